import PyProof.Rows.All
import Wide.All
import OpenK.AllK
import Wide.FinOn
import HandS.Iter
import PyProof.LongRange
import HandS.ForMost
import KE.GoesEnum
import PySem.Challenge.RW_ringstairs_k59_whole_cores_by_hooks_and
import HandS.ForExc
import HandS.Wide
import HandS.SortInts
import HandS.Zip
import HandS.Style
import HandS.Rev
import HandS.TupMul
import HandS.IsInst
import HandS.Evl
import HandS.Gcd
import HandS.RevRange
import HandS.Small
import HandS.Conv
import HandS.TupAny
import HandS.DictComp
import HandS.Walk
set_option Elab.async false
set_option linter.all false
set_option maxRecDepth 100000
set_option maxHeartbeats 4000000
/-! own rule: range(i, j) with ends of any size, walked -/
namespace LR
open PySem PySem.Spec PyProof.Rows L2
theorem turn_long {P : Program} {w : World} {K : PySem.W.Frag} {tg : Expr} (it : Addr) (lo : Int) (n : Nat) : Turn P w K tg (Itr lo n) [it] it (fun i h => IsLongIter h it (lo + (i : Nat) * 1) ((n : Int) - (i : Nat)) 1) where
  mem := by simp
  obj := fun i h st b hb => by
    have e : b = it := by simpa using hb
    subst e
    exact ⟨_, st, fun v z => nomatch z⟩
  keep := fun i h h' st k => k it (by simp) _ st
  item := by
    intro X hP hw hK hc i pins s σ H E I hf st hg
    subst hP hw hK
    obtain ⟨f0, f1, f2, f3, f4, f5⟩ := hf it (by simp)
    have W := Walks.longrange (prog := X.prog) (w := X.w) (I.ok.hd hc) it lo 1 n
    refine W.item i s _ _ hg st fun v h' tk hv st' kk => ?_
    obtain ⟨t, rfl⟩ := hv
    have I1 : Inv X pins σ H { s with heap := h', toks := tk } := I.turned (fun b o hb e => kk b o (by simpa using hb) e) f0 f1 f3 f4 f5
    exact ⟨_, rfl, go_of (s := { s with heap := h', toks := tk }) (n := "longrange_iterator") st' rfl rfl (by decide) ⟨.int (lo + (i : Nat) * 1), H, I1, ⟨t, rfl⟩, ⟨rfl, by simp⟩, st', fun b hb => (hf b hb).1⟩⟩
  done := by
    intro X hP hw hK hc i pins s σ H E I hf st hg
    subst hP hw hK
    obtain ⟨f0, f1, f2, f3, f4, f5⟩ := hf it (by simp)
    exact wpAny_pyNext_long_end (I.ok.hd hc) st (by have : n ≤ i := hg; omega) fun h' eb => ⟨rfl, I.turned (t' := s.toks) (fun b o hb e => eb b o hb e) f0 f1 f3 f4 f5⟩
  self := fun A i s Q E st h => wpAny_pyIter_longiter st h
theorem range_itL {X : Cx} {tg : Expr} {pins : List (Addr × Obj)} {σ : L2.St} {H : Hp} {s : Shared} {R : It → Hp → Prop} {E : Value → Shared → Prop} {lo hi : Int} {t u v : Tok} {tk : Nat} (I : Inv X pins σ H s) (hb : Builtin.Range.small lo hi 1 = false)
    (q : R (Itr lo (hi - lo).toNat) H) : wpAny (model X.prog X.w) X.A (pyIter (.ref s.heap.objs.size)) (PIE X pins σ tg R) E { s with heap := s.heap.push { cls := .type "range", data := .fields #[.int lo t, .int hi u, .int 1 v] }, toks := tk } := by
  refine wpAny_pyIter_longrange (IsRange.new ..) hb ?_
  have I1 : Inv X pins σ H { s with heap := s.heap.push { cls := .type "range", data := .fields #[.int lo t, .int hi u, .int 1 v] }, toks := tk } := I.kept fun b o e => Heap.get?_push_of_some _ e
  refine ⟨(s.heap.push { cls := .type "range", data := .fields #[.int lo t, .int hi u, .int 1 v] }).objs.size, [(s.heap.push { cls := .type "range", data := .fields #[.int lo t, .int hi u, .int 1 v] }).objs.size], _, _, H, rfl,
    I1.kept (t' := tk) fun b o e => Heap.get?_push_of_some _ e, turn_long _ lo (hi - lo).toNat, ?_, fun b hb => ?_, q⟩
  · have e1 : lo + ((0 : Nat) : Int) * 1 = lo := by simp
    have e2 : (((hi - lo).toNat : Nat) : Int) - ((0 : Nat) : Int) = Builtin.Range.rangeSize lo hi 1 := by rw [rangeSize_one]; split <;> omega
    show IsLongIter _ _ (lo + ((0 : Nat) : Int) * 1) ((((hi - lo).toNat : Nat) : Int) - ((0 : Nat) : Int)) 1
    rw [e1, e2]
    exact Heap.get?_push_size _ rfl
  · have e : b = (s.heap.push { cls := .type "range", data := .fields #[.int lo t, .int hi u, .int 1 v] }).objs.size := by simpa using hb
    subst e
    exact I1.fpOk (Nat.le_refl _) (I1.hok.fresh (Nat.le_refl _))
/-- small or not -/
theorem range_itS {X : Cx} {tg : Expr} {pins : List (Addr × Obj)} {σ : L2.St} {H : Hp} {s : Shared} {R : It → Hp → Prop} {E : Value → Shared → Prop} {lo hi : Int} {t u v : Tok} {tk : Nat} (I : Inv X pins σ H s) (hb : Builtin.Range.small lo hi 1 = true)
    (q : R (Itr lo (hi - lo).toNat) H) : wpAny (model X.prog X.w) X.A (pyIter (.ref s.heap.objs.size)) (PIE X pins σ tg R) E { s with heap := s.heap.push { cls := .type "range", data := .fields #[.int lo t, .int hi u, .int 1 v] }, toks := tk } := by
  refine wpAny_pyIter_range (IsRange.new ..) hb ?_
  have I1 : Inv X pins σ H { s with heap := s.heap.push { cls := .type "range", data := .fields #[.int lo t, .int hi u, .int 1 v] }, toks := tk } := I.kept fun b o e => Heap.get?_push_of_some _ e
  refine ⟨(s.heap.push { cls := .type "range", data := .fields #[.int lo t, .int hi u, .int 1 v] }).objs.size, [(s.heap.push { cls := .type "range", data := .fields #[.int lo t, .int hi u, .int 1 v] }).objs.size], _, _, H, rfl,
    I1.kept (t' := tk) fun b o e => Heap.get?_push_of_some _ e, turn_range _ lo (hi - lo).toNat, ?_, fun b hb => ?_, q⟩
  · have e1 : lo + ((0 : Nat) : Int) * 1 = lo := by simp
    have e2 : (((hi - lo).toNat : Nat) : Int) - ((0 : Nat) : Int) = Builtin.Range.rangeSize lo hi 1 := by rw [rangeSize_one]; split <;> omega
    show IsRangeIter _ _ (lo + ((0 : Nat) : Int) * 1) ((((hi - lo).toNat : Nat) : Int) - ((0 : Nat) : Int)) 1
    rw [e1, e2]
    exact Heap.get?_push_size _ rfl
  · have e : b = (s.heap.push { cls := .type "range", data := .fields #[.int lo t, .int hi u, .int 1 v] }).objs.size := by simpa using hb
    subst e
    exact I1.fpOk (Nat.le_refl _) (I1.hok.fresh (Nat.le_refl _))
def iRng2L (ta : TA) : TI := fun σ H R => ta σ H fun vs H1 => ∃ i j : Int, vs = [.int i, .int j] ∧ R (Itr i (j - i).toNat) H1
theorem pi_range2L {X : Cx} {tg : Expr} {a b : Expr} {ta : TA} {p pos : Pos} (hg : Gl X "range") (hm : X.mg "range" = none) (ha : PA X [a, b] ta) (hs : starEach [a, b] X.env = [(false, eval a X.env), (false, eval b X.env)] := by rfl) (hs2 : starEach [b] X.env = [(false, eval b X.env)] := by rfl) :
    PI X tg (.Call (.Name "range" p) [a, b] [] pos) (iRng2L ta) := by
  refine ⟨fun pins s σ H R I h => ?_⟩
  refine Call_ (ld_blt I hg hm boot_range (PyProof.Rows.callWith_type1 (thn (ha.run pos pins s σ H _ I h) fun us s1 ⟨vs, H1, I1, r1, q1⟩ => ?_) (by rw [hs, hs2]) (by rw [hs2]; rfl)))
  obtain ⟨i, j, e, q⟩ := q1
  subst e
  cases r1 with
  | cons r rr =>
    cases rr with
    | cons r' rr =>
      cases rr
      obtain ⟨t, rfl⟩ := r
      obtain ⟨t', rfl⟩ := r'
      cases hb : Builtin.Range.small i j 1 with
      | true => exact call_range_2 (range_itS I1 hb q)
      | false => exact call_range_2 (range_itL I1 hb q)
end LR

/-! plain mathematics for the orders and the diagonals -/
namespace K1M
/-- the step: the i-th place on the way from the right door by the left door -/
theorem dvd_iff {n s i : Nat} (hn : 0 < n) : (i * s) % n = 0 ↔ (n / Nat.gcd n s) ∣ i := by
  have hg : 0 < Nat.gcd n s := Nat.gcd_pos_of_pos_left _ hn
  have hc : Nat.Coprime (n / Nat.gcd n s) (s / Nat.gcd n s) := Nat.coprime_div_gcd_div_gcd hg
  have hn' : n = Nat.gcd n s * (n / Nat.gcd n s) := (Nat.mul_div_cancel' (Nat.gcd_dvd_left n s)).symm
  have hs' : s = Nat.gcd n s * (s / Nat.gcd n s) := (Nat.mul_div_cancel' (Nat.gcd_dvd_right n s)).symm
  constructor
  · intro h
    have d : n ∣ i * s := Nat.dvd_of_mod_eq_zero h
    have d2 : Nat.gcd n s * (n / Nat.gcd n s) ∣ Nat.gcd n s * (i * (s / Nat.gcd n s)) := by
      rw [← hn']
      have e : Nat.gcd n s * (i * (s / Nat.gcd n s)) = i * s := by
        rw [Nat.mul_left_comm, ← hs']
      rw [e]
      exact d
    have d3 := Nat.dvd_of_mul_dvd_mul_left hg d2
    exact hc.dvd_of_dvd_mul_right d3
  · rintro ⟨c, rfl⟩
    apply Nat.mod_eq_zero_of_dvd
    refine ⟨c * (s / Nat.gcd n s), ?_⟩
    have e : n / Nat.gcd n s * c * s = n / Nat.gcd n s * c * (Nat.gcd n s * (s / Nat.gcd n s)) := by rw [← hs']
    rw [e]
    have e2 : n * (c * (s / Nat.gcd n s)) = Nat.gcd n s * (n / Nat.gcd n s) * (c * (s / Nat.gcd n s)) := by rw [← hn']
    rw [e2]
    simp only [Nat.mul_assoc, Nat.mul_left_comm, Nat.mul_comm]
def ord (n s : Nat) : Nat := n / Nat.gcd n s
theorem ord_pos {n s : Nat} (hn : 0 < n) : 0 < ord n s := Nat.div_pos (Nat.gcd_le_left s hn) (Nat.gcd_pos_of_pos_left _ hn)
theorem ord_le {n s : Nat} : ord n s ≤ n := Nat.div_le_self _ _
theorem ord_ge2 {n s : Nat} (h1 : 1 ≤ s) (h2 : s < n) : 2 ≤ ord n s := by
  have hn : 0 < n := by omega
  have hg : 0 < Nat.gcd n s := Nat.gcd_pos_of_pos_left _ hn
  have hle : Nat.gcd n s ≤ s := Nat.le_of_dvd h1 (Nat.gcd_dvd_right n s)
  have hn' : n = Nat.gcd n s * ord n s := (Nat.mul_div_cancel' (Nat.gcd_dvd_left n s)).symm
  rcases Nat.lt_or_ge (ord n s) 2 with h | h
  · exfalso
    have hp := ord_pos (s := s) hn
    have e1 : ord n s = 1 := by omega
    rw [e1, Nat.mul_one] at hn'
    omega
  · exact h
/-- the way: while the next is not 0 and there are fewer than n -/
def stp (n s i : Nat) : Nat := (i * s) % n
theorem stp_zero_iff {n s i : Nat} (hn : 0 < n) : stp n s i = 0 ↔ ord n s ∣ i := dvd_iff hn
theorem stp_mod {n s i : Nat} (hn : 0 < n) : stp n s (i % ord n s) = stp n s i := by
  have h0 : (ord n s * s) % n = 0 := (stp_zero_iff (i := ord n s) hn).mpr (Nat.dvd_refl _)
  have e : i = ord n s * (i / ord n s) + i % ord n s := (Nat.div_add_mod i (ord n s)).symm
  have e2 : i * s = (i / ord n s) * (ord n s * s) + (i % ord n s) * s := by
    have : (ord n s * (i / ord n s) + i % ord n s) * s = (i / ord n s) * (ord n s * s) + (i % ord n s) * s := by
      rw [Nat.add_mul]
      congr 1
      simp only [Nat.mul_assoc, Nat.mul_left_comm, Nat.mul_comm]
    rw [← this, ← e]
  obtain ⟨q, hq⟩ := Nat.dvd_of_mod_eq_zero h0
  unfold stp
  rw [e2, hq, Nat.mul_left_comm, Nat.add_comm, Nat.add_mul_mod_self_left]
/-- the same for integers: the diagonal's place -/
theorem istp {n s : Nat} (hn : 0 < n) (c : Int) : (c * (s : Int)) % (n : Int) = ((stp n s (c % (ord n s : Int)).toNat : Nat) : Int) := by
  have hm : 0 < ord n s := ord_pos hn
  have hm' : (0 : Int) < (ord n s : Int) := by exact_mod_cast hm
  have hr0 : 0 ≤ c % (ord n s : Int) := Int.emod_nonneg _ (by omega)
  have h0 : ((ord n s : Int) * (s : Int)) % (n : Int) = 0 := by
    have h0 : (ord n s * s) % n = 0 := (stp_zero_iff (i := ord n s) hn).mpr (Nat.dvd_refl _)
    have := congrArg (fun x : Nat => (x : Int)) h0
    simpa using this
  have e : c = (ord n s : Int) * (c / (ord n s : Int)) + c % (ord n s : Int) := (Int.mul_ediv_add_emod c (ord n s : Int)).symm
  have e2 : c * (s : Int) = (c / (ord n s : Int)) * ((ord n s : Int) * (s : Int)) + (c % (ord n s : Int)) * (s : Int) := by
    have : ((ord n s : Int) * (c / (ord n s : Int)) + c % (ord n s : Int)) * (s : Int) = (c / (ord n s : Int)) * ((ord n s : Int) * (s : Int)) + (c % (ord n s : Int)) * (s : Int) := by
      rw [Int.add_mul]
      congr 1
      rw [Int.mul_assoc, Int.mul_left_comm]
    rw [← this, ← e]
  rw [e2, Int.add_emod, Int.mul_emod, h0, Int.mul_zero, Int.zero_emod, Int.zero_add, Int.emod_emod]
  unfold stp
  have e3 : c % (ord n s : Int) = (((c % (ord n s : Int)).toNat : Nat) : Int) := (Int.toNat_of_nonneg hr0).symm
  conv => lhs; rw [e3]
  simp
/-- does_let tells just the place -/
theorem lets_iff {n : Nat} {x p : Int} (hn : 0 < n) (h0 : 0 ≤ p) (h1 : p < n) : (x - p) % (n : Int) = 0 ↔ x % (n : Int) = p := by
  have hn' : (0 : Int) < n := by exact_mod_cast hn
  constructor
  · intro h
    have e := Int.emod_emod_of_dvd x (Int.dvd_refl (n : Int))
    have h2 : x = (n : Int) * ((x - p) / n) + p := by
      have := Int.mul_ediv_add_emod (x - p) n
      omega
    rw [h2, Int.add_comm, Int.add_mul_emod_self_left]
    exact Int.emod_eq_of_lt h0 h1
  · intro h
    have h2 := Int.mul_ediv_add_emod x n
    have h3 : x - p = (n : Int) * (x / n) := by omega
    rw [h3, Int.mul_emod_right]
/-- the stop of the loop is the order -/
theorem stop_is {n s k : Nat} (hn : 0 < n) (hk : 1 ≤ k) (hkn : k ≤ n) (hlow : ∀ i, 0 < i → i < k → stp n s i ≠ 0) (hstop : stp n s k = 0 ∨ k = n) : k = ord n s := by
  have hm := ord_pos (s := s) hn
  have hmn : ord n s ≤ n := ord_le
  have h1 : k ≤ ord n s := by
    rcases Nat.lt_or_ge (ord n s) k with h | h
    · exact absurd ((stp_zero_iff hn).mpr (Nat.dvd_refl _)) (hlow _ hm h)
    · exact h
  rcases hstop with h | h
  · have d := (stp_zero_iff hn).mp h
    have := Nat.le_of_dvd hk d
    omega
  · omega
end K1M

/-! plain mathematics for the written names -/
namespace K1N
def nAt (rs : List (Int × Int)) (j : Nat) : Nat := (rs.getD j (0, 0)).1.toNat
def sAt (rs : List (Int × Int)) (j : Nat) : Int := (rs.getD j (0, 0)).2
def row (j n : Nat) : List (Int × Int) := (List.range n).map fun (q : Nat) => ((j : Int), (q : Int))
def pre (rs : List (Int × Int)) : Nat → List (Int × Int)
  | 0 => []
  | i + 1 => pre rs i ++ row i (nAt rs i)
/-- a place that is its own written name -/
def own (rs : List (Int × Int)) (p : Int × Int) : Bool := !(decide (0 < p.1) && decide (p.2 = sAt rs p.1.toNat))
def names (rs : List (Int × Int)) : List (Int × Int) := (pre rs rs.length).filter (own rs)
def sumTo (rs : List (Int × Int)) : Nat → Nat
  | 0 => 0
  | i + 1 => sumTo rs i + nAt rs i
theorem row_succ (j n : Nat) : row j (n + 1) = row j n ++ [((j : Int), (n : Int))] := by
  unfold row
  rw [List.range_succ, List.map_append]
  rfl
theorem row_len (j n : Nat) : (row j n).length = n := by
  unfold row
  rw [List.length_map, List.length_range]
theorem pre_len {rs : List (Int × Int)} (h : ∀ j, nAt rs j ≤ 60) : ∀ i, (pre rs i).length ≤ 60 * i
  | 0 => Nat.le_refl _
  | i + 1 => by
    show (pre rs i ++ row i (nAt rs i)).length ≤ 60 * (i + 1)
    rw [List.length_append, row_len]
    have := pre_len h i
    have := h i
    omega
theorem row0 (rs : List (Int × Int)) : ∀ n, ((row 0 n).filter (own rs)).length = n
  | 0 => rfl
  | n + 1 => by
    rw [row_succ, List.filter_append, List.length_append, row0 rs n]
    have : own rs (((0 : Nat) : Int), (n : Int)) = true := rfl
    rw [List.filter_cons, if_pos this]
    rfl
theorem rowS (rs : List (Int × Int)) (j : Nat) (s : Nat) (hs : sAt rs (j + 1) = (s : Int)) : ∀ n, ((row (j + 1) n).filter (own rs)).length = if s < n then n - 1 else n
  | 0 => rfl
  | n + 1 => by
    rw [row_succ, List.filter_append, List.length_append, rowS rs j s hs n]
    by_cases c : n = s
    · have e : own rs (((j + 1 : Nat) : Int), (n : Int)) = false := by
        unfold own
        rw [show (((j + 1 : Nat) : Int)).toNat = j + 1 by omega, hs, decide_eq_true (show (0 : Int) < ((j + 1 : Nat) : Int) by omega), decide_eq_true (show (n : Int) = (s : Int) by omega)]
        rfl
      have e2 : [(((j + 1 : Nat) : Int), (n : Int))].filter (own rs) = [] := by
        rw [List.filter_cons, if_neg (show ¬ own rs (((j + 1 : Nat) : Int), (n : Int)) = true by rw [e]; decide)]
        rfl
      rw [e2, if_neg (show ¬ s < n by omega), if_pos (show s < n + 1 by omega)]
      show n + 0 = n + 1 - 1
      omega
    · have e : own rs (((j + 1 : Nat) : Int), (n : Int)) = true := by
        unfold own
        rw [show (((j + 1 : Nat) : Int)).toNat = j + 1 by omega, hs, decide_eq_false (show ¬ (n : Int) = (s : Int) by omega), Bool.and_false]
        rfl
      rw [List.filter_cons, if_pos e]
      show (if s < n then n - 1 else n) + 1 = _
      by_cases c2 : s < n
      · rw [if_pos c2, if_pos (by omega)]
        omega
      · rw [if_neg c2, if_neg (by omega)]
/-- how many written names -/
theorem count_to {rs : List (Int × Int)} (h : ∀ j, j < rs.length → 1 ≤ sAt rs j ∧ sAt rs j < (nAt rs j : Int)) : ∀ i, 1 ≤ i → i ≤ rs.length → ((pre rs i).filter (own rs)).length + i = sumTo rs i + 1
  | 0, z, _ => absurd z (by decide)
  | 1, _, h1 => by
    show (([] ++ row 0 (nAt rs 0)).filter (own rs)).length + 1 = 0 + nAt rs 0 + 1
    rw [List.nil_append, row0]
    omega
  | i + 2, _, h1 => by
    have ih := count_to h (i + 1) (by omega) (by omega)
    have hs := h (i + 1) (by omega)
    have hr := rowS rs i (sAt rs (i + 1)).toNat (by omega) (nAt rs (i + 1))
    rw [if_pos (by omega)] at hr
    show ((pre rs (i + 1) ++ row (i + 1) (nAt rs (i + 1))).filter (own rs)).length + (i + 2) = sumTo rs (i + 1) + nAt rs (i + 1) + 1
    rw [List.filter_append, List.length_append, hr]
    omega
theorem nAt_left {a b : List (Int × Int)} {j : Nat} (h : j < a.length) : nAt (a ++ b) j = nAt a j := by
  unfold nAt
  rw [List.getD_eq_getElem?_getD, List.getD_eq_getElem?_getD, List.getElem?_append_left h]
theorem nAt_right {a b : List (Int × Int)} {j : Nat} : nAt (a ++ b) (a.length + j) = nAt b j := by
  unfold nAt
  rw [List.getD_eq_getElem?_getD, List.getD_eq_getElem?_getD, List.getElem?_append_right (by omega), Nat.add_sub_cancel_left]
theorem sum_left {a b : List (Int × Int)} : ∀ i, i ≤ a.length → sumTo (a ++ b) i = sumTo a i
  | 0, _ => rfl
  | i + 1, h => by
    show sumTo (a ++ b) i + nAt (a ++ b) i = sumTo a i + nAt a i
    rw [sum_left i (by omega), nAt_left (by omega)]
theorem sum_right {a b : List (Int × Int)} : ∀ i, sumTo (a ++ b) (a.length + i) = sumTo a a.length + sumTo b i
  | 0 => by
    rw [Nat.add_zero, sum_left _ (Nat.le_refl _)]
    rfl
  | i + 1 => by
    show sumTo (a ++ b) (a.length + i) + nAt (a ++ b) (a.length + i) = sumTo a a.length + (sumTo b i + nAt b i)
    rw [sum_right i, nAt_right, Nat.add_assoc]
theorem names_joined {a b : List (Int × Int)} (ha : 1 ≤ a.length) (hb : 1 ≤ b.length) (h1 : ∀ j, j < a.length → 1 ≤ sAt a j ∧ sAt a j < (nAt a j : Int)) (h2 : ∀ j, j < b.length → 1 ≤ sAt b j ∧ sAt b j < (nAt b j : Int))
    (h3 : ∀ j, j < (a ++ b).length → 1 ≤ sAt (a ++ b) j ∧ sAt (a ++ b) j < (nAt (a ++ b) j : Int)) : (names (a ++ b)).length + 1 = (names a).length + (names b).length := by
  unfold names
  have e1 := count_to h1 a.length ha (Nat.le_refl _)
  have e2 := count_to h2 b.length hb (Nat.le_refl _)
  have e3 := count_to h3 (a ++ b).length (by rw [List.length_append]; omega) (Nat.le_refl _)
  have e4 := sum_right (a := a) (b := b) b.length
  rw [List.length_append] at e3 ⊢
  omega
end K1N

/-! enumerate over a tuple, one argument -/
namespace EnT
open PySem PySem.Spec PyProof.Rows L2
theorem made {v : Value} {o : Obj} {Hy : Heap → Prop} (B : Begins v o Hy) : Meets (Builtin.«enumerate.__new__» ⟨[.type "enumerate", v], []⟩) (fun _ R s => Hy s.heap ∧
      R (.ok (.ret (.ref (s.heap.push o).objs.size))) { s with heap := (s.heap.push o).push { cls := .type "enumerate", data := .fields #[.none, .bool false, .ref s.heap.objs.size, rawInt 0, .none, .none] } }) :=
  .of_wp fun prog w A R s z => by
    obtain ⟨hp, gs, dr, tk, os⟩ := s
    obtain ⟨z1, z2⟩ := z
    have sb := sub_enumerate
    have it1 : ∀ {A2 : Around} {E2 : Value → Shared → Prop} {Q2 : Value → Shared → Prop}, Q2 (.ref hp.objs.size) ⟨hp.push o, gs, dr, tk, os⟩ → wpAny (model prog w) A2 (pyIter v) Q2 E2 ⟨hp, gs, dr, tk, os⟩ :=
      fun y => B.iter prog w _ _ ⟨hp, gs, dr, tk, os⟩ _ z1 y
    wp_walk using it1
    refine wpAny_stack_any fun _ => wpAny_pure ?_
    split
    · rename_i c _ _ _ _ _
      cases (c == Value.type "enumerate")
      · wp_walk using it1
        exact ⟨_, rfl, z2⟩
      · wp_walk using it1
        exact ⟨_, rfl, z2⟩
    · wp_walk using it1
      exact ⟨_, rfl, z2⟩
section
variable {prog : Program} {w : World} {A : Around} {E : Value → Shared → Prop} {s : Shared}
theorem call_made {v : Value} {o : Obj} {Hy : Heap → Prop} {Q : Value → Shared → Prop} (B : Begins v o Hy) (h1 : Hy s.heap)
    (k : ∀ h2, IsEnum h2 (s.heap.objs.size + 1) s.heap.objs.size 0 .none → h2.get? s.heap.objs.size = some o → (∀ b u, s.heap.get? b = some u → h2.get? b = some u) → Q (.ref (s.heap.objs.size + 1)) { s with heap := h2 }) :
    wpAny (model prog w) A (call (.type "enumerate") [v]) Q E s := by
  refine callType_new F.called_enumerate (by decide) (F.typeCall_enumerate_1 _) (F.newCall_enumerate_1 _) (fun obj => F.args_object_init_2 obj _) F.entry_enumerate_new (made B) ⟨h1, ?_⟩
  have sz : (s.heap.push o).objs.size = s.heap.objs.size + 1 := by rw [Heap.size_push]
  show _ ∧ _
  rw [sz]
  have en := Heap.get?_push_size (s.heap.push o) (o := { cls := .type "enumerate", data := .fields #[.none, .bool false, .ref s.heap.objs.size, rawInt 0, .none, .none] }) rfl
  rw [sz] at en
  exact ⟨⟨_, en, rfl⟩, k _ en (Heap.get?_push_of_some _ (Heap.get?_push_size _ B.free)) fun b u y => Heap.get?_push_of_some _ (Heap.get?_push_of_some _ y)⟩
end
/-- the tuple at a, each item in a new pair with its number -/
def IteT (K : PySem.W.Frag) (a : Addr) : It :=
  ⟨fun i H => ∃ (ts : List V) (x : V), SqT K H a ts ∧ ts[i]? = some x, fun i H v H' => ∃ T x, v = .ref T ∧ H T = none ∧ H' = upd H T (.tup [.int (i : Nat), x]) ∧ ∀ ts, SqT K H a ts → ts[i]? = some x, fun i H => ∃ ts : List V, SqT K H a ts ∧ ts.length = i⟩
theorem tup_inj {X : Cx} {pins : List (Addr × Obj)} {σ : L2.St} {H : Hp} {s : Shared} {a : Addr} {xs ys : List V} (I : Inv X pins σ H s) (h1 : SqT X.K H a xs) (h2 : SqT X.K H a ys) : xs = ys := by
  obtain ⟨i1, r1, ⟨o1, g1, c1, n1, d1⟩, _⟩ := I.tuple h1
  obtain ⟨i2, r2, ⟨o2, g2, c2, n2, d2⟩, _⟩ := I.tuple h2
  rw [g1] at g2
  have e := Option.some.inj g2
  subst e
  rw [d1] at d2
  injection d2 with e1 _
  have e3 : i1 = i2 := by simpa using e1
  subst e3
  exact Vals.inj r1 r2
theorem turn {P : Program} {w : World} {K : PySem.W.Frag} {elts : List Expr} {kk : Nat} {tpos : Pos} (a e it : Addr) :
    Turn P w K (.Tuple elts kk tpos) (IteT K a) [e, it] e (fun i h => (∃ old, IsEnum h e it ((i : Nat) : Int) old) ∧ h.IsTupleIter it a i ∧ e ≠ it ∧ a ≠ e ∧ a ≠ it) where
  mem := by simp
  obj := fun i h st b hb => by
    obtain ⟨⟨old, he⟩, ⟨o, ho, hc, hd⟩, _⟩ := st
    rcases (show b = e ∨ b = it by simpa using hb) with z | z
    · rw [z]
      exact ⟨_, he, fun v q => nomatch q⟩
    · rw [z]
      exact ⟨o, ho, fun v q => by rw [hd] at q; cases q⟩
  keep := fun i h h' st k => by
    obtain ⟨⟨old, he⟩, ⟨o, ho, hc, hd⟩, n1, n2, n3⟩ := st
    exact ⟨⟨old, k e (by simp) _ he⟩, ⟨o, k it (by simp) _ ho, hc, hd⟩, n1, n2, n3⟩
  item := by
    intro X hP hw hK hc i pins s σ H E I hf st hg
    subst hP hw hK
    obtain ⟨⟨old, he⟩, hit, n1, n2, n3⟩ := st
    obtain ⟨xs, x, hq, hx⟩ := hg
    obtain ⟨its, rv, p, _⟩ := I.tuple hq
    obtain ⟨u, hu, ru⟩ := rv.get hx
    have hel : e < s.heap.objs.size := Heap.lt_size he
    have hil : it < s.heap.objs.size := by
      obtain ⟨_, q, _⟩ := hit
      exact Heap.lt_size q
    have hlt : i < its.toArray.size := by
      have := (List.getElem?_eq_some_iff.mp hu).1
      simpa using this
    have hh : X.A.in1.handled = none := I.ok.hd hc
    have DT := Draws.tuple (prog := X.prog) (w := X.w) hh it a n3 its.toArray
    refine wpAny_pyNext_enum_itemD DT he ⟨hit, p⟩ hlt n1 (by simp [n1, Ne.symm n2]) fun y h1 tk hy ho hst hT hsz hk => ?_
    have ey : y = u := by
      have q : its.toArray[i]? = some u := by simpa using hu
      exact Option.some.inj (hy.symm.trans q)
    subst ey
    refine ⟨_, rfl, wpAny_letOwnedTupleGo_enum (s := { s with heap := h1, toks := tk + 1 }) ho fun h2 he2 sb => ?_⟩
    have hT2 : h2.get? s.heap.objs.size = some { cls := .type "tuple", data := .seq #[.int i tk, y] } := (sb.2 _ (Nat.ne_of_gt hel)).trans hT
    have new : ObjOk X.prog X.w (upd H s.heap.objs.size (.tup [.int (i : Nat), x])) h2 s.heap.objs.size (.tup [.int (i : Nat), x]) :=
      ⟨show 2 ≤ sizeLine by decide, [.int i tk, y], .cons ⟨_, rfl⟩ (.cons ru .nil), ⟨_, hT2, rfl, _, rfl⟩⟩
    have I1 : Inv X pins σ (upd H s.heap.objs.size (.tup [.int (i : Nat), x])) { s with heap := h2, toks := tk + 1 } :=
      I.turnedNew (ch := [e, it]) (fun b ob hb q => (sb.2 b (fun z => hb (by simp [z]))).trans (hk b ob (fun z => hb (by simp [z])) (fun z => hb (by simp [z])) q)) hf (Nat.le_refl _) new
    obtain ⟨oi, g1, g2, g3⟩ := hst.1
    refine ⟨.ref s.heap.objs.size, _, I1, rfl, ⟨_, x, rfl, I.hok.fresh (Nat.le_refl _), rfl, fun ys hys => by rw [tup_inj I hys hq]; exact hx⟩, ⟨⟨y, ?_⟩, ⟨oi, (sb.2 it (Ne.symm n1)).trans g1, g2, g3⟩, n1, n2, n3⟩, fun b hb => ?_⟩
    · rw [show ((i + 1 : Nat) : Int) = (i : Int) + 1 by omega]
      exact he2
    · have hb2 : b < s.heap.objs.size := by
        rcases (show b = e ∨ b = it by simpa using hb) with z | z
        · rw [z]
          exact hel
        · rw [z]
          exact hil
      rw [upd_ne (Nat.ne_of_lt hb2)]
      exact (hf b hb).1
  done := by
    intro X hP hw hK hc i pins s σ H E I hf st hg
    subst hP hw hK
    obtain ⟨⟨old, he⟩, hit, n1, n2, n3⟩ := st
    obtain ⟨xs, hq, hx⟩ := hg
    obtain ⟨its, rv, p, _⟩ := I.tuple hq
    obtain ⟨f0, f1, f2, f3, f4, f5⟩ := hf it (by simp)
    have hl := rv.length
    have hn : its.toArray.size = i := by
      rw [List.size_toArray]
      omega
    have hh : X.A.in1.handled = none := I.ok.hd hc
    have DT := Draws.tuple (prog := X.prog) (w := X.w) hh it a n3 its.toArray
    refine wpAny_pyNext_enum_endD DT he ⟨?_, p⟩ fun h1 eb => ⟨rfl, I.turned (t' := s.toks) (fun b o hb q => eb b o hb q) f0 f1 f3 f4 f5⟩
    rw [hn]
    exact hit
  self := fun A i s Q E st h => by
    obtain ⟨⟨_, he⟩, _⟩ := st
    exact wpAny_pyIter_enum he h
def iEnumT (K : PySem.W.Frag) (ta : TA) : TI := fun σ H R => ta σ H fun vs H1 => ∃ a xs, vs = [.ref a] ∧ SqT K H1 a xs ∧ R (IteT K a) H1
theorem pi_enumT {X : Cx} {e : Expr} {ta : TA} {p pos tpos : Pos} {elts : List Expr} {kk : Nat} (hg : Gl X "enumerate") (hm : X.mg "enumerate" = none) (ha : PA X [e] ta) (hs : starEach [e] X.env = [(false, eval e X.env)] := by rfl) :
    PI X (.Tuple elts kk tpos) (.Call (.Name "enumerate" p) [e] [] pos) (iEnumT X.K ta) := by
  refine ⟨fun pins s σ H R I h => ?_⟩
  refine Call_ (ld_blt I hg hm boot_enumerate (PyProof.Rows.callWith_type1 (thn (ha.run pos pins s σ H _ I h) fun us s1 ⟨vs, H1, I1, r1, y1⟩ => ?_) hs rfl))
  obtain ⟨a, xs, ex, hq, q⟩ := y1
  subst ex
  cases r1 with
  | cons r rr =>
    cases rr
    cases r
    obtain ⟨its, rv, p2, _⟩ := I1.tuple hq
    have hal : a < s1.heap.objs.size := by
      obtain ⟨o, g, _⟩ := p2
      exact Heap.lt_size g
    refine call_made (begins_tuple a its.toArray) p2 fun h2 he hit hk => wpAny_pyIter_enum he ?_
    have I2 : Inv X pins σ H1 { s1 with heap := h2 } := I1.kept (t' := s1.toks) hk
    refine ⟨s1.heap.objs.size + 1, [s1.heap.objs.size + 1, s1.heap.objs.size], _, _, H1, rfl, I2, turn a (s1.heap.objs.size + 1) s1.heap.objs.size, ⟨⟨.none, he⟩, ⟨_, hit, rfl, rfl⟩, Nat.succ_ne_self _, Nat.ne_of_lt (Nat.lt_succ_of_lt hal), Nat.ne_of_lt hal⟩, fun b hb => ?_, q⟩
    have hle : s1.heap.objs.size ≤ b := by
      rcases (show b = s1.heap.objs.size + 1 ∨ b = s1.heap.objs.size by simpa using hb) with z | z
      · rw [z]
        exact Nat.le_add_right _ _
      · rw [z]
        exact Nat.le_refl _
    exact I1.fpOk hle (I1.hok.fresh hle)
end EnT

namespace K1
open PySem PySem.Spec PyProof.Rows L2 Evl
def topS (i : Nat) : Stmt := PySem.Challenge.pw_ringstairs_k59_whole_cores_by_hooks_and.main.body.getD i (.Pass ⟨0, 0, 0, 0⟩)
abbrev sIsInteger : Stmt := topS 7
abbrev nIsInteger : List Str := ["value"]
theorem scIsInteger : FnScope nIsInteger ["value"] (defScope sIsInteger) := ⟨rfl, rfl, rfl, by decide +kernel, rfl, by decide +kernel, by decide +kernel⟩
abbrev sIsBetween : Stmt := topS 8
abbrev nIsBetween : List Str := ["value", "low", "high"]
theorem scIsBetween : FnScope nIsBetween ["value", "low", "high"] (defScope sIsBetween) := ⟨rfl, rfl, rfl, by decide +kernel, rfl, by decide +kernel, by decide +kernel⟩
abbrev sIsPair : Stmt := topS 9
abbrev nIsPair : List Str := ["value"]
theorem scIsPair : FnScope nIsPair ["value"] (defScope sIsPair) := ⟨rfl, rfl, rfl, by decide +kernel, rfl, by decide +kernel, by decide +kernel⟩
abbrev sCheckBetween : Stmt := topS 10
abbrev nCheckBetween : List Str := ["value", "low", "high"]
theorem scCheckBetween : FnScope nCheckBetween ["value", "low", "high"] (defScope sCheckBetween) := ⟨rfl, rfl, rfl, by decide +kernel, rfl, by decide +kernel, by decide +kernel⟩
abbrev sIsHeap : Stmt := topS 13
abbrev nIsHeap : List Str := ["value", "ahead", "height"]
theorem scIsHeap : FnScope nIsHeap ["value"] (defScope sIsHeap) := ⟨rfl, rfl, rfl, by decide +kernel, rfl, by decide +kernel, by decide +kernel⟩
abbrev sCheckHeap : Stmt := topS 14
abbrev nCheckHeap : List Str := ["heap"]
theorem scCheckHeap : FnScope nCheckHeap ["heap"] (defScope sCheckHeap) := ⟨rfl, rfl, rfl, by decide +kernel, rfl, by decide +kernel, by decide +kernel⟩
abbrev sHeightAt : Stmt := topS 15
abbrev nHeightAt : List Str := ["heap", "column"]
theorem scHeightAt : FnScope nHeightAt ["heap", "column"] (defScope sHeightAt) := ⟨rfl, rfl, rfl, by decide +kernel, rfl, by decide +kernel, by decide +kernel⟩
abbrev sSquares : Stmt := topS 16
abbrev nSquares : List Str := ["heap", "column", "height", "row"]
theorem scSquares : FnScope nSquares ["heap"] (defScope sSquares) := ⟨rfl, rfl, rfl, by decide +kernel, rfl, by decide +kernel, by decide +kernel⟩
abbrev sLengthsOf : Stmt := topS 17
abbrev nLengthsOf : List Str := ["heap", "height", "row"]
theorem scLengthsOf : FnScope nLengthsOf ["heap"] (defScope sLengthsOf) := ⟨rfl, rfl, rfl, by decide +kernel, rfl, by decide +kernel, by decide +kernel⟩
abbrev sHookAt : Stmt := topS 18
abbrev nHookAt : List Str := ["heap", "lengths", "column", "row"]
theorem scHookAt : FnScope nHookAt ["heap", "lengths", "column", "row"] (defScope sHookAt) := ⟨rfl, rfl, rfl, by decide +kernel, rfl, by decide +kernel, by decide +kernel⟩
abbrev sCheckOrder : Stmt := topS 21
abbrev nCheckOrder : List Str := ["k"]
theorem scCheckOrder : FnScope nCheckOrder ["k"] (defScope sCheckOrder) := ⟨rfl, rfl, rfl, by decide +kernel, rfl, by decide +kernel, by decide +kernel⟩
abbrev sBeadsOf : Stmt := topS 22
abbrev nBeadsOf : List Str := ["heap", "column", "height"]
theorem scBeadsOf : FnScope nBeadsOf ["heap"] (defScope sBeadsOf) := ⟨rfl, rfl, rfl, by decide +kernel, rfl, by decide +kernel, by decide +kernel⟩
abbrev sStaysCore : Stmt := topS 23
abbrev nStaysCore : List Str := ["k", "heap", "beads", "bead"]
theorem scStaysCore : FnScope nStaysCore ["k", "heap"] (defScope sStaysCore) := ⟨rfl, rfl, rfl, by decide +kernel, rfl, by decide +kernel, by decide +kernel⟩
abbrev sIsCore : Stmt := topS 24
abbrev nIsCore : List Str := ["k", "value"]
theorem scIsCore : FnScope nIsCore ["k", "value"] (defScope sIsCore) := ⟨rfl, rfl, rfl, by decide +kernel, rfl, by decide +kernel, by decide +kernel⟩
abbrev sHook : Stmt := topS 25
abbrev nHook : List Str := ["heap", "square"]
theorem scHook : FnScope nHook ["heap", "square"] (defScope sHook) := ⟨rfl, rfl, rfl, by decide +kernel, rfl, by decide +kernel, by decide +kernel⟩
abbrev sLDice : Stmt := topS 27
abbrev nLDice : List Str := ["_law_script", "_law_at", "_law_cell", "_law_great", "_law_left", "_law_mixed"]
theorem scLDice : FnScope nLDice ["_law_script", "_law_at"] (defScope sLDice) := ⟨rfl, rfl, rfl, by decide +kernel, rfl, by decide +kernel, by decide +kernel⟩
abbrev sLRoll : Stmt := topS 28
abbrev nLRoll : List Str := ["_law_dice_here", "_law_total", "_law_size", "_law_drawn", "_law_one", "_law_two"]
theorem scLRoll : FnScope nLRoll ["_law_dice_here", "_law_total"] (defScope sLRoll) := ⟨rfl, rfl, rfl, by decide +kernel, rfl, by decide +kernel, by decide +kernel⟩
abbrev sLOneOf : Stmt := topS 29
abbrev nLOneOf : List Str := ["_law_dice_here", "_law_items"]
theorem scLOneOf : FnScope nLOneOf ["_law_dice_here", "_law_items"] (defScope sLOneOf) := ⟨rfl, rfl, rfl, by decide +kernel, rfl, by decide +kernel, by decide +kernel⟩
abbrev sLGrown : Stmt := topS 30
abbrev nLGrown : List Str := ["_law_heap", "_law_ring", "_law_x", "_law_n", "_law_s", "_law_found", "_law_column", "_law_height", "_law_can_rise"]
theorem scLGrown : FnScope nLGrown ["_law_heap", "_law_ring", "_law_x"] (defScope sLGrown) := ⟨rfl, rfl, rfl, by decide +kernel, rfl, by decide +kernel, by decide +kernel⟩
abbrev sLBeads : Stmt := topS 31
abbrev nLBeads : List Str := ["_law_heap", "_law_at"]
theorem scLBeads : FnScope nLBeads ["_law_heap"] (defScope sLBeads) := ⟨rfl, rfl, rfl, by decide +kernel, rfl, by decide +kernel, by decide +kernel⟩
abbrev sLIsCore : Stmt := topS 32
abbrev nLIsCore : List Str := ["_law_k", "_law_heap", "_law_some", "_law_low", "_law_bead"]
theorem scLIsCore : FnScope nLIsCore ["_law_k", "_law_heap"] (defScope sLIsCore) := ⟨rfl, rfl, rfl, by decide +kernel, rfl, by decide +kernel, by decide +kernel⟩
abbrev sLHook : Stmt := topS 33
abbrev nLHook : List Str := ["_law_heap", "_law_square", "_law_column", "_law_row", "_law_height"]
theorem scLHook : FnScope nLHook ["_law_heap", "_law_square"] (defScope sLHook) := ⟨rfl, rfl, rfl, by decide +kernel, rfl, by decide +kernel, by decide +kernel⟩
abbrev sLLetters : Stmt := topS 34
abbrev nLLetters : List Str := ["_law_k", "_law_heap", "_law_found", "_law_column", "_law_row"]
theorem scLLetters : FnScope nLLetters ["_law_k", "_law_heap"] (defScope sLLetters) := ⟨rfl, rfl, rfl, by decide +kernel, rfl, by decide +kernel, by decide +kernel⟩
abbrev sLSomeCore : Stmt := topS 35
abbrev nLSomeCore : List Str := ["_law_dice_here", "_law_k", "_law_most", "_law_heap", "_law_turn"]
theorem scLSomeCore : FnScope nLSomeCore ["_law_dice_here", "_law_k", "_law_most"] (defScope sLSomeCore) := ⟨rfl, rfl, rfl, by decide +kernel, rfl, by decide +kernel, by decide +kernel⟩
abbrev sLSomeHeap : Stmt := topS 36
abbrev nLSomeHeap : List Str := ["_law_dice_here", "_law_k", "_law_way", "_law_at", "_law_heights", "_law_heap", "_law_height"]
theorem scLSomeHeap : FnScope nLSomeHeap ["_law_dice_here", "_law_k"] (defScope sLSomeHeap) := ⟨rfl, rfl, rfl, by decide +kernel, rfl, by decide +kernel, by decide +kernel⟩
abbrev sLaw : Stmt := topS 37
abbrev nLaw : List Str := ["_law_script", "_law_at", "_law_dice_here", "_law_turn", "_law_k", "_law_heap", "_law_every", "_law_column", "_law_hooks", "_law_due", "_law_more", "_law_odd", "_law_row", "_law_square", "_law_one"]
theorem scLaw : FnScope nLaw ["_law_script"] (defScope sLaw) := ⟨rfl, rfl, rfl, by decide +kernel, rfl, by decide +kernel, by decide +kernel⟩
/-- a def of the text at its place, and how its arguments bind -/
structure DefAt (K : PySem.W.Frag) (mg : Str → Option Value) (x : Str) (st : Stmt) (ps : List Str) (f : Addr) (fd : FuncData) : Prop where
  F : Fun K x x st f fd
  g : mg x = some (.ref f)
  b : Binds K fd ps []
/-- what the top has written -/
structure Txt (K : PySem.W.Frag) (mg : Str → Option Value) : Prop where
  z_abs : mg "abs" = none
  z_all : mg "all" = none
  z_bool : mg "bool" = none
  z_enumerate : mg "enumerate" = none
  z_int : mg "int" = none
  z_isinstance : mg "isinstance" = none
  z_len : mg "len" = none
  z_list : mg "list" = none
  z_max : mg "max" = none
  z_min : mg "min" = none
  z_range : mg "range" = none
  z_sorted : mg "sorted" = none
  z_tuple : mg "tuple" = none
  v_BOUND : ∃ t, mg "BOUND" = some (.int (10 ^ 60) t)
  v_SIDE : ∃ t, mg "MOST_SIDE" = some (.int 60 t)
  v_MAX_ORDER : ∃ t, mg "MAX_ORDER" = some (.int 60 t)
  d_is_integer : ∃ f fd, DefAt K mg "is_integer" sIsInteger ["value"] f fd
  d_is_between : ∃ f fd, DefAt K mg "is_between" sIsBetween ["value", "low", "high"] f fd
  d_is_pair : ∃ f fd, DefAt K mg "is_pair" sIsPair ["value"] f fd
  d_check_between : ∃ f fd, DefAt K mg "check_between" sCheckBetween ["value", "low", "high"] f fd
  d_is_heap : ∃ f fd, DefAt K mg "is_heap" sIsHeap ["value"] f fd
  d_check_heap : ∃ f fd, DefAt K mg "check_heap" sCheckHeap ["heap"] f fd
  d_height_at : ∃ f fd, DefAt K mg "height_at" sHeightAt ["heap", "column"] f fd
  d_squares : ∃ f fd, DefAt K mg "squares" sSquares ["heap"] f fd
  d_lengths_of : ∃ f fd, DefAt K mg "lengths_of" sLengthsOf ["heap"] f fd
  d_hook_at : ∃ f fd, DefAt K mg "hook_at" sHookAt ["heap", "lengths", "column", "row"] f fd
  d_check_order : ∃ f fd, DefAt K mg "check_order" sCheckOrder ["k"] f fd
  d_beads_of : ∃ f fd, DefAt K mg "beads_of" sBeadsOf ["heap"] f fd
  d_stays_core : ∃ f fd, DefAt K mg "stays_core" sStaysCore ["k", "heap"] f fd
  d_is_core : ∃ f fd, DefAt K mg "is_core" sIsCore ["k", "value"] f fd
  d_hook : ∃ f fd, DefAt K mg "hook" sHook ["heap", "square"] f fd
  d_l_dice : ∃ f fd, DefAt K mg "_law_dice" sLDice ["_law_script", "_law_at"] f fd
  d_l_roll : ∃ f fd, DefAt K mg "_law_roll" sLRoll ["_law_dice_here", "_law_total"] f fd
  d_l_one_of : ∃ f fd, DefAt K mg "_law_one_of" sLOneOf ["_law_dice_here", "_law_items"] f fd
  d_l_grown : ∃ f fd, DefAt K mg "_law_grown" sLGrown ["_law_heap", "_law_ring", "_law_x"] f fd
  d_l_beads : ∃ f fd, DefAt K mg "_law_beads" sLBeads ["_law_heap"] f fd
  d_l_is_core : ∃ f fd, DefAt K mg "_law_is_core" sLIsCore ["_law_k", "_law_heap"] f fd
  d_l_hook : ∃ f fd, DefAt K mg "_law_hook" sLHook ["_law_heap", "_law_square"] f fd
  d_l_some_core : ∃ f fd, DefAt K mg "_law_some_core" sLSomeCore ["_law_dice_here", "_law_k", "_law_most"] f fd
  d_l_some_heap : ∃ f fd, DefAt K mg "_law_some_heap" sLSomeHeap ["_law_dice_here", "_law_k"] f fd
end K1

namespace K1
open PySem PySem.Spec PyProof.Rows L2 Evl
/-! ### great powers -/
def CPowW (i j : Int) : Prop := 0 ≤ j ∧ (Builtin.Int.intBits i : Int) * j ≤ 2 ^ 27
theorem op_powW {X : Cx} : OpR X (binaryOp .Pow) (rI CPowW fun i j => .int (i ^ j.toNat)) := opI fun _ _ _ _ _ _ _ hc q => pow_int hc.1 hc.2 q
/-! ### values that are looked at -/
/-- no int -/
inductive NotInt (K : PySem.W.Frag) (H : Hp) : V → Prop where
  | bl (b : Bool) : NotInt K H (.bl b)
  | non : NotInt K H .non
  | str (x : Str) : NotInt K H (.str x)
  | lst {a : Addr} {xs : List V} (e : H a = some (.lst xs)) : NotInt K H (.ref a)
  | tup {a : Addr} {xs : List V} (e : H a = some (.tup xs)) : NotInt K H (.ref a)
  | dK {a : Addr} {kvs : List (Key × V)} (e : H a = some (.dK kvs)) : NotInt K H (.ref a)
inductive IntB (K : PySem.W.Frag) (H : Hp) : V → Bool → Prop where
  | int (i : Int) : IntB K H (.int i) (decide (-(10 ^ 60) < i) && decide (i < 10 ^ 60))
  | no {x : V} (h : NotInt K H x) : IntB K H x false
/-- between two ints -/
inductive BtwB (K : PySem.W.Frag) (H : Hp) (lo hi : Int) : V → Bool → Prop where
  | int (i : Int) : BtwB K H lo hi (.int i) ((decide (-(10 ^ 60) < i) && decide (i < 10 ^ 60)) && (decide (lo ≤ i) && decide (i ≤ hi)))
  | no {x : V} (h : NotInt K H x) : BtwB K H lo hi x false
theorem NotInt.ty {K : PySem.W.Frag} {H : Hp} {x : V} (h : NotInt K H x) : ∃ t : Value, TyX K H x t ∧ ((PySem.W.kitOne K t (.type "int") = some false) ∨ (t = .type "bool")) := by
  cases h with
  | bl b => exact ⟨_, .base (.bl b), .inr rfl⟩
  | non => exact ⟨_, .base .non, .inl (kit_ty (by decide +kernel))⟩
  | str x => exact ⟨_, .base (.str x), .inl (kit_ty (by decide +kernel))⟩
  | lst e => exact ⟨_, .base (.lst e), .inl (kit_ty (by decide +kernel))⟩
  | tup e => exact ⟨_, .base (.tup e), .inl (kit_ty (by decide +kernel))⟩
  | dK e => exact ⟨_, .base (.dK e), .inl (kit_ty (by decide +kernel))⟩
theorem NotInt.mono {K : PySem.W.Frag} {H H' : Hp} {x : V} (e : Ex H H') (h : NotInt K H x) : NotInt K H' x := by
  cases h with
  | bl b => exact .bl b
  | non => exact .non
  | str x => exact .str x
  | lst q => exact .lst (e _ _ q)
  | tup q => exact .tup (e _ _ q)
  | dK q => exact .dK (e _ _ q)
section
variable {P : Program} {w : World} {K : PySem.W.Frag} {mg : Str → Option Value} {base : Heap}
def spIsInteger (K : PySem.W.Frag) : Sp := fun vs H Q _ => ∃ x b, vs = [x] ∧ IntB K H x b ∧ ∀ H', Ex H H' → Q (.bl b) H'
theorem ok_is_integer (T : Txt K mg) {f : Addr} {fd : FuncData} (D : DefAt K mg "is_integer" sIsInteger ["value"] f fd) : FnOk P w K mg base CX0 1 f fd ["value"] (spIsInteger K) := by
  refine D.F.ok scIsInteger (fun vs H Q E h => ?_) (fun cdv A outer s H vs Q E hr h => ?_)
  · obtain ⟨x, b, rfl, _⟩ := h
    rfl
  · obtain ⟨x, b, rfl, hb, q⟩ := h
    obtain ⟨tB, vB⟩ := T.v_BOUND
    refine ⟨_, pss_one (ps_ret (pe_and (pe_callB call_isi (by rfl) T.z_isinstance (by decide +kernel) (pa_cons (pv 0) (pa_cons (pe_bltn (v := .ty "int") (by rfl) T.z_int (by decide +kernel) rfl) pa_nil)))
      (pe_and (pe_not (pe_callB call_isi (by rfl) T.z_isinstance (by decide +kernel) (pa_cons (pv 0) (pa_cons (pe_bltn (v := .ty "bool") (by rfl) T.z_bool (by decide +kernel) rfl) pa_nil))))
      (pe_one (pe_chain op_lt op_lt (pe_un un_neg (pe_glob (v := .int (10 ^ 60)) rfl vB ⟨_, rfl⟩)) (pv 0) (pe_glob (v := .int (10 ^ 60)) rfl vB ⟨_, rfl⟩)))))), ?_⟩
    cases hb with
    | int i =>
      refine ⟨.int i, rfl, .int i, .ty "int", .type "int", .type "int", true, rfl, .ty _, .base (.int i), kit_ty (by decide +kernel), true, rfl, iteT ?_⟩
      refine ⟨.int i, rfl, .int i, .ty "bool", .type "int", .type "bool", false, rfl, .ty _, .base (.int i), kit_ty (by decide +kernel), false, rfl, true, rfl, iteT ?_⟩
      refine ⟨_, rfl, .int i, rfl, _, _, rfl, rfl, _, rfl, ite2 (fun c => ?_) (fun c => ?_)⟩
      · refine ⟨_, _, rfl, rfl, ?_⟩
        have e : decide (-(10 ^ 60) < i) = true := c
        rw [e, Bool.true_and] at q
        exact q _ (Ex.refl _)
      · have e : decide (-(10 ^ 60) < i) = false := Bool.eq_false_iff.mpr c
        rw [e, Bool.false_and] at q
        exact q _ (Ex.refl _)
    | no hn =>
      obtain ⟨t, ty, h | rfl⟩ := hn.ty
      · exact ⟨x, rfl, x, .ty "int", t, .type "int", false, rfl, .ty _, ty, h, false, rfl, iteF (q _ (Ex.refl _))⟩
      · refine ⟨x, rfl, x, .ty "int", .type "bool", .type "int", true, rfl, .ty _, ty, kit_ty (by decide +kernel), true, rfl, iteT ?_⟩
        exact ⟨x, rfl, x, .ty "bool", .type "bool", .type "bool", true, rfl, .ty _, ty, kit_ty (by decide +kernel), true, rfl, false, rfl, iteF (q _ (Ex.refl _))⟩
def spIsBetween (K : PySem.W.Frag) : Sp := fun vs H Q _ => ∃ x lo hi b, vs = [x, .int lo, .int hi] ∧ BtwB K H lo hi x b ∧ ∀ H', Ex H H' → Q (.bl b) H'
theorem ok_is_between (T : Txt K mg) {f : Addr} {fd : FuncData} (D : DefAt K mg "is_between" sIsBetween ["value", "low", "high"] f fd) : FnOk P w K mg base CX0 2 f fd ["value", "low", "high"] (spIsBetween K) := by
  refine D.F.ok scIsBetween (fun vs H Q E h => ?_) (fun cdv A outer s H vs Q E hr h => ?_)
  · obtain ⟨x, lo, hi, b, rfl, _⟩ := h
    rfl
  · obtain ⟨x, lo, hi, b, rfl, hb, q⟩ := h
    obtain ⟨f1, fd1, D1⟩ := T.d_is_integer
    refine ⟨_, pss_one (ps_ret (pe_and (pe_call (ok_is_integer T D1) hr (by rfl) D1.g D1.F.kp D1.b .nil pass0 (pa_cons (pv 0) pa_nil)) (pe_one (pe_chain op_le op_le (pv 1) (pv 0) (pv 2))))), ?_⟩
    cases hb with
    | int i =>
      refine ⟨.int i, rfl, .int i, _, rfl, .int i, fun H1 e1 => ⟨_, rfl, ite2 (fun c => ?_) (fun c => ?_)⟩⟩
      · refine ⟨.int lo, rfl, .int i, rfl, _, _, rfl, rfl, _, rfl, ?_⟩
        rw [c, Bool.true_and] at q
        refine ite2 (fun c2 => ⟨.int hi, rfl, _, _, rfl, rfl, ?_⟩) (fun c2 => ?_)
        · have e : decide (lo ≤ i) = true := c2
          rw [e, Bool.true_and] at q
          exact q _ e1
        · have e : decide (lo ≤ i) = false := Bool.eq_false_iff.mpr c2
          rw [e, Bool.false_and] at q
          exact q _ e1
      · rw [Bool.eq_false_iff.mpr c, Bool.false_and] at q
        exact q _ e1
    | no hn => exact ⟨x, rfl, x, false, rfl, .no hn, fun H1 e1 => ⟨false, rfl, iteF (q _ e1)⟩⟩
end
end K1

namespace K1
open PySem PySem.Spec PyProof.Rows L2 Evl
/-! ### the dice -/
def Dice (H : Hp) (d : Addr) : Prop := ∃ l m c : Int, H d = some (.lst [.int l, .int m, .int c])
/-- all but the dice is as it was -/
def Keep (d : Addr) (H H' : Hp) : Prop := ∀ b o, b ≠ d → H b = some o → H' b = some o
theorem Keep.refl (d : Addr) (H : Hp) : Keep d H H := fun _ _ _ h => h
theorem Keep.trans {d : Addr} {H H1 H2 : Hp} (a : Keep d H H1) (b : Keep d H1 H2) : Keep d H H2 := fun x o n h => b x o n (a x o n h)
theorem Keep.ex {d : Addr} {H H' : Hp} (e : Ex H H') : Keep d H H' := fun b o _ h => e b o h
theorem Keep.dice {d : Addr} {H : Hp} {o : HO} : Keep d H (upd H d o) := fun b u n h => by
  rw [upd_ne n]
  exact h
theorem Keep.new {d p : Addr} {H : Hp} {o : HO} (h : H p = none) : Keep d H (upd H p o) := .ex (.new h)
/-- a thing that H did not know may change -/
theorem Keep.mut {d p : Addr} {H H' : Hp} {o : HO} (e : Keep d H H') (h : H p = none) : Keep d H (upd H' p o) := fun b u n q => by
  rw [upd_ne (ne_of_none q h)]
  exact e b u n q
theorem Keep.free {d p : Addr} {H H' : Hp} (e : Keep d H H') (n : p ≠ d) (h : H' p = none) : H p = none := by
  cases q : H p with
  | none => rfl
  | some o =>
    rw [e p o n q] at h
    cases h
theorem Dice.ex {d : Addr} {H H' : Hp} (e : Ex H H') (h : Dice H d) : Dice H' d := by
  obtain ⟨l, m, c, q⟩ := h
  exact ⟨l, m, c, e _ _ q⟩
theorem Dice.upd {d p : Addr} {H : Hp} {o : HO} (n : d ≠ p) (h : Dice H d) : Dice (L2.upd H p o) d := by
  obtain ⟨l, m, c, q⟩ := h
  exact ⟨l, m, c, by rw [upd_ne n]; exact q⟩
theorem Dice.ne_new {d p : Addr} {H : Hp} (h : Dice H d) (n : H p = none) : d ≠ p := by
  obtain ⟨l, m, c, q⟩ := h
  exact ne_of_none q n
theorem Dice.ne_tup {d p : Addr} {H : Hp} {xs : List V} (h : Dice H d) (n : H p = some (.tup xs)) : p ≠ d := by
  obtain ⟨l, m, c, q⟩ := h
  exact ne_of n q (by intro z; cases z)
theorem Keep.tup {d p : Addr} {H H' : Hp} {xs : List V} (e : Keep d H H') (h : Dice H d) (n : H p = some (.tup xs)) : H' p = some (.tup xs) := e _ _ (h.ne_tup n) n
theorem wide_n {n : Int} (h : 1 ≤ n) (h2 : n ≤ 10 ^ 50) {i : Int} : CDivW i n := wide_div (b := 200) (by omega) (by omega) (by decide) (by decide)
section
variable {P : Program} {w : World} {K : PySem.W.Frag} {mg : Str → Option Value} {base : Heap}
def spRoll : Sp := fun vs H Q _ => ∃ (d : Addr) (n : Int), vs = [.ref d, .int n] ∧ Dice H d ∧ 1 ≤ n ∧ n ≤ 10 ^ 50 ∧ ∀ (r : Int) H', 0 ≤ r → r < n → Dice H' d → Keep d H H' → Q (.int r) H'
theorem ok_roll (T : Txt K mg) {f : Addr} {fd : FuncData} (D : DefAt K mg "_law_roll" sLRoll ["_law_dice_here", "_law_total"] f fd) : FnOk P w K mg base CX0 1 f fd ["_law_dice_here", "_law_total"] spRoll := by
  refine D.F.ok scLRoll (fun vs H Q E h => ?_) (fun cdv A outer s H vs Q E hr h => ?_)
  · obtain ⟨d, n, rfl, _⟩ := h
    rfl
  · obtain ⟨d, n, rfl, ⟨l, m, c, hd⟩, h1, h2, q⟩ := h
    refine ⟨_, pss_cons (ps_set (i := 2) scLRoll.nd rfl (.inl rfl) (pe_callTy call_int1 (by rfl) T.z_int (by decide +kernel) (pa_cons (pv 1) pa_nil)))
      (pss_cons (ps_if (pt_cmpR op_gt (pe_ix ix_list (pv 0) pe_int (fun _ _ => rfl)) pe_int (nomark _))
        (pss_cons (ps_set (i := 3) scLRoll.nd rfl (.inl rfl) (pe_op op_mod (pe_ix ix_list (pv 0) pe_int (fun _ _ => rfl)) (pv 2)))
        (pss_cons (ps_asg (pe_op op_fdivW (pe_ix ix_list (pv 0) pe_int (fun _ _ => rfl)) (pv 2)) (pg_sub (pv 0) pe_int set_list))
        (pss_one (ps_ret (pe_callTy call_int1 (by rfl) T.z_int (by decide +kernel) (pa_cons (pv 3) pa_nil)))))) pss_nil)
      (pss_cons (ps_asg (pe_op op_add (pe_ix ix_list (pv 0) pe_int (fun _ _ => rfl)) pe_int) (pg_sub (pv 0) pe_int set_list))
      (pss_cons (ps_set (i := 4) scLRoll.nd rfl (.inl rfl) (pe_op op_mod (pe_op op_add (pe_ix ix_list (pv 0) pe_int (fun _ _ => rfl)) (pe_op op_mul pe_int (pe_ix ix_list (pv 0) pe_int (fun _ _ => rfl)))) pe_int))
      (pss_cons (ps_set (i := 5) scLRoll.nd rfl (.inl rfl) (pe_op op_add (pe_op op_mul (pe_op op_mod (pe_op op_mul (pv 4) (pv 4)) pe_int) (pv 4)) (pe_op op_mul pe_int (pe_ix ix_list (pv 0) pe_int (fun _ _ => rfl)))))
      (pss_cons (ps_set (i := 5) scLRoll.nd rfl (.inl rfl) (pe_op op_mod (pv 5) pe_int))
      (pss_one (ps_ret (pe_callTy call_int1 (by rfl) T.z_int (by decide +kernel) (pa_cons (pe_op op_mod (pe_op op_fdiv (pv 5) pe_int) (pv 2)) pa_nil))))))))), ?_⟩
    refine ⟨.int n, rfl, .inl ⟨n, rfl, ?_⟩⟩
    have S0 : SqL K H d [.int l, .int m, .int c] := SqL.of hd
    refine ⟨.ref d, rfl, d, _, 0, .int l, rfl, rfl, S0, rfl, l, 0, rfl, rfl, _, rfl, ite2 (fun cc => ?_) (fun cc => ?_)⟩
    · refine ⟨.ref d, rfl, d, _, 0, .int l, rfl, rfl, S0, rfl, .int n, rfl, l, n, rfl, rfl, by omega, ?_⟩
      refine ⟨.ref d, rfl, d, _, 0, .int l, rfl, rfl, S0, rfl, .int n, rfl, l, n, rfl, rfl, wide_n h1 h2, .ref d, rfl, d, _, 0, 0, rfl, rfl, hd, rfl, ?_⟩
      refine ⟨_, rfl, .inl ⟨l % n, rfl, ?_⟩⟩
      exact q _ _ (Int.emod_nonneg _ (by omega)) (Int.emod_lt_of_pos _ (by omega)) ⟨_, _, _, upd_same⟩ Keep.dice
    · refine ⟨.ref d, rfl, d, _, 2, .int c, rfl, rfl, S0, rfl, c, 1, rfl, rfl, .ref d, rfl, d, _, 2, 2, rfl, rfl, hd, rfl, ?_⟩
      generalize hH1 : upd H d _ = H1
      have hd1 : H1 d = some (.lst [.int l, .int m, .int (c + 1)]) := by
        rw [← hH1]
        exact upd_same
      have k1 : Keep d H H1 := by
        rw [← hH1]
        exact Keep.dice
      have S1 : SqL K H1 d [.int l, .int m, .int (c + 1)] := SqL.of hd1
      refine ⟨.ref d, rfl, d, _, 1, .int m, rfl, rfl, S1, rfl, .ref d, rfl, d, _, 2, .int (c + 1), rfl, rfl, S1, rfl, _, _, rfl, rfl, .inl (by decide), _, _, rfl, rfl, _, _, rfl, rfl, by show (0 : Int) < _; decide, ?_⟩
      refine ⟨_, rfl, _, rfl, (m + 1000409 * (c + 1)) % 2305843009213693951, (m + 1000409 * (c + 1)) % 2305843009213693951, rfl, rfl, .inl (by constructor <;> omega), _, _, rfl, rfl, by show (0 : Int) < _; decide, _, rfl, _, (m + 1000409 * (c + 1)) % 2305843009213693951, rfl, rfl, .inr (by constructor <;> omega), ?_⟩
      refine ⟨.ref d, rfl, d, _, 2, .int (c + 1), rfl, rfl, S1, rfl, _, _, rfl, rfl, .inl (by decide), _, _, rfl, rfl, ?_⟩
      refine ⟨_, rfl, _, _, rfl, rfl, by show (0 : Int) < _; decide, ?_⟩
      refine ⟨_, rfl, _, _, rfl, rfl, ⟨by decide, by decide⟩, .int n, rfl, _, n, rfl, rfl, by omega, .inl ⟨_, rfl, ?_⟩⟩
      exact q _ _ (Int.emod_nonneg _ (by omega)) (Int.emod_lt_of_pos _ (by omega)) ⟨_, _, _, hd1⟩ k1
def spOneOf (K : PySem.W.Frag) : Sp := fun vs H Q _ => ∃ (d a : Addr) (xs : List V), vs = [.ref d, .ref a] ∧ Dice H d ∧ H a = some (.lst xs) ∧ a ≠ d ∧ 1 ≤ xs.length ∧ xs.length ≤ 1000 ∧ ∀ x H', x ∈ xs → Dice H' d → Keep d H H' → Q x H'
theorem ok_one_of (T : Txt K mg) {f : Addr} {fd : FuncData} (D : DefAt K mg "_law_one_of" sLOneOf ["_law_dice_here", "_law_items"] f fd) : FnOk P w K mg base CX0 2 f fd ["_law_dice_here", "_law_items"] (spOneOf K) := by
  refine D.F.ok scLOneOf (fun vs H Q E h => ?_) (fun cdv A outer s H vs Q E hr h => ?_)
  · obtain ⟨d, a, xs, rfl, _⟩ := h
    rfl
  · obtain ⟨d, a, xs, rfl, hd, ha, nad, h1, h2, q⟩ := h
    obtain ⟨f1, fd1, D1⟩ := T.d_l_roll
    refine ⟨_, pss_one (ps_ret (pe_ix ix_list (pv 1) (pe_call (ok_roll T D1) hr (by rfl) D1.g D1.F.kp D1.b .nil pass0 (pa_cons (pv 0) (pa_cons (pe_callB call_len_seq (by rfl) T.z_len PySem.boot_len (pa_cons (pv 1) pa_nil)) pa_nil))) (fun _ _ => rfl))), ?_⟩
    refine ⟨.ref a, rfl, .ref d, rfl, .ref a, rfl, a, xs, rfl, .inl (SqL.of ha), d, _, rfl, hd, by omega, by omega, fun r H1 r0 r1 hd1 k1 => ?_⟩
    have hx : xs[r.toNat]? = some (xs[r.toNat]'(by omega)) := List.getElem?_eq_getElem _
    refine ⟨a, xs, r, _, rfl, rfl, SqL.of (k1 _ _ nad ha), ?_, q (xs[r.toNat]'(by omega)) H1 (List.getElem_mem _) hd1 k1⟩
    exact at_of (show r = ((r.toNat : Nat) : Int) by omega) hx
/-- a drawn ring -/
def RingAt (H : Hp) (most : Int) (x : V) (n s : Int) : Prop := ∃ t, x = .ref t ∧ H t = some (.tup [.int n, .int s]) ∧ 2 ≤ n ∧ n ≤ most ∧ 1 ≤ s ∧ s < n
def spRing : Sp := fun vs H Q _ => ∃ (d : Addr) (most : Int), vs = [.ref d, .int most] ∧ Dice H d ∧ 2 ≤ most ∧ most ≤ 1000 ∧ ∀ x n s H', RingAt H' most x n s → Dice H' d → Keep d H H' → Q x H'
end
end K1

namespace K1
open PySem PySem.Spec PyProof.Rows L2 Evl
section
variable {P : Program} {w : World} {K : PySem.W.Frag} {mg : Str → Option Value} {base : Heap}
def spDice (K : PySem.W.Frag) : Sp := fun vs H Q _ => ∃ (a : Addr) (ns : List Int) (i : Nat), vs = [.ref a, .int i] ∧ SqL K H a (ns.map V.int) ∧ ∀ p H', H p = none → Ex H H' → Dice H' p → Q (.ref p) H'
theorem ok_dice (T : Txt K mg) {f : Addr} {fd : FuncData} (D : DefAt K mg "_law_dice" sLDice ["_law_script", "_law_at"] f fd) : FnOk P w K mg base CX0 1 f fd ["_law_script", "_law_at"] (spDice K) := by
  refine D.F.ok scLDice (fun vs H Q E h => ?_) (fun cdv A outer s H vs Q E hr h => ?_)
  · obtain ⟨d, n, i, rfl, _⟩ := h
    rfl
  · obtain ⟨a, ns, i, rfl, hS, q⟩ := h
    refine ⟨_, pss_cons (ps_set (i := 2) scLDice.nd rfl (.inl rfl) (pe_op op_add (pe_op op_mul pe_int (pv 1)) pe_int))
      (pss_cut (ps_if (pt_cmpR op_lt (pv 1) (pe_callB call_len_seq (by rfl) T.z_len PySem.boot_len (pa_cons (pv 0) pa_nil)) (nomark _))
        (pss_one (ps_set (i := 2) scLDice.nd rfl (.inl rfl) (pe_ix ix_list (pv 0) (pv 1) (fun _ _ => rfl)))) pss_nil)
      (pss_cons (ps_set (i := 3) scLDice.nd rfl (.inl rfl) (pe_op op_mod (pe_callTy call_int1 (by rfl) T.z_int (by decide +kernel) (pa_cons (pe_callB call_abs (by rfl) T.z_abs (by decide +kernel) (pa_cons (pv 2) pa_nil)) pa_nil)) (pe_op op_powW (pe_op op_pow pe_int pe_int) pe_int)))
      (pss_cons (ps_set (i := 4) scLDice.nd rfl (.inl rfl) (pe_op op_fdivW (pv 3) (pe_op op_pow pe_int pe_int)))
      (pss_cons (ps_set (i := 5) scLDice.nd rfl (.inl rfl) (pe_op op_add (pe_op op_add (pe_op op_add (pe_op op_mul (pe_op op_mod (pv 3) pe_int) pe_int) (pe_op op_mul pe_int (pv 1))) (pe_op op_mul pe_int (pe_callTy call_int1 (by rfl) T.z_int (by decide +kernel) (pa_cons (pe_cmpR op_lt (pv 2) pe_int (nomark _)) pa_nil)))) pe_int))
      (pss_one (ps_ret (pe_lst (pa_cons (pv 4) (pa_cons (pe_op op_mod (pv 5) pe_int) (pa_cons pe_int pa_nil))))))))) ), ?_⟩
    refine ⟨_, rfl, _, _, rfl, rfl, .inl (by decide), _, _, rfl, rfl, ?_⟩
    refine ⟨fun σ' H' => ∃ cell : Int, σ' = [some (.ref a), some (.int i), some (.int cell), none, none, none] ∧ H' = H, ?_, ?_⟩
    · refine ⟨_, rfl, .ref a, rfl, a, _, rfl, .inl hS, _, _, rfl, rfl, _, rfl, ite2 (fun c => ?_) (fun c => ⟨_, rfl, rfl⟩)⟩
      have c' : (i : Int) < ((ns.map V.int).length : Int) := of_decide_eq_true c
      rw [List.length_map] at c'
      have hx : (ns.map V.int)[i]? = some (.int (ns[i]'(by omega))) := by
        rw [List.getElem?_map, List.getElem?_eq_getElem (by omega)]
        rfl
      exact ⟨.ref a, rfl, _, rfl, a, _, _, _, rfl, rfl, hS, atI_nat hx, _, rfl, rfl⟩
    · rintro σ' H' ⟨cell, rfl, rfl⟩
      refine ⟨_, rfl, _, rfl, .inl ⟨_, rfl, _, _, rfl, rfl, ⟨by decide, by decide, by decide⟩, _, _, rfl, rfl, ⟨by decide, by decide +kernel⟩, _, _, rfl, rfl, by show (0 : Int) < (10 ^ Int.toNat 60) ^ Int.toNat 10; decide +kernel, ?_⟩⟩
      refine ⟨_, rfl, _, _, rfl, rfl, ⟨by decide, by decide, by decide⟩, _, _, rfl, rfl, wide_div (b := 60) (by decide +kernel) (by decide +kernel) (by decide) (by decide), ?_⟩
      refine ⟨_, rfl, _, _, rfl, rfl, by show (0 : Int) < _; decide, _, _, rfl, rfl, .inr (by decide), _, rfl, _, _, rfl, rfl, .inl (by decide), _, _, rfl, rfl, _, rfl, _, _, rfl, rfl, .inr ⟨_, rfl, _, _, rfl, rfl, .inl (by decide), _, _, rfl, rfl, _, _, rfl, rfl, ?_⟩⟩
      refine ⟨_, rfl, _, rfl, _, _, rfl, rfl, by show (0 : Int) < _; decide, by show 3 ≤ sizeLine; decide, fun p hp => ?_⟩
      exact q p _ hp (Ex.new hp) ⟨_, _, _, upd_same⟩
/-- the greatest common divisor -/
def spCommon : Sp := fun vs H Q _ => ∃ (a b : Nat), vs = [.int a, .int b] ∧ ∀ H', Ex H H' → Q (.int (Nat.gcd a b : Nat)) H'
/-- a drawn ring of one order -/
def spRingOf : Sp := fun vs H Q _ => ∃ (d : Addr) (k t : Int), vs = [.ref d, .int k, .int t] ∧ Dice H d ∧ 2 ≤ k ∧ k ≤ 100 ∧ 1 ≤ t ∧ t ≤ 1000 ∧ ∀ x n s H', RingAt H' (k * t) x n s → Dice H' d → Keep d H H' → Q x H'
end
end K1

/-! plain mathematics of heaps: heights of columns that do not ascend -/
namespace HM
def hAt (h : List Nat) (c : Nat) : Nat := h.getD c 0
theorem hAt_lt {h : List Nat} {c : Nat} (hc : c < h.length) : h[c]? = some (hAt h c) := by
  unfold hAt
  rw [List.getD_eq_getElem?_getD, List.getElem?_eq_getElem hc]
  rfl
theorem hAt_ge {h : List Nat} {c : Nat} (hc : h.length ≤ c) : hAt h c = 0 := by
  unfold hAt
  rw [List.getD_eq_getElem?_getD, List.getElem?_eq_none hc]
  rfl
structure IsHeap (h : List Nat) : Prop where
  pos : ∀ c, c < h.length → 0 < hAt h c
  fall : ∀ c, hAt h (c + 1) ≤ hAt h c
theorem IsHeap.nil : IsHeap [] := ⟨fun c hc => absurd hc (Nat.not_lt_zero c), fun c => by rw [hAt_ge (Nat.zero_le _), hAt_ge (Nat.zero_le _)]; exact Nat.le_refl _⟩
theorem IsHeap.le {h : List Nat} (H : IsHeap h) {c : Nat} : ∀ {d : Nat}, c ≤ d → hAt h d ≤ hAt h c
  | 0, hd => by
    have : c = 0 := by omega
    rw [this]
    exact Nat.le_refl _
  | d + 1, hd => by
    by_cases e : c = d + 1
    · rw [e]
      exact Nat.le_refl _
    · exact Nat.le_trans (H.fall d) (H.le (by omega))
/-- two heaps with the same heights are one -/
theorem heap_ext {h h' : List Nat} (H : IsHeap h) (H' : IsHeap h') (e : ∀ c, hAt h c = hAt h' c) : h = h' := by
  have l : h.length = h'.length := by
    rcases Nat.lt_trichotomy h.length h'.length with q | q | q
    · have a := H'.pos _ q
      rw [← e, hAt_ge (Nat.le_refl _)] at a
      omega
    · exact q
    · have a := H.pos _ q
      rw [e, hAt_ge (Nat.le_refl _)] at a
      omega
  refine List.ext_getElem? fun c => ?_
  by_cases hc : c < h.length
  · rw [hAt_lt hc, hAt_lt (by omega), e]
  · rw [List.getElem?_eq_none (by omega), List.getElem?_eq_none (by omega)]
/-- a square can be added on top of the column -/
def opn (h : List Nat) (c : Nat) : Bool := decide (c = 0) || decide (hAt h c < hAt h (c - 1))
theorem opn_le {h : List Nat} {c : Nat} (o : opn h c = true) : c ≤ h.length := by
  unfold opn at o
  by_cases hc : c ≤ h.length
  · exact hc
  · rw [decide_eq_false (show ¬ c = 0 by omega), hAt_ge (show h.length ≤ c by omega), hAt_ge (show h.length ≤ c - 1 by omega)] at o
    exact absurd o (by decide)
theorem opn_lt {h : List Nat} {c : Nat} (o : opn h (c + 1) = true) : hAt h (c + 1) < hAt h c := by
  unfold opn at o
  rw [decide_eq_false (show ¬ c + 1 = 0 by omega), Bool.false_or] at o
  exact of_decide_eq_true o
def b2n (b : Bool) : Nat := if b = true then 1 else 0
theorem b2n_le (b : Bool) : b2n b ≤ 1 := by cases b <;> decide
def grow (h : List Nat) (g : Nat → Bool) : List Nat := (List.range h.length).map (fun c => hAt h c + b2n (g c)) ++ (if g h.length = true then [1] else [])
theorem grow_len (h : List Nat) (g : Nat → Bool) : (grow h g).length = h.length + b2n (g h.length) := by
  unfold grow b2n
  rw [List.length_append, List.length_map, List.length_range]
  split <;> rfl
theorem hAt_grow {h : List Nat} {g : Nat → Bool} (hg : ∀ c, g c = true → opn h c = true) (c : Nat) : hAt (grow h g) c = hAt h c + b2n (g c) := by
  unfold hAt
  rw [List.getD_eq_getElem?_getD, List.getD_eq_getElem?_getD]
  unfold grow
  by_cases hc : c < h.length
  · rw [List.getElem?_append_left (by rw [List.length_map, List.length_range]; exact hc), List.getElem?_map, List.getElem?_range hc, hAt_lt hc]
    rfl
  · rw [List.getElem?_append_right (by rw [List.length_map, List.length_range]; omega), List.length_map, List.length_range, List.getElem?_eq_none (show h.length ≤ c by omega)]
    by_cases e : c = h.length
    · subst e
      rw [Nat.sub_self]
      unfold b2n
      by_cases q : g h.length = true
      · rw [if_pos q, if_pos q]
        rfl
      · rw [if_neg q, if_neg q]
        rfl
    · have q : g c = false := by
        cases q : g c with
        | false => rfl
        | true => exact absurd (opn_le (hg c q)) (by omega)
      rw [q]
      have l : (if g h.length = true then [1] else []).length ≤ 1 := by split <;> decide
      rw [List.getElem?_eq_none (by omega)]
      rfl
theorem grow_heap {h : List Nat} {g : Nat → Bool} (H : IsHeap h) (hg : ∀ c, g c = true → opn h c = true) : IsHeap (grow h g) := by
  refine ⟨fun c hc => ?_, fun c => ?_⟩
  · rw [hAt_grow hg]
    rw [grow_len] at hc
    by_cases q : c < h.length
    · have := H.pos c q
      omega
    · have : c = h.length := by
        have := b2n_le (g h.length)
        omega
      subst this
      omega
  · rw [hAt_grow hg, hAt_grow hg]
    have := H.fall c
    cases q : g (c + 1) with
    | false =>
      show hAt h (c + 1) + 0 ≤ _
      omega
    | true =>
      have := opn_lt (hg _ q)
      show hAt h (c + 1) + 1 ≤ _
      omega
/-- heights and one more, 0, with some more -/
def hts (h : List Nat) (f : Nat → Nat) : List Nat := (List.range (h.length + 1)).map fun c => hAt h c + f c
theorem hts_len (h : List Nat) (f : Nat → Nat) : (hts h f).length = h.length + 1 := by
  unfold hts
  rw [List.length_map, List.length_range]
theorem hts_get {h : List Nat} {f : Nat → Nat} {c : Nat} (hc : c ≤ h.length) : (hts h f)[c]? = some (hAt h c + f c) := by
  unfold hts
  rw [List.getElem?_map, List.getElem?_range (by omega)]
  rfl
theorem hts_zero (h : List Nat) : h ++ [0] = hts h fun _ => 0 := by
  refine List.ext_getElem? fun c => ?_
  by_cases q : c < h.length
  · rw [List.getElem?_append_left q, hAt_lt q, hts_get (by omega)]
    rfl
  · by_cases e : c = h.length
    · subst e
      rw [List.getElem?_append_right (Nat.le_refl _), Nat.sub_self, hts_get (Nat.le_refl _), hAt_ge (Nat.le_refl _)]
      rfl
    · rw [List.getElem?_eq_none (by rw [List.length_append]; show h.length + 1 ≤ c; omega), List.getElem?_eq_none (by rw [hts_len]; omega)]
def cnt (cols : List Nat) (c : Nat) : Nat := (cols.filter fun d => d == c).length
theorem cnt_snoc (cols : List Nat) (d c : Nat) : cnt (cols ++ [d]) c = cnt cols c + b2n (d == c) := by
  unfold cnt
  rw [List.filter_append, List.length_append]
  cases q : (d == c) with
  | true =>
    rw [List.filter_cons, if_pos q]
    rfl
  | false =>
    rw [List.filter_cons, if_neg (by rw [q]; decide)]
    rfl
theorem hts_set {h : List Nat} {cols : List Nat} {d : Nat} (hd : d ≤ h.length) : (hts h (cnt cols)).set d (hAt h d + cnt cols d + 1) = hts h (cnt (cols ++ [d])) := by
  refine List.ext_getElem? fun c => ?_
  rw [List.getElem?_set]
  by_cases e : d = c
  · subst e
    rw [if_pos rfl, if_pos (by rw [hts_len]; omega), hts_get hd, cnt_snoc]
    show some _ = some (hAt h d + (cnt cols d + b2n (d == d)))
    rw [beq_self_eq_true]
    rfl
  · rw [if_neg e]
    by_cases q : c ≤ h.length
    · rw [hts_get q, hts_get q, cnt_snoc]
      have : (d == c) = false := by simpa using e
      rw [this]
      rfl
    · rw [List.getElem?_eq_none (by rw [hts_len]; omega), List.getElem?_eq_none (by rw [hts_len]; omega)]
theorem range_filter_cnt (n : Nat) (g : Nat → Bool) (c : Nat) : cnt ((List.range n).filter g) c = b2n (decide (c < n) && g c) := by
  induction n with
  | zero => rfl
  | succ n ih =>
    rw [List.range_succ, List.filter_append]
    have e : cnt ((List.range n).filter g ++ [n].filter g) c = cnt ((List.range n).filter g) c + cnt ([n].filter g) c := by
      unfold cnt
      rw [List.filter_append, List.length_append]
    rw [e, ih]
    by_cases q : g n = true
    · have : [n].filter g = [n] := by
        rw [List.filter_cons, if_pos q]
        rfl
      rw [this]
      unfold cnt
      by_cases z : n = c
      · subst z
        rw [List.filter_cons, if_pos (beq_self_eq_true n), decide_eq_false (Nat.lt_irrefl n), decide_eq_true (Nat.lt_succ_self n), q]
        rfl
      · rw [List.filter_cons, if_neg (show ¬ (n == c) = true by simpa using z)]
        have : decide (c < n) = decide (c < n + 1) := decide_eq_decide.mpr (by omega)
        rw [this]
        rfl
    · have : [n].filter g = [] := by
        rw [List.filter_cons, if_neg q]
        rfl
      rw [this]
      by_cases z : c = n
      · subst z
        have : g c = false := by simpa using q
        rw [this, Bool.and_false, Bool.and_false]
        rfl
      · have : decide (c < n) = decide (c < n + 1) := decide_eq_decide.mpr (by omega)
        rw [this]
        rfl
/-- what heaped makes of columns -/
theorem hts_filter {h : List Nat} (hp : ∀ c, c < h.length → 0 < hAt h c) {g : Nat → Bool} {f : Nat → Nat} (hf : ∀ c, c ≤ h.length → f c = b2n (g c)) : (hts h f).filter (fun x => decide (0 < x)) = grow h g := by
  unfold hts grow
  rw [List.range_succ, List.map_append, List.filter_append]
  have e1 : ((List.range h.length).map fun c => hAt h c + f c).filter (fun x => decide (0 < x)) = (List.range h.length).map fun c => hAt h c + b2n (g c) := by
    have e : ((List.range h.length).map fun c => hAt h c + f c) = (List.range h.length).map fun c => hAt h c + b2n (g c) := by
      refine List.map_congr_left fun c hc => ?_
      rw [hf c (Nat.le_of_lt (List.mem_range.mp hc))]
    rw [e]
    refine List.filter_eq_self.mpr fun x hx => ?_
    obtain ⟨c, hc, rfl⟩ := List.mem_map.mp hx
    have := hp c (List.mem_range.mp hc)
    exact decide_eq_true (by omega)
  rw [e1]
  congr 1
  show [hAt h h.length + f h.length].filter _ = _
  rw [hAt_ge (Nat.le_refl _), hf _ (Nat.le_refl _)]
  unfold b2n
  by_cases q : g h.length = true
  · rw [if_pos q, if_pos q]
    rfl
  · rw [if_neg q, if_neg q]
    rfl
/-- the diagonal of the square on top -/
def dg (h : List Nat) (c : Nat) : Int := (c : Int) - (hAt h c : Int)
theorem dg_lt {h : List Nat} (H : IsHeap h) {c d : Nat} (hcd : c < d) : dg h c < dg h d := by
  unfold dg
  have := H.le (Nat.le_of_lt hcd)
  omega
theorem dg_inj {h : List Nat} (H : IsHeap h) {c d : Nat} (e : dg h c = dg h d) : c = d := by
  rcases Nat.lt_trichotomy c d with q | q | q
  · have := dg_lt H q
    omega
  · exact q
  · have := dg_lt H q
    omega
theorem dg_two {h : List Nat} (H : IsHeap h) {c d : Nat} (hcd : c < d) (o : opn h d = true) : dg h c + 2 ≤ dg h d := by
  obtain ⟨e, rfl⟩ : ∃ e, d = e + 1 := ⟨d - 1, by omega⟩
  have a := opn_lt o
  have b := H.le (show c ≤ e by omega)
  unfold dg
  omega
def oc (h : List Nat) : List Nat := (List.range (h.length + 1)).filter (opn h)
theorem oc_mem {h : List Nat} {c : Nat} : c ∈ oc h ↔ opn h c = true := by
  unfold oc
  rw [List.mem_filter, List.mem_range]
  exact ⟨fun z => z.2, fun z => ⟨Nat.lt_succ_of_le (opn_le z), z⟩⟩
end HM

/-! plain mathematics of heaps, continued: growing column by column, tries, squares added in any order -/
namespace HM
theorem range_hAt (h : List Nat) : (List.range h.length).map (hAt h) = h := by
  refine List.ext_getElem? fun c => ?_
  by_cases q : c < h.length
  · rw [List.getElem?_map, List.getElem?_range q, hAt_lt q]
    rfl
  · rw [List.getElem?_eq_none (by rw [List.length_map, List.length_range]; omega), List.getElem?_eq_none (by omega)]
/-- grown at the first columns -/
def fr (h : List Nat) (g : Nat → Bool) (i : Nat) : List Nat := (List.range h.length).map (fun c => hAt h c + b2n (decide (c < i) && g c)) ++ (if (decide (h.length < i) && g h.length) = true then [1] else [])
theorem fr_zero (h : List Nat) (g : Nat → Bool) : fr h g 0 = h := by
  unfold fr
  rw [decide_eq_false (Nat.not_lt_zero _), Bool.false_and, if_neg (by decide), List.append_nil]
  conv => rhs; rw [← range_hAt h]
  refine List.map_congr_left fun c _ => ?_
  rw [decide_eq_false (Nat.not_lt_zero _), Bool.false_and]
  rfl
theorem fr_end (h : List Nat) (g : Nat → Bool) : fr h g (h.length + 1) = grow h g := by
  unfold fr grow
  rw [decide_eq_true (Nat.lt_succ_self _), Bool.true_and]
  congr 1
  refine List.map_congr_left fun c hc => ?_
  rw [decide_eq_true (show c < h.length + 1 from Nat.lt_succ_of_lt (List.mem_range.mp hc)), Bool.true_and]
theorem fr_skip {h : List Nat} {g : Nat → Bool} {i : Nat} (q : g i = false) : fr h g (i + 1) = fr h g i := by
  have e : ∀ c, (decide (c < i + 1) && g c) = (decide (c < i) && g c) := fun c => by
    by_cases z : c = i
    · subst z
      rw [q, Bool.and_false, Bool.and_false]
    · have : decide (c < i + 1) = decide (c < i) := decide_eq_decide.mpr (by omega)
      rw [this]
  unfold fr
  rw [e]
  congr 1
  exact List.map_congr_left fun c _ => by rw [e]
theorem fr_low {h : List Nat} {g : Nat → Bool} {i : Nat} (hi : i ≤ h.length) : fr h g i = (List.range h.length).map (fun c => hAt h c + b2n (decide (c < i) && g c)) := by
  unfold fr
  rw [decide_eq_false (show ¬ h.length < i by omega), Bool.false_and, if_neg (by decide), List.append_nil]
theorem fr_low_len {h : List Nat} {g : Nat → Bool} {i : Nat} (hi : i ≤ h.length) : (fr h g i).length = h.length := by
  rw [fr_low hi, List.length_map, List.length_range]
theorem fr_set {h : List Nat} {g : Nat → Bool} {i : Nat} (hi : i < h.length) (q : g i = true) : (fr h g i).set i (hAt h i + 1) = fr h g (i + 1) := by
  rw [fr_low (show i ≤ h.length by omega), fr_low (show i + 1 ≤ h.length by omega)]
  refine List.ext_getElem? fun c => ?_
  rw [List.getElem?_set]
  by_cases e : i = c
  · subst e
    rw [if_pos rfl, if_pos (by rw [List.length_map, List.length_range]; exact hi), List.getElem?_map, List.getElem?_range hi]
    show some _ = some (hAt h i + b2n (decide (i < i + 1) && g i))
    rw [decide_eq_true (Nat.lt_succ_self i), q]
    rfl
  · rw [if_neg e, List.getElem?_map, List.getElem?_map]
    have : decide (c < i + 1) = decide (c < i) := decide_eq_decide.mpr (by omega)
    by_cases l : c < h.length
    · rw [List.getElem?_range l]
      show some (hAt h c + b2n (decide (c < i) && g c)) = some (hAt h c + b2n (decide (c < i + 1) && g c))
      rw [this]
    · rw [List.getElem?_eq_none (by rw [List.length_range]; omega)]
      rfl
theorem fr_app {h : List Nat} {g : Nat → Bool} (q : g h.length = true) : fr h g h.length ++ [1] = fr h g (h.length + 1) := by
  rw [fr_end, fr_low (Nat.le_refl _)]
  unfold grow
  rw [if_pos q]
  congr 1
  refine List.map_congr_left fun c hc => ?_
  rw [decide_eq_true (List.mem_range.mp hc), Bool.true_and]
/-! ### tries -/
def Falls (ns : List Int) : Prop := (∀ j, j + 1 < ns.length → ns.getD (j + 1) 0 ≤ ns.getD j 0) ∧ ∀ y ∈ ns, (0 : Int) ≤ y
/-- heights with 0 behind them, one changed -/
def chg (h : List Nat) (st : Int) (c : Nat) : List Int := (List.range (h.length + 1)).map fun x => (hAt h x : Int) + (if x = c then st else 0)
theorem chg_len (h : List Nat) (st : Int) (c : Nat) : (chg h st c).length = h.length + 1 := by
  unfold chg
  rw [List.length_map, List.length_range]
theorem chg_get {h : List Nat} {st : Int} {c x : Nat} (hx : x ≤ h.length) : (chg h st c).getD x 0 = (hAt h x : Int) + (if x = c then st else 0) := by
  unfold chg
  rw [List.getD_eq_getElem?_getD, List.getElem?_map, List.getElem?_range (by omega)]
  rfl
/-- columns at which a try leaves a heap -/
def tr (h : List Nat) (st : Int) (c : Nat) : Bool := if st = 1 then opn h c else decide (hAt h (c + 1) < hAt h c)
theorem chg_falls {h : List Nat} (H : IsHeap h) {st : Int} (hst : st = 1 ∨ st = -1) {c : Nat} (hc : c ≤ h.length) : Falls (chg h st c) ↔ tr h st c = true := by
  have hm : ∀ y, y ∈ chg h st c → ∃ x, x ≤ h.length ∧ y = (hAt h x : Int) + (if x = c then st else 0) := fun y hy => by
    unfold chg at hy
    obtain ⟨x, hx, rfl⟩ := List.mem_map.mp hy
    exact ⟨x, Nat.le_of_lt_succ (List.mem_range.mp hx), rfl⟩
  have hm2 : ∀ x, x ≤ h.length → (hAt h x : Int) + (if x = c then st else 0) ∈ chg h st c := fun x hx => List.mem_map.mpr ⟨x, List.mem_range.mpr (Nat.lt_succ_of_le hx), rfl⟩
  rcases hst with rfl | rfl
  · unfold tr
    rw [if_pos rfl]
    constructor
    · rintro ⟨f1, f2⟩
      unfold opn
      by_cases z : c = 0
      · rw [decide_eq_true z, Bool.true_or]
      · have a := f1 (c - 1) (by rw [chg_len]; omega)
        rw [show c - 1 + 1 = c by omega, chg_get hc, chg_get (by omega), if_pos rfl, if_neg (by omega)] at a
        rw [decide_eq_true (show hAt h c < hAt h (c - 1) by omega), Bool.or_true]
    · intro o
      refine ⟨fun j hj => ?_, fun y hy => ?_⟩
      · rw [chg_len] at hj
        rw [chg_get (show j + 1 ≤ h.length by omega), chg_get (show j ≤ h.length by omega)]
        have := H.fall j
        by_cases z : j + 1 = c
        · subst z
          have := opn_lt o
          rw [if_pos rfl, if_neg (by omega)]
          omega
        · rw [if_neg z]
          split <;> omega
      · obtain ⟨x, _, rfl⟩ := hm y hy
        split <;> omega
  · unfold tr
    rw [if_neg (by decide)]
    constructor
    · rintro ⟨f1, f2⟩
      by_cases z : c = h.length
      · have := f2 _ (hm2 c hc)
        rw [if_pos rfl, z, hAt_ge (Nat.le_refl _)] at this
        exact absurd this (by decide)
      · have a := f1 c (by rw [chg_len]; omega)
        rw [chg_get (by omega), chg_get hc, if_pos rfl, if_neg (by omega)] at a
        exact decide_eq_true (by omega)
    · intro o
      have o' := of_decide_eq_true o
      refine ⟨fun j hj => ?_, fun y hy => ?_⟩
      · rw [chg_len] at hj
        rw [chg_get (show j + 1 ≤ h.length by omega), chg_get (show j ≤ h.length by omega)]
        have := H.fall j
        by_cases z : j = c
        · subst z
          rw [if_pos rfl, if_neg (by omega)]
          omega
        · rw [if_neg z]
          split <;> omega
      · obtain ⟨x, _, rfl⟩ := hm y hy
        split
        · next z =>
          subst z
          omega
        · omega
def tv (h : List Nat) (st : Int) (c : Nat) : Int := if st = 1 then dg h c else dg h c + 1
def trs (h : List Nat) (st : Int) (i : Nat) : List Int := ((List.range i).filter (tr h st)).map (tv h st)
theorem tv_lt {h : List Nat} (H : IsHeap h) {st : Int} {c d : Nat} (hcd : c < d) : tv h st c < tv h st d := by
  have := dg_lt H hcd
  unfold tv
  split <;> omega
theorem range_lt (n : Nat) : (List.range n).Pairwise (· < ·) := List.pairwise_lt_range
theorem trs_sorted {h : List Nat} (H : IsHeap h) (st : Int) (i : Nat) : (trs h st i).Pairwise (· ≤ ·) := by
  unfold trs
  refine List.pairwise_map.mpr ?_
  refine ((range_lt i).filter _).imp fun {a b} hab => ?_
  have := tv_lt H (st := st) hab
  omega
theorem sorted_eq : ∀ {a b : List Int}, a.Perm b → a.Pairwise (· ≤ ·) → b.Pairwise (· ≤ ·) → a = b
  | [], b, p, _, _ => (List.nil_perm.mp p).symm
  | x :: a, [], p, _, _ => absurd p.length_eq (by simp)
  | x :: a, y :: b, p, ha, hb => by
    have e : x = y := by
      have h1 : y ∈ x :: a := p.mem_iff.mpr List.mem_cons_self
      have h2 : x ∈ y :: b := p.mem_iff.mp List.mem_cons_self
      rcases List.mem_cons.mp h1 with z | z
      · exact z.symm
      · rcases List.mem_cons.mp h2 with u | u
        · exact u
        · have q1 := (List.pairwise_cons.mp ha).1 y z
          have q2 := (List.pairwise_cons.mp hb).1 x u
          omega
    subst e
    rw [sorted_eq ((List.perm_cons x).mp p) (List.pairwise_cons.mp ha).2 (List.pairwise_cons.mp hb).2]
theorem trs_add (h : List Nat) : trs h 1 (h.length + 1) = (oc h).map (dg h) := by
  have e : tr h 1 = opn h := funext fun c => if_pos rfl
  have e2 : tv h 1 = dg h := funext fun c => if_pos rfl
  unfold trs oc
  rw [e, e2]
theorem trs_sub (h : List Nat) : trs h (-1) (h.length + 1) = ((List.range h.length).filter fun c => decide (hAt h (c + 1) < hAt h c)).map fun c => dg h c + 1 := by
  have e : tr h (-1) = fun c => decide (hAt h (c + 1) < hAt h c) := funext fun c => if_neg (by decide)
  have e2 : tv h (-1) = fun c => dg h c + 1 := funext fun c => if_neg (by decide)
  unfold trs
  rw [e, e2, List.range_succ, List.filter_append, List.filter_cons, if_neg (by rw [hAt_ge (Nat.le_refl h.length)]; simp)]
  simp
theorem oc_two {h : List Nat} (H : IsHeap h) : ((oc h).map (dg h)).Pairwise (fun a b => a + 2 ≤ b) := by
  refine List.pairwise_map.mpr ?_
  unfold oc
  have : ((List.range (h.length + 1)).filter (opn h)).Pairwise (fun a b => a < b) := (range_lt _).filter _
  refine (List.Pairwise.and_mem.mp this).imp fun {a b} hab => ?_
  exact dg_two H hab.2.2 (List.mem_filter.mp hab.2.1).2
theorem two_next {l : List Int} (h : l.Pairwise (fun a b => a + 2 ≤ b)) {i : Nat} {x y : Int} (hx : l[i]? = some x) (hy : l[i + 1]? = some y) : x + 2 ≤ y := by
  obtain ⟨h1, rfl⟩ := List.getElem?_eq_some_iff.mp hx
  obtain ⟨h2, rfl⟩ := List.getElem?_eq_some_iff.mp hy
  exact List.pairwise_iff_getElem.mp h i (i + 1) h1 h2 (by omega)
/-! ### squares added in any order -/
def adm (h : List Nat) (ms : List Int) (i : Nat) (c : Nat) : Bool := opn h c && decide (dg h c ∈ ms.take i)
theorem adm_opn {h : List Nat} {ms : List Int} {i : Nat} (c : Nat) (z : adm h ms i c = true) : opn h c = true := by
  unfold adm at z
  exact (Bool.and_eq_true_iff.mp z).1
theorem adm_zero (h : List Nat) (ms : List Int) : grow h (adm h ms 0) = h := by
  have e : adm h ms 0 = fun _ => false := funext fun c => by
    unfold adm
    rw [List.take_zero, decide_eq_false (by simp), Bool.and_false]
  rw [e]
  unfold grow
  rw [if_neg (show ¬ false = true by decide), List.append_nil]
  exact range_hAt h
theorem grow_opn {h : List Nat} {g : Nat → Bool} (hg : ∀ c, g c = true → opn h c = true) {c : Nat} (o : opn h c = true) (q : g c = false) : opn (grow h g) c = true := by
  unfold opn
  by_cases z : c = 0
  · rw [decide_eq_true z, Bool.true_or]
  · obtain ⟨e, rfl⟩ : ∃ e, c = e + 1 := ⟨c - 1, by omega⟩
    have a := opn_lt o
    have b : hAt (grow h g) (e + 1) < hAt (grow h g) (e + 1 - 1) := by
      rw [hAt_grow hg, hAt_grow hg, q, show e + 1 - 1 = e by omega]
      have : b2n false = 0 := rfl
      omega
    rw [decide_eq_true b, Bool.or_true]
theorem grow_dg {h : List Nat} {g : Nat → Bool} (hg : ∀ c, g c = true → opn h c = true) {c : Nat} (q : g c = false) : dg (grow h g) c = dg h c := by
  unfold dg
  rw [hAt_grow hg, q]
  rfl
theorem adm_no {h : List Nat} (_ : IsHeap h) {ms : List Int} (nd : ms.Nodup) {i c : Nat} (hi : ms[i]? = some (dg h c)) : adm h ms i c = false := by
  unfold adm
  have : ¬ dg h c ∈ ms.take i := fun z => by
    obtain ⟨j, hj, e⟩ := List.getElem_of_mem z
    rw [List.length_take] at hj
    obtain ⟨hi', e'⟩ := List.getElem?_eq_some_iff.mp hi
    rw [List.getElem_take] at e
    have := (List.nodup_iff_pairwise_ne.mp nd)
    have := List.pairwise_iff_getElem.mp this j i (by omega) hi' (by omega)
    exact this (e.trans e'.symm)
  rw [decide_eq_false this, Bool.and_false]
theorem adm_next {h : List Nat} (H : IsHeap h) {ms : List Int} (nd : ms.Nodup) {i c : Nat} (o : opn h c = true) (hi : ms[i]? = some (dg h c)) {g1 : Nat → Bool} (hg1 : ∀ x, g1 x = (c == x)) :
    grow (grow h (adm h ms i)) g1 = grow h (adm h ms (i + 1)) := by
  have no := adm_no H nd hi
  have h1 : IsHeap (grow h (adm h ms i)) := grow_heap H adm_opn
  have o1 : ∀ x, g1 x = true → opn (grow h (adm h ms i)) x = true := fun x z => by
    rw [hg1] at z
    have e : c = x := by simpa using z
    subst e
    exact grow_opn adm_opn o no
  refine heap_ext (grow_heap h1 o1) (grow_heap H adm_opn) fun x => ?_
  rw [hAt_grow o1, hAt_grow adm_opn, hAt_grow adm_opn, hg1]
  by_cases e : c = x
  · subst e
    have yes : adm h ms (i + 1) c = true := by
      unfold adm
      rw [o, List.take_add_one, hi, decide_eq_true (by simp)]
      rfl
    rw [no, yes, beq_self_eq_true]
    rfl
  · have e2 : (c == x) = false := by simpa using e
    have e3 : adm h ms (i + 1) x = adm h ms i x := by
      unfold adm
      have : (dg h x ∈ ms.take (i + 1)) ↔ dg h x ∈ ms.take i := by
        rw [List.take_add_one, hi, List.mem_append]
        constructor
        · rintro (z | z)
          · exact z
          · have : dg h x = dg h c := by simpa using z
            exact absurd (dg_inj H this).symm e
        · exact Or.inl
      rw [decide_eq_decide.mpr this]
    rw [e2, e3]
    rfl
end HM

/-! plain mathematics of heaps: what two have in common, what one holds, heaps turned over -/
namespace HM
theorem nat_ext {a b : Nat} (h : ∀ c, c < a ↔ c < b) : a = b := by
  rcases Nat.lt_trichotomy a b with q | q | q
  · exact absurd ((h a).mpr q) (Nat.lt_irrefl a)
  · exact q
  · exact absurd ((h b).mp q) (Nat.lt_irrefl b)
/-- the open columns whose diagonal is let -/
def gp (p : Int → Bool) (h : List Nat) (c : Nat) : Bool := opn h c && p (dg h c)
theorem gp_opn {p : Int → Bool} {h : List Nat} (c : Nat) (z : gp p h c = true) : opn h c = true := (Bool.and_eq_true_iff.mp z).1
/-! ### what two heaps have in common -/
def meet (a b : List Nat) : List Nat := (List.range (min a.length b.length)).map fun c => min (hAt a c) (hAt b c)
theorem hAt_meet (a b : List Nat) (c : Nat) : hAt (meet a b) c = min (hAt a c) (hAt b c) := by
  by_cases q : c < min a.length b.length
  · unfold hAt meet
    rw [List.getD_eq_getElem?_getD, List.getElem?_map, List.getElem?_range q]
    rfl
  · rw [hAt_ge (show (meet a b).length ≤ c by unfold meet; rw [List.length_map, List.length_range]; omega)]
    by_cases u : c < a.length
    · rw [hAt_ge (show b.length ≤ c by omega), Nat.min_zero]
    · rw [hAt_ge (show a.length ≤ c by omega), Nat.zero_min]
theorem meet_len (a b : List Nat) : (meet a b).length = min a.length b.length := by
  unfold meet
  rw [List.length_map, List.length_range]
theorem meet_heap {a b : List Nat} (A : IsHeap a) (B : IsHeap b) : IsHeap (meet a b) := by
  refine ⟨fun c hc => ?_, fun c => ?_⟩
  · rw [meet_len] at hc
    rw [hAt_meet]
    have := A.pos c (by omega)
    have := B.pos c (by omega)
    omega
  · rw [hAt_meet, hAt_meet]
    have := A.fall c
    have := B.fall c
    omega
theorem opn_iff {h : List Nat} {c : Nat} : opn h c = true ↔ (c = 0 ∨ hAt h c < hAt h (c - 1)) := by
  unfold opn
  rw [Bool.or_eq_true, decide_eq_true_iff, decide_eq_true_iff]
theorem bool_ext {a b : Bool} (h : a = true ↔ b = true) : a = b := by
  cases a <;> cases b <;> simp_all
theorem meet_gp {p : Int → Bool} {a b : List Nat} (B : IsHeap b) {c : Nat} (q : hAt a c < hAt b c) : gp p (meet a b) c = gp p a c := by
  have e : hAt (meet a b) c = hAt a c := by
    rw [hAt_meet]
    omega
  have d : dg (meet a b) c = dg a c := by
    unfold dg
    rw [e]
  have o : opn (meet a b) c = opn a c := bool_ext (by
    rw [opn_iff, opn_iff, e, hAt_meet]
    have := B.le (show c - 1 ≤ c by omega)
    omega)
  unfold gp
  rw [d, o]
theorem meet_comm (a b : List Nat) : meet a b = meet b a := by
  unfold meet
  rw [Nat.min_comm]
  exact List.map_congr_left fun c _ => Nat.min_comm _ _
theorem meet_gp2 {p : Int → Bool} {a b : List Nat} {c : Nat} (q : hAt a c = hAt b c) : gp p (meet a b) c = (gp p a c && gp p b c) := by
  have e : hAt (meet a b) c = hAt a c := by
    rw [hAt_meet]
    omega
  have d : dg (meet a b) c = dg a c := by
    unfold dg
    rw [e]
  have d2 : dg b c = dg a c := by
    unfold dg
    rw [q]
  have o : opn (meet a b) c = (opn a c && opn b c) := bool_ext (by
    rw [Bool.and_eq_true, opn_iff, opn_iff, opn_iff, e, hAt_meet, ← q]
    omega)
  unfold gp
  rw [d, d2, o]
  cases opn a c <;> cases opn b c <;> cases p (dg a c) <;> rfl
theorem meet_grow {p : Int → Bool} {a b : List Nat} (A : IsHeap a) (B : IsHeap b) : grow (meet a b) (gp p (meet a b)) = meet (grow a (gp p a)) (grow b (gp p b)) := by
  refine heap_ext (grow_heap (meet_heap A B) gp_opn) (meet_heap (grow_heap A gp_opn) (grow_heap B gp_opn)) fun c => ?_
  rw [hAt_grow gp_opn, hAt_meet, hAt_meet, hAt_grow gp_opn, hAt_grow gp_opn]
  rcases Nat.lt_trichotomy (hAt a c) (hAt b c) with q | q | q
  · rw [meet_gp B q]
    have := b2n_le (gp p a c)
    omega
  · rw [meet_gp2 q, q]
    cases gp p a c <;> cases gp p b c <;> (unfold b2n; simp) <;> omega
  · rw [meet_comm, meet_gp A q]
    have := b2n_le (gp p b c)
    omega
/-! ### what is held -/
def Sub (f h : List Nat) : Prop := ∀ c, hAt f c ≤ hAt h c
theorem Sub.refl (h : List Nat) : Sub h h := fun _ => Nat.le_refl _
theorem Sub.len {f h : List Nat} (F : IsHeap f) (s : Sub f h) : f.length ≤ h.length := by
  rcases Nat.lt_or_ge h.length f.length with q | q
  · have a := F.pos _ q
    have b := s h.length
    rw [hAt_ge (Nat.le_refl _)] at b
    omega
  · exact q
theorem sub_grow {p : Int → Bool} {f h : List Nat} {g : Nat → Bool} (s : Sub f h) (hg : ∀ c, g c = true → gp p f c = true) : Sub (grow f g) (grow h (gp p h)) := fun c => by
  rw [hAt_grow fun c z => gp_opn c (hg c z), hAt_grow gp_opn]
  have a := s c
  by_cases q : g c = true
  · have z := hg c q
    by_cases e : hAt f c < hAt h c
    · have := b2n_le (g c)
      omega
    · have e2 : hAt f c = hAt h c := by omega
      have : gp p h c = true := by
        unfold gp at z ⊢
        rw [Bool.and_eq_true] at z ⊢
        refine ⟨opn_iff.mpr ?_, ?_⟩
        · have := opn_iff.mp z.1
          have := s (c - 1)
          omega
        · have d : dg h c = dg f c := by
            unfold dg
            rw [e2]
          rw [d]
          exact z.2
      rw [q, this]
      omega
  · have : g c = false := by simpa using q
    rw [this]
    show _ + 0 ≤ _
    omega
theorem sub_more {f h : List Nat} {g : Nat → Bool} (s : Sub f h) (hg : ∀ c, g c = true → opn h c = true) : Sub f (grow h g) := fun c => by
  rw [hAt_grow hg]
  have := s c
  omega
/-! ### turned over -/
def conj (h : List Nat) : List Nat := (List.range (hAt h 0)).map fun r => (h.filter fun x => decide (r < x)).length
theorem IsHeap.pairs {h : List Nat} (H : IsHeap h) : h.Pairwise (fun a b => b ≤ a) := by
  refine List.pairwise_iff_getElem.mpr fun i j hi hj hij => ?_
  have := H.le (Nat.le_of_lt hij)
  have a := hAt_lt hi
  have b := hAt_lt hj
  rw [List.getElem?_eq_getElem hi] at a
  rw [List.getElem?_eq_getElem hj] at b
  rw [Option.some.inj a, Option.some.inj b]
  exact this
theorem cnt_iff : ∀ (l : List Nat), l.Pairwise (fun a b => b ≤ a) → ∀ c r, c < (l.filter fun x => decide (r < x)).length ↔ r < hAt l c
  | [], _, c, r => by
    rw [hAt_ge (Nat.zero_le _)]
    constructor
    · intro z
      exact absurd z (Nat.not_lt_zero c)
    · intro z
      exact absurd z (Nat.not_lt_zero r)
  | x :: l, hp, c, r => by
    obtain ⟨h1, h2⟩ := List.pairwise_cons.mp hp
    by_cases q : r < x
    · rw [List.filter_cons, if_pos (decide_eq_true q), List.length_cons]
      cases c with
      | zero => exact ⟨fun _ => q, fun _ => Nat.zero_lt_succ _⟩
      | succ c =>
        have := cnt_iff l h2 c r
        show c + 1 < _ + 1 ↔ r < hAt l c
        omega
    · have none : ∀ y ∈ x :: l, ¬ r < y := fun y hy => by
        rcases List.mem_cons.mp hy with rfl | hy
        · exact q
        · have := h1 y hy
          omega
      have e : ((x :: l).filter fun y => decide (r < y)) = [] := List.filter_eq_nil_iff.mpr fun y hy => by
        rw [decide_eq_false (none y hy)]
        decide
      rw [e]
      constructor
      · intro z
        exact absurd z (Nat.not_lt_zero c)
      · intro z
        by_cases u : c < (x :: l).length
        · exact absurd z (none _ (List.mem_of_getElem? (hAt_lt u)))
        · rw [hAt_ge (by omega)] at z
          exact absurd z (Nat.not_lt_zero r)
theorem conj_len (h : List Nat) : (conj h).length = hAt h 0 := by
  unfold conj
  rw [List.length_map, List.length_range]
theorem conj_iff {h : List Nat} (H : IsHeap h) (c r : Nat) : c < hAt (conj h) r ↔ r < hAt h c := by
  by_cases q : r < hAt h 0
  · have e : hAt (conj h) r = (h.filter fun x => decide (r < x)).length := by
      unfold hAt conj
      rw [List.getD_eq_getElem?_getD, List.getElem?_map, List.getElem?_range q]
      rfl
    rw [e]
    exact cnt_iff h H.pairs c r
  · rw [hAt_ge (by rw [conj_len]; omega)]
    have := H.le (Nat.zero_le c)
    constructor
    · intro z
      exact absurd z (Nat.not_lt_zero c)
    · intro z
      omega
theorem conj_heap {h : List Nat} (H : IsHeap h) : IsHeap (conj h) := by
  refine ⟨fun r hr => ?_, fun r => ?_⟩
  · rw [conj_len] at hr
    exact (conj_iff H 0 r).mpr hr
  · rcases Nat.lt_or_ge (hAt (conj h) r) (hAt (conj h) (r + 1)) with z | z
    · have a := (conj_iff H _ _).mp z
      exact absurd ((conj_iff H (hAt (conj h) r) r).mpr (by omega)) (Nat.lt_irrefl _)
    · exact z
theorem turn_sq {p p' : Int → Bool} (hp : ∀ z, p z = true → p' (-z) = true) {h k : List Nat} (hk : ∀ c r, c < hAt k r ↔ r < hAt h c) {c : Nat} (g : gp p h c = true) : c = hAt k (hAt h c) ∧ gp p' k (hAt h c) = true := by
  unfold gp at g
  obtain ⟨o, z⟩ := Bool.and_eq_true_iff.mp g
  have o' := opn_iff.mp o
  have e : hAt k (hAt h c) = c := by
    have a : ¬ c < hAt k (hAt h c) := fun z => absurd ((hk _ _).mp z) (Nat.lt_irrefl _)
    rcases Nat.lt_or_ge (hAt k (hAt h c)) c with q | q
    · have b : ¬ (c - 1 < hAt k (hAt h c)) := by omega
      rw [hk] at b
      omega
    · omega
  refine ⟨e.symm, ?_⟩
  unfold gp
  rw [Bool.and_eq_true]
  refine ⟨opn_iff.mpr ?_, ?_⟩
  · by_cases q : hAt h c = 0
    · exact .inl q
    · refine .inr ?_
      rw [e]
      exact (hk _ _).mpr (by omega)
  · have : dg k (hAt h c) = -(dg h c) := by
      unfold dg
      rw [e]
      omega
    rw [this]
    exact hp _ z
theorem conj_grow {p p' : Int → Bool} (hp : ∀ z, p' (-z) = p z) {h : List Nat} (H : IsHeap h) : conj (grow h (gp p h)) = grow (conj h) (gp p' (conj h)) := by
  have G := grow_heap H (gp_opn (p := p) (h := h))
  have C := conj_heap H
  refine heap_ext (conj_heap G) (grow_heap C gp_opn) fun r => nat_ext fun c => ?_
  rw [conj_iff G, hAt_grow gp_opn, hAt_grow gp_opn]
  have k := conj_iff H c r
  by_cases q : r < hAt h c
  · have := k.mpr q
    omega
  · have q2 : ¬ c < hAt (conj h) r := fun z => q (k.mp z)
    constructor
    · intro z
      cases u : gp p h c with
      | false =>
        rw [u] at z
        exact absurd z (by show ¬ r < hAt h c + 0; omega)
      | true =>
        rw [u] at z
        have z' : r < hAt h c + 1 := z
        have e : r = hAt h c := by omega
        obtain ⟨a, b⟩ := turn_sq (p := p) (p' := p') (fun z y => (hp z).trans y) (conj_iff H) u
        subst e
        rw [b]
        show c < _ + 1
        omega
    · intro z
      cases u : gp p' (conj h) r with
      | false =>
        rw [u] at z
        exact absurd z (by show ¬ c < hAt (conj h) r + 0; omega)
      | true =>
        rw [u] at z
        have z' : c < hAt (conj h) r + 1 := z
        have e : c = hAt (conj h) r := by omega
        have back : ∀ y, p' y = true → p (-y) = true := fun y hy => by
          have := hp (-y)
          rw [Int.neg_neg] at this
          rw [← this]
          exact hy
        obtain ⟨a, b⟩ := turn_sq (p := p') (p' := p) back (h := conj h) (k := h) (fun c r => (conj_iff H r c).symm) u
        subst e
        rw [b]
        show r < _ + 1
        omega
end HM

/-! own rules: xs[i] op= e of a list; range(n) as a value, walked later -/
namespace LX
open PySem PySem.Spec PyProof.Rows L2
section
variable {X : Cx}
/-- xs[i] by values, 0 ≤ i -/
def rGetL (K : PySem.W.Frag) : V → V → Hp → VK → Prop := fun o i H Q => ∃ (a : Addr) (ys : List V) (j : Nat) (v : V), o = .ref a ∧ i = .int (j : Int) ∧ SqL K H a ys ∧ ys[j]? = some v ∧ Q v H
theorem get_list : PGet X (rGetL X.K) := by
  intro pins s σ H o i ov iv Q I ro ri h
  obtain ⟨a, ys, j, v, rfl, rfl, hq, hv, q⟩ := h
  cases ro
  obtain ⟨t, rfl⟩ := ri
  obtain ⟨its, r, pl, hz⟩ := I.list hq
  obtain ⟨u, hu, ru⟩ := r.get hv
  have hn := line63
  have hj := (List.getElem?_eq_some_iff.mp hu).1
  have hl := r.length
  exact wpAny_getItem_list pl.isList (by omega) (by omega) (by simpa using hu) ⟨v, H, I, ru, q⟩
/-- range(n), a new range object -/
theorem cr_range1 : CallR X (.type "range") (fun vs H Q => ∃ j, vs = [V.int j] ∧ ∀ p, H p = none → Q (.ref p) (upd H p (.rng 0 j))) := by
  intro pins s σ H vs us Q I r h
  obtain ⟨j, rfl, q⟩ := h
  obtain ⟨u1, rfl, rj⟩ := vals1 r
  obtain ⟨t, rfl⟩ := rj
  have nw : ObjOk X.prog X.w (upd H s.heap.objs.size (.rng 0 j)) (s.heap.push { cls := .type "range", data := .fields #[.int 0 s.toks, .int j t, .int 1 (s.toks + 1)] }) s.heap.objs.size (.rng 0 j) := ⟨s.toks, t, s.toks + 1, Heap.get?_push_size _ rfl⟩
  exact call_range_1 ⟨.ref s.heap.objs.size, _, I.laid (t' := s.toks + 1 + 1) (fun b o e => Heap.get?_push_of_some _ e) (Nat.le_refl _) nw, rfl, q _ (I.hok.fresh (Nat.le_refl _))⟩
/-- a range object that stands, walked -/
def iRngV (te : TE) : TI := fun σ H R => te σ H fun x H1 => ∃ (p : Addr) (lo hi : Int), x = .ref p ∧ H1 p = some (.rng lo hi) ∧ (-(2 ^ 62) ≤ lo ∧ lo < 2 ^ 62 ∧ -(2 ^ 62) ≤ hi ∧ hi < 2 ^ 62) ∧ R (Itr lo (hi - lo).toNat) H1
theorem pi_rngV {tg e : Expr} {te : TE} (he : PE X e te) : PI X tg e (iRngV te) := by
  refine ⟨fun pins s σ H R I h => ?_⟩
  refine thn (he.run pins s σ H _ I h) fun u s1 ⟨x, H1, I1, r1, p, lo, hi, ex, hp, ⟨b1, b2, b3, b4⟩, q⟩ => ?_
  subst ex
  obtain rfl : u = Value.ref p := r1
  obtain ⟨t, u, v, g⟩ := (show ObjOk X.prog X.w H1 s1.heap p (.rng lo hi) from I1.hok p _ hp)
  refine wpAny_pyIter_range (s := s1) g (small_one b1 b2 b3 b4) ?_
  refine ⟨s1.heap.objs.size, [s1.heap.objs.size], _, _, H1, rfl, I1.kept (t' := s1.toks) fun b o e => Heap.get?_push_of_some _ e, turn_range _ lo (hi - lo).toNat, ?_, fun b hb => ?_, q⟩
  · have e1 : lo + ((0 : Nat) : Int) * 1 = lo := by simp
    have e2 : (((hi - lo).toNat : Nat) : Int) - ((0 : Nat) : Int) = Builtin.Range.rangeSize lo hi 1 := by
      rw [rangeSize_one]
      split <;> omega
    show IsRangeIter _ _ (lo + ((0 : Nat) : Int) * 1) ((((hi - lo).toNat : Nat) : Int) - ((0 : Nat) : Int)) 1
    rw [e1, e2]
    exact Heap.get?_push_size _ rfl
  · obtain rfl : b = s1.heap.objs.size := by simpa using hb
    exact I1.fpOk (Nat.le_refl _) (I1.hok.fresh (Nat.le_refl _))
end
end LX

namespace K1
open PySem PySem.Spec PyProof.Rows L2 Evl
/-! own words: comprehensions that map, without a test; nothing is changed -/
section
variable {K : PySem.W.Frag} {g : TG} {te : TE} {vs : List Nat} {σ : L2.St} {H1 : Hp} {D : Addr} {Qd : Hp → Prop}
theorem lc_tupM {a : Addr} {xs : List V} (f : Nat → V) (hD : H1 D = none) (ha : H1 a = some (.tup xs)) (hl : xs.length ≤ 1000)
    (hs : ∀ i x H (Qk : VK), xs[i]? = some x → Ex H1 H → (∀ H4, Ex H H4 → Qk (f i) H4) → g x (wipe σ vs) H fun σ2 H2 => wipe σ2 vs = wipe σ vs ∧ te σ2 H2 Qk)
    (hd : ∀ H, Ex H1 H → H D = some (.lst ((List.range xs.length).map f)) → Qd H) :
    ∃ W : Nat → Nat → Hp → Prop, (∃ m, W 0 m (upd H1 D (.lst []))) ∧ ∀ i m H, W i m H →
      ((Itt K a).stop i H ∧ Qd H) ∨ ((Itt K a).go i H ∧ ∃ Nx : Hp → Prop, (∀ H', Nx H' → ∃ m', m' < m ∧ W (i + 1) m' H') ∧ ∀ x H', (Itt K a).yld i H x H' → g x (wipe σ vs) H' fun σ2 H2 => wipe σ2 vs = wipe σ vs ∧ tYes σ2 H2 fun b H3 =>
        if b = true then te σ2 H3 fun y H4 => ∃ acc, H4 D = some (.lst acc) ∧ acc.length < sizeLine ∧ Nx (upd H4 D (.lst (acc ++ [y]))) else Nx H3) := by
  refine lc_tup (K := K) (a := a) (xs := xs) (fun i H' => H' D = some (.lst ((List.range i).map f)) ∧ Ex H1 H') ⟨upd_same, Ex.new hD⟩ (fun i H' _ hp => SqT.of (hp.2 _ _ ha)) (fun i x H' hx hp => ?_) (fun H hp => hd H hp.2 hp.1)
  have hi := (List.getElem?_eq_some_iff.mp hx).1
  refine hs i x H' _ hx hp.2 fun H4 e4 => ⟨_, e4 _ _ hp.1, ?_, ?_, Ex.mut (hp.2.trans e4) hD⟩
  · rw [List.length_map, List.length_range]
    exact small1000 (by omega)
  · rw [upd_same, List.range_succ, List.map_append]
    rfl
theorem lc_listM {a : Addr} {xs : List V} (f : Nat → V) (hD : H1 D = none) (ha : H1 a = some (.lst xs)) (hl : xs.length ≤ 1000)
    (hs : ∀ i x H (Qk : VK), xs[i]? = some x → Ex H1 H → (∀ H4, Ex H H4 → Qk (f i) H4) → g x (wipe σ vs) H fun σ2 H2 => wipe σ2 vs = wipe σ vs ∧ te σ2 H2 Qk)
    (hd : ∀ H, Ex H1 H → H D = some (.lst ((List.range xs.length).map f)) → Qd H) :
    ∃ W : Nat → Nat → Hp → Prop, (∃ m, W 0 m (upd H1 D (.lst []))) ∧ ∀ i m H, W i m H →
      ((Itl K a).stop i H ∧ Qd H) ∨ ((Itl K a).go i H ∧ ∃ Nx : Hp → Prop, (∀ H', Nx H' → ∃ m', m' < m ∧ W (i + 1) m' H') ∧ ∀ x H', (Itl K a).yld i H x H' → g x (wipe σ vs) H' fun σ2 H2 => wipe σ2 vs = wipe σ vs ∧ tYes σ2 H2 fun b H3 =>
        if b = true then te σ2 H3 fun y H4 => ∃ acc, H4 D = some (.lst acc) ∧ acc.length < sizeLine ∧ Nx (upd H4 D (.lst (acc ++ [y]))) else Nx H3) := by
  refine lc_list (K := K) (a := a) (xs := xs) (fun i H' => H' D = some (.lst ((List.range i).map f)) ∧ Ex H1 H') ⟨upd_same, Ex.new hD⟩ (fun i H' _ hp => SqL.of (hp.2 _ _ ha)) (fun i x H' hx hp => ?_) (fun H hp => hd H hp.2 hp.1)
  have hi := (List.getElem?_eq_some_iff.mp hx).1
  refine hs i x H' _ hx hp.2 fun H4 e4 => ⟨_, e4 _ _ hp.1, ?_, ?_, Ex.mut (hp.2.trans e4) hD⟩
  · rw [List.length_map, List.length_range]
    exact small1000 (by omega)
  · rw [upd_same, List.range_succ, List.map_append]
    rfl
theorem lc_rangeM {lo : Int} {n : Nat} (f : Nat → V) (hD : H1 D = none) (hl : n ≤ 1000)
    (hs : ∀ i H (Qk : VK), i < n → Ex H1 H → (∀ H4, Ex H H4 → Qk (f i) H4) → g (.int (lo + i)) (wipe σ vs) H fun σ2 H2 => wipe σ2 vs = wipe σ vs ∧ te σ2 H2 Qk)
    (hd : ∀ H, Ex H1 H → H D = some (.lst ((List.range n).map f)) → Qd H) :
    ∃ W : Nat → Nat → Hp → Prop, (∃ m, W 0 m (upd H1 D (.lst []))) ∧ ∀ i m H, W i m H →
      ((Itr lo n).stop i H ∧ Qd H) ∨ ((Itr lo n).go i H ∧ ∃ Nx : Hp → Prop, (∀ H', Nx H' → ∃ m', m' < m ∧ W (i + 1) m' H') ∧ ∀ x H', (Itr lo n).yld i H x H' → g x (wipe σ vs) H' fun σ2 H2 => wipe σ2 vs = wipe σ vs ∧ tYes σ2 H2 fun b H3 =>
        if b = true then te σ2 H3 fun y H4 => ∃ acc, H4 D = some (.lst acc) ∧ acc.length < sizeLine ∧ Nx (upd H4 D (.lst (acc ++ [y]))) else Nx H3) := by
  refine lc_range (lo := lo) (n := n) (fun i H' => H' D = some (.lst ((List.range i).map f)) ∧ Ex H1 H') ⟨upd_same, Ex.new hD⟩ (fun i H' hi hp => ?_) (fun H hp => hd H hp.2 hp.1)
  refine hs i H' _ hi hp.2 fun H4 e4 => ⟨_, e4 _ _ hp.1, ?_, ?_, Ex.mut (hp.2.trans e4) hD⟩
  · rw [List.length_map, List.length_range]
    exact small1000 (by omega)
  · rw [upd_same, List.range_succ, List.map_append]
    rfl
end
theorem mapI (n : Nat) (f : Nat → Int) : (List.range n).map (fun i => V.int (f i)) = ((List.range n).map f).map V.int := by
  rw [List.map_map]
  rfl
theorem mapB (n : Nat) (b : Bool) : (List.range n).map (fun _ => V.bl b) = (List.replicate n b).map V.bl := by
  rw [List.map_replicate, List.map_const', List.length_range]
theorem all_rep (n : Nat) : (List.replicate n true).all id = true := by simp
theorem any_rep (n : Nat) : (List.replicate n false).any id = false := by simp
theorem range_getD (ns : List Int) (f : Int → Int) : (List.range ns.length).map (fun i => f (ns.getD i 0)) = ns.map f := by
  refine List.ext_getElem (by rw [List.length_map, List.length_map, List.length_range]) fun i h1 h2 => ?_
  rw [List.length_map] at h2
  rw [List.getElem_map, List.getElem_map, List.getElem_range, List.getD_eq_getElem?_getD, List.getElem?_eq_getElem h2]
  rfl
end K1

/-! own walk: zip of a list and a tuple -/
namespace ZM
open PySem PySem.Spec PyProof.Rows L2
/-- a list and a tuple, their items in new pairs -/
def ItM (K : PySem.W.Frag) (a b : Addr) : It :=
  ⟨fun i H => ∃ (xs ys : List V) (x y : V), SqL K H a xs ∧ SqT K H b ys ∧ xs[i]? = some x ∧ ys[i]? = some y,
    fun i H v H' => ∃ T x y, v = .ref T ∧ H T = none ∧ H' = upd H T (.tup [x, y]) ∧ (∀ xs, SqL K H a xs → xs[i]? = some x) ∧ ∀ ys, SqT K H b ys → ys[i]? = some y,
    fun i H => ∃ xs ys : List V, SqL K H a xs ∧ SqT K H b ys ∧ xs.length = i ∧ ys.length = i⟩
theorem turnM {P : Program} {w : World} {K : PySem.W.Frag} {elts : List Expr} {kk : Nat} {tpos : Pos} {a b z TI TO i1 i2 : Addr} (S : ZipSep2 z TI TO i1 i2 [i1, a] [i2, b]) (na : a ≠ i1) (nb : b ≠ i2) (w1 : z ≠ i1 ∧ z ≠ i2) :
    Turn P w K (.Tuple elts kk tpos) (ItM K a b) [z, TI, TO, i1, i2] z (fun i h => IsZip h z TI TO .none ∧ IsTupOf2 h TI (.ref i1) (.ref i2) ∧ (∃ x y, IsTupOf2 h TO x y) ∧ h.IsListIter i1 a i ∧ h.IsTupleIter i2 b i) where
  mem := by simp
  obj := fun i h st t ht => by
    obtain ⟨hz, hTI, ⟨x, y, hTO⟩, ⟨o1, e1, _, d1⟩, ⟨o2, e2, _, d2⟩⟩ := st
    rcases (show t = z ∨ t = TI ∨ t = TO ∨ t = i1 ∨ t = i2 by simpa using ht) with q | q | q | q | q
    · rw [q]
      exact ⟨_, hz, fun v q => nomatch q⟩
    · rw [q]
      exact ⟨_, hTI, fun v q => nomatch q⟩
    · rw [q]
      exact ⟨_, hTO, fun v q => nomatch q⟩
    · exact ⟨o1, q ▸ e1, fun v q => by rw [d1] at q; cases q⟩
    · exact ⟨o2, q ▸ e2, fun v q => by rw [d2] at q; cases q⟩
  keep := fun i h h' st k => by
    obtain ⟨hz, hTI, ⟨x, y, hTO⟩, h1, h2⟩ := st
    exact ⟨k z (by simp) _ hz, k TI (by simp) _ hTI, ⟨x, y, k TO (by simp) _ hTO⟩, h1.at fun o q => k i1 (by simp) o q, h2.at fun o q => k i2 (by simp) o q⟩
  item := by
    intro X eP eW eK hc i pins s σ H E I hf st hg
    subst eP eW eK
    obtain ⟨hz, hTI, ⟨x0, y0, hTO⟩, h1, h2⟩ := st
    obtain ⟨xs, ys, x, y, qx, qy, gx, gy⟩ := hg
    obtain ⟨t1, r1, p1, _⟩ := I.list qx
    obtain ⟨t2, r2, p2, _⟩ := I.tuple qy
    obtain ⟨v1, m1, rv1⟩ := r1.get gx
    obtain ⟨v2, m2, rv2⟩ := r2.get gy
    have l1 : i < t1.toArray.size := by simpa using (List.getElem?_eq_some_iff.mp m1).1
    have l2 : i < t2.toArray.size := by simpa using (List.getElem?_eq_some_iff.mp m2).1
    have hzl : z < s.heap.objs.size := Heap.lt_size hz
    have hh : X.A.in1.handled = none := I.ok.hd hc
    refine wpAny_pyNext_zipD2_item S (Draws.list hh i1 a na t1.toArray) (Draws.tuple hh i2 b nb t2.toArray) hz hTI hTO ⟨h1, p1.isList⟩ ⟨h2, p2⟩ l1 l2 fun w1' w2' h' tk g1 g2 zz tt s1 s2 hT hsz hk => ?_
    have a1 : w1' = v1 := Option.some.inj (g1.symm.trans (by simpa using m1))
    have a2 : w2' = v2 := Option.some.inj (g2.symm.trans (by simpa using m2))
    subst a1 a2
    refine ⟨_, rfl, wpAny_letOwnedTupleGo_zip (s := { s with heap := h', toks := tk }) zz fun h2' z2 sb => ?_⟩
    have hT2 : h2'.get? s.heap.objs.size = some { cls := .type "tuple", data := .seq #[w1', w2'] } := (sb.2 _ (Nat.ne_of_gt hzl)).trans hT
    have made : ObjOk X.prog X.w (upd H s.heap.objs.size (.tup [x, y])) h2' s.heap.objs.size (.tup [x, y]) :=
      ⟨by show 2 ≤ sizeLine; decide, [w1', w2'], .cons rv1 (.cons rv2 .nil), ⟨_, hT2, rfl, _, rfl⟩⟩
    have I2 : Inv X pins σ (upd H s.heap.objs.size (.tup [x, y])) { s with heap := h2', toks := tk } :=
      I.turnedNew (ch := [z, TI, TO, i1, i2]) (fun t o ht q => (sb.2 t (fun e => ht (by simp [e]))).trans (hk t o (fun e => ht (by simp [e])) (fun e => ht (by simp [e])) (fun e => ht (by simp [e])) (fun e => ht (by simp [e])) q)) hf (Nat.le_refl _) made
    refine ⟨.ref s.heap.objs.size, _, I2, rfl, ⟨_, x, y, rfl, I.hok.fresh (Nat.le_refl _), rfl, fun l hl => by rw [I.list_inj hl qx]; exact gx, fun l hl => by rw [I.tuple_inj hl qy]; exact gy⟩,
      ⟨z2, (sb.2 _ S.TIz).trans (hk _ _ S.TIz S.TITO S.TIi1 S.TIi2 hTI), ⟨w1', w2', (sb.2 _ S.TOz).trans tt⟩, s1.1.at fun o q => (sb.2 _ w1.1.symm).trans q, s2.1.at fun o q => (sb.2 _ w1.2.symm).trans q⟩, fun t ht => ?_⟩
    have lt : t < s.heap.objs.size := by
      rcases (show t = z ∨ t = TI ∨ t = TO ∨ t = i1 ∨ t = i2 by simpa using ht) with q | q | q | q | q
      · exact q ▸ hzl
      · exact q ▸ Heap.lt_size hTI
      · exact q ▸ Heap.lt_size hTO
      · obtain ⟨_, e, _⟩ := h1
        exact q ▸ Heap.lt_size e
      · obtain ⟨_, e, _⟩ := h2
        exact q ▸ Heap.lt_size e
    rw [upd_ne (Nat.ne_of_lt lt)]
    exact (hf t ht).1
  done := by
    intro X eP eW eK hc i pins s σ H E I hf st hg
    subst eP eW eK
    obtain ⟨hz, hTI, ⟨x0, y0, hTO⟩, h1, h2⟩ := st
    obtain ⟨xs, ys, qx, qy, gx, gy⟩ := hg
    obtain ⟨t1, r1, p1, _⟩ := I.list qx
    obtain ⟨t2, r2, p2, _⟩ := I.tuple qy
    have k1 := r1.length
    have k2 := r2.length
    have hh : X.A.in1.handled = none := I.ok.hd hc
    exact wpAny_pyNext_zipD2_end S (Draws.list hh i1 a na t1.toArray) (Draws.tuple hh i2 b nb t2.toArray) hz hTI hTO ⟨h1, p1.isList⟩ ⟨h2, p2⟩ (by rw [List.size_toArray]; omega) (by rw [List.size_toArray]; omega) (.inl (by rw [List.size_toArray]; omega))
      fun h' tk hk => ⟨rfl, I.turnedL (ch := [z, TI, TO, i1, i2]) (fun t o ht q => hk t o (fun e => ht (by simp [e])) (fun e => ht (by simp [e])) (fun e => ht (by simp [e])) (fun e => ht (by simp [e])) q) hf⟩
  self := fun A i s Q E st h => wpAny_pyIter_zip st.1 h
def iZipM (K : PySem.W.Frag) (ta : TA) : TI := fun σ H R => ta σ H fun vs H1 => ∃ a b xs ys, vs = [.ref a, .ref b] ∧ SqL K H1 a xs ∧ SqT K H1 b ys ∧ R (ItM K a b) H1
theorem pi_zipM {X : Cx} {e e2 : Expr} {ta : TA} {p pos tpos : Pos} {elts : List Expr} {kk : Nat} (hg : Gl X "zip") (hm : X.mg "zip" = none) (ha : PA X [e, e2] ta)
    (hs : starEach [e, e2] X.env = (false, eval e X.env) :: starEach [e2] X.env := by rfl) (hpl : (backTo pos (starEach [e2] X.env)).any (·.1) = false := by rfl) :
    PI X (.Tuple elts kk tpos) (.Call (.Name "zip" p) [e, e2] [] pos) (iZipM X.K ta) := by
  refine ⟨fun pins s σ H R I h => ?_⟩
  refine Call_ (ld_blt I hg hm PyProof.Rows.boot_zip (PyProof.Rows.callWith_type1 (thn (ha.run pos pins s σ H _ I h) fun vs' s1 ⟨vs, H1, I1, r1, q1⟩ => ?_) hs hpl))
  obtain ⟨a, b, xs, ys, ex, qx, qy, q⟩ := q1
  subst ex
  obtain ⟨t1, r1', p1, _⟩ := I1.list qx
  obtain ⟨t2, r2', p2, _⟩ := I1.tuple qy
  cases r1 with
  | cons ra rr =>
    cases rr with
    | cons rb rr =>
      cases rr
      cases ra
      cases rb
      have la : a < s1.heap.objs.size := by
        obtain ⟨_, e, _⟩ := p1.isList
        exact Heap.lt_size e
      have lb : b < s1.heap.objs.size := by
        obtain ⟨_, e, _⟩ := p2
        exact Heap.lt_size e
      refine zip_begins2 (begins_list a t1.toArray) (begins_tuple b t2.toArray) p1.isList p2 fun h' hz hTI hTO g1 g2 _ hk => wpAny_pyIter_zip hz ?_
      have I2 : Inv X pins σ H1 { s1 with heap := h' } := I1.kept (t' := s1.toks) hk
      have S : ZipSep2 (s1.heap.objs.size + 4) (s1.heap.objs.size + 2) (s1.heap.objs.size + 3) s1.heap.objs.size (s1.heap.objs.size + 1) [s1.heap.objs.size, a] [s1.heap.objs.size + 1, b] :=
        zip_sep2 (fun t ht => by rw [List.mem_singleton.mp ht]; exact la) (fun t ht => by rw [List.mem_singleton.mp ht]; exact lb)
      have add : ∀ {m k : Nat}, m ≠ k → s1.heap.objs.size + m ≠ s1.heap.objs.size + k := fun n e => n (Nat.add_left_cancel e)
      refine ⟨s1.heap.objs.size + 4, [s1.heap.objs.size + 4, s1.heap.objs.size + 2, s1.heap.objs.size + 3, s1.heap.objs.size, s1.heap.objs.size + 1], _, _, H1, rfl, I2,
        turnM S (Nat.ne_of_lt la) (Nat.ne_of_lt (Nat.lt_succ_of_lt lb)) ⟨add (m := 4) (k := 0) (by decide), add (by decide)⟩,
        ⟨hz, hTI, ⟨_, _, hTO⟩, ⟨_, g1, rfl, rfl⟩, ⟨_, g2, rfl, rfl⟩⟩, fun t ht => ?_, q⟩
      have le : s1.heap.objs.size ≤ t := by
        rcases (show t = s1.heap.objs.size + 4 ∨ t = s1.heap.objs.size + 2 ∨ t = s1.heap.objs.size + 3 ∨ t = s1.heap.objs.size ∨ t = s1.heap.objs.size + 1 by simpa using ht) with q | q | q | q | q
        · exact q ▸ Nat.le_add_right _ _
        · exact q ▸ Nat.le_add_right _ _
        · exact q ▸ Nat.le_add_right _ _
        · exact q ▸ Nat.le_refl _
        · exact q ▸ Nat.le_add_right _ _
      exact I1.fpOk le (I1.hok.fresh le)
theorem lc_zipM {K : PySem.W.Frag} {a b : Addr} {xs ys : List V} {n : Nat} {g : TG} {tt : TT} {te : TE} {vs : List Nat} {σ : L2.St} {H1 : Hp} {D : Addr} {Qd : Hp → Prop} (hx : xs.length = n) (hy : ys.length = n)
    (Pv : Nat → Hp → Prop) (h0 : Pv 0 (upd H1 D (.lst []))) (hq : ∀ i H, Pv i H → SqL K H a xs ∧ SqT K H b ys)
    (hs : ∀ i x y T H, i < n → xs[i]? = some x → ys[i]? = some y → Pv i H → H T = none → g (.ref T) (wipe σ vs) (upd H T (.tup [x, y])) fun σ2 H2 => wipe σ2 vs = wipe σ vs ∧ tt σ2 H2 fun c H3 =>
      if c = true then te σ2 H3 fun z H4 => ∃ acc, H4 D = some (.lst acc) ∧ acc.length < sizeLine ∧ Pv (i + 1) (upd H4 D (.lst (acc ++ [z]))) else Pv (i + 1) H3) (hd : ∀ H, Pv n H → Qd H) :
    ∃ W : Nat → Nat → Hp → Prop, (∃ m, W 0 m (upd H1 D (.lst []))) ∧ ∀ i m H, W i m H →
      ((ItM K a b).stop i H ∧ Qd H) ∨ ((ItM K a b).go i H ∧ ∃ Nx : Hp → Prop, (∀ H', Nx H' → ∃ m', m' < m ∧ W (i + 1) m' H') ∧ ∀ v H', (ItM K a b).yld i H v H' → g v (wipe σ vs) H' fun σ2 H2 => wipe σ2 vs = wipe σ vs ∧ tt σ2 H2 fun c H3 =>
        if c = true then te σ2 H3 fun z H4 => ∃ acc, H4 D = some (.lst acc) ∧ acc.length < sizeLine ∧ Nx (upd H4 D (.lst (acc ++ [z]))) else Nx H3) := by
  refine ⟨fun i m H => m = n - i ∧ i ≤ n ∧ Pv i H, ⟨n, (Nat.sub_zero n).symm, Nat.zero_le _, h0⟩, ?_⟩
  rintro i m H ⟨rfl, hi, p⟩
  obtain ⟨qa, qb⟩ := hq i H p
  by_cases hlt : i < n
  · have e1 : xs[i]? = some (xs[i]'(by omega)) := List.getElem?_eq_getElem _
    have e2 : ys[i]? = some (ys[i]'(by omega)) := List.getElem?_eq_getElem _
    refine .inr ⟨⟨xs, ys, _, _, qa, qb, e1, e2⟩, Pv (i + 1), fun H' p' => ⟨n - (i + 1), by omega, rfl, hlt, p'⟩, fun v H' hy' => ?_⟩
    obtain ⟨T, x, y, rfl, nT, rfl, fx, fy⟩ := hy'
    exact hs i x y T H hlt (fx _ qa) (fy _ qb) p nT
  · have e : i = n := by omega
    subst e
    exact .inl ⟨⟨xs, ys, qa, qb, hx, hy⟩, hd H p⟩
end ZM

/-! own walks: comprehensions and loops over zip and enumerate of tuples, zip of lists of any lengths -/
namespace ZW
open PySem PySem.Spec PyProof.Rows L2
theorem lc_zipT {K : PySem.W.Frag} {a b : Addr} {xs ys : List V} {n : Nat} {g : TG} {tt : TT} {te : TE} {vs : List Nat} {σ : L2.St} {H1 : Hp} {D : Addr} {Qd : Hp → Prop} (hx : n ≤ xs.length) (hy : n ≤ ys.length) (hn : xs.length ≤ n ∨ ys.length ≤ n)
    (Pv : Nat → Hp → Prop) (h0 : Pv 0 (upd H1 D (.lst []))) (hq : ∀ i H, Pv i H → SqT K H a xs ∧ SqT K H b ys)
    (hs : ∀ i x y T H, i < n → xs[i]? = some x → ys[i]? = some y → Pv i H → H T = none → g (.ref T) (wipe σ vs) (upd H T (.tup [x, y])) fun σ2 H2 => wipe σ2 vs = wipe σ vs ∧ tt σ2 H2 fun c H3 =>
      if c = true then te σ2 H3 fun z H4 => ∃ acc, H4 D = some (.lst acc) ∧ acc.length < sizeLine ∧ Pv (i + 1) (upd H4 D (.lst (acc ++ [z]))) else Pv (i + 1) H3) (hd : ∀ H, Pv n H → Qd H) :
    ∃ W : Nat → Nat → Hp → Prop, (∃ m, W 0 m (upd H1 D (.lst []))) ∧ ∀ i m H, W i m H →
      ((RZ.ItzT K a b).stop i H ∧ Qd H) ∨ ((RZ.ItzT K a b).go i H ∧ ∃ Nx : Hp → Prop, (∀ H', Nx H' → ∃ m', m' < m ∧ W (i + 1) m' H') ∧ ∀ v H', (RZ.ItzT K a b).yld i H v H' → g v (wipe σ vs) H' fun σ2 H2 => wipe σ2 vs = wipe σ vs ∧ tt σ2 H2 fun c H3 =>
        if c = true then te σ2 H3 fun z H4 => ∃ acc, H4 D = some (.lst acc) ∧ acc.length < sizeLine ∧ Nx (upd H4 D (.lst (acc ++ [z]))) else Nx H3) := by
  refine ⟨fun i m H => m = n - i ∧ i ≤ n ∧ Pv i H, ⟨n, (Nat.sub_zero n).symm, Nat.zero_le _, h0⟩, ?_⟩
  rintro i m H ⟨rfl, hi, p⟩
  obtain ⟨qa, qb⟩ := hq i H p
  by_cases hlt : i < n
  · have e1 : xs[i]? = some (xs[i]'(by omega)) := List.getElem?_eq_getElem _
    have e2 : ys[i]? = some (ys[i]'(by omega)) := List.getElem?_eq_getElem _
    refine .inr ⟨⟨xs, ys, _, _, qa, qb, e1, e2⟩, Pv (i + 1), fun H' p' => ⟨n - (i + 1), by omega, rfl, hlt, p'⟩, fun v H' hy' => ?_⟩
    obtain ⟨T, x, y, rfl, nT, rfl, fx, fy⟩ := hy'
    exact hs i x y T H hlt (fx _ qa) (fy _ qb) p nT
  · have e : i = n := by omega
    subst e
    exact .inl ⟨⟨xs, ys, qa, qb, by omega⟩, hd H p⟩
theorem for_zipT {K : PySem.W.Frag} {a b : Addr} {xs ys : List V} {n : Nat} {g : TG} {tb : TS} {D : Ends} {σ : L2.St} {H : Hp} (hx : n ≤ xs.length) (hy : n ≤ ys.length) (hn : xs.length ≤ n ∨ ys.length ≤ n)
    (Pv : Nat → L2.St → Hp → Prop) (h0 : Pv 0 σ H) (hq : ∀ i σ H, Pv i σ H → SqT K H a xs ∧ SqT K H b ys)
    (hs : ∀ i x y T σ H, i < n → xs[i]? = some x → ys[i]? = some y → Pv i σ H → H T = none → g (.ref T) σ (upd H T (.tup [x, y])) fun σ2 H2 => tb { D with nx := Pv (i + 1), ct := Pv (i + 1), bk := D.nx } σ2 H2) (hd : ∀ σ H, Pv n σ H → D.nx σ H) :
    ∃ W : Nat → Nat → L2.St → Hp → Prop, (∃ m, W 0 m σ H) ∧ ∀ i m σ H, W i m σ H →
      ((RZ.ItzT K a b).stop i H ∧ D.nx σ H) ∨ ((RZ.ItzT K a b).go i H ∧ ∃ N : L2.St → Hp → Prop, (∀ σ' H', N σ' H' → ∃ m', m' < m ∧ W (i + 1) m' σ' H') ∧ ∀ v H', (RZ.ItzT K a b).yld i H v H' → g v σ H' fun σ2 H2 => tb { D with nx := N, ct := N, bk := D.nx } σ2 H2) := by
  refine ⟨fun i m σ H => m = n - i ∧ i ≤ n ∧ Pv i σ H, ⟨n, (Nat.sub_zero n).symm, Nat.zero_le _, h0⟩, ?_⟩
  rintro i m σ H ⟨rfl, hi, p⟩
  obtain ⟨qa, qb⟩ := hq i σ H p
  by_cases hlt : i < n
  · have e1 : xs[i]? = some (xs[i]'(by omega)) := List.getElem?_eq_getElem _
    have e2 : ys[i]? = some (ys[i]'(by omega)) := List.getElem?_eq_getElem _
    refine .inr ⟨⟨xs, ys, _, _, qa, qb, e1, e2⟩, Pv (i + 1), fun σ' H' p' => ⟨n - (i + 1), by omega, rfl, hlt, p'⟩, fun v H' hy' => ?_⟩
    obtain ⟨T, x, y, rfl, nT, rfl, fx, fy⟩ := hy'
    exact hs i x y T σ H hlt (fx _ qa) (fy _ qb) p nT
  · have e : i = n := by omega
    subst e
    exact .inl ⟨⟨xs, ys, qa, qb, by omega⟩, hd σ H p⟩
theorem lc_zipL {K : PySem.W.Frag} {a b : Addr} {xs ys : List V} {n : Nat} {g : TG} {tt : TT} {te : TE} {vs : List Nat} {σ : L2.St} {H1 : Hp} {D : Addr} {Qd : Hp → Prop} (hx : n ≤ xs.length) (hy : n ≤ ys.length) (hn : xs.length ≤ n ∨ ys.length ≤ n)
    (Pv : Nat → Hp → Prop) (h0 : Pv 0 (upd H1 D (.lst []))) (hq : ∀ i H, Pv i H → SqL K H a xs ∧ SqL K H b ys)
    (hs : ∀ i x y T H, i < n → xs[i]? = some x → ys[i]? = some y → Pv i H → H T = none → g (.ref T) (wipe σ vs) (upd H T (.tup [x, y])) fun σ2 H2 => wipe σ2 vs = wipe σ vs ∧ tt σ2 H2 fun c H3 =>
      if c = true then te σ2 H3 fun z H4 => ∃ acc, H4 D = some (.lst acc) ∧ acc.length < sizeLine ∧ Pv (i + 1) (upd H4 D (.lst (acc ++ [z]))) else Pv (i + 1) H3) (hd : ∀ H, Pv n H → Qd H) :
    ∃ W : Nat → Nat → Hp → Prop, (∃ m, W 0 m (upd H1 D (.lst []))) ∧ ∀ i m H, W i m H →
      ((Itz K a b).stop i H ∧ Qd H) ∨ ((Itz K a b).go i H ∧ ∃ Nx : Hp → Prop, (∀ H', Nx H' → ∃ m', m' < m ∧ W (i + 1) m' H') ∧ ∀ v H', (Itz K a b).yld i H v H' → g v (wipe σ vs) H' fun σ2 H2 => wipe σ2 vs = wipe σ vs ∧ tt σ2 H2 fun c H3 =>
        if c = true then te σ2 H3 fun z H4 => ∃ acc, H4 D = some (.lst acc) ∧ acc.length < sizeLine ∧ Nx (upd H4 D (.lst (acc ++ [z]))) else Nx H3) := by
  refine ⟨fun i m H => m = n - i ∧ i ≤ n ∧ Pv i H, ⟨n, (Nat.sub_zero n).symm, Nat.zero_le _, h0⟩, ?_⟩
  rintro i m H ⟨rfl, hi, p⟩
  obtain ⟨qa, qb⟩ := hq i H p
  by_cases hlt : i < n
  · have e1 : xs[i]? = some (xs[i]'(by omega)) := List.getElem?_eq_getElem _
    have e2 : ys[i]? = some (ys[i]'(by omega)) := List.getElem?_eq_getElem _
    refine .inr ⟨⟨xs, ys, _, _, qa, qb, e1, e2⟩, Pv (i + 1), fun H' p' => ⟨n - (i + 1), by omega, rfl, hlt, p'⟩, fun v H' hy' => ?_⟩
    obtain ⟨T, x, y, rfl, nT, rfl, fx, fy⟩ := hy'
    exact hs i x y T H hlt (fx _ qa) (fy _ qb) p nT
  · have e : i = n := by omega
    subst e
    exact .inl ⟨⟨xs, ys, qa, qb, by omega⟩, hd H p⟩
theorem for_zipL {K : PySem.W.Frag} {a b : Addr} {xs ys : List V} {n : Nat} {g : TG} {tb : TS} {D : Ends} {σ : L2.St} {H : Hp} (hx : n ≤ xs.length) (hy : n ≤ ys.length) (hn : xs.length ≤ n ∨ ys.length ≤ n)
    (Pv : Nat → L2.St → Hp → Prop) (h0 : Pv 0 σ H) (hq : ∀ i σ H, Pv i σ H → SqL K H a xs ∧ SqL K H b ys)
    (hs : ∀ i x y T σ H, i < n → xs[i]? = some x → ys[i]? = some y → Pv i σ H → H T = none → g (.ref T) σ (upd H T (.tup [x, y])) fun σ2 H2 => tb { D with nx := Pv (i + 1), ct := Pv (i + 1), bk := D.nx } σ2 H2) (hd : ∀ σ H, Pv n σ H → D.nx σ H) :
    ∃ W : Nat → Nat → L2.St → Hp → Prop, (∃ m, W 0 m σ H) ∧ ∀ i m σ H, W i m σ H →
      ((Itz K a b).stop i H ∧ D.nx σ H) ∨ ((Itz K a b).go i H ∧ ∃ N : L2.St → Hp → Prop, (∀ σ' H', N σ' H' → ∃ m', m' < m ∧ W (i + 1) m' σ' H') ∧ ∀ v H', (Itz K a b).yld i H v H' → g v σ H' fun σ2 H2 => tb { D with nx := N, ct := N, bk := D.nx } σ2 H2) := by
  refine ⟨fun i m σ H => m = n - i ∧ i ≤ n ∧ Pv i σ H, ⟨n, (Nat.sub_zero n).symm, Nat.zero_le _, h0⟩, ?_⟩
  rintro i m σ H ⟨rfl, hi, p⟩
  obtain ⟨qa, qb⟩ := hq i σ H p
  by_cases hlt : i < n
  · have e1 : xs[i]? = some (xs[i]'(by omega)) := List.getElem?_eq_getElem _
    have e2 : ys[i]? = some (ys[i]'(by omega)) := List.getElem?_eq_getElem _
    refine .inr ⟨⟨xs, ys, _, _, qa, qb, e1, e2⟩, Pv (i + 1), fun σ' H' p' => ⟨n - (i + 1), by omega, rfl, hlt, p'⟩, fun v H' hy' => ?_⟩
    obtain ⟨T, x, y, rfl, nT, rfl, fx, fy⟩ := hy'
    exact hs i x y T σ H hlt (fx _ qa) (fy _ qb) p nT
  · have e : i = n := by omega
    subst e
    exact .inl ⟨⟨xs, ys, qa, qb, by omega⟩, hd σ H p⟩
theorem for_enumT {K : PySem.W.Frag} {a : Addr} {xs : List V} {g : TG} {tb : TS} {D : Ends} {σ : L2.St} {H : Hp} (Pv : Nat → L2.St → Hp → Prop) (h0 : Pv 0 σ H) (hq : ∀ i σ H, Pv i σ H → SqT K H a xs)
    (hs : ∀ i x T σ H, xs[i]? = some x → Pv i σ H → H T = none → g (.ref T) σ (upd H T (.tup [.int (i : Nat), x])) fun σ2 H2 => tb { D with nx := Pv (i + 1), ct := Pv (i + 1), bk := D.nx } σ2 H2) (hd : ∀ σ H, Pv xs.length σ H → D.nx σ H) :
    ∃ W : Nat → Nat → L2.St → Hp → Prop, (∃ m, W 0 m σ H) ∧ ∀ i m σ H, W i m σ H →
      ((EnT.IteT K a).stop i H ∧ D.nx σ H) ∨ ((EnT.IteT K a).go i H ∧ ∃ N : L2.St → Hp → Prop, (∀ σ' H', N σ' H' → ∃ m', m' < m ∧ W (i + 1) m' σ' H') ∧ ∀ v H', (EnT.IteT K a).yld i H v H' → g v σ H' fun σ2 H2 => tb { D with nx := N, ct := N, bk := D.nx } σ2 H2) := by
  refine ⟨fun i m σ H => m = xs.length - i ∧ i ≤ xs.length ∧ Pv i σ H, ⟨xs.length, (Nat.sub_zero _).symm, Nat.zero_le _, h0⟩, ?_⟩
  rintro i m σ H ⟨rfl, hi, p⟩
  have qa := hq i σ H p
  by_cases hlt : i < xs.length
  · have e1 : xs[i]? = some (xs[i]'hlt) := List.getElem?_eq_getElem _
    refine .inr ⟨⟨xs, _, qa, e1⟩, Pv (i + 1), fun σ' H' p' => ⟨xs.length - (i + 1), by omega, rfl, hlt, p'⟩, fun v H' hy' => ?_⟩
    obtain ⟨T, x, rfl, nT, rfl, fx⟩ := hy'
    exact hs i x T σ H (fx _ qa) p nT
  · have e : i = xs.length := by omega
    subst e
    exact .inl ⟨⟨xs, qa, rfl⟩, hd σ H p⟩
theorem lc_enumT {K : PySem.W.Frag} {a : Addr} {xs : List V} {g : TG} {tt : TT} {te : TE} {vs : List Nat} {σ : L2.St} {H1 : Hp} {D : Addr} {Qd : Hp → Prop} (Pv : Nat → Hp → Prop) (h0 : Pv 0 (upd H1 D (.lst []))) (hq : ∀ i H, Pv i H → SqT K H a xs)
    (hs : ∀ i x T H, xs[i]? = some x → Pv i H → H T = none → g (.ref T) (wipe σ vs) (upd H T (.tup [.int (i : Nat), x])) fun σ2 H2 => wipe σ2 vs = wipe σ vs ∧ tt σ2 H2 fun c H3 =>
      if c = true then te σ2 H3 fun z H4 => ∃ acc, H4 D = some (.lst acc) ∧ acc.length < sizeLine ∧ Pv (i + 1) (upd H4 D (.lst (acc ++ [z]))) else Pv (i + 1) H3) (hd : ∀ H, Pv xs.length H → Qd H) :
    ∃ W : Nat → Nat → Hp → Prop, (∃ m, W 0 m (upd H1 D (.lst []))) ∧ ∀ i m H, W i m H →
      ((EnT.IteT K a).stop i H ∧ Qd H) ∨ ((EnT.IteT K a).go i H ∧ ∃ Nx : Hp → Prop, (∀ H', Nx H' → ∃ m', m' < m ∧ W (i + 1) m' H') ∧ ∀ v H', (EnT.IteT K a).yld i H v H' → g v (wipe σ vs) H' fun σ2 H2 => wipe σ2 vs = wipe σ vs ∧ tt σ2 H2 fun c H3 =>
        if c = true then te σ2 H3 fun z H4 => ∃ acc, H4 D = some (.lst acc) ∧ acc.length < sizeLine ∧ Nx (upd H4 D (.lst (acc ++ [z]))) else Nx H3) := by
  refine ⟨fun i m H => m = xs.length - i ∧ i ≤ xs.length ∧ Pv i H, ⟨xs.length, (Nat.sub_zero _).symm, Nat.zero_le _, h0⟩, ?_⟩
  rintro i m H ⟨rfl, hi, p⟩
  have qa := hq i H p
  by_cases hlt : i < xs.length
  · have e1 : xs[i]? = some (xs[i]'hlt) := List.getElem?_eq_getElem _
    refine .inr ⟨⟨xs, _, qa, e1⟩, Pv (i + 1), fun H' p' => ⟨xs.length - (i + 1), by omega, rfl, hlt, p'⟩, fun v H' hy' => ?_⟩
    obtain ⟨T, x, rfl, nT, rfl, fx⟩ := hy'
    exact hs i x T H (fx _ qa) p nT
  · have e : i = xs.length := by omega
    subst e
    exact .inl ⟨⟨xs, qa, rfl⟩, hd H p⟩
end ZW

/-! own rules: slices of a tuple and sums of tuples, whole or empty ones too, by what stands afterwards -/
namespace TE
open PySem PySem.Spec PyProof.Rows L2 Evl
section
variable {X : Cx}
def rSlE : V → Option Int → Option Int → Hp → VK → Prop := fun x lo hi H Q => ∃ a xs, x = .ref a ∧ H a = some (.tup xs) ∧ ∀ p H', Ex H H' → H' p = some (.tup (cutV xs lo hi)) → Q (.ref p) H'
theorem sl_tupE : SlR X rSlE := by
  intro pins s σ H x v vl vu lo hi sl Q I rx hs pl pu h
  obtain ⟨a, xs, rfl, hx, q⟩ := h
  refine sl_tupA pins s σ H _ v vl vu lo hi sl Q I rx hs pl pu ⟨a, xs, rfl, SqT.of hx, fun w => q a H (Ex.refl _) ?_, fun _ p hp => q p _ (Ex.new hp) upd_same⟩
  obtain ⟨w1, w2⟩ := w
  have e : cutV xs lo hi = xs := by
    unfold cutV
    rw [w1, w2, List.drop_zero, Nat.sub_zero, List.take_length]
  rw [e]
  exact hx
def rCatE : R2 := fun x y H Q => ∃ a b xs ys, x = .ref a ∧ y = .ref b ∧ H a = some (.tup xs) ∧ H b = some (.tup ys) ∧ xs.length + ys.length ≤ sizeLine ∧ ∀ p H', Ex H H' → H' p = some (.tup (xs ++ ys)) → Q (.ref p) H'
theorem op_catE : OpR X (binaryOp .Add) rCatE := by
  intro pins s σ H x y v u Q I rx ry h
  obtain ⟨a, b, xs, ys, rfl, rfl, ha, hb, hz, q⟩ := h
  refine op_catA pins s σ H _ _ v u Q I rx ry ⟨a, b, xs, ys, rfl, rfl, SqT.of ha, SqT.of hb, hz, fun e => q b H (Ex.refl _) ?_, fun _ e => q a H (Ex.refl _) ?_, fun _ _ p hp => q p _ (Ex.new hp) upd_same⟩
  · rw [e, List.nil_append]
    exact hb
  · rw [e, List.append_nil]
    exact ha
end
end TE

namespace K1
open HM
def lamr (h : List Nat) (r : Nat) : Nat := hAt (conj h) r
def bead (h : List Nat) (c : Nat) : Int := (hAt h c : Int) - (c : Int) - 1
def hk (h : List Nat) (c r : Nat) : Int := (hAt h c : Int) - (r : Int) + (lamr h r : Int) - (c : Int) - 1
def isB (h : List Nat) (z : Int) : Prop := ∃ c, c < h.length ∧ z = bead h c
def coreB (h : List Nat) (k : Int) : Prop := ∀ c, c < h.length → isB h (bead h c - k) ∨ bead h c - k < -(h.length : Int)
theorem bead_split {h : List Nat} (H : IsHeap h) (z : Int) : ∀ n : Nat, ∃ j, j ≤ n ∧ (∀ c, c < j → z < bead h c) ∧ ∀ c, j ≤ c → c < n → bead h c ≤ z
  | 0 => ⟨0, Nat.le_refl _, fun c hc => absurd hc (Nat.not_lt_zero _), fun c _ hc => absurd hc (Nat.not_lt_zero _)⟩
  | n + 1 => by
    obtain ⟨j, a, b, d⟩ := bead_split H z n
    by_cases q : z < bead h n
    · refine ⟨n + 1, Nat.le_refl _, fun c hc => ?_, fun c h1 h2 => by omega⟩
      have := H.le (show c ≤ n by omega)
      unfold bead at q ⊢
      omega
    · refine ⟨j, by omega, b, fun c h1 h2 => ?_⟩
      by_cases e : c = n
      · rw [e]
        omega
      · exact d c h1 (by omega)
theorem lam_le {h : List Nat} (H : IsHeap h) (r : Nat) : lamr h r ≤ h.length := by
  rcases Nat.lt_or_ge h.length (lamr h r) with q | q
  · have := (conj_iff H h.length r).mp q
    rw [hAt_ge (Nat.le_refl _)] at this
    omega
  · exact q
theorem hole {h : List Nat} (H : IsHeap h) {z : Int} (hz : -(h.length : Int) ≤ z) (nb : ¬ isB h z) : ∃ r : Nat, z = (r : Int) - (lamr h r : Int) := by
  obtain ⟨j, a, b, d⟩ := bead_split H z h.length
  have nn : 0 ≤ z + (j : Int) := by
    by_cases q : j < h.length
    · have h1 := d j (Nat.le_refl _) q
      have h2 : z ≠ bead h j := fun e => nb ⟨j, q, e⟩
      unfold bead at h1 h2
      omega
    · omega
  refine ⟨(z + j).toNat, ?_⟩
  have key : ∀ c, c < j ↔ (z + j).toNat < hAt h c := fun c => by
    constructor
    · intro hc
      have h1 := b (j - 1) (by omega)
      have h2 := H.le (show c ≤ j - 1 by omega)
      unfold bead at h1
      omega
    · intro hc
      rcases Nat.lt_or_ge c j with q | q
      · exact q
      · exfalso
        by_cases q2 : c < h.length
        · have h1 := d j (Nat.le_refl _) (by omega)
          have h2 : z ≠ bead h j := fun e => nb ⟨j, by omega, e⟩
          have h3 := H.le q
          unfold bead at h1 h2
          omega
        · rw [hAt_ge (by omega)] at hc
          omega
  have e : lamr h (z + j).toNat = j := by
    have k := fun c => (conj_iff H c (z + j).toNat).trans (key c).symm
    rcases Nat.lt_trichotomy (lamr h (z + j).toNat) j with q | q | q
    · exact absurd ((k _).mpr q) (Nat.lt_irrefl _)
    · exact q
    · exact absurd ((k _).mp q) (Nat.lt_irrefl _)
  rw [e]
  omega
theorem no_both {h : List Nat} (H : IsHeap h) {r : Nat} (b : isB h ((r : Int) - (lamr h r : Int))) : False := by
  obtain ⟨c, hc, e⟩ := b
  have k := conj_iff H c r
  unfold bead at e
  rcases Nat.lt_or_ge r (hAt h c) with q | q
  · have : c < lamr h r := k.mpr q
    omega
  · have : ¬ c < lamr h r := fun z => absurd (k.mp z) (by omega)
    omega
theorem not_low {h : List Nat} (H : IsHeap h) {r : Nat} : ¬ (r : Int) - (lamr h r : Int) < -(h.length : Int) := by
  have := lam_le H r
  omega
theorem core_iff {h : List Nat} (H : IsHeap h) {k : Int} (hk1 : 1 ≤ k) : coreB h k ↔ ∀ c r, r < hAt h c → hk h c r ≠ k := by
  constructor
  · intro C c r hr e
    have hc : c < h.length := by
      rcases Nat.lt_or_ge c h.length with q | q
      · exact q
      · rw [hAt_ge q] at hr
        omega
    have z : bead h c - k = (r : Int) - (lamr h r : Int) := by
      unfold hk at e
      unfold bead
      omega
    have := C c hc
    rw [z] at this
    rcases this with q | q
    · exact no_both H q
    · exact not_low H q
  · intro A c hc
    by_cases q : bead h c - k < -(h.length : Int)
    · exact .inr q
    · refine .inl ?_
      by_cases q2 : isB h (bead h c - k)
      · exact q2
      · exfalso
        obtain ⟨r, hr⟩ := hole H (by omega) q2
        have kk := conj_iff H c r
        rcases Nat.lt_or_ge r (hAt h c) with g | g
        · refine A c r g ?_
          unfold hk
          unfold bead at hr
          omega
        · have : ¬ c < lamr h r := fun z => absurd (kk.mp z) (by omega)
          unfold bead at hr
          omega
theorem core_down {h : List Nat} {k : Int} (hk1 : 1 ≤ k) (C : coreB h k) : ∀ (m : Nat) (c : Nat), c < h.length → isB h (bead h c - (m : Int) * k) ∨ bead h c - (m : Int) * k < -(h.length : Int)
  | 0, c, hc => .inl ⟨c, hc, by rw [show ((0 : Nat) : Int) = 0 from rfl, Int.zero_mul]; omega⟩
  | m + 1, c, hc => by
    rw [show ((m + 1 : Nat) : Int) = (m : Int) + 1 by omega, Int.add_mul, Int.one_mul]
    rcases core_down hk1 C m c hc with ⟨c2, h2, e⟩ | q
    · have := C c2 h2
      rw [← e] at this
      rw [show bead h c - ((m : Int) * k + k) = bead h c - (m : Int) * k - k by omega]
      exact this
    · exact .inr (by omega)
theorem core_mult {h : List Nat} (H : IsHeap h) {k : Int} (hk1 : 1 ≤ k) (C : coreB h k) {c r : Nat} (hr : r < hAt h c) : ¬ hk h c r % k = 0 := by
  intro e
  have hc : c < h.length := by
    rcases Nat.lt_or_ge c h.length with q | q
    · exact q
    · rw [hAt_ge q] at hr
      omega
  have pos : 0 ≤ hk h c r := by
    have : c < lamr h r := (conj_iff H c r).mpr hr
    unfold hk
    omega
  have d := Int.mul_ediv_add_emod (hk h c r) k
  rw [e, Int.mul_comm] at d
  have nd : 0 ≤ hk h c r / k := Int.ediv_nonneg pos (by omega)
  have := core_down hk1 C (hk h c r / k).toNat c hc
  rw [Int.toNat_of_nonneg nd] at this
  have z : bead h c - hk h c r / k * k = (r : Int) - (lamr h r : Int) := by
    have : hk h c r = (hAt h c : Int) - (r : Int) + (lamr h r : Int) - (c : Int) - 1 := rfl
    unfold bead
    omega
  rw [z] at this
  rcases this with q | q
  · exact no_both H q
  · exact not_low H q
theorem lam_count {h : List Nat} (H : IsHeap h) (r : Nat) : lamr h r = (h.filter fun x => decide (r < x)).length := by
  unfold lamr
  by_cases q : r < hAt h 0
  · unfold hAt conj
    rw [List.getD_eq_getElem?_getD, List.getElem?_map, List.getElem?_range q]
    rfl
  · rw [hAt_ge (by rw [conj_len]; omega)]
    symm
    rw [List.length_eq_zero_iff, List.filter_eq_nil_iff]
    intro x hx
    obtain ⟨i, hi, rfl⟩ := List.getElem_of_mem hx
    have := H.le (Nat.zero_le i)
    have e : hAt h i = h[i] := by
      unfold hAt
      rw [List.getD_eq_getElem?_getD, List.getElem?_eq_getElem hi]
      rfl
    rw [decide_eq_true_eq]
    omega
theorem right_count {h : List Nat} (H : IsHeap h) {c r : Nat} (hr : r < hAt h c) : (((h.drop (c + 1)).filter fun x => decide (r < x)).length : Int) = (lamr h r : Int) - (c : Int) - 1 := by
  have hc : c < h.length := by
    rcases Nat.lt_or_ge c h.length with q | q
    · exact q
    · rw [hAt_ge q] at hr
      omega
  rw [lam_count H r]
  have e : (h.filter fun x => decide (r < x)).length = ((h.take (c + 1)).filter fun x => decide (r < x)).length + ((h.drop (c + 1)).filter fun x => decide (r < x)).length := by
    rw [← List.length_append, ← List.filter_append, List.take_append_drop]
  have t : (h.take (c + 1)).filter (fun x => decide (r < x)) = h.take (c + 1) := by
    rw [List.filter_eq_self]
    intro x hx
    obtain ⟨i, hi, rfl⟩ := List.getElem_of_mem hx
    rw [List.length_take] at hi
    rw [List.getElem_take]
    have e2 : hAt h i = h[i] := by
      unfold hAt
      rw [List.getD_eq_getElem?_getD, List.getElem?_eq_getElem (by omega)]
      rfl
    have := H.le (show i ≤ c by omega)
    rw [decide_eq_true_eq]
    omega
  rw [t, List.length_take] at e
  omega
end K1

set_option exponentiation.threshold 400
namespace K1
open PySem PySem.Spec PyProof.Rows L2 Evl HM LX
section
variable {P : Program} {w : World} {K : PySem.W.Frag} {mg : Str → Option Value} {base : Heap}
inductive NotTup (K : PySem.W.Frag) (H : Hp) : V → Prop where
  | bl (b : Bool) : NotTup K H (.bl b)
  | non : NotTup K H .non
  | int (i : Int) : NotTup K H (.int i)
  | str (x : Str) : NotTup K H (.str x)
  | lst {a : Addr} {xs : List V} (e : H a = some (.lst xs)) : NotTup K H (.ref a)
  | dK {a : Addr} {kvs : List (Key × V)} (e : H a = some (.dK kvs)) : NotTup K H (.ref a)
theorem NotTup.ty {K : PySem.W.Frag} {H : Hp} {x : V} (h : NotTup K H x) : ∃ t : Value, TyX K H x t ∧ PySem.W.kitOne K t (.type "tuple") = some false := by
  cases h with
  | bl b => exact ⟨_, .base (.bl b), (kit_ty (by decide +kernel))⟩
  | non => exact ⟨_, .base .non, (kit_ty (by decide +kernel))⟩
  | int x => exact ⟨_, .base (.int x), (kit_ty (by decide +kernel))⟩
  | str x => exact ⟨_, .base (.str x), (kit_ty (by decide +kernel))⟩
  | lst e => exact ⟨_, .base (.lst e), (kit_ty (by decide +kernel))⟩
  | dK e => exact ⟨_, .base (.dK e), (kit_ty (by decide +kernel))⟩
theorem NotTup.mono {K : PySem.W.Frag} {H H' : Hp} {x : V} (e : Ex H H') (h : NotTup K H x) : NotTup K H' x := by
  cases h with
  | bl b => exact .bl b
  | non => exact .non
  | int x => exact .int x
  | str x => exact .str x
  | lst q => exact .lst (e _ _ q)
  | dK q => exact .dK (e _ _ q)
theorem BtwB.mono {K : PySem.W.Frag} {H H' : Hp} {lo hi : Int} {x : V} {b : Bool} (e : Ex H H') (h : BtwB K H lo hi x b) : BtwB K H' lo hi x b := by
  cases h with
  | int i => exact .int i
  | no h => exact .no (h.mono e)
theorem BtwB.yes {K : PySem.W.Frag} {H : Hp} {lo hi i : Int} (h1 : lo ≤ i) (h2 : i ≤ hi) (h3 : -(10 ^ 60) < i) (h4 : i < 10 ^ 60) : BtwB K H lo hi (.int i) true := by
  have := BtwB.int (K := K) (H := H) (lo := lo) (hi := hi) i
  rw [decide_eq_true h1, decide_eq_true h2, decide_eq_true h3, decide_eq_true h4] at this
  exact this
theorem BtwB.out {K : PySem.W.Frag} {H : Hp} {lo hi i : Int} (h1 : ¬ (lo ≤ i ∧ i ≤ hi)) : BtwB K H lo hi (.int i) false := by
  have := BtwB.int (K := K) (H := H) (lo := lo) (hi := hi) i
  have e : (decide (lo ≤ i) && decide (i ≤ hi)) = false := by
    by_cases c : lo ≤ i
    · have c2 : ¬ i ≤ hi := fun z => h1 ⟨c, z⟩
      rw [decide_eq_false c2, Bool.and_false]
    · rw [decide_eq_false c, Bool.false_and]
  rw [e, Bool.and_false] at this
  exact this
inductive PairB (K : PySem.W.Frag) (H : Hp) : V → Bool → Prop where
  | no {x : V} (h : NotTup K H x) : PairB K H x false
  | tup {a : Addr} {xs : List V} (e : H a = some (.tup xs)) : PairB K H (.ref a) (decide (xs.length = 2))
def spIsPair (K : PySem.W.Frag) : Sp := fun vs H Q _ => ∃ x b, vs = [x] ∧ PairB K H x b ∧ ∀ H', Ex H H' → Q (.bl b) H'
theorem ok_is_pair (T : Txt K mg) {f : Addr} {fd : FuncData} (D : DefAt K mg "is_pair" sIsPair ["value"] f fd) : FnOk P w K mg base CX0 1 f fd ["value"] (spIsPair K) := by
  refine D.F.ok scIsPair (fun vs H Q E h => ?_) (fun cdv A outer s H vs Q E hr h => ?_)
  · obtain ⟨x, b, rfl, _⟩ := h
    rfl
  · obtain ⟨x, b, rfl, hb, q⟩ := h
    refine ⟨_, pss_one (ps_ret (pe_and (pe_callB call_isi (by rfl) T.z_isinstance (by decide +kernel) (pa_cons (pv 0) (pa_cons (pe_bltn (v := .ty "tuple") (by rfl) T.z_tuple (by decide +kernel) rfl) pa_nil)))
      (pe_one (pe_cmpR op_eq (pe_callB call_len (by rfl) T.z_len PySem.boot_len (pa_cons (pv 0) pa_nil)) pe_int (nomark _))))), ?_⟩
    cases hb with
    | no hn =>
      obtain ⟨t, ty, h⟩ := hn.ty
      exact ⟨x, rfl, x, .ty "tuple", t, .type "tuple", false, rfl, .ty _, ty, h, false, rfl, iteF (q _ (Ex.refl _))⟩
    | @tup a xs e =>
      refine ⟨_, rfl, .ref a, .ty "tuple", .type "tuple", .type "tuple", true, rfl, .ty _, .base (.tup e), kit_ty (by decide +kernel), true, rfl, iteT ?_⟩
      refine ⟨_, rfl, _, xs.length, rfl, .inr ⟨_, SqT.of e, rfl⟩, rfl, ?_⟩
      have e2 : decide (V.int (xs.length : Int) = V.int 2) = decide (xs.length = 2) := by
        by_cases c : xs.length = 2
        · rw [c]
          rfl
        · rw [decide_eq_false c, decide_eq_false (fun z => c (by have := V.int.inj z; omega))]
      rw [e2]
      exact q _ (Ex.refl _)
def hv (h : List Nat) : List V := h.map fun (n : Nat) => V.int (n : Int)
theorem hv_len (h : List Nat) : (hv h).length = h.length := List.length_map ..
theorem hv_get {h : List Nat} {c : Nat} (hc : c < h.length) : (hv h)[c]? = some (V.int (hAt h c : Int)) := by
  unfold hv
  rw [List.getElem?_map, hAt_lt hc]
  rfl
def HeapAt (H : Hp) (p : Addr) (h : List Nat) : Prop := H p = some (.tup (hv h))
structure Good (h : List Nat) : Prop where
  heap : IsHeap h
  len : h.length ≤ 60
  top : hAt h 0 ≤ 60
theorem Good.all {h : List Nat} (G : Good h) (c : Nat) : hAt h c ≤ 60 := Nat.le_trans (G.heap.le (Nat.zero_le c)) G.top
def spCheckBetween (K : PySem.W.Frag) : Sp := fun vs H Q _ => ∃ i lo hi : Int, vs = [.int i, .int lo, .int hi] ∧ lo ≤ i ∧ i ≤ hi ∧ -(10 ^ 60) < i ∧ i < 10 ^ 60 ∧ ∀ H', Ex H H' → Q .non H'
theorem ok_check_between (T : Txt K mg) {f : Addr} {fd : FuncData} (D : DefAt K mg "check_between" sCheckBetween ["value", "low", "high"] f fd) : FnOk P w K mg base CX0 3 f fd ["value", "low", "high"] (spCheckBetween K) := by
  refine D.F.ok scCheckBetween (fun vs H Q E h => ?_) (fun cdv A outer s H vs Q E hr h => ?_)
  · obtain ⟨i, lo, hi, rfl, _⟩ := h
    rfl
  · obtain ⟨i, lo, hi, rfl, h1, h2, h3, h4, q⟩ := h
    obtain ⟨f1, fd1, D1⟩ := T.d_is_between
    refine ⟨_, pss_one (ps_if (pt_not (pt_val (pe_call (ok_is_between T D1) hr (by rfl) D1.g D1.F.kp D1.b .nil pass0 (pa_cons (pv 0) (pa_cons (pv 1) (pa_cons (pv 2) pa_nil)))))) pss_never pss_nil), ?_⟩
    exact ⟨_, rfl, _, rfl, _, rfl, _, lo, hi, true, rfl, .yes h1 h2 h3 h4, fun H1 e1 => ⟨true, rfl, iteF (q _ e1)⟩⟩
def spHeightAt : Sp := fun vs H Q _ => ∃ p h, ∃ c : Nat, vs = [.ref p, .int (c : Int)] ∧ HeapAt H p h ∧ ∀ H', Ex H H' → Q (.int (hAt h c : Int)) H'
theorem ok_height_at (T : Txt K mg) {f : Addr} {fd : FuncData} (D : DefAt K mg "height_at" sHeightAt ["heap", "column"] f fd) : FnOk P w K mg base CX0 1 f fd ["heap", "column"] spHeightAt := by
  refine D.F.ok scHeightAt (fun vs H Q E h => ?_) (fun cdv A outer s H vs Q E hr h => ?_)
  · obtain ⟨p, h, c, rfl, _⟩ := h
    rfl
  · obtain ⟨p, h, c, rfl, hp, q⟩ := h
    refine ⟨_, pss_one (ps_ret (pe_ifExp (pt_cmpR op_lt (pv 1) (pe_callB call_len_seq (by rfl) T.z_len PySem.boot_len (pa_cons (pv 0) pa_nil)) (nomark _)) (pe_ix ix_tup (pv 0) (pv 1) (fun _ _ => rfl)) pe_int)), ?_⟩
    refine ⟨_, rfl, _, rfl, p, _, rfl, .inr (SqT.of hp), _, _, rfl, rfl, _, rfl, ite2 (fun cc => ?_) (fun cc => ?_)⟩
    · have hc : c < h.length := by
        have : (c : Int) < ((hv h).length : Int) := of_decide_eq_true cc
        rw [hv_len] at this
        omega
      exact ⟨_, rfl, _, rfl, p, _, _, _, rfl, rfl, SqT.of hp, atI_nat (hv_get hc), q _ (Ex.refl _)⟩
    · have hc : h.length ≤ c := by
        have : ¬ (c : Int) < ((hv h).length : Int) := fun z => cc (decide_eq_true z)
        rw [hv_len] at this
        omega
      have := hAt_ge hc
      have q2 := q _ (Ex.refl _)
      rw [this] at q2
      exact q2
theorem int_get5 {ns : List Int} {i : Nat} (h : i < ns.length) : (ns.map V.int)[i]? = some (V.int (ns.getD i 0)) := by
  rw [List.getElem?_map, List.getD_eq_getElem?_getD, List.getElem?_eq_getElem h]
  rfl
end
end K1

/-! own rule: name = {k: v for ..}, keys ints or texts -/
namespace DI
open PySem PySem.Spec PyProof.Rows L2
theorem ps_setDcK {X : Cx} {i : Nat} {y : Str} {py : Pos} {kx vx tg iter : Expr} {ifs : List Expr} {scope : Scope} {own : List (Str × Nat)} {pos spos : Pos} {wi : TI} {g : TG} {tt : TT} {tk tv : TE} (hc : X.calm = true) (hN : X.N.Nodup) (hy : X.N[i]? = some y) (hyl : X.env.scope.names.lookup y = some .local)
    (hsw : swapsWith (.DictComp kx vx [⟨tg, iter, ifs, 0⟩] scope pos) (some (.Name y py)) spos.line X.env = pure true) (hi : PI X tg iter wi) (ok : BlkOk X.N X.env.scope scope own)
    (hg : ∀ (s : Shared) (H : Hp) (C : Addr) (cl : List (Str × Addr)) (fp : List Addr), PG (X.blk s H scope (compEnvC scope cl C X.env) fp) tg g) (ht : ∀ (s : Shared) (H : Hp) (C : Addr) (cl : List (Str × Addr)) (fp : List Addr), PTs (X.blk s H scope (compEnvC scope cl C X.env) fp) ifs tt)
    (hk : ∀ (s : Shared) (H : Hp) (C : Addr) (cl : List (Str × Addr)) (fp : List Addr), PE (X.blk s H scope (compEnvC scope cl C X.env) fp) kx tk)
    (he : ∀ (s : Shared) (H : Hp) (C : Addr) (cl : List (Str × Addr)) (fp : List Addr), PE (X.blk s H scope (compEnvC scope cl C X.env) fp) vx tv) (hs : ∀ x, foldedSetIterable iter X.env x = pure x := by intro _; rfl) :
    PS X (.Assign [.Name y py] (.DictComp kx vx [⟨tg, iter, ifs, 0⟩] scope pos) spos) (tAsg (tDc wi g tt tk tv (own.map (·.2))) (gName i)) := by
  refine ⟨fun pins s σ H D I h => ?_⟩
  rw [exec_Assign_Name_used _ _ _ _ hsw]
  refine wpAny_bind (wpAny_standAt (wpAny_bind ?_))
  show wpAny _ X.A (do let _ ← comprehension (.DictComp kx vx [⟨tg, iter, ifs, 0⟩] scope pos) scope X.env (firstIterPos [⟨tg, iter, ifs, 0⟩] pos) newDict false (eval iter X.env) (some (assign (.Name y py) X.env))) _ _ s
  have h : tDc wi g tt tk tv (own.map (·.2)) σ H (fun x H1 => gName i x σ H1 D.nx) := h
  refine wpAny_bind (thn (dc_core (Qf := fun _ s' => SP X pins D .next s') hc hN I hi ok hg ht hk he hs h fun L C s' m H' I' q hn f => ?_) fun _ s' hq => wpAny_pure (wpAny_pure hq))
  show wpAny _ _ (assign (.Name y py) X.env (.ref L)) _ _ _
  refine wpAny_assign_Name (store_ok2 (v := V.ref L) I' hN hy (.inl hyl) rfl (fun s2 I2 ⟨a, sb, ha⟩ => ?_) (.inr hyl))
  obtain ⟨f0, f1, f2, f3, f4, f5⟩ := f
  have haC : C ≠ a := by
    rcases ha with z | z
    · rw [z]; exact f1
    · exact fun e => f4 y a z e.symm
  refine ⟨m, hn.sameBut sb haC, fun h3 sb3 => ?_⟩
  exact ⟨_, H', I2.turned (t' := s2.toks) (fun b o hb e => (sb3.2 b hb).trans e) f0 f1 f3 f4 f5, q⟩
theorem swd_true {kx vx : Expr} {gs : List Comprehension} {scope : Scope} {pos py : Pos} {y : Str} {l : Nat} {env : Env} (hk : env.scope.kind = .function) (hy : env.scope.names.lookup y = some .local) (hl : (py.line == pos.line) = true)
    (ha : (scope.names.any fun (n, k) => n == y && (k == .local || k == .cell)) = false) : swapsWith (.DictComp kx vx gs scope pos) (some (.Name y py)) l env = pure true := by
  have ky : env.kindOf y = some .local := hy
  have hb : env.blockKind = .function := by unfold Env.blockKind; rw [hk]; rfl
  unfold swapsWith
  simp only [hb, ky, ha, Expr.pos, hl]
  rfl
end DI
namespace DI
open PySem PySem.Spec PyProof.Rows L2
theorem dcK_it {J : It} {n : Nat} {G : Hp → Prop} {Y : Nat → Hp → V → Hp → Prop} (w : Walk J n G Y) {g : TG} {tt : TT} {tk tv : TE} {vs : List Nat} {σ : L2.St} {H1 : Hp} {D : Addr} {Qd : Hp → Prop} (Pv : Nat → Hp → Prop) (h0 : Pv 0 (upd H1 D (.dK []))) (hG : ∀ i H, i ≤ n → Pv i H → G H)
    (hs : ∀ i x H H', i < n → Pv i H → Y i H x H' → g x (wipe σ vs) H' fun σ2 H2 => wipe σ2 vs = wipe σ vs ∧ tt σ2 H2 fun b H3 =>
      if b = true then tk σ2 H3 fun y H4 => tv σ2 H4 fun z H5 => ∃ kvs k, y = kV k ∧ H5 D = some (.dK kvs) ∧ kvs.length < sizeLine ∧ Pv (i + 1) (upd H5 D (.dK (putK kvs k z))) else Pv (i + 1) H3) (hd : ∀ H, Pv n H → Qd H) :
    ∃ W : Nat → Nat → Hp → Prop, (∃ m, W 0 m (upd H1 D (.dK []))) ∧ ∀ i m H, W i m H →
      (J.stop i H ∧ Qd H) ∨ (J.go i H ∧ ∃ Nx : Hp → Prop, (∀ H', Nx H' → ∃ m', m' < m ∧ W (i + 1) m' H') ∧ ∀ x H', J.yld i H x H' → g x (wipe σ vs) H' fun σ2 H2 => wipe σ2 vs = wipe σ vs ∧ tt σ2 H2 fun b H3 =>
        if b = true then tk σ2 H3 fun y H4 => tv σ2 H4 fun z H5 => ∃ kvs k, y = kV k ∧ H5 D = some (.dK kvs) ∧ kvs.length < sizeLine ∧ Nx (upd H5 D (.dK (putK kvs k z))) else Nx H3) := by
  refine ⟨fun i m H => m = n - i ∧ i ≤ n ∧ Pv i H, ⟨n, (Nat.sub_zero n).symm, Nat.zero_le _, h0⟩, ?_⟩
  rintro i m H ⟨rfl, hi, p⟩
  by_cases c : i < n
  · exact .inr ⟨w.goes i H c (hG i H hi p), Pv (i + 1), fun H' p' => ⟨n - (i + 1), by omega, rfl, c, p'⟩, fun x H' y => hs i x H H' c p (w.yields i H x H' c (hG i H hi p) y)⟩
  · have e : i = n := by omega
    subst e
    exact .inl ⟨w.stops H (hG i H hi p), hd H p⟩
end DI

set_option exponentiation.threshold 400
namespace K1
open PySem PySem.Spec PyProof.Rows L2 Evl HM LX ZW TE
/-- what is_heap tells of a value -/
inductive HeapB (K : PySem.W.Frag) (H : Hp) : V → Bool → Prop where
  | no {x : V} (h : NotTup K H x) : HeapB K H x false
  | yes {p : Addr} {h : List Nat} (e : HeapAt H p h) (G : Good h) : HeapB K H (.ref p) true
  | bad {p : Addr} {h : List Nat} {y : V} (e : H p = some (.tup (hv h ++ [y]))) (G : Good h) (l : h.length < 60) (b : BtwB K H 1 (if h.length = 0 then 60 else (hAt h (h.length - 1) : Int)) y false) : HeapB K H (.ref p) false
theorem iteT' {b : Bool} {A B : Prop} (h : b = true) (a : A) : if b = true then A else B := by
  rw [if_pos h]
  exact a
theorem iteF' {b : Bool} {A B : Prop} (h : b = false) (a : B) : if b = true then A else B := by
  rw [if_neg (by rw [h]; decide)]
  exact a
theorem walk_enumT {K : PySem.W.Frag} {a : Addr} {xs : List V} : Walk (EnT.IteT K a) xs.length (fun H => SqT K H a xs) (YPair (fun i => some (.int (i : Nat))) (fun i => xs[i]?)) :=
  ⟨fun i _ hi q => ⟨xs, xs[i], q, by simp [hi]⟩, fun _ q => ⟨xs, q, rfl⟩, fun i H v H' _ q y => by
    obtain ⟨T, x, h1, h2, h3, h4⟩ := y
    exact ⟨T, .int (i : Nat), x, h1, h2, h3, rfl, h4 xs q⟩⟩
section
variable {P : Program} {w : World} {K : PySem.W.Frag} {mg : Str → Option Value} {base : Heap}
def spIsHeapB (K : PySem.W.Frag) : Sp := fun vs H Q _ => ∃ x b, vs = [x] ∧ HeapB K H x b ∧ ∀ H', Ex H H' → Q (.bl b) H'
theorem ok_is_heap (T : Txt K mg) {f : Addr} {fd : FuncData} (D : DefAt K mg "is_heap" sIsHeap ["value"] f fd) : FnOk P w K mg base CX0 3 f fd ["value"] (spIsHeapB K) := by
  refine D.F.ok scIsHeap (fun vs H Q E h => ?_) (fun cdv A outer s H vs Q E hr h => ?_)
  · obtain ⟨x, b, rfl, _⟩ := h
    rfl
  · obtain ⟨x, b, rfl, hb, q⟩ := h
    obtain ⟨f1, fd1, D1⟩ := T.d_is_between
    obtain ⟨tMOST_SIDE, vMOST_SIDE⟩ := T.v_SIDE
    have hr2 : Room 2 _ := hr.mono (by decide)
    refine ⟨_, pss_cons (ps_if (PW.pt (pw_or (pt_not (pt_val (pe_callB call_isi (by rfl) T.z_isinstance (by decide +kernel) (pa_cons (pv 0) (pa_cons (pe_bltn (v := .ty "tuple") (by rfl) T.z_tuple (by decide +kernel) rfl) pa_nil)))))
          (pw_or1 (pt_cmpR op_gt (pe_callB call_len_seq (by rfl) T.z_len PySem.boot_len (pa_cons (pv 0) pa_nil)) (pe_glob (v := .int 60) rfl vMOST_SIDE ⟨_, rfl⟩) (nomark _))))) (pss_one (ps_ret pe_bl)) pss_nil)
      (pss_cons (ps_set (i := 1) scIsHeap.nd rfl (.inl rfl) (pe_glob (v := .int 60) rfl vMOST_SIDE ⟨_, rfl⟩))
      (pss_cons (ps_for PassesOwn.never rfl (pi_tup (pv 0)) (pg_name (i := 2) scIsHeap.nd rfl (.inl rfl))
        (pss_cons (ps_if (pt_not (pt_val (pe_call (ok_is_between T D1) hr2 (by rfl) D1.g D1.F.kp D1.b .nil pass0 (pa_cons (pv 2) (pa_cons pe_int (pa_cons (pv 1) pa_nil)))))) (pss_one (ps_ret pe_bl)) pss_nil)
      (pss_one (ps_set (i := 1) scIsHeap.nd rfl (.inl rfl) (pv 2)))))
      (pss_one (ps_ret pe_bl)))), ?_⟩
    cases hb with
    | no hn =>
      obtain ⟨t, ty, h⟩ := hn.ty
      exact ⟨_, rfl, x, .ty "tuple", t, .type "tuple", false, rfl, .ty _, ty, h, false, rfl, iteT (q _ (Ex.refl _))⟩
    | @yes p h e G =>
      have Gl := G.len
      refine ⟨_, rfl, .ref p, .ty "tuple", .type "tuple", .type "tuple", true, rfl, .ty _, .base (.tup e), kit_ty (by decide +kernel), true, rfl, iteF ?_⟩
      refine ⟨_, rfl, p, _, rfl, .inr (SqT.of e), _, _, rfl, rfl, _, rfl, iteF' (decide_eq_false (by rw [hv_len]; omega)) ?_⟩
      refine ⟨_, rfl, p, rfl, ⟨_, SqT.of e⟩, for_tup (K := K) (a := p) (xs := hv h) (fun i σ' H' => ∃ (a : Nat) (y : Option V), σ' = [some (.ref p), some (.int (a : Int)), y] ∧ hAt h i ≤ a ∧ a ≤ 60 ∧ Ex H H') ⟨60, none, rfl, G.all 0, Nat.le_refl _, Ex.refl _⟩ (fun i σ' H' _ hW => ?_) (fun i x σ' H' hx hW => ?_) (fun σ' H' hW => ?_)⟩
      · obtain ⟨_, _, _, _, _, e'⟩ := hW
        exact SqT.of (e' _ _ e)
      · obtain ⟨a, y, rfl, h1, h2, e'⟩ := hW
        have hi : i < h.length := by
          have := (List.getElem?_eq_some_iff.mp hx).1
          rw [hv_len] at this
          exact this
        rw [hv_get hi] at hx
        obtain rfl := Option.some.inj hx
        have hp0 := G.heap.pos i hi
        refine ⟨_, rfl, _, rfl, _, 1, a, true, rfl, .yes (by omega) (by omega) (by omega) (by omega), fun H1 e1 => ⟨true, rfl, iteF ?_⟩⟩
        exact ⟨_, rfl, hAt h i, _, rfl, G.heap.fall i, by omega, e'.trans e1⟩
      · obtain ⟨a, y, rfl, h1, h2, e'⟩ := hW
        exact q _ e'
    | @bad p h y e G l hy =>
      have ln : (hv h ++ [y]).length = h.length + 1 := by rw [List.length_append, hv_len]; rfl
      refine ⟨_, rfl, .ref p, .ty "tuple", .type "tuple", .type "tuple", true, rfl, .ty _, .base (.tup e), kit_ty (by decide +kernel), true, rfl, iteF ?_⟩
      refine ⟨_, rfl, p, _, rfl, .inr (SqT.of e), _, _, rfl, rfl, _, rfl, iteF' (decide_eq_false (by rw [ln]; omega)) ?_⟩
      refine ⟨_, rfl, p, rfl, ⟨_, SqT.of e⟩, for_tup (K := K) (a := p) (xs := hv h ++ [y]) (fun i σ' H' => ∃ y2, i ≤ h.length ∧ σ' = [some (.ref p), some (.int (if i = 0 then 60 else (hAt h (i - 1) : Int))), y2] ∧ Ex H H') ⟨none, Nat.zero_le _, rfl, Ex.refl _⟩ (fun i σ' H' _ hW => ?_) (fun i x σ' H' hx hW => ?_) (fun σ' H' hW => ?_)⟩
      · obtain ⟨_, _, _, e'⟩ := hW
        exact SqT.of (e' _ _ e)
      · obtain ⟨y2, hi, rfl, e'⟩ := hW
        by_cases c : i < h.length
        · rw [List.getElem?_append_left (by rw [hv_len]; exact c), hv_get c] at hx
          obtain rfl := Option.some.inj hx
          have hp0 := G.heap.pos i c
          have up : (hAt h i : Int) ≤ (if i = 0 then 60 else (hAt h (i - 1) : Int)) := by
            split
            · have := G.all i
              omega
            · have := G.heap.le (show i - 1 ≤ i by omega)
              omega
          refine ⟨_, rfl, _, rfl, _, 1, _, true, rfl, .yes (by omega) up (by omega) (by have := G.all i; omega), fun H1 e1 => ⟨true, rfl, iteF ?_⟩⟩
          exact ⟨_, rfl, _, by omega, by rw [if_neg (show ¬ i + 1 = 0 by omega), Nat.add_sub_cancel]; rfl, e'.trans e1⟩
        · have ei : i = h.length := by omega
          subst ei
          rw [List.getElem?_append_right (by rw [hv_len]; exact Nat.le_refl _), hv_len, Nat.sub_self] at hx
          obtain rfl := Option.some.inj hx
          exact ⟨_, rfl, _, rfl, _, 1, _, false, rfl, hy.mono e', fun H1 e1 => ⟨false, rfl, iteT (q _ (e'.trans e1))⟩⟩
      · obtain ⟨y2, hi, rfl, e'⟩ := hW
        rw [ln] at hi
        omega
def spCheckHeap (K : PySem.W.Frag) : Sp := fun vs H Q _ => ∃ p h, vs = [.ref p] ∧ HeapAt H p h ∧ Good h ∧ ∀ H', Ex H H' → Q .non H'
theorem ok_check_heap (T : Txt K mg) {f : Addr} {fd : FuncData} (D : DefAt K mg "check_heap" sCheckHeap ["heap"] f fd) : FnOk P w K mg base CX0 4 f fd ["heap"] (spCheckHeap K) := by
  refine D.F.ok scCheckHeap (fun vs H Q E h => ?_) (fun cdv A outer s H vs Q E hr h => ?_)
  · obtain ⟨p, h, rfl, _⟩ := h
    rfl
  · obtain ⟨p, h, rfl, hp, G, q⟩ := h
    obtain ⟨f1, fd1, D1⟩ := T.d_is_heap
    have hr3 : Room 3 _ := hr.mono (by decide)
    refine ⟨_, pss_one (ps_if (pt_not (pt_val (pe_call (ok_is_heap T D1) hr3 (by rfl) D1.g D1.F.kp D1.b .nil pass0 (pa_cons (pv 0) pa_nil)))) pss_never pss_nil), ?_⟩
    exact ⟨_, rfl, .ref p, true, rfl, .yes hp G, fun H1 e1 => ⟨true, rfl, iteF (q _ e1)⟩⟩
def sqr (h : List Nat) (i j : Nat) : List (Int × Int) := ((List.range i).map fun (c : Nat) => (List.range (hAt h c)).map fun (r : Nat) => ((c : Int), (r : Int))).flatten ++ (List.range j).map fun (r : Nat) => ((i : Int), (r : Int))
theorem sqr_next (h : List Nat) (i : Nat) : sqr h i (hAt h i) = sqr h (i + 1) 0 := by
  unfold sqr
  rw [List.range_succ (n := i), List.map_append, List.flatten_append]
  simp
theorem sqr_one (h : List Nat) (i j : Nat) : sqr h i (j + 1) = sqr h i j ++ [((i : Int), (j : Int))] := by
  unfold sqr
  rw [List.range_succ (n := j), List.map_append, ← List.append_assoc]
  rfl
theorem sqr_le (h : List Nat) {i j : Nat} (hj : j ≤ hAt h i) : (sqr h i j).length ≤ (sqr h (i + 1) 0).length := by
  rw [← sqr_next]
  unfold sqr
  rw [List.length_append, List.length_append, List.length_map, List.length_map, List.length_range, List.length_range]
  omega
theorem sqr_mono (h : List Nat) {i : Nat} : ∀ {n : Nat}, i ≤ n → (sqr h i 0).length ≤ (sqr h n 0).length
  | 0, q => by
    have : i = 0 := by omega
    rw [this]
    exact Nat.le_refl _
  | n + 1, q => by
    by_cases c : i = n + 1
    · rw [c]
      exact Nat.le_refl _
    · exact Nat.le_trans (sqr_mono h (by omega)) (sqr_le h (Nat.zero_le _))
theorem paired_imp2 {α β : Type} {R S : α → β → Prop} (h : ∀ x y, R x y → S x y) : ∀ {xs : List α} {ys : List β}, Paired R xs ys → Paired S xs ys
  | _, _, .nil => .nil
  | _, _, .cons a r => .cons (h _ _ a) (paired_imp2 h r)
theorem paired_snoc2 {α β : Type} {R : α → β → Prop} {x : α} {y : β} (h : R x y) : ∀ {xs : List α} {ys : List β}, Paired R xs ys → Paired R (xs ++ [x]) (ys ++ [y])
  | _, _, .nil => .cons h .nil
  | _, _, .cons a r => .cons a (paired_snoc2 h r)
def sqAll (h : List Nat) : List (Int × Int) := sqr h h.length 0
def PlAt (H : Hp) (x : V) (p : Int × Int) : Prop := ∃ t, x = .ref t ∧ H t = some (.tup [.int p.1, .int p.2])
theorem PlAt.ex {H H' : Hp} {x : V} {p : Int × Int} (e : Ex H H') (h : PlAt H x p) : PlAt H' x p := by
  obtain ⟨t, h1, h2⟩ := h
  exact ⟨t, h1, e _ _ h2⟩
abbrev Pls (H : Hp) (xs : List V) (ps : List (Int × Int)) : Prop := Paired (PlAt H) xs ps
def spSquares (K : PySem.W.Frag) : Sp := fun vs H Q _ => ∃ p h, vs = [.ref p] ∧ HeapAt H p h ∧ Good h ∧ (sqAll h).length ≤ 900 ∧ ∀ r ys H', Ex H H' → H' r = some (.tup ys) → Pls H' ys (sqAll h) → Q (.ref r) H'
theorem ok_squares (T : Txt K mg) {f : Addr} {fd : FuncData} (D : DefAt K mg "squares" sSquares ["heap"] f fd) : FnOk P w K mg base CX0 5 f fd ["heap"] (spSquares K) := by
  refine D.F.ok scSquares (fun vs H Q E h => ?_) (fun cdv A outer s₀ H vs Q E hr h => ?_)
  · obtain ⟨p, h, rfl, _⟩ := h
    rfl
  · obtain ⟨p, h, rfl, hp, G, hl, q⟩ := h
    obtain ⟨f1, fd1, D1⟩ := T.d_check_heap
    have hr4 : Room 4 _ := hr.mono (by decide)
    refine ⟨_, pss_cons (ps_expr (pe_call (ok_check_heap T D1) hr4 (by rfl) D1.g D1.F.kp D1.b .nil pass0 (pa_cons (pv 0) pa_nil)))
      (pss_one (ps_ret (pe_callTy call_tuple_of (by rfl) T.z_tuple (by decide +kernel) (pa_cons (pe_lc2 (own := [("column", 1), ("height", 2), ("row", 3)]) (vs1 := [3]) (g := gTup K 2 (gCons (gName 1) (gCons (gName 2) gNil))) (g1 := gName 3) (tt := tYes) (tt1 := tYes) (wi1 := iRng1 (tCons (tVar 2) tNil)) rfl scSquares.nd (EnT.pi_enumT (by rfl) T.z_enumerate (pa_cons (pv 0) pa_nil))
        (blkOk_by (N := nSquares) (sc := defScope sSquares) (by decide +kernel)) (by decide) (fun _ _ _ _ _ => (pg_tup (by rfl) (pgs_cons (pg_name (i := 1) scSquares.nd rfl (.inl rfl)) (pgs_cons (pg_name (i := 2) scSquares.nd rfl (.inl rfl)) pgs_nil)))) (fun _ _ _ _ _ => pts_nil) (fun _ _ _ _ _ => (pi_range1 (by rfl) T.z_range (pa_cons (pv 2) pa_nil))) (fun _ _ _ _ _ => (pg_name (i := 3) scSquares.nd rfl (.inl rfl))) (fun _ _ _ _ _ => pts_nil) (fun _ _ _ _ _ => (pe_tup (pa_cons (pv 1) (pa_cons (pv 3) pa_nil))))) pa_nil)))), ?_⟩
    refine ⟨_, rfl, p, h, rfl, hp, G, fun H1 e1 => ?_⟩
    have hp1 := e1 _ _ hp
    refine ⟨_, rfl, p, _, rfl, SqT.of hp1, fun Dl hD => ?_⟩
    have wk := walk_enumT (K := K) (a := p) (xs := hv h)
    have hl60 := G.len
    have sq_le : ∀ i, i ≤ h.length → (sqr h i 0).length ≤ 900 := fun i hi => Nat.le_trans (sqr_mono h hi) hl
    refine ⟨fun i m H' => i ≤ h.length ∧ m = h.length - i ∧ ∃ ys, H' Dl = some (.lst ys) ∧ Pls H' ys (sqr h i 0) ∧ Ex H1 H', ⟨h.length, Nat.zero_le _, rfl, [], upd_same, .nil, Ex.new hD⟩, fun i m H' hW => ?_⟩
    obtain ⟨hi, rfl, ys, a1, a2, a3⟩ := hW
    have hG : SqT K H' p (hv h) := SqT.of (a3 _ _ hp1)
    by_cases hlt : i < h.length
    · have hlv : i < (hv h).length := by rw [hv_len]; exact hlt
      refine .inr ⟨wk.goes i H' hlv hG, fun H2 => ∃ ys, H2 Dl = some (.lst ys) ∧ Pls H2 ys (sqr h (i + 1) 0) ∧ Ex H1 H2, fun H2 z => ⟨h.length - (i + 1), by omega, by omega, rfl, z⟩, fun v H2 hy => ?_⟩
      obtain ⟨Tp, z1, z2, rfl, nT, rfl, ez1, ez2⟩ := wk.yields i H' v H2 hlv hG hy
      obtain rfl := Option.some.inj ez1
      replace ez2 : (hv h)[i]? = some z2 := ez2
      rw [hv_get hlt] at ez2
      obtain rfl := Option.some.inj ez2
      have eT := Ex.new (o := .tup [.int (i : Nat), .int (hAt h i : Int)]) nT
      refine ⟨Tp, _, rfl, SqT.of upd_same, rfl, .int (i : Nat), [_], rfl, .int _, [], rfl, rfl, rfl, ?_⟩
      dsimp only [tYes]
      rw [if_pos rfl]
      have hA := G.all i
      refine ⟨_, rfl, _, rfl, by omega, by omega, ?_⟩
      refine ⟨fun j k H6 => j ≤ hAt h i ∧ k = hAt h i - j ∧ ∃ ys, H6 Dl = some (.lst ys) ∧ Pls H6 ys (sqr h i j) ∧ Ex H1 H6, ⟨hAt h i, Nat.zero_le _, rfl, ys, eT _ _ a1, paired_imp2 (fun _ _ z => z.ex eT) a2, a3.trans eT⟩, fun j k H6 hW1 => ?_⟩
      obtain ⟨hj, rfl, ys2, b1, b2, b3⟩ := hW1
      by_cases hjl : j < hAt h i
      · refine .inr ⟨(show j < ((hAt h i : Int)).toNat by omega), fun H7 => ∃ ys, H7 Dl = some (.lst ys) ∧ Pls H7 ys (sqr h i (j + 1)) ∧ Ex H1 H7, fun H7 z => ⟨hAt h i - (j + 1), by omega, by omega, rfl, z⟩, fun v H7 hy => ?_⟩
        obtain ⟨rfl, rfl⟩ := hy
        rw [show (0 : Int) + (j : Int) = ((j : Nat) : Int) by omega]
        refine ⟨rfl, ?_⟩
        dsimp only [tYes]
        rw [if_pos rfl]
        refine ⟨_, rfl, _, rfl, by show 2 ≤ sizeLine; decide, fun t2 ht2 => ?_⟩
        have x2 := Ex.new (o := .tup [.int (i : Nat), .int (j : Nat)]) ht2
        have yl := Paired.length b2
        have sj : (sqr h i j).length ≤ 900 := Nat.le_trans (sqr_le h (by omega)) (sq_le (i + 1) (by omega))
        refine ⟨_, x2 _ _ b1, small1000 (by omega), _, upd_same, ?_, Ex.mut (b3.trans x2) hD⟩
        rw [sqr_one]
        exact paired_snoc2 ⟨t2, rfl, (upd_ne (ne_of (show (upd H7 t2 (.tup [.int (i : Nat), .int (j : Nat)])) t2 = _ from upd_same) (x2 _ _ b1) (by intro z; cases z))).trans upd_same⟩ (paired_imp2 (fun _ _ ⟨t, e1', e2'⟩ => ⟨t, e1', (upd_ne (ne_of (x2 _ _ e2') (x2 _ _ b1) (by intro z; cases z))).trans (x2 _ _ e2')⟩) b2)
      · refine .inl ⟨(show ((hAt h i : Int)).toNat ≤ j by omega), ys2, b1, ?_, b3⟩
        have : j = hAt h i := by omega
        subst this
        rw [← sqr_next]
        exact b2
    · have hie : i = h.length := by omega
      subst hie
      have st := wk.stops H' hG
      rw [hv_len] at st
      refine .inl ⟨st, Dl, ys, rfl, .inl ⟨SqL.of a1, fun y hy => ?_⟩⟩
      have x3 := Ex.new (o := .tup ys) hy
      exact q y ys _ ((e1.trans a3).trans x3) upd_same (paired_imp2 (fun _ _ z => z.ex x3) a2)
end
end K1

set_option exponentiation.threshold 400
namespace K1
open PySem PySem.Spec PyProof.Rows L2 Evl HM LX ZW TE
section
variable {P : Program} {w : World} {K : PySem.W.Frag} {mg : Str → Option Value} {base : Heap}
theorem hv_snoc (l : List Nat) (c : Nat) : hv (l ++ [c]) = hv l ++ [V.int (c : Int)] := by
  unfold hv
  rw [List.map_append]
  rfl
theorem hv_inv {l : List Nat} {i : Nat} {v : V} (h : (hv l)[i]? = some v) : ∃ x, l[i]? = some x ∧ v = V.int (x : Int) := by
  unfold hv at h
  rw [List.getElem?_map] at h
  cases e : l[i]? with
  | none =>
    rw [e] at h
    cases h
  | some x =>
    rw [e] at h
    exact ⟨x, rfl, (Option.some.inj h).symm⟩
theorem take_filter_snoc {α : Type} {l : List α} {i : Nat} {x : α} (g : α → Bool) (h : l[i]? = some x) : (l.take (i + 1)).filter g = (l.take i).filter g ++ (if g x = true then [x] else []) := by
  rw [List.take_add_one, h, List.filter_append]
  show _ ++ [x].filter g = _
  by_cases q : g x = true
  · rw [if_pos q, List.filter_cons, if_pos q]
    rfl
  · rw [if_neg q, List.filter_cons, if_neg q]
    rfl
def rLenS (K : PySem.W.Frag) : List V → Hp → VK → Prop := fun xs H Q => ∃ (p : Addr) (ys : List V), xs = [V.ref p] ∧ (SqL K H p ys ∨ SqT K H p ys) ∧ Q (V.int (ys.length : Int)) H
def scRows : Scope := { kind := .function, names := [(".0", .local), ("row", .cell), ("len", .globalImplicit), ("heap", .free)], isGenerator := false, isCoroutine := false, more := [] }
def spLengthsOf (K : PySem.W.Frag) : Sp := fun vs H Q _ => ∃ p h, vs = [.ref p] ∧ HeapAt H p h ∧ Good h ∧ ∀ r H', Ex H H' → HeapAt H' r (conj h) → Q (.ref r) H'
theorem ok_lengths_of (T : Txt K mg) {f : Addr} {fd : FuncData} (D : DefAt K mg "lengths_of" sLengthsOf ["heap"] f fd) : FnOk P w K mg base CX0 2 f fd ["heap"] (spLengthsOf K) := by
  refine D.F.ok scLengthsOf (fun vs H Q E h => ?_) (fun cdv A outer s H vs Q E hr h => ?_)
  · obtain ⟨p, h, rfl, _⟩ := h
    rfl
  · obtain ⟨p, h, rfl, hp1, G, k⟩ := h
    obtain ⟨f1, fd1, D1⟩ := T.d_height_at
    have hr1 : Room 1 _ := hr.mono (by decide)
    refine ⟨_, pss_one (ps_ret (pe_callTy call_tuple_of (by rfl) T.z_tuple (by decide +kernel) (pa_cons (pe_lc (own := [("row", 2)]) (g := gName 2) (tt := tYes) rfl scLengthsOf.nd (pi_range1 (by rfl) T.z_range (pa_cons (pe_call (ok_height_at T D1) hr1 (by rfl) D1.g D1.F.kp D1.b .nil pass0 (pa_cons (pv 0) (pa_cons pe_int pa_nil))) pa_nil))
        (blkOk_by (N := nLengthsOf) (sc := defScope sLengthsOf) (by decide +kernel)) (fun _ _ _ _ _ => (pg_name (i := 2) scLengthsOf.nd rfl (.inr rfl))) (fun _ _ _ _ _ => pts_nil)
        (fun _ _ _ _ _ => pe_callB (show CallR _ _ (rLenS K) from call_len_seq) (by rfl) T.z_len PySem.boot_len (pa_cons (pe_lc (own := [("height", 1)]) (g := gName 1) (wi := iTup K (tVar 0)) rfl scLengthsOf.nd (pi_tup (pv 0))
          (blkOk_by (N := nLengthsOf) (sc := relS scRows (defScope sLengthsOf)) (by decide +kernel)) (fun _ _ _ _ _ => pg_name (i := 1) scLengthsOf.nd rfl (Or.inl rfl))
          (fun _ _ _ _ _ => pts_one (pt_cmpR op_gt (pv 1) (pv 2) (nomark _))) (fun _ _ _ _ _ => pv 1)) pa_nil))) pa_nil))), ?_⟩
    refine ⟨_, rfl, p, h, 0, rfl, hp1, fun H2 e2 => ?_⟩
    have hp2 := e2 _ _ hp1
    have ht := G.top
    have hl60 := G.len
    refine ⟨_, rfl, by omega, by omega, fun Dl hD => ?_⟩
    refine lc_range (lo := 0) (n := (hAt h 0 : Int).toNat) (fun i H' => H' Dl = some (.lst (hv ((List.range i).map fun r => (h.filter fun x => decide (r < x)).length))) ∧ Ex H2 H') ⟨upd_same, Ex.new hD⟩ (fun i H' hi hW => ?_) (fun H' hW => ?_)
    · obtain ⟨w1, w2⟩ := hW
      have hp4 := w2 _ _ hp2
      refine ⟨rfl, ?_⟩
      dsimp only [tYes]
      rw [if_pos rfl]
      refine ⟨_, rfl, p, rfl, ⟨_, SqT.of hp4⟩, fun D2 hD2 => ?_⟩
      refine lc_tup (K := K) (a := p) (xs := hv h) (fun j H5 => H5 D2 = some (.lst (hv ((h.take j).filter fun x => decide (i < x)))) ∧ Ex H' H5) ⟨upd_same, Ex.new hD2⟩ (fun j H5 _ hp5 => SqT.of (hp5.2 _ _ hp4)) (fun j x H5 hx hp5 => ?_) (fun H5 hp5 => ?_)
      · obtain ⟨u1, u2⟩ := hp5
        obtain ⟨y, hy, rfl⟩ := hv_inv hx
        refine ⟨rfl, _, rfl, _, rfl, _, _, rfl, rfl, _, rfl, ite2 (fun cc => ?_) (fun cc => ?_)⟩
        · have c0 : i < y := by
            have := of_decide_eq_true cc
            omega
          refine ⟨_, rfl, _, u1, ?_, ?_, Ex.mut u2 hD2⟩
          · rw [hv_len]
            have a1 := List.length_filter_le (fun x => decide (i < x)) (h.take j)
            rw [List.length_take] at a1
            exact small1000 (by omega)
          · rw [upd_same, take_filter_snoc _ hy, if_pos (decide_eq_true c0), hv_snoc]
        · have c0 : ¬ i < y := fun z => cc (decide_eq_true (by omega))
          refine ⟨?_, u2⟩
          rw [take_filter_snoc _ hy, if_neg (by rw [decide_eq_false c0]; decide), List.append_nil]
          exact u1
      · obtain ⟨u1, u2⟩ := hp5
        rw [hv_len, List.take_length] at u1
        refine ⟨D2, _, rfl, .inl (SqL.of u1), _, u2 _ _ w1, ?_, ?_, Ex.mut (w2.trans u2) hD⟩
        · rw [hv_len, List.length_map, List.length_range]
          exact small1000 (by omega)
        · rw [upd_same, List.range_succ, List.map_append, hv_len]
          show _ = some (HO.lst (hv (_ ++ [(h.filter fun x => decide (i < x)).length])))
          rw [hv_snoc]
    · obtain ⟨w1, w2⟩ := hW
      rw [show (hAt h 0 : Int).toNat = hAt h 0 by omega] at w1
      exact ⟨Dl, _, rfl, .inl ⟨SqL.of w1, fun r' hr' => k r' _ ((e2.trans w2).trans (Ex.new hr')) upd_same⟩⟩
end
end K1

set_option exponentiation.threshold 400
namespace K1
open PySem PySem.Spec PyProof.Rows L2 Evl HM LX ZW TE
def beadsL (h : List Nat) : List Int := (List.range h.length).map fun c => bead h c
theorem beads_nd {h : List Nat} (H : IsHeap h) : (beadsL h).Nodup := by
  refine List.pairwise_map.mpr ?_
  refine List.pairwise_lt_range.imp fun {a b} q e => ?_
  have := H.le (show a ≤ b by omega)
  unfold bead at e
  omega
theorem mem_beads {h : List Nat} {z : Int} : z ∈ beadsL h ↔ isB h z := by
  unfold beadsL isB
  rw [List.mem_map]
  constructor
  · rintro ⟨c, hc, rfl⟩
    exact ⟨c, List.mem_range.mp hc, rfl⟩
  · rintro ⟨c, hc, rfl⟩
    exact ⟨c, List.mem_range.mpr hc, rfl⟩
theorem int_inv {ns : List Int} {i : Nat} {x : V} (h : (ns.map V.int)[i]? = some x) : i < ns.length ∧ ∃ n, ns[i]? = some n ∧ x = V.int n := by
  rw [List.getElem?_map] at h
  obtain ⟨n, hn, rfl⟩ := Option.map_eq_some_iff.mp h
  exact ⟨(List.getElem?_eq_some_iff.mp hn).1, n, hn, rfl⟩
theorem take_snoc1 {α : Type} {l : List α} {i : Nat} {x : α} (h : l[i]? = some x) : l.take (i + 1) = l.take i ++ [x] := by
  rw [List.take_add_one, h]
  rfl
def tst (h : List Nat) (k n : Int) : Bool := decide (n - k ∈ beadsL h) || decide (n - k < -(h.length : Int))
theorem tst_iff (h : List Nat) (k : Int) : ((beadsL h).map (tst h k)).all id = true ↔ coreB h k := by
  rw [List.all_eq_true]
  constructor
  · intro a c hc
    have := a (tst h k (bead h c)) (List.mem_map.mpr ⟨_, mem_beads.mpr ⟨c, hc, rfl⟩, rfl⟩)
    rcases Bool.or_eq_true_iff.mp this with q | q
    · exact .inl (mem_beads.mp (of_decide_eq_true q))
    · exact .inr (of_decide_eq_true q)
  · intro C x hx
    obtain ⟨n, hn, rfl⟩ := List.mem_map.mp hx
    obtain ⟨c, hc, rfl⟩ := mem_beads.mp hn
    rcases C c hc with q | q
    · exact Bool.or_eq_true_iff.mpr (.inl (decide_eq_true (mem_beads.mpr q)))
    · exact Bool.or_eq_true_iff.mpr (.inr (decide_eq_true q))
def kB (ns : List Int) : List (Key × V) := ns.map fun n => (.inl n, .bl true)
theorem valB : ∀ (ns : List Int) (z : Int), (valV (kB ns) (.inl z : Key)).isSome = decide (z ∈ ns)
  | [], z => by
    rw [decide_eq_false (by simp)]
    rfl
  | n :: r, z => by
    by_cases c : n = z
    · rw [decide_eq_true (by rw [c]; exact List.mem_cons_self ..)]
      show (valV ((Sum.inl n, V.bl true) :: kB r) (.inl z : Key)).isSome = true
      rw [valV_pos (by rw [c])]
      rfl
    · show (valV ((Sum.inl n, V.bl true) :: kB r) (.inl z : Key)).isSome = _
      rw [valV_neg (fun e => c (Sum.inl.inj e)), valB r z, decide_eq_decide]
      constructor
      · exact fun h => List.mem_cons_of_mem _ h
      · intro h
        rcases List.mem_cons.mp h with h | h
        · exact absurd h.symm c
        · exact h
theorem Ex.of_keepD {H H' : Hp} {d : Addr} {u : HO} (h : H d = some u) (k : Keep d H H') : Ex H (upd H' d u) := fun b o e => by
  by_cases z : b = d
  · rw [z] at e ⊢
    rw [upd_same, ← e, h]
  · rw [upd_ne z]
    exact k b o z e
section
variable {P : Program} {w : World} {K : PySem.W.Frag} {mg : Str → Option Value} {base : Heap}
def spHookAt : Sp := fun vs H Q _ => ∃ p l h, ∃ c r : Nat, vs = [.ref p, .ref l, .int (c : Int), .int (r : Int)] ∧ HeapAt H p h ∧ HeapAt H l (conj h) ∧ IsHeap h ∧ r < hAt h c ∧ Q (.int (hk h c r)) H
theorem ok_hook_at (T : Txt K mg) {f : Addr} {fd : FuncData} (D : DefAt K mg "hook_at" sHookAt ["heap", "lengths", "column", "row"] f fd) : FnOk P w K mg base CX0 1 f fd ["heap", "lengths", "column", "row"] spHookAt := by
  refine D.F.ok scHookAt (fun vs H Q E h => ?_) (fun cdv A outer s₀ H vs Q E hr h => ?_)
  · obtain ⟨p, l, h, c, r, rfl, _⟩ := h
    rfl
  · obtain ⟨p, l, h, c, r, rfl, hp, hl, Hh, hrc, q⟩ := h
    refine ⟨_, pss_one (ps_ret (pe_op op_sub (pe_op op_sub (pe_op op_add (pe_op op_sub (pe_ix ix_tup (pv 0) (pv 2) (fun _ _ => rfl)) (pv 3)) (pe_ix ix_tup (pv 1) (pv 3) (fun _ _ => rfl))) (pv 2)) pe_int)), ?_⟩
    have hc : c < h.length := by
      rcases Nat.lt_or_ge c h.length with z | z
      · exact z
      · rw [hAt_ge z] at hrc
        omega
    have hrl : r < (conj h).length := by
      rw [conj_len]
      have := Hh.le (Nat.zero_le c)
      omega
    exact ⟨_, rfl, _, rfl, p, _, (c : Int), .int (hAt h c : Int), rfl, rfl, SqT.of hp, atI_nat (hv_get hc), _, rfl, _, _, rfl, rfl, _, rfl, _, rfl, l, _, (r : Int), .int (hAt (conj h) r : Int), rfl, rfl, SqT.of hl, atI_nat (hv_get hrl), _, _, rfl, rfl, _, rfl, _, _, rfl, rfl, _, _, rfl, rfl, q⟩
def spHook (K : PySem.W.Frag) : Sp := fun vs H Q _ => ∃ p t h, ∃ c r : Nat, vs = [.ref p, .ref t] ∧ HeapAt H p h ∧ Good h ∧ H t = some (.tup [.int (c : Int), .int (r : Int)]) ∧ r < hAt h c ∧ ∀ H', Ex H H' → Q (.int (hk h c r)) H'
theorem ok_hook (T : Txt K mg) {f : Addr} {fd : FuncData} (D : DefAt K mg "hook" sHook ["heap", "square"] f fd) : FnOk P w K mg base CX0 5 f fd ["heap", "square"] (spHook K) := by
  refine D.F.ok scHook (fun vs H Q E h => ?_) (fun cdv A outer s₀ H vs Q E hr h => ?_)
  · obtain ⟨p, t, h, c, r, rfl, _⟩ := h
    rfl
  · obtain ⟨p, t, h, c, r, rfl, hp, G, ht, hrc, q⟩ := h
    obtain ⟨f1, fd1, D1⟩ := T.d_hook_at
    obtain ⟨f2, fd2, D2⟩ := T.d_lengths_of
    obtain ⟨f3, fd3, D3⟩ := T.d_is_between
    obtain ⟨f4, fd4, D4⟩ := T.d_is_pair
    obtain ⟨f5, fd5, D5⟩ := T.d_check_heap
    have hr1 : Room 1 _ := hr.mono (by decide)
    have hr2 : Room 2 _ := hr.mono (by decide)
    have hr4 : Room 4 _ := hr.mono (by decide)
    refine ⟨_, pss_cons (ps_expr (pe_call (ok_check_heap T D5) hr4 (by rfl) D5.g D5.F.kp D5.b .nil pass0 (pa_cons (pv 0) pa_nil)))
      (pss_cons (ps_if (PW.pt (pw_or (pt_not (pt_val (pe_call (ok_is_pair T D4) hr1 (by rfl) D4.g D4.F.kp D4.b .nil pass0 (pa_cons (pv 1) pa_nil))))
          (pw_or1 (pt_not (pt_val (pe_call (ok_is_between T D3) hr2 (by rfl) D3.g D3.F.kp D3.b .nil pass0 (pa_cons (pe_ix ix_tup (pv 1) pe_int (fun _ _ => rfl)) (pa_cons pe_int (pa_cons (pe_op op_sub (pe_callB call_len_seq (by rfl) T.z_len PySem.boot_len (pa_cons (pv 0) pa_nil)) pe_int) pa_nil))))))))) pss_never pss_nil)
      (pss_cons (ps_if (pt_not (pt_val (pe_call (ok_is_between T D3) hr2 (by rfl) D3.g D3.F.kp D3.b .nil pass0 (pa_cons (pe_ix ix_tup (pv 1) pe_int (fun _ _ => rfl)) (pa_cons pe_int (pa_cons (pe_op op_sub (pe_ix ix_tup (pv 0) (pe_ix ix_tup (pv 1) pe_int (fun _ _ => rfl)) (fun _ _ => rfl)) pe_int) pa_nil)))))) pss_never pss_nil)
      (pss_one (ps_ret (pe_call (ok_hook_at T D1) hr1 (by rfl) D1.g D1.F.kp D1.b .nil pass0 (pa_cons (pv 0) (pa_cons (pe_call (ok_lengths_of T D2) hr2 (by rfl) D2.g D2.F.kp D2.b .nil pass0 (pa_cons (pv 0) pa_nil)) (pa_cons (pe_ix ix_tup (pv 1) pe_int (fun _ _ => rfl)) (pa_cons (pe_ix ix_tup (pv 1) pe_int (fun _ _ => rfl)) pa_nil))))))))), ?_⟩
    have hc : c < h.length := by
      rcases Nat.lt_or_ge c h.length with z | z
      · exact z
      · rw [hAt_ge z] at hrc
        omega
    have g1 := G.len
    have g2 := G.all c
    refine ⟨_, rfl, p, h, rfl, hp, G, fun H1 e1 => ?_⟩
    refine ⟨_, rfl, .ref t, _, rfl, .tup (e1 _ _ ht), fun H2 e2 => ⟨true, rfl, iteF ?_⟩⟩
    have e12 := e1.trans e2
    refine ⟨_, rfl, t, _, 0, _, rfl, rfl, SqT.of (e12 _ _ ht), rfl, _, rfl, p, _, rfl, .inr (SqT.of (e12 _ _ hp)), _, _, rfl, rfl, _, _, _, true, rfl, .yes (by omega) (by rw [hv_len]; omega) (by omega) (by omega), fun H3 e3 => ⟨true, rfl, iteF ?_⟩⟩
    have e13 := e12.trans e3
    refine ⟨_, rfl, t, _, 1, _, rfl, rfl, SqT.of (e13 _ _ ht), rfl, _, rfl, _, rfl, t, _, 0, _, rfl, rfl, SqT.of (e13 _ _ ht), rfl, p, _, (c : Int), .int (hAt h c : Int), rfl, rfl, SqT.of (e13 _ _ hp), atI_nat (hv_get hc), _, _, rfl, rfl, _, _, _, true, rfl, .yes (by omega) (by omega) (by omega) (by omega), fun H4 e4 => ⟨true, rfl, iteF ?_⟩⟩
    have e14 := e13.trans e4
    refine ⟨_, rfl, _, rfl, p, h, rfl, e14 _ _ hp, G, fun l H5 e5 hl => ?_⟩
    have e15 := e14.trans e5
    exact ⟨_, rfl, t, _, 0, _, rfl, rfl, SqT.of (e15 _ _ ht), rfl, _, rfl, t, _, 1, _, rfl, rfl, SqT.of (e15 _ _ ht), rfl, p, l, h, c, r, rfl, e15 _ _ hp, hl, G.heap, hrc, q _ e15⟩
def spBeads (K : PySem.W.Frag) : Sp := fun vs H Q _ => ∃ p h, vs = [.ref p] ∧ HeapAt H p h ∧ h.length ≤ 100 ∧ ∀ l H', Ex H H' → H l = none → H' l = some (.lst ((beadsL h).map V.int)) → Q (.ref l) H'
theorem ok_beads_of (T : Txt K mg) {f : Addr} {fd : FuncData} (D : DefAt K mg "beads_of" sBeadsOf ["heap"] f fd) : FnOk P w K mg base CX0 1 f fd ["heap"] (spBeads K) := by
  refine D.F.ok scBeadsOf (fun vs H Q E h => ?_) (fun cdv A outer s₀ H vs Q E hr h => ?_)
  · obtain ⟨p, h, rfl, _⟩ := h
    rfl
  · obtain ⟨p, h, rfl, hp, hl, q⟩ := h
    refine ⟨_, pss_one (ps_ret (pe_lc (own := [("column", 1), ("height", 2)]) (g := gTup K 2 (gCons (gName 1) (gCons (gName 2) gNil))) (tt := tYes) rfl scBeadsOf.nd (EnT.pi_enumT (by rfl) T.z_enumerate (pa_cons (pv 0) pa_nil))
        (blkOk_by (N := nBeadsOf) (sc := defScope sBeadsOf) (by decide +kernel)) (fun _ _ _ _ _ => (pg_tup (by rfl) (pgs_cons (pg_name (i := 1) scBeadsOf.nd rfl (.inl rfl)) (pgs_cons (pg_name (i := 2) scBeadsOf.nd rfl (.inl rfl)) pgs_nil)))) (fun _ _ _ _ _ => pts_nil)
        (fun _ _ _ _ _ => (pe_op op_sub (pe_op op_sub (pv 2) (pv 1)) pe_int)))), ?_⟩
    refine ⟨_, rfl, p, _, rfl, SqT.of hp, fun Dl hD => ?_⟩
    refine lc_enumT (K := K) (a := p) (xs := hv h) (fun i H' => H' Dl = some (.lst (((List.range i).map fun c => bead h c).map V.int)) ∧ Ex H H') ⟨upd_same, Ex.new hD⟩ (fun i H' hp2 => SqT.of (hp2.2 _ _ hp)) (fun i x Tp H' hx hp2 nT => ?_) (fun H' hp2 => ?_)
    · obtain ⟨w1, w2⟩ := hp2
      have hi : i < h.length := by
        have := (List.getElem?_eq_some_iff.mp hx).1
        rw [hv_len] at this
        exact this
      rw [hv_get hi] at hx
      obtain rfl := Option.some.inj hx
      have eT := Ex.new (o := .tup [.int (i : Nat), .int (hAt h i : Int)]) nT
      refine ⟨Tp, _, rfl, SqT.of upd_same, rfl, .int (i : Nat), [_], rfl, _, [], rfl, rfl, rfl, ?_⟩
      dsimp only [tYes]
      rw [if_pos rfl]
      refine ⟨_, rfl, _, rfl, _, _, rfl, rfl, _, _, rfl, rfl, _, eT _ _ w1, ?_, ?_, Ex.mut (w2.trans eT) hD⟩
      · rw [List.length_map, List.length_map, List.length_range]
        exact small1000 (by omega)
      · rw [upd_same, List.range_succ, List.map_append, List.map_append]
        rfl
    · rw [hv_len] at hp2
      exact q Dl H' hp2.2 hD hp2.1
def spCheckOrder : Sp := fun vs H Q _ => ∃ k : Int, vs = [.int k] ∧ 2 ≤ k ∧ k ≤ 60 ∧ ∀ H', Ex H H' → Q .non H'
theorem ok_check_order (T : Txt K mg) {f : Addr} {fd : FuncData} (D : DefAt K mg "check_order" sCheckOrder ["k"] f fd) : FnOk P w K mg base CX0 4 f fd ["k"] spCheckOrder := by
  refine D.F.ok scCheckOrder (fun vs H Q E h => ?_) (fun cdv A outer s₀ H vs Q E hr h => ?_)
  · obtain ⟨k, rfl, _⟩ := h
    rfl
  · obtain ⟨k, rfl, h1, h2, q⟩ := h
    obtain ⟨f1, fd1, D1⟩ := T.d_check_between
    obtain ⟨tMAX_ORDER, vMAX_ORDER⟩ := T.v_MAX_ORDER
    have hr3 : Room 3 _ := hr.mono (by decide)
    refine ⟨_, pss_one (ps_expr (pe_call (ok_check_between T D1) hr3 (by rfl) D1.g D1.F.kp D1.b .nil pass0 (pa_cons (pv 0) (pa_cons pe_int (pa_cons (pe_glob (v := .int 60) rfl vMAX_ORDER ⟨_, rfl⟩) pa_nil))))), ?_⟩
    exact ⟨_, rfl, _, _, _, rfl, h1, h2, by omega, by omega, q⟩
def spStays : Sp := fun vs H Q _ => ∃ k p h, vs = [.int k, .ref p] ∧ HeapAt H p h ∧ Good h ∧ 2 ≤ k ∧ ∀ b H', (b = true ↔ coreB h k) → Ex H H' → Q (.bl b) H'
theorem ok_stays_core (T : Txt K mg) {f : Addr} {fd : FuncData} (D : DefAt K mg "stays_core" sStaysCore ["k", "heap"] f fd) : FnOk P w K mg base CX0 2 f fd ["k", "heap"] spStays := by
  refine D.F.ok scStaysCore (fun vs H Q E h => ?_) (fun cdv A outer s₀ H vs Q E hr h => ?_)
  · obtain ⟨k, p, h, rfl, _⟩ := h
    rfl
  · obtain ⟨k, p, h, rfl, hp, G, k2, q⟩ := h
    obtain ⟨f1, fd1, D1⟩ := T.d_beads_of
    have hr1 : Room 1 _ := hr.mono (by decide)
    have hu1 := Nat.lt_of_le_of_lt (Nat.add_le_add_left (show 1 ≤ 64 by decide) _) hr.units
    refine ⟨_, pss_cons (ps_set (i := 2) scStaysCore.nd rfl (.inr rfl) (pe_dc (own := [("bead", 3)]) (g := gName 3) (tt := tYes) rfl scStaysCore.nd (pi_list (pe_call (ok_beads_of T D1) hr1 (by rfl) D1.g D1.F.kp D1.b .nil pass0 (pa_cons (pv 1) pa_nil)))
        (blkOk_by (N := nStaysCore) (sc := defScope sStaysCore) (by decide +kernel)) (fun _ _ _ _ _ => (pg_name (i := 3) scStaysCore.nd rfl (.inl rfl))) (fun _ _ _ _ _ => pts_nil)
        (fun _ _ _ _ _ => (pv 3)) (fun _ _ _ _ _ => pe_bl)))
      (pss_one (ps_ret (pe_callB (cr_all rfl) (by rfl) T.z_all (by decide +kernel) (pa_cons (pe_lock (pe_lc (own := [("bead", 3)]) (g := gName 3) (tt := tYes) rfl scStaysCore.nd (pi_keys (pv 2))
        (blkOk_by (N := nStaysCore) (sc := defScope sStaysCore) (by decide +kernel)) (fun _ _ _ _ _ => (pg_name (i := 3) scStaysCore.nd rfl (.inl rfl))) (fun _ _ _ _ _ => pts_nil)
        (fun _ _ _ _ _ => (pe_or (pe_cmp (pc_din hu1 (pe_op op_sub (pv 3) (pv 0)) (pv 2)) (by rfl)) (pe_one (pe_cmpR op_lt (pe_op op_sub (pv 3) (pv 0)) (pe_un un_neg (pe_callB (show CallR _ (.builtin "len") (rLenS K) from call_len_seq) (by rfl) T.z_len PySem.boot_len (pa_cons (pv 1) pa_nil))) (nomark _))))))) pa_nil)))), ?_⟩
    have gl := G.len
    refine ⟨_, rfl, p, h, rfl, hp, by omega, fun l H1 e1 hl0 hl1 => ?_⟩
    have bl : (beadsL h).length = h.length := by unfold beadsL; rw [List.length_map, List.length_range]
    refine ⟨l, rfl, ⟨_, SqL.of hl1⟩, fun Dd hDd => ?_⟩
    refine DI.dcK_it (walk_list (K := K) (a := l) (xs := (beadsL h).map V.int)) (fun i H' => H' Dd = some (.dK (kB ((beadsL h).take i))) ∧ Ex H1 H') ⟨upd_same, Ex.new hDd⟩ (fun i H' _ hp2 => SqL.of (hp2.2 _ _ hl1)) (fun i x H2 H3 hi hp2 hy => ?_) (fun H2 hp2 => ?_)
    · obtain ⟨w1, w2⟩ := hp2
      obtain ⟨rfl, hx⟩ := hy
      obtain ⟨hi2, n, hn, rfl⟩ := int_inv hx
      refine ⟨rfl, ?_⟩
      dsimp only [tYes]
      rw [if_pos rfl]
      refine ⟨_, rfl, _, .inl n, rfl, w1, ?_, ?_, Ex.mut w2 hDd⟩
      · unfold kB
        rw [List.length_map, List.length_take]
        exact small1000 (by omega)
      · rw [upd_same, take_snoc1 hn, putK_new]
        · unfold kB
          rw [List.map_append]
          rfl
        · have nd := beads_nd G.heap
          have sp : beadsL h = (beadsL h).take i ++ [n] ++ (beadsL h).drop (i + 1) := by rw [← take_snoc1 hn, List.take_append_drop]
          have nin : ¬ n ∈ (beadsL h).take i := fun z => by
            rw [sp] at nd
            exact (List.nodup_append.mp (List.nodup_append.mp nd).1).2.2 n z n (List.mem_singleton.mpr rfl) rfl
          have := valB ((beadsL h).take i) n
          rw [decide_eq_false nin] at this
          cases hv0 : valV (kB ((beadsL h).take i)) (.inl n : Key) with
          | none => rfl
          | some v =>
            rw [hv0] at this
            cases this
    · obtain ⟨w1, w2⟩ := hp2
      rw [List.length_map, List.take_length] at w1
      refine ⟨Dd, _, w1, trivial, fun od => ?_⟩
      have hp2 := (e1.trans w2) _ _ hp
      have nDp : p ≠ Dd := ne_of hp2 w1 (by intro z; cases z)
      have g0 : (upd H2 Dd (.frz od (.dK (kB (beadsL h))))) Dd = some (.frz od (.dK (kB (beadsL h)))) := upd_same
      have gp : HeapAt (upd H2 Dd (.frz od (.dK (kB (beadsL h))))) p h := (upd_ne nDp).trans hp2
      have kp : Keep Dd H2 (upd H2 Dd (.frz od (.dK (kB (beadsL h))))) := Keep.dice
      generalize upd H2 Dd (.frz od (.dK (kB (beadsL h)))) = H3 at g0 gp kp ⊢
      refine ⟨_, rfl, Dd, od, rfl, .inl ⟨_, g0, fun Lq hLq => ?_⟩⟩
      refine lc_it walk_keys (fun i H4 => H4 Lq = some (.lst ((((beadsL h).take i).map (tst h k)).map V.bl)) ∧ Ex H3 H4) ⟨upd_same, Ex.new hLq⟩ (fun i H4 _ hp4 => hp4.2 _ _ g0) (fun i x H4 H5 hi hp4 hy => ?_) (fun H4 hp4 => ?_)
      · obtain ⟨v1, v2⟩ := hp4
        obtain ⟨rfl, ky, vv, hkv, rfl⟩ := hy
        unfold kB at hkv
        rw [List.getElem?_map] at hkv
        obtain ⟨n, hn, hkk⟩ := Option.map_eq_some_iff.mp hkv
        cases hkk
        have hi2 := (List.getElem?_eq_some_iff.mp hn).1
        have fin : ∀ b : Bool, b = tst h k n → ∃ acc, H5 Lq = some (.lst acc) ∧ acc.length < sizeLine ∧ (upd H5 Lq (.lst (acc ++ [V.bl b]))) Lq = some (.lst ((((beadsL h).take (i + 1)).map (tst h k)).map V.bl)) ∧ Ex H3 (upd H5 Lq (.lst (acc ++ [V.bl b]))) := fun b hb => by
          refine ⟨_, v1, ?_, ?_, Ex.mut v2 hLq⟩
          · rw [List.length_map, List.length_map, List.length_take]
            exact small1000 (by omega)
          · rw [upd_same, take_snoc1 hn, hb, List.map_append, List.map_append]
            rfl
        refine ⟨rfl, ?_⟩
        dsimp only [tYes]
        rw [if_pos rfl]
        refine ⟨_, rfl, _, rfl, _, _, rfl, rfl, _, rfl, Dd, valV (kB (beadsL h)) (.inl (n - k) : Key), rfl, .inl ⟨_, .inl (n - k), .inr ⟨od, v2 _ _ g0⟩, rfl, rfl⟩, ?_⟩
        rw [valB]
        by_cases c : n - k ∈ beadsL h
        · rw [decide_eq_true c]
          refine ⟨true, rfl, iteT (fin true ?_)⟩
          unfold tst
          rw [decide_eq_true c]
          rfl
        · rw [decide_eq_false c]
          refine ⟨false, rfl, iteF ⟨_, rfl, _, rfl, _, _, rfl, rfl, _, rfl, p, _, rfl, .inr (SqT.of (v2 _ _ gp)), _, rfl, _, _, rfl, rfl, fin _ ?_⟩⟩
          unfold tst
          rw [decide_eq_false c, hv_len, Bool.false_or]
      · obtain ⟨v1, v2⟩ := hp4
        have kl : (kB (beadsL h)).length = (beadsL h).length := by unfold kB; rw [List.length_map]
        rw [kl, List.take_length] at v1
        refine ⟨v2 _ _ g0, ?_⟩
        have nL : Lq ≠ Dd := fun z => by
          rw [z, g0] at hLq
          cases hLq
        refine ⟨Lq, (beadsL h).map (tst h k), rfl, SqL.of ((upd_ne nL).trans v1), ?_⟩
        refine q _ _ (tst_iff h k) ?_
        exact (e1.trans w2).trans (Ex.of_keepD w1 (kp.trans (Keep.ex v2)))
end
end K1

set_option exponentiation.threshold 400
namespace K1
open PySem PySem.Spec PyProof.Rows L2 Evl HM LX ZW TE
section
variable {P : Program} {w : World} {K : PySem.W.Frag} {mg : Str → Option Value} {base : Heap}
theorem dp_ints {K : PySem.W.Frag} {H : Hp} : ∀ ns : List Int, DpAll K H (ns.map V.int) (ns.map PyData.int)
  | [] => .nil
  | n :: r => .cons (.int n) (dp_ints r)
theorem can_ints : ∀ l : List Int, PyData.canLayAll0 (l.map PyData.int) = true
  | [] => rfl
  | b :: r => by simp [PyData.canLayAll0, PyData.canLay0, can_ints r]
theorem shaped_intsL (ns : List Int) : SeqAt.shaped (.list (ns.map PyData.int)) = true := by
  induction ns with
  | nil => rfl
  | cons b r ih => exact ih
theorem depth_ints : ∀ l : List Int, PyData.depthAll (l.map PyData.int) ≤ 60
  | [] => by decide
  | b :: r => by
    have := depth_ints r
    simp only [List.map_cons, PyData.depthAll, PyData.depth]
    omega
theorem shaped_intsT (ns : List Int) : SeqAt.shaped (.tuple (ns.map PyData.int)) = true := by
  unfold SeqAt.shaped
  have h1 : (PyData.tuple (ns.map PyData.int)).canLay0 = true := by simp [PyData.canLay0, can_ints ns]
  have h2 : (PyData.tuple (ns.map PyData.int)).depth ≤ 64 := by
    have := depth_ints ns
    simp only [PyData.depth]
    omega
  rw [h1, decide_eq_true h2]
  rfl
theorem eqv_intsL (ns : List Int) : PyData.eqv (.list (ns.map PyData.int)) (.list (ns.map PyData.int)) = true := SeqAt.eqv_refl _ (by simp [PyData.canLay0, can_ints ns])
theorem eqv_intsT (ns : List Int) : PyData.eqv (.tuple (ns.map PyData.int)) (.tuple (ns.map PyData.int)) = true := SeqAt.eqv_refl _ (by simp [PyData.canLay0, can_ints ns])
theorem eqv_nil : PyData.eqv (.list []) (.list []) = true := eqv_intsL []
theorem eqv_consnil (d : PyData) (ds : List PyData) : PyData.eqv (.list (d :: ds)) (.list []) = false := by simp [PyData.eqv, PyData.eqvAll]
def gl (h : List Nat) (n s q : Int) (c : Nat) : Bool := opn h c && decide ((dg h c * s - q) % n = 0)
theorem gl_opn {h : List Nat} {n s q : Int} (c : Nat) (z : gl h n s q c = true) : opn h c = true := by
  unfold gl at z
  exact (Bool.and_eq_true_iff.mp z).1
theorem hv_set {l : List Nat} {d x : Nat} : (hv l).set d (V.int (x : Int)) = hv (l.set d x) := by
  unfold hv
  rw [List.map_set]
def spLGrown : Sp := fun vs H Q _ => ∃ p h x n s q, vs = [.ref p, x, .int q] ∧ HeapAt H p h ∧ h.length ≤ 100 ∧ RingAt H 60 x n s ∧ ∀ r H', Ex H H' → HeapAt H' r (grow h (gl h n s q)) → Q (.ref r) H'
theorem ok_lgrown (T : Txt K mg) {f : Addr} {fd : FuncData} (D : DefAt K mg "_law_grown" sLGrown ["_law_heap", "_law_ring", "_law_x"] f fd) : FnOk P w K mg base CX0 1 f fd ["_law_heap", "_law_ring", "_law_x"] spLGrown := by
  refine D.F.ok scLGrown (fun vs H Q E h => ?_) (fun cdv A outer s₀ H vs Q E hr h => ?_)
  · obtain ⟨p, h, x, n, s, q, rfl, _⟩ := h
    rfl
  · obtain ⟨p, h, x, n, s, q, rfl, hp, hl, hx, k⟩ := h
    refine ⟨_, pss_cons (ps_asg (pv 1) (pg_tup (by rfl) (pgs_cons (pg_name (i := 3) scLGrown.nd rfl (.inl rfl)) (pgs_cons (pg_name (i := 4) scLGrown.nd rfl (.inl rfl)) pgs_nil))))
      (pss_cons (ps_set (i := 5) scLGrown.nd rfl (.inl rfl) (pe_callTy call_list_of (by rfl) T.z_list (by decide +kernel) (pa_cons (pv 0) pa_nil)))
      (pss_cons (ps_for PassesOwn.never rfl (pi_range1 (by rfl) T.z_range (pa_cons (pe_op op_add (pe_callB call_len_seq (by rfl) T.z_len PySem.boot_len (pa_cons (pv 0) pa_nil)) pe_int) pa_nil)) (pg_name (i := 6) scLGrown.nd rfl (.inl rfl))
        (pss_cut (ps_set (i := 7) scLGrown.nd rfl (.inl rfl) (pe_ifExp (pt_cmpR op_lt (pv 6) (pe_callB call_len_seq (by rfl) T.z_len PySem.boot_len (pa_cons (pv 0) pa_nil)) (nomark _)) (pe_ix ix_tup (pv 0) (pv 6) (fun _ _ => rfl)) pe_int))
        (pss_cut (ps_set (i := 8) scLGrown.nd rfl (.inl rfl) (pe_or (pe_cmpR op_eq (pv 6) pe_int (nomark _)) (pe_one (pe_cmpR op_gt (pe_ix ix_tup (pv 0) (pe_op op_sub (pv 6) pe_int) (fun _ _ => rfl)) (pv 7) (nomark _)))))
        (pss_one (ps_if (PW.pt (pw_and (pt_val (pv 8)) (pw_and1 (pt_cmpR op_eq (pe_op op_mod (pe_op op_sub (pe_op op_mul (pe_op op_sub (pv 6) (pv 7)) (pv 4)) (pv 2)) (pv 3)) pe_int (nomark _)))))
          (pss_one (ps_if (pt_cmpR op_lt (pv 6) (pe_callB call_len_seq (by rfl) T.z_len PySem.boot_len (pa_cons (pv 0) pa_nil)) (nomark _))
            (pss_one (ps_asg (pe_op op_add (pv 7) pe_int) (pg_sub (pv 5) (pv 6) set_list)))
            (pss_one (ps_expr (pe_bm PySem.F.plainAttrs_list PySem.F.slot_list_append PySem.F.type_list_append mt_append (pv 5) (pa_cons pe_int pa_nil)))))) pss_nil)))))
      (pss_one (ps_ret (pe_callTy call_tuple_of (by rfl) T.z_tuple (by decide +kernel) (pa_cons (pv 5) pa_nil)))))), ?_⟩
    obtain ⟨t, rfl, ht, b1, b2, b3, b4⟩ := id hx
    refine ⟨_, rfl, t, [.int n, .int s], rfl, SqT.of ht, rfl, .int n, [.int s], rfl, .int s, [], rfl, rfl, ?_⟩
    refine ⟨_, rfl, p, hv h, rfl, .inr (SqT.of hp), fun l hl0 => ?_⟩
    have e1 := Ex.new (o := .lst (hv h)) hl0
    have g0 : (upd H l (.lst (hv h))) l = some (.lst (hv (fr h (gl h n s q) 0))) := by
      rw [upd_same, fr_zero]
    generalize upd H l (.lst (hv h)) = H1 at *
    refine ⟨_, rfl, p, _, rfl, .inr (SqT.of (e1 _ _ hp)), _, _, rfl, rfl, _, rfl, by rw [hv_len]; omega, by rw [hv_len]; omega, ?_⟩
    refine for_range (lo := 0) (n := (((hv h).length : Int) + 1).toNat) (fun i σ' H' => ∃ (y6 y7 y8 : Option V), σ' = [some (.ref p), some (.ref t), some (.int q), some (.int n), some (.int s), some (.ref l), y6, y7, y8] ∧ H' l = some (.lst (hv (fr h (gl h n s q) i))) ∧ Ex H H')
      ⟨none, none, none, rfl, g0, e1⟩ (fun i σ' H' hi hW => ?_) (fun σ' H' hW => ?_)
    · obtain ⟨y6, y7, y8, rfl, w1, w2⟩ := hW
      rw [hv_len] at hi
      have hi' : i ≤ h.length := by omega
      have hp2 := w2 _ _ hp
      have e0 : (0 : Int) + (i : Int) = (i : Int) := Int.zero_add _
      refine ⟨fun σ2 H2 => σ2 = [some (.ref p), some (.ref t), some (.int q), some (.int n), some (.int s), some (.ref l), some (.int (0 + (i : Int))), some (.int (hAt h i : Int)), y8] ∧ H2 = H', ?_, ?_⟩
      · refine ⟨_, rfl, _, rfl, p, _, rfl, .inr (SqT.of hp2), _, _, rfl, rfl, _, rfl, ite2 (fun cc => ?_) (fun cc => ?_)⟩
        · have c2 : i < h.length := by
            have := of_decide_eq_true cc
            rw [hv_len] at this
            omega
          exact ⟨_, rfl, _, rfl, p, _, _, _, rfl, rfl, SqT.of hp2, at_of e0 (hv_get c2), rfl, rfl⟩
        · have c2 : h.length ≤ i := by
            have : ¬ ((0 : Int) + (i : Int) < ((hv h).length : Int)) := fun z => cc (decide_eq_true z)
            rw [hv_len] at this
            omega
          refine ⟨?_, rfl⟩
          rw [hAt_ge c2]
          rfl
      · rintro σ2 H2 ⟨rfl, rfl⟩
        refine ⟨fun σ3 H3 => σ3 = [some (.ref p), some (.ref t), some (.int q), some (.int n), some (.int s), some (.ref l), some (.int (0 + (i : Int))), some (.int (hAt h i : Int)), some (.bl (opn h i))] ∧ H3 = H2, ?_, ?_⟩
        · refine ⟨_, rfl, rfl, _, rfl, ite2 (fun cc => ?_) (fun cc => ?_)⟩
          · have c2 : i = 0 := by
              have := V.int.inj (of_decide_eq_true cc)
              omega
            refine ⟨?_, rfl⟩
            have : opn h i = true := by
              unfold opn
              rw [decide_eq_true c2, Bool.true_or]
            rw [this]
            rfl
          · have c2 : i ≠ 0 := fun z => cc (by subst z; rfl)
            refine ⟨_, rfl, _, rfl, _, _, rfl, rfl, p, _, _, _, rfl, rfl, SqT.of hp2, at_of (show (0 + (i : Int)) - 1 = ((i - 1 : Nat) : Int) by omega) (hv_get (by omega)), _, rfl, _, _, rfl, rfl, ?_, rfl⟩
            have : opn h i = decide ((hAt h i : Int) < (hAt h (i - 1) : Int)) := by
              unfold opn
              rw [decide_eq_false c2, Bool.false_or]
              exact decide_eq_decide.mpr (by omega)
            rw [this]
            rfl
        · rintro σ3 H3 ⟨rfl, rfl⟩
          refine ⟨_, rfl, _, rfl, ite2 (fun cc => ?_) (fun cc => ?_)⟩
          · refine ⟨_, rfl, _, rfl, _, _, rfl, rfl, _, rfl, _, _, rfl, rfl, .inr (by constructor <;> omega), _, rfl, _, _, rfl, rfl, _, rfl, _, _, rfl, rfl, by omega, rfl, _, rfl, ite2 (fun c3 => ?_) (fun c3 => ?_)⟩
            · have yes : gl h n s q i = true := by
                unfold gl
                rw [cc, Bool.true_and]
                have z := V.int.inj (of_decide_eq_true c3)
                rw [Int.zero_add] at z
                exact decide_eq_true z
              refine ⟨_, rfl, _, rfl, p, _, rfl, .inr (SqT.of hp2), _, _, rfl, rfl, _, rfl, ite2 (fun c4 => ?_) (fun c4 => ?_)⟩
              · have c5 : i < h.length := by
                  have := of_decide_eq_true c4
                  rw [hv_len] at this
                  omega
                refine ⟨_, rfl, _, _, rfl, rfl, _, rfl, _, rfl, l, _, _, i, rfl, rfl, w1, ?_, _, _, _, rfl, ?_, Ex.mut w2 hl0⟩
                · rw [e0]
                  refine ixN_nat ?_
                  rw [hv_len, fr_low_len hi']
                  exact c5
                · rw [upd_same]
                  dsimp only
                  rw [show ((hAt h i : Int)) + 1 = ((hAt h i + 1 : Nat) : Int) by omega, hv_set, fr_set c5 yes]
              · have c5 : i = h.length := by
                  have : ¬ ((0 : Int) + (i : Int) < ((hv h).length : Int)) := fun z => c4 (decide_eq_true z)
                  rw [hv_len] at this
                  omega
                subst c5
                refine ⟨_, rfl, .inl ⟨rfl, _, SqL.of w1⟩, l, _, _, rfl, rfl, w1, ?_, _, _, _, rfl, ?_, Ex.mut w2 hl0⟩
                · rw [hv_len, fr_low_len (Nat.le_refl _)]
                  exact small1000 (by omega)
                · rw [upd_same, ← fr_app yes, hv_snoc]
                  rfl
            · have no : gl h n s q i = false := by
                unfold gl
                have z : ¬ ((dg h i * s - q) % n = 0) := fun z => c3 (decide_eq_true (congrArg V.int (by rw [Int.zero_add]; exact z)))
                rw [decide_eq_false z, Bool.and_false]
              refine ⟨_, _, _, rfl, ?_, w2⟩
              rw [fr_skip no]
              exact w1
          · have no : gl h n s q i = false := by
              unfold gl
              rw [Bool.eq_false_iff.mpr cc, Bool.false_and]
            refine ⟨_, _, _, rfl, ?_, w2⟩
            rw [fr_skip no]
            exact w1
    · obtain ⟨y6, y7, y8, rfl, w1, w2⟩ := hW
      have e : (((hv h).length : Int) + 1).toNat = h.length + 1 := by
        rw [hv_len]
        omega
      rw [e, fr_end] at w1
      exact ⟨_, rfl, l, _, rfl, .inl ⟨SqL.of w1, fun r hr' => k r _ (w2.trans (Ex.new hr')) upd_same⟩⟩
end
end K1

set_option exponentiation.threshold 400
namespace K1
open PySem PySem.Spec PyProof.Rows L2 Evl HM LX ZW TE
theorem inV_ints (z : Int) (ns : List Int) : inV (.int z) (ns.map V.int) = decide (z ∈ ns) := by
  unfold inV
  rw [Bool.eq_iff_iff, List.any_eq_true, decide_eq_true_eq]
  constructor
  · rintro ⟨y, hy, e⟩
    obtain ⟨n, hn, rfl⟩ := List.mem_map.mp hy
    have : n = z := eq_of_beq e
    rw [← this]
    exact hn
  · intro h
    exact ⟨.int z, List.mem_map.mpr ⟨z, h, rfl⟩, beq_self_eq_true z⟩
theorem flat_ints (ns : List Int) : (ns.map V.int).all flatV = true := List.all_eq_true.mpr fun z hz => by
  obtain ⟨i, _, rfl⟩ := List.mem_map.mp hz
  rfl
theorem eq_empty {K : PySem.W.Frag} {H : Hp} {p q : Addr} {l : List Int} {Q : VK} (h1 : H p = some (.lst (l.map V.int))) (h2 : H q = some (.lst [])) (k : Q (.bl (decide (l = []))) H) : rEqD K (.ref p) (.ref q) H Q := by
  refine ⟨.list _, .list [], .lst (SqL.of h1) (dp_ints l), .lst (SqL.of h2) .nil, shaped_intsL _, rfl, ?_⟩
  cases l with
  | nil =>
    rw [show PyData.eqv (.list (([] : List Int).map PyData.int)) (.list []) = true from eqv_nil]
    exact k
  | cons a r =>
    rw [show PyData.eqv (.list ((a :: r).map PyData.int)) (.list []) = false from eqv_consnil _ _]
    rw [decide_eq_false (by simp)] at k
    exact k
theorem ne_empty {K : PySem.W.Frag} {H : Hp} {p q : Addr} {l : List Int} {Q : VK} (h1 : H p = some (.lst (l.map V.int))) (h2 : H q = some (.lst [])) (k : Q (.bl (!decide (l = []))) H) : rNeD K (.ref p) (.ref q) H Q := by
  refine ⟨.list _, .list [], .lst (SqL.of h1) (dp_ints l), .lst (SqL.of h2) .nil, shaped_intsL _, rfl, ?_⟩
  cases l with
  | nil =>
    rw [show PyData.eqv (.list (([] : List Int).map PyData.int)) (.list []) = true from eqv_nil]
    exact k
  | cons a r =>
    rw [show PyData.eqv (.list ((a :: r).map PyData.int)) (.list []) = false from eqv_consnil _ _]
    rw [decide_eq_false (by simp)] at k
    exact k
theorem filt_snoc {ns : List Int} {i : Nat} {n : Int} (f : Int → Bool) (h : ns[i]? = some n) : (ns.take (i + 1)).filter f = (ns.take i).filter f ++ (if f n = true then [n] else []) := by
  rw [take_snoc1 h, List.filter_append]
  congr 1
  by_cases c : f n = true
  · rw [if_pos c, List.filter_cons_of_pos c]
    rfl
  · rw [if_neg c, List.filter_cons_of_neg c]
    rfl
section
variable {P : Program} {w : World} {K : PySem.W.Frag} {mg : Str → Option Value} {base : Heap}
def spIsCore (K : PySem.W.Frag) : Sp := fun vs H Q _ => ∃ k x, vs = [.int k, x] ∧ 2 ≤ k ∧ k ≤ 60 ∧ ((HeapB K H x false ∧ ∀ H', Ex H H' → Q (.bl false) H') ∨ ∃ p h, x = .ref p ∧ HeapAt H p h ∧ Good h ∧ ∀ b H', (b = true ↔ coreB h k) → Ex H H' → Q (.bl b) H')
theorem HeapB.mono {K : PySem.W.Frag} {H H' : Hp} {x : V} {b : Bool} (e : Ex H H') (h : HeapB K H x b) : HeapB K H' x b := by
  cases h with
  | no n => exact .no (n.mono e)
  | yes a G => exact .yes (e _ _ a) G
  | bad a G l bb => exact .bad (e _ _ a) G l (bb.mono e)
theorem ok_is_core (T : Txt K mg) {f : Addr} {fd : FuncData} (D : DefAt K mg "is_core" sIsCore ["k", "value"] f fd) : FnOk P w K mg base CX0 5 f fd ["k", "value"] (spIsCore K) := by
  refine D.F.ok scIsCore (fun vs H Q E h => ?_) (fun cdv A outer s₀ H vs Q E hr h => ?_)
  · obtain ⟨k, x, rfl, _⟩ := h
    rfl
  · obtain ⟨k, x, rfl, h1, h2, h⟩ := h
    obtain ⟨f1, fd1, D1⟩ := T.d_stays_core
    obtain ⟨f2, fd2, D2⟩ := T.d_is_heap
    obtain ⟨f3, fd3, D3⟩ := T.d_check_order
    have hr2 : Room 2 _ := hr.mono (by decide)
    have hr3 : Room 3 _ := hr.mono (by decide)
    have hr4 : Room 4 _ := hr.mono (by decide)
    refine ⟨_, pss_cons (ps_expr (pe_call (ok_check_order T D3) hr4 (by rfl) D3.g D3.F.kp D3.b .nil pass0 (pa_cons (pv 0) pa_nil)))
      (pss_one (ps_ret (pe_and (pe_call (ok_is_heap T D2) hr3 (by rfl) D2.g D2.F.kp D2.b .nil pass0 (pa_cons (pv 1) pa_nil)) (pe_one (pe_call (ok_stays_core T D1) hr2 (by rfl) D1.g D1.F.kp D1.b .nil pass0 (pa_cons (pv 0) (pa_cons (pv 1) pa_nil))))))), ?_⟩
    refine ⟨_, rfl, k, rfl, h1, h2, fun H1 e1 => ?_⟩
    rcases h with ⟨hb, q⟩ | ⟨p, h, rfl, hp, G, q⟩
    · exact ⟨_, rfl, x, false, rfl, hb.mono e1, fun H2 e2 => ⟨false, rfl, iteF (q _ (e1.trans e2))⟩⟩
    · refine ⟨_, rfl, .ref p, true, rfl, .yes (e1 _ _ hp) G, fun H2 e2 => ⟨true, rfl, iteT ?_⟩⟩
      exact ⟨_, rfl, _, rfl, k, p, h, rfl, (e1.trans e2) _ _ hp, G, h1, fun b H3 hb e3 => q b H3 hb ((e1.trans e2).trans e3)⟩
theorem ok_lbeads (T : Txt K mg) {f : Addr} {fd : FuncData} (D : DefAt K mg "_law_beads" sLBeads ["_law_heap"] f fd) : FnOk P w K mg base CX0 1 f fd ["_law_heap"] (spBeads K) := by
  refine D.F.ok scLBeads (fun vs H Q E h => ?_) (fun cdv A outer s₀ H vs Q E hr h => ?_)
  · obtain ⟨p, h, rfl, _⟩ := h
    rfl
  · obtain ⟨p, h, rfl, hp, hl, q⟩ := h
    refine ⟨_, pss_one (ps_ret (pe_lc (own := [("_law_at", 1)]) (g := gName 1) (tt := tYes) rfl scLBeads.nd (pi_range1 (by rfl) T.z_range (pa_cons (pe_callB call_len_seq (by rfl) T.z_len PySem.boot_len (pa_cons (pv 0) pa_nil)) pa_nil))
        (blkOk_by (N := nLBeads) (sc := defScope sLBeads) (by decide +kernel)) (fun _ _ _ _ _ => (pg_name (i := 1) scLBeads.nd rfl (.inl rfl))) (fun _ _ _ _ _ => pts_nil)
        (fun _ _ _ _ _ => (pe_op op_sub (pe_op op_sub (pe_ix (show IxR _ (rIxT K) from ix_tup) (pv 0) (pv 1) (fun _ _ => rfl)) (pv 1)) pe_int)))), ?_⟩
    refine ⟨_, rfl, p, _, rfl, .inr (SqT.of hp), _, rfl, by omega, by rw [hv_len]; omega, fun Dl hD => ?_⟩
    refine lc_rangeM (fun c => V.int (bead h c)) hD (by rw [hv_len]; omega) (fun i H' Qk hi e' qk => ?_) (fun H' e' h' => ?_)
    · rw [hv_len] at hi
      rw [show (0 : Int) + (i : Int) = ((i : Nat) : Int) by omega]
      exact ⟨rfl, _, rfl, _, rfl, p, _, (i : Int), .int (hAt h i : Int), rfl, rfl, SqT.of (e' _ _ hp), atI_nat (hv_get (by omega)), _, rfl, _, _, rfl, rfl, _, _, rfl, rfl, qk _ (Ex.refl _)⟩
    · rw [hv_len, Int.toNat_natCast, mapI] at h'
      exact q Dl H' e' hD h'
def lowf (h : List Nat) (k n : Int) : Bool := decide (n - k ≥ 0 - (h.length : Int)) && !decide (n - k ∈ beadsL h)
theorem lowf_iff (h : List Nat) (k : Int) : (beadsL h).filter (lowf h k) = [] ↔ coreB h k := by
  rw [List.filter_eq_nil_iff]
  constructor
  · intro a c hc
    have := a _ (mem_beads.mpr ⟨c, hc, rfl⟩)
    by_cases q : isB h (bead h c - k)
    · exact .inl q
    · by_cases r : bead h c - k < -(h.length : Int)
      · exact .inr r
      · exfalso
        apply this
        unfold lowf
        rw [decide_eq_true (by omega), decide_eq_false (fun z => q (mem_beads.mp z))]
        rfl
  · intro C n hn z
    obtain ⟨c, hc, rfl⟩ := mem_beads.mp hn
    obtain ⟨z1, z2⟩ := Bool.and_eq_true_iff.mp z
    have z1' := of_decide_eq_true z1
    rcases C c hc with q | q
    · rw [decide_eq_true (mem_beads.mpr q)] at z2
      cases z2
    · omega
def spLIsCore : Sp := fun vs H Q _ => ∃ k p h, vs = [.int k, .ref p] ∧ HeapAt H p h ∧ h.length ≤ 60 ∧ ∀ b H', (b = true ↔ coreB h k) → Ex H H' → Q (.bl b) H'
theorem ok_lis_core (T : Txt K mg) {f : Addr} {fd : FuncData} (D : DefAt K mg "_law_is_core" sLIsCore ["_law_k", "_law_heap"] f fd) : FnOk P w K mg base CX0 2 f fd ["_law_k", "_law_heap"] spLIsCore := by
  refine D.F.ok scLIsCore (fun vs H Q E h => ?_) (fun cdv A outer s₀ H vs Q E hr h => ?_)
  · obtain ⟨k, p, h, rfl, _⟩ := h
    rfl
  · obtain ⟨k, p, h, rfl, hp, hl, q⟩ := h
    obtain ⟨f1, fd1, D1⟩ := T.d_l_beads
    have hr1 : Room 1 _ := hr.mono (by decide)
    refine ⟨_, pss_cons (ps_asg (pe_tup (pa_cons (pe_call (ok_lbeads T D1) hr1 (by rfl) D1.g D1.F.kp D1.b .nil pass0 (pa_cons (pv 1) pa_nil)) (pa_cons (pe_op op_sub pe_int (pe_callB call_len_seq (by rfl) T.z_len PySem.boot_len (pa_cons (pv 1) pa_nil))) pa_nil))) (pg_tup (by rfl) (pgs_cons (pg_name (i := 2) scLIsCore.nd rfl (.inr rfl)) (pgs_cons (pg_name (i := 3) scLIsCore.nd rfl (.inr rfl)) pgs_nil))))
      (pss_one (ps_ret (pe_cmpR (op_eqD hr.units) (pe_lc (own := [("_law_bead", 4)]) (g := gName 4) rfl scLIsCore.nd (pi_list (pv 2))
        (blkOk_by (N := nLIsCore) (sc := defScope sLIsCore) (by decide +kernel)) (fun _ _ _ _ _ => (pg_name (i := 4) scLIsCore.nd rfl (.inl rfl))) (fun _ _ _ _ _ => pts_one (PW.pt (pw_and (pt_cmpR op_ge (pe_op op_sub (pv 4) (pv 0)) (pv 3) (nomark _))
          (pw_and1 (pt_cmpR (show OpR _ (compareOp .NotIn) (rIn K true) from op_notIn_seq) (pe_op op_sub (pv 4) (pv 0)) (pv 2) (by rfl))))))
        (fun _ _ _ _ _ => (pv 4))) (pe_lst pa_nil) (nomark _)))), ?_⟩
    refine ⟨_, rfl, p, h, rfl, hp, by omega, fun l H1 e1 hl0 hl1 => ?_⟩
    refine ⟨_, rfl, p, _, rfl, .inr (SqT.of (e1 _ _ hp)), _, _, rfl, rfl, by show 2 ≤ sizeLine; decide, fun t ht => ?_⟩
    have x1 := Ex.new (o := .tup [.ref l, .int (0 - ((hv h).length : Int))]) ht
    refine ⟨t, _, rfl, SqT.of upd_same, rfl, .ref l, [_], rfl, .int _, [], rfl, rfl, ?_⟩
    have hlx := x1 _ _ hl1
    have rn : (fun i j => V.int (i - j)) 0 ((hv h).length : Int) = V.int (0 - ((hv h).length : Int)) := rfl
    rw [rn]
    generalize upd H1 t (.tup [.ref l, .int (0 - ((hv h).length : Int))]) = H2 at x1 hlx ⊢
    have bl : (beadsL h).length = h.length := by unfold beadsL; rw [List.length_map, List.length_range]
    refine ⟨_, rfl, l, rfl, ⟨_, SqL.of hlx⟩, fun Lq hLq => ?_⟩
    refine lc_list (K := K) (a := l) (xs := (beadsL h).map V.int) (fun i H4 => H4 Lq = some (.lst ((((beadsL h).take i).filter (lowf h k)).map V.int)) ∧ Ex H2 H4) ⟨upd_same, Ex.new hLq⟩ (fun i H4 _ hp4 => SqL.of (hp4.2 _ _ hlx)) (fun i x H4 hx hp4 => ?_) (fun H4 hp4 => ?_)
    · obtain ⟨v1, v2⟩ := hp4
      obtain ⟨hi, n, hn, rfl⟩ := int_inv hx
      have fz := filt_snoc (lowf h k) hn
      refine ⟨rfl, _, rfl, _, rfl, _, _, rfl, rfl, _, rfl, _, _, rfl, rfl, _, rfl, ite2 (fun c => ?_) (fun c => ?_)⟩
      · have c2 : n - k ≥ 0 - (h.length : Int) := by
          have := of_decide_eq_true c
          rw [hv_len] at this
          exact this
        refine ⟨_, rfl, _, rfl, _, _, rfl, rfl, _, rfl, l, _, rfl, .inl (SqL.of (v2 _ _ hlx)), rfl, flat_ints _, _, rfl, ?_⟩
        rw [if_pos rfl, inV_ints]
        refine ite2 (fun cc => ?_) (fun cc => ?_)
        · have lw : lowf h k n = true := by
            unfold lowf
            rw [decide_eq_true c2, Bool.true_and]
            exact cc
          rw [if_pos lw] at fz
          refine ⟨_, rfl, _, v1, ?_, ?_, Ex.mut v2 hLq⟩
          · rw [List.length_map]
            have := List.length_filter_le (lowf h k) ((beadsL h).take i)
            rw [List.length_take] at this
            exact small1000 (by omega)
          · rw [upd_same, fz, List.map_append]
            rfl
        · have lw : ¬ lowf h k n = true := by
            unfold lowf
            rw [decide_eq_true c2, Bool.true_and]
            exact cc
          rw [if_neg lw, List.append_nil] at fz
          exact ⟨by rw [fz]; exact v1, v2⟩
      · have lw : ¬ lowf h k n = true := by
          unfold lowf
          rw [decide_eq_false (fun z => c (decide_eq_true (by rw [hv_len]; exact z))), Bool.false_and]
          decide
        rw [if_neg lw, List.append_nil] at fz
        exact iteF ⟨by rw [fz]; exact v1, v2⟩
    · obtain ⟨v1, v2⟩ := hp4
      rw [List.length_map, List.take_length] at v1
      refine ⟨by show 0 ≤ sizeLine; decide, fun e he => ?_⟩
      have x5 := Ex.new (o := .lst []) he
      refine eq_empty (x5 _ _ v1) upd_same ?_
      refine q _ _ ?_ (((e1.trans x1).trans v2).trans x5)
      rw [decide_eq_true_eq]
      exact lowf_iff h k
def spLHook : Sp := fun vs H Q _ => ∃ p t h, ∃ c r : Nat, vs = [.ref p, .ref t] ∧ HeapAt H p h ∧ IsHeap h ∧ h.length ≤ 60 ∧ H t = some (.tup [.int (c : Int), .int (r : Int)]) ∧ r < hAt h c ∧ ∀ H', Ex H H' → Q (.int (hk h c r)) H'
theorem ok_lhook (T : Txt K mg) {f : Addr} {fd : FuncData} (D : DefAt K mg "_law_hook" sLHook ["_law_heap", "_law_square"] f fd) : FnOk P w K mg base CX0 1 f fd ["_law_heap", "_law_square"] spLHook := by
  refine D.F.ok scLHook (fun vs H Q E h => ?_) (fun cdv A outer s₀ H vs Q E hr h => ?_)
  · obtain ⟨p, t, h, c, r, rfl, _⟩ := h
    rfl
  · obtain ⟨p, t, h, c, r, rfl, hp, Hh, hl, ht, hrc, q⟩ := h
    refine ⟨_, pss_cons (ps_asg (pv 1) (pg_tup (by rfl) (pgs_cons (pg_name (i := 2) scLHook.nd rfl (.inl rfl)) (pgs_cons (pg_name (i := 3) scLHook.nd rfl (.inr rfl)) pgs_nil))))
      (pss_one (ps_ret (pe_op op_add (pe_op op_sub (pe_ix ix_tup (pv 0) (pv 2) (fun _ _ => rfl)) (pv 3)) (pe_callB call_len_seq (by rfl) T.z_len PySem.boot_len (pa_cons (pe_lc (own := [("_law_height", 4)]) (g := gName 4) rfl scLHook.nd (pi_tup (pe_slice sl_tupE (pv 0) (po_some (pe_op op_add (pv 2) pe_int)) po_none))
        (blkOk_by (N := nLHook) (sc := defScope sLHook) (by decide +kernel)) (fun _ _ _ _ _ => (pg_name (i := 4) scLHook.nd rfl (.inl rfl))) (fun _ _ _ _ _ => pts_one (pt_cmpR op_gt (pv 4) (pv 3) (nomark _)))
        (fun _ _ _ _ _ => (pv 4))) pa_nil))))), ?_⟩
    have hc : c < h.length := by
      rcases Nat.lt_or_ge c h.length with z | z
      · exact z
      · rw [hAt_ge z] at hrc
        omega
    refine ⟨_, rfl, t, _, rfl, SqT.of ht, rfl, .int (c : Int), [_], rfl, .int (r : Int), [], rfl, rfl, ?_⟩
    refine ⟨_, rfl, _, rfl, p, _, (c : Int), .int (hAt h c : Int), rfl, rfl, SqT.of hp, atI_nat (hv_get hc), _, rfl, _, _, rfl, rfl, ?_⟩
    refine ⟨_, rfl, _, rfl, _, _, rfl, rfl, (c : Int) + 1, rfl, p, _, rfl, hp, fun t1 H1 e1 h1 => ?_⟩
    have cf : cutV (hv h) (some ((c : Int) + 1)) none = hv (h.drop (c + 1)) := by
      unfold cutV hv
      rw [show (c : Int) + 1 = ((c + 1 : Nat) : Int) by omega, HT.sIx_nat, HT.sIx_none, List.length_map, Nat.min_eq_left (by omega), List.take_of_length_le (by rw [List.length_drop, List.length_map]; exact Nat.le_refl _), List.map_drop]
    rw [cf] at h1
    refine ⟨t1, rfl, ⟨_, SqT.of h1⟩, fun Lq hLq => ?_⟩
    have dl : (h.drop (c + 1)).length ≤ 60 := by rw [List.length_drop]; omega
    refine lc_tup (K := K) (a := t1) (xs := hv (h.drop (c + 1))) (fun j H5 => H5 Lq = some (.lst (hv (((h.drop (c + 1)).take j).filter fun x => decide (r < x)))) ∧ Ex H1 H5) ⟨upd_same, Ex.new hLq⟩ (fun j H5 _ hp5 => SqT.of (hp5.2 _ _ h1)) (fun j x H5 hx hp5 => ?_) (fun H5 hp5 => ?_)
    · obtain ⟨u1, u2⟩ := hp5
      obtain ⟨y, hy, rfl⟩ := hv_inv hx
      refine ⟨rfl, _, rfl, _, rfl, _, _, rfl, rfl, _, rfl, ite2 (fun cc => ?_) (fun cc => ?_)⟩
      · have c0 : r < y := by
          have := of_decide_eq_true cc
          omega
        refine ⟨_, rfl, _, u1, ?_, ?_, Ex.mut u2 hLq⟩
        · rw [hv_len]
          have a1 := List.length_filter_le (fun x => decide (r < x)) ((h.drop (c + 1)).take j)
          rw [List.length_take] at a1
          exact small1000 (by omega)
        · rw [upd_same, take_filter_snoc _ hy, if_pos (decide_eq_true c0), hv_snoc]
      · have c0 : ¬ r < y := fun z => cc (decide_eq_true (by omega))
        refine ⟨?_, u2⟩
        rw [take_filter_snoc _ hy, if_neg (by rw [decide_eq_false c0]; decide), List.append_nil]
        exact u1
    · obtain ⟨u1, u2⟩ := hp5
      rw [hv_len, List.take_length] at u1
      refine ⟨Lq, _, rfl, .inl (SqL.of u1), _, _, rfl, rfl, ?_⟩
      rw [hv_len, right_count Hh hrc]
      have e : (hAt h c : Int) - (r : Int) + ((lamr h r : Int) - (c : Int) - 1) = hk h c r := by
        unfold hk
        omega
      show Q (V.int ((hAt h c : Int) - (r : Int) + ((lamr h r : Int) - (c : Int) - 1))) H5
      rw [e]
      exact q _ (e1.trans u2)
end
end K1

set_option exponentiation.threshold 400
namespace K1
open PySem PySem.Spec PyProof.Rows L2 Evl HM LX ZW TE
section
variable {P : Program} {w : World} {K : PySem.W.Frag} {mg : Str → Option Value} {base : Heap}
theorem pair_heap {l : List Nat} (hp : l.Pairwise (fun a b => b ≤ a)) (h0 : ∀ x ∈ l, 0 < x) : IsHeap l := by
  refine ⟨fun c hc => h0 _ (List.mem_of_getElem? (hAt_lt hc)), fun c => ?_⟩
  by_cases q : c + 1 < l.length
  · obtain ⟨h1, e1⟩ := List.getElem?_eq_some_iff.mp (hAt_lt q)
    obtain ⟨h2, e2⟩ := List.getElem?_eq_some_iff.mp (hAt_lt (show c < l.length by omega))
    have := List.pairwise_iff_getElem.mp hp c (c + 1) h2 h1 (by omega)
    rw [e1, e2] at this
    exact this
  · rw [hAt_ge (show l.length ≤ c + 1 by omega)]
    exact Nat.zero_le _
theorem hv_nat {js : List Int} (h : ∀ j ∈ js, 0 ≤ j) : js.map V.int = hv (js.map Int.toNat) := by
  unfold hv
  rw [List.map_map]
  refine List.map_congr_left fun j hj => ?_
  show V.int j = V.int ((j.toNat : Nat) : Int)
  rw [Int.toNat_of_nonneg (h j hj)]
end
end K1

set_option exponentiation.threshold 400
namespace K1
open PySem PySem.Spec PyProof.Rows L2 Evl HM LX ZW TE
theorem Keep.lst {d p : Addr} {H H' : Hp} {o : HO} (e : Keep d H H') (n : p ≠ d) (h : H p = some o) : H' p = some o := e _ _ n h
theorem hvI (h : List Nat) : hv h = (h.map fun (n : Nat) => (n : Int)).map V.int := by
  unfold hv
  rw [List.map_map]
  rfl
theorem cutT {h : List Nat} {i : Nat} (hi : i ≤ h.length) : cutV (hv h) none (some (i : Int)) = hv (h.take i) := by
  unfold cutV hv
  rw [HT.sIx_nat, HT.sIx_none, List.length_map, Nat.min_eq_left hi, List.drop_zero, Nat.sub_zero, List.map_take]
theorem cutF {h : List Nat} {i : Nat} (hi : i ≤ h.length) : cutV (hv h) (some (i : Int)) none = hv (h.drop i) := by
  unfold cutV hv
  rw [HT.sIx_nat, HT.sIx_none, List.length_map, Nat.min_eq_left hi, List.take_of_length_le (by rw [List.length_drop, List.length_map]; exact Nat.le_refl _), List.map_drop]
theorem hAt_set (h : List Nat) (i x c : Nat) (hi : i < h.length) : hAt (h.set i x) c = if c = i then x else hAt h c := by
  by_cases z : c < h.length
  · have a := hAt_lt (h := h.set i x) (c := c) (by rw [List.length_set]; exact z)
    have b := hAt_lt (h := h) (c := c) z
    rw [List.getElem?_set] at a
    by_cases e : c = i
    · subst e
      rw [if_pos rfl, if_pos hi] at a
      rw [if_pos rfl]
      exact (Option.some.inj a).symm
    · rw [if_neg (fun q => e q.symm), b] at a
      rw [if_neg e]
      exact (Option.some.inj a).symm
  · rw [hAt_ge (by rw [List.length_set]; omega), if_neg (by omega), hAt_ge (by omega)]
theorem set_heap {h : List Nat} (IH : IsHeap h) {i : Nat} (hi : i < h.length) (o : i = 0 ∨ hAt h i < hAt h (i - 1)) : IsHeap (h.set i (hAt h i + 1)) := by
  obtain ⟨p1, p2⟩ := IH
  refine ⟨fun c hc => ?_, fun c => ?_⟩
  · rw [List.length_set] at hc
    rw [hAt_set _ _ _ _ hi]
    have := p1 c hc
    split <;> omega
  · rw [hAt_set _ _ _ _ hi, hAt_set _ _ _ _ hi]
    have := p2 c
    have := p2 i
    by_cases e : c + 1 = i
    · rw [if_pos e, if_neg (by omega)]
      subst e
      rcases o with z | z
      · omega
      · exact z
    · rw [if_neg e]
      split
      · rename_i z
        subst z
        omega
      · assumption
theorem mem_le {h : List Nat} (IH : IsHeap h) {x : Nat} (hx : x ∈ h) : 0 < x ∧ x ≤ hAt h 0 := by
  obtain ⟨c, hc⟩ := List.mem_iff_getElem?.mp hx
  have cl : c < h.length := (List.getElem?_eq_some_iff.mp hc).1
  have := hAt_lt cl
  rw [hc] at this
  rw [Option.some.inj this]
  have q := IH.1 c cl
  exact ⟨q, IH.le (Nat.zero_le c)⟩
theorem del_heap {h : List Nat} (IH : IsHeap h) (i : Nat) : IsHeap (h.take i ++ h.drop (i + 1)) ∧ (h.take i ++ h.drop (i + 1)).length ≤ h.length ∧ hAt (h.take i ++ h.drop (i + 1)) 0 ≤ hAt h 0 := by
  rw [← List.eraseIdx_eq_take_drop_succ]
  have sb := List.eraseIdx_sublist h i
  refine ⟨pair_heap (IH.pairs.sublist sb) fun x hx => (mem_le IH (sb.subset hx)).1, sb.length_le, ?_⟩
  by_cases z : 0 < (h.eraseIdx i).length
  · exact (mem_le IH (sb.subset (List.mem_of_getElem? (hAt_lt z)))).2
  · rw [hAt_ge (by omega)]
    exact Nat.zero_le _
section
variable {P : Program} {w : World} {K : PySem.W.Frag} {mg : Str → Option Value} {base : Heap}
def spSomeCore : Sp := fun vs H Q _ => ∃ d k m, vs = [.ref d, .int k, .int m] ∧ Dice H d ∧ 2 ≤ k ∧ k ≤ 60 ∧ 0 ≤ m ∧ m ≤ 20 ∧ ∀ b h H', HeapAt H' b h → IsHeap h → (h.length : Int) ≤ m → (hAt h 0 : Int) ≤ m → Dice H' d → Keep d H H' → Q (.ref b) H'
theorem ok_some_core (T : Txt K mg) {f : Addr} {fd : FuncData} (D : DefAt K mg "_law_some_core" sLSomeCore ["_law_dice_here", "_law_k", "_law_most"] f fd) : FnOk P w K mg base CX0 2 f fd ["_law_dice_here", "_law_k", "_law_most"] spSomeCore := by
  refine D.F.ok scLSomeCore (fun vs H Q E h => ?_) (fun cdv A outer s₀ H vs Q E hr h => ?_)
  · obtain ⟨d, k, m, rfl, _⟩ := h
    rfl
  · obtain ⟨d, k, m, rfl, hd, k1, k2, m1, m2, q⟩ := h
    obtain ⟨f1, fd1, D1⟩ := T.d_l_roll
    obtain ⟨f2, fd2, D2⟩ := T.d_l_grown
    have hr1 : Room 1 _ := hr.mono (by decide)
    refine ⟨_, pss_cons (ps_set (i := 3) scLSomeCore.nd rfl (.inl rfl) (pe_tup pa_nil))
      (pss_cons (ps_for PassesOwn.never rfl (pi_range1 (by rfl) T.z_range (pa_cons (pe_call (ok_roll T D1) hr1 (by rfl) D1.g D1.F.kp D1.b .nil pass0 (pa_cons (pv 0) (pa_cons (pe_op op_add (pv 2) pe_int) pa_nil))) pa_nil)) (pg_name (i := 4) scLSomeCore.nd rfl (.inl rfl))
        (pss_one (ps_set (i := 3) scLSomeCore.nd rfl (.inl rfl) (pe_call (ok_lgrown T D2) hr1 (by rfl) D2.g D2.F.kp D2.b .nil pass0 (pa_cons (pv 3) (pa_cons (pe_tup (pa_cons (pv 1) (pa_cons pe_int pa_nil))) (pa_cons (pe_call (ok_roll T D1) hr1 (by rfl) D1.g D1.F.kp D1.b .nil pass0 (pa_cons (pv 0) (pa_cons (pv 1) pa_nil))) pa_nil)))))))
      (pss_one (ps_ret (pv 3)))), ?_⟩
    refine ⟨by show 0 ≤ sizeLine; decide, fun t0 ht0 => ?_⟩
    have e1 := Ex.new (o := .tup []) ht0
    have g0 : HeapAt (upd H t0 (.tup [])) t0 [] := upd_same
    have hd0 := hd.ex e1
    generalize upd H t0 (.tup []) = H1 at *
    refine ⟨_, rfl, _, rfl, m, 1, rfl, rfl, d, m + 1, rfl, hd0, by omega, by omega, fun r H2 r0 r1 hd2 kp2 => ?_⟩
    refine ⟨r, rfl, by omega, by omega, ?_⟩
    refine for_range (lo := 0) (n := r.toNat) (fun i σ' H' => ∃ (b : Addr) (y4 : Option V) (h : List Nat), σ' = [some (.ref d), some (.int k), some (.int m), some (.ref b), y4] ∧ HeapAt H' b h ∧ IsHeap h ∧ h.length ≤ i ∧ hAt h 0 ≤ i ∧ Dice H' d ∧ Keep d H H')
      ⟨t0, none, [], rfl, kp2.tup hd0 g0, IsHeap.nil, by simp, by rw [hAt_ge (by simp)]; omega, hd2, (Keep.ex e1).trans kp2⟩ (fun i σ' H' hi hW => ?_) (fun σ' H' hW => ?_)
    · obtain ⟨b, y4, h, rfl, w1, w2, w3, w4, w5, w6⟩ := hW
      refine ⟨_, rfl, _, rfl, by show 2 ≤ sizeLine; decide, fun t ht => ?_⟩
      have et := Ex.new (o := .tup [V.int k, V.int 1]) ht
      have gt : (upd H' t (.tup [V.int k, V.int 1])) t = some (.tup [V.int k, V.int 1]) := upd_same
      generalize upd H' t (.tup [V.int k, V.int 1]) = H3 at *
      have hd3 := w5.ex et
      refine ⟨_, rfl, _, rfl, d, k, rfl, hd3, by omega, by omega, fun q1 H4 q10 q11 hd4 kp4 => ?_⟩
      refine ⟨b, h, .ref t, k, 1, q1, rfl, kp4.tup hd3 (et _ _ w1), by omega, ⟨t, rfl, kp4.tup hd3 gt, k1, k2, by omega, by omega⟩, fun r2 H5 e5 h5 => ?_⟩
      have gw : ∀ c, gl h k 1 q1 c = true → opn h c = true := fun c z => gl_opn c z
      refine ⟨r2, _, _, rfl, h5, grow_heap w2 gw, ?_, ?_, hd4.ex e5, ((w6.trans (Keep.ex et)).trans kp4).trans (Keep.ex e5)⟩
      · rw [grow_len]
        have := b2n_le (gl h k 1 q1 h.length)
        omega
      · rw [hAt_grow gw]
        have := b2n_le (gl h k 1 q1 0)
        omega
    · obtain ⟨b, y4, h, rfl, w1, w2, w3, w4, w5, w6⟩ := hW
      exact ⟨_, rfl, q b h _ w1 w2 (by omega) (by omega) w5 w6⟩
def spSomeHeap : Sp := fun vs H Q _ => ∃ d k, vs = [.ref d, .int k] ∧ Dice H d ∧ 2 ≤ k ∧ k ≤ 60 ∧ ∀ b h H', HeapAt H' b h → IsHeap h → h.length ≤ 8 → hAt h 0 ≤ 8 → Dice H' d → Keep d H H' → Q (.ref b) H'
theorem ok_some_heap (T : Txt K mg) {f : Addr} {fd : FuncData} (D : DefAt K mg "_law_some_heap" sLSomeHeap ["_law_dice_here", "_law_k"] f fd) : FnOk P w K mg base CX0 3 f fd ["_law_dice_here", "_law_k"] spSomeHeap := by
  refine D.F.ok scLSomeHeap (fun vs H Q E h => ?_) (fun cdv A outer s₀ H vs Q E hr h => ?_)
  · obtain ⟨d, k, rfl, _⟩ := h
    rfl
  · obtain ⟨d, k, rfl, hd, k1, k2, q⟩ := h
    obtain ⟨f1, fd1, D1⟩ := T.d_l_roll
    obtain ⟨f2, fd2, D2⟩ := T.d_l_some_core
    have hr1 : Room 1 _ := hr.mono (by decide)
    have hr2 : Room 2 _ := hr.mono (by decide)
    refine ⟨_, pss_cons (ps_set (i := 2) scLSomeHeap.nd rfl (.inl rfl) (pe_call (ok_roll T D1) hr1 (by rfl) D1.g D1.F.kp D1.b .nil pass0 (pa_cons (pv 0) (pa_cons pe_int pa_nil))))
      (pss_cons (ps_if (pt_cmpR op_eq (pv 2) pe_int (nomark _)) (pss_cons (ps_set (i := 4) scLSomeHeap.nd rfl (.inl rfl) (pe_revL (pe_callB (cr_sortedI) (by rfl) T.z_sorted (by decide +kernel) (pa_cons (pe_lc (own := [("_law_at", 3)]) (g := gName 3) (tt := tYes) rfl scLSomeHeap.nd (pi_range1 (by rfl) T.z_range (pa_cons (pe_call (ok_roll T D1) hr1 (by rfl) D1.g D1.F.kp D1.b .nil pass0 (pa_cons (pv 0) (pa_cons pe_int pa_nil))) pa_nil))
        (blkOk_by (N := nLSomeHeap) (sc := defScope sLSomeHeap) (by decide +kernel)) (fun _ _ _ _ _ => (pg_name (i := 3) scLSomeHeap.nd rfl (.inl rfl))) (fun _ _ _ _ _ => pts_nil)
        (fun _ _ _ _ _ => (pe_call (ok_roll T D1) hr1 (by rfl) D1.g D1.F.kp D1.b .nil pass0 (pa_cons (pv 0) (pa_cons pe_int pa_nil))))) pa_nil))))
      (pss_one (ps_ret (pe_callTy call_tuple_of (by rfl) T.z_tuple (by decide +kernel) (pa_cons (pe_lc (own := [("_law_height", 6)]) (g := gName 6) rfl scLSomeHeap.nd (pi_list (pv 4))
        (blkOk_by (N := nLSomeHeap) (sc := defScope sLSomeHeap) (by decide +kernel)) (fun _ _ _ _ _ => (pg_name (i := 6) scLSomeHeap.nd rfl (.inl rfl))) (fun _ _ _ _ _ => pts_one (pt_cmpR op_gt (pv 6) pe_int (nomark _)))
        (fun _ _ _ _ _ => (pv 6))) pa_nil))))) pss_nil)
      (pss_cons (ps_set (i := 5) scLSomeHeap.nd rfl (.inl rfl) (pe_callTy call_list_of (by rfl) T.z_list (by decide +kernel) (pa_cons (pe_call (ok_some_core T D2) hr2 (by rfl) D2.g D2.F.kp D2.b .nil pass0 (pa_cons (pv 0) (pa_cons (pv 1) (pa_cons pe_int pa_nil)))) pa_nil)))
      (pss_cons (ps_if (PW.pt (pw_or (pt_cmpR op_eq (pv 2) pe_int (nomark _))
          (pw_or1 (pt_cmpR (op_eqD hr.units) (pv 5) (pe_lst pa_nil) (nomark _))))) (pss_one (ps_ret (pe_callTy call_tuple_of (by rfl) T.z_tuple (by decide +kernel) (pa_cons (pv 5) pa_nil)))) pss_nil)
      (pss_cons (ps_set (i := 3) scLSomeHeap.nd rfl (.inl rfl) (pe_call (ok_roll T D1) hr1 (by rfl) D1.g D1.F.kp D1.b .nil pass0 (pa_cons (pv 0) (pa_cons (pe_callB call_len_seq (by rfl) T.z_len PySem.boot_len (pa_cons (pv 5) pa_nil)) pa_nil))))
      (pss_cons (ps_if (PW.pt (pw_and (pt_cmpR op_eq (pv 2) pe_int (nomark _))
          (pw_and1 (PW.pt (pw_or (pt_cmpR op_eq (pv 3) pe_int (nomark _))
          (pw_or1 (pt_cmpR op_gt (pe_ix ix_list (pv 5) (pe_op op_sub (pv 3) pe_int) (fun _ _ => rfl)) (pe_ix ix_list (pv 5) (pv 3) (fun _ _ => rfl)) (nomark _)))))))) (pss_one (ps_asg (pe_op op_add (pe_ix ix_list (pv 5) (pv 3) (fun _ _ => rfl)) pe_int) (pg_sub (pv 5) (pv 3) set_list))) pss_nil)
      (pss_cons (ps_if (pt_cmpR op_eq (pv 2) pe_int (nomark _)) (pss_one (ps_set (i := 5) scLSomeHeap.nd rfl (.inl rfl) (pe_op op_cat (pe_slice sl_list (pv 5) po_none (po_some (pv 3))) (pe_slice sl_list (pv 5) (po_some (pe_op op_add (pv 3) pe_int)) po_none)))) pss_nil)
      (pss_one (ps_ret (pe_callTy call_tuple_of (by rfl) T.z_tuple (by decide +kernel) (pa_cons (pv 5) pa_nil)))))))))), ?_⟩
    refine ⟨_, rfl, d, 4, rfl, hd, by decide, by decide, fun way H1 w0 w1 hd1 kp1 => ⟨_, rfl, rfl, _, rfl, ite2 (fun cc => ?_) (fun cc => ?_)⟩⟩
    · refine ⟨_, rfl, d, 7, rfl, hd1, by decide, by decide, fun r2 H2 r20 r21 hd2 k2 => ?_⟩
      refine ⟨r2, rfl, by omega, by omega, fun Dl hD => ?_⟩
      have ndl : d ≠ Dl := hd2.ne_new hD
      have k12 := kp1.trans k2
      have hD0 : H Dl = none := k12.free ndl.symm hD
      refine lc_range (lo := 0) (n := r2.toNat) (fun i H' => ∃ js : List Int, H' Dl = some (.lst (js.map V.int)) ∧ js.length = i ∧ (∀ j ∈ js, 0 ≤ j ∧ j ≤ 5) ∧ Keep d H H' ∧ Dice H' d) ⟨[], upd_same, rfl, fun j hj => absurd hj (by simp), k12.trans (Keep.new hD), hd2.upd ndl⟩ (fun i H' hi hp => ?_) (fun H' hp => ?_)
      · obtain ⟨js, a1, a2, a3, a4, a5⟩ := hp
        refine ⟨rfl, ?_⟩
        dsimp only [tYes]
        rw [if_pos rfl]
        refine ⟨_, rfl, d, 6, rfl, a5, by decide, by decide, fun r3 H3 r30 r31 hd3 k3 => ?_⟩
        refine ⟨js.map V.int, k3 _ _ ndl.symm a1, ?_, js ++ [r3], ?_, ?_, ?_, (a4.trans k3).mut hD0, hd3.upd ndl⟩
        · rw [List.length_map]
          exact small1000 (by omega)
        · rw [upd_same, List.map_append]
          rfl
        · rw [List.length_append, a2]
          rfl
        · intro j hj
          rcases List.mem_append.mp hj with z | z
          · exact a3 j z
          · have := List.mem_singleton.mp z
            omega
      · obtain ⟨js, a1, a2, a3, a4, a5⟩ := hp
        refine ⟨Dl, js, rfl, SqL.of a1, fun ns p hperm hsort hp0 => ?_⟩
        have nd1 := a5.ne_new hp0
        have k5 := a4.trans (Keep.new (o := .lst (ns.map V.int)) hp0)
        have hd5 := a5.upd (o := .lst (ns.map V.int)) nd1
        have g5 : (upd H' p (.lst (ns.map V.int))) p = some (.lst (ns.map V.int)) := upd_same
        generalize upd H' p (.lst (ns.map V.int)) = H5 at *
        refine ⟨p, _, rfl, SqL.of g5, fun p2 hp2 => ?_⟩
        have hb : ∀ j ∈ ns.reverse, 0 ≤ j ∧ j ≤ 5 := fun j hj => a3 j (hperm.mem_iff.mp (List.mem_reverse.mp hj))
        have eh : (ns.map V.int).reverse = hv (ns.reverse.map Int.toNat) := by
          rw [← List.map_reverse]
          exact hv_nat fun j hj => by
            have := hb j hj
            omega
        rw [eh]
        have hd6 := hd5.upd (o := .lst (hv (ns.reverse.map Int.toNat))) (hd5.ne_new hp2)
        have k6 := k5.trans (Keep.new (o := .lst (hv (ns.reverse.map Int.toNat))) hp2)
        have g6 : (upd H5 p2 (.lst (hv (ns.reverse.map Int.toNat)))) p2 = some (.lst (hv (ns.reverse.map Int.toNat))) := upd_same
        generalize upd H5 p2 (.lst (hv (ns.reverse.map Int.toNat))) = H6 at *
        have hlen : (ns.reverse.map Int.toNat).length ≤ 6 := by
          rw [List.length_map, List.length_reverse, hperm.length_eq]
          omega
        have hdesc : (ns.reverse.map Int.toNat).Pairwise (fun a b => b ≤ a) := by
          refine List.pairwise_map.mpr (List.pairwise_reverse.mpr (hsort.imp fun {x y} hxy => ?_))
          show x.toNat ≤ y.toNat
          omega
        have hmem : ∀ x ∈ ns.reverse.map Int.toNat, x ≤ 5 := fun x hx => by
          obtain ⟨j, hj, rfl⟩ := List.mem_map.mp hx
          have := hb j hj
          omega
        generalize ns.reverse.map Int.toNat = us at *
        refine ⟨_, rfl, p2, rfl, ⟨_, SqL.of g6⟩, fun Lq hLq => ?_⟩
        have nq : d ≠ Lq := hd6.ne_new hLq
        refine lc_list (K := K) (a := p2) (xs := hv us) (fun j H8 => H8 Lq = some (.lst (hv ((us.take j).filter fun x => decide (0 < x)))) ∧ Ex H6 H8) ⟨upd_same, Ex.new hLq⟩ (fun j H8 _ hp8 => SqL.of (hp8.2 _ _ g6)) (fun j x H8 hx hp8 => ?_) (fun H8 hp8 => ?_)
        · obtain ⟨u1, u2⟩ := hp8
          obtain ⟨y, hy, rfl⟩ := hv_inv hx
          refine ⟨rfl, _, rfl, _, _, rfl, rfl, _, rfl, ite2 (fun cc => ?_) (fun cc => ?_)⟩
          · have c0 : 0 < y := by
              have := of_decide_eq_true cc
              omega
            refine ⟨_, rfl, _, u1, ?_, ?_, Ex.mut u2 hLq⟩
            · rw [hv_len]
              have a1 := List.length_filter_le (fun x => decide (0 < x)) (us.take j)
              rw [List.length_take] at a1
              exact small1000 (by omega)
            · rw [upd_same, take_filter_snoc _ hy, if_pos (decide_eq_true c0), hv_snoc]
          · have c0 : ¬ 0 < y := fun z => cc (decide_eq_true (by omega))
            refine ⟨?_, u2⟩
            rw [take_filter_snoc _ hy, if_neg (by rw [decide_eq_false c0]; decide), List.append_nil]
            exact u1
        · obtain ⟨u1, u2⟩ := hp8
          rw [hv_len, List.take_length] at u1
          refine ⟨Lq, _, rfl, .inl ⟨SqL.of u1, fun r hr' => ?_⟩⟩
          have hd8 := hd6.ex u2
          have fl := List.length_filter_le (fun x => decide (0 < x)) us
          refine q r (us.filter fun x => decide (0 < x)) _ upd_same (pair_heap (hdesc.sublist List.filter_sublist) fun x hx => of_decide_eq_true (List.mem_filter.mp hx).2) (by omega) ?_ (hd8.upd (hd8.ne_new hr')) ((k6.trans (Keep.ex u2)).trans (Keep.new hr'))
          by_cases z : 0 < (us.filter fun x => decide (0 < x)).length
          · have := hmem _ (List.mem_filter.mp (List.mem_of_getElem? (hAt_lt z))).1
            omega
          · rw [hAt_ge (by omega)]
            decide
    · refine ⟨_, rfl, _, rfl, d, k, 7, rfl, hd1, k1, k2, by decide, by decide, fun b h H2 hb IH l7 t7 hd2 kp2 => ?_⟩
      refine ⟨b, _, rfl, .inr (SqT.of hb), fun l hl0 => ?_⟩
      have el := Ex.new (o := .lst (hv h)) hl0
      have gl0 : (upd H2 l (.lst (hv h))) l = some (.lst (hv h)) := upd_same
      have hd3 := hd2.ex el
      have nl : l ≠ d := (hd2.ne_new hl0).symm
      have hlH : H l = none := (kp1.trans kp2).free nl hl0
      generalize upd H2 l (.lst (hv h)) = H3 at *
      have kp3 := (kp1.trans kp2).trans (Keep.ex el)
      refine ⟨_, rfl, rfl, _, rfl, ite2 (fun c1 => ?_) (fun c1 => ?_)⟩
      · refine iteT' rfl ?_
        exact ⟨_, rfl, l, _, rfl, .inl ⟨SqL.of gl0, fun r hr' => q r h _ upd_same IH (by omega) (by omega) (hd3.upd (hd3.ne_new hr')) (kp3.trans (Keep.new hr'))⟩⟩
      · refine ⟨_, rfl, by show 0 ≤ sizeLine; decide, fun e he => ?_⟩
        have x4 := Ex.new (o := .lst []) he
        refine eq_empty (l := h.map fun (n : Nat) => (n : Int)) (by rw [← hvI]; exact x4 _ _ gl0) upd_same ?_
        have gl4 := x4 _ _ gl0
        have hd4 := hd3.ex x4
        have kp4 := kp3.trans (Keep.ex x4)
        generalize upd H3 e (.lst []) = H4 at *
        refine ⟨_, rfl, ite2 (fun c2 => ?_) (fun c2 => ?_)⟩
        · exact ⟨_, rfl, l, _, rfl, .inl ⟨SqL.of gl4, fun r hr' => q r h _ upd_same IH (by omega) (by omega) (hd4.upd (hd4.ne_new hr')) (kp4.trans (Keep.new hr'))⟩⟩
        · have ne : h ≠ [] := fun z => c2 (decide_eq_true (by rw [z]; rfl))
          have hl : 0 < h.length := List.length_pos_iff.mpr ne
          refine ⟨_, rfl, _, rfl, l, _, rfl, .inl (SqL.of gl4), d, _, rfl, hd4, by rw [hv_len]; omega, by rw [hv_len]; omega, fun at_ H5 a0 a1 hd5 kp5 => ?_⟩
          rw [hv_len] at a1
          obtain ⟨at_, rfl⟩ := Int.eq_ofNat_of_zero_le a0
          have hi : at_ < h.length := by omega
          have gl5 := kp5 _ _ nl gl4
          have kp45 := kp4.trans kp5
          refine ⟨_, rfl, rfl, _, rfl, ite2 (fun c3 => ?_) (fun c3 => ?_)⟩
          · have w2 : way = 2 := V.int.inj (of_decide_eq_true c3)
            have w3 : decide (V.int way = V.int 3) = false := decide_eq_false fun z => by
              have := V.int.inj z
              omega
            refine ⟨_, rfl, rfl, _, rfl, ite2 (fun c4 => ?_) (fun c4 => ?_)⟩
            · refine iteT' rfl ?_
              refine ⟨_, rfl, _, rfl, l, _, _, _, rfl, rfl, SqL.of gl5, atI_nat (hv_get hi), _, _, rfl, rfl, _, rfl, _, rfl, l, _, _, at_, rfl, rfl, gl5, ixN_nat (by rw [hv_len]; exact hi), ?_⟩
              refine ⟨_, rfl, rfl, _, rfl, iteF' w3 ?_⟩
              refine ⟨_, rfl, l, _, rfl, .inl ⟨SqL.of upd_same, fun r hr' => ?_⟩⟩
              have hd6 := hd5.upd (o := .lst ((hv h).set at_ (V.int ((hAt h at_ : Int) + 1)))) nl.symm
              refine q r (h.set at_ (hAt h at_ + 1)) _ ?_ (set_heap IH hi (.inl (Int.ofNat.inj (V.int.inj (of_decide_eq_true c4))))) (by rw [List.length_set]; omega) ?_ (hd6.upd (hd6.ne_new hr')) ((kp45.mut hlH).trans (Keep.new hr'))
              · show upd _ r _ r = _
                rw [upd_same]
                show some (HO.tup ((hv h).set at_ (V.int ((hAt h at_ : Int) + 1)))) = _
                rw [show ((hAt h at_ : Int)) + 1 = ((hAt h at_ + 1 : Nat) : Int) by omega, hv_set]
              · rw [hAt_set _ _ _ _ hi]
                have := IH.le (Nat.zero_le at_)
                split <;> omega
            · have a2 : at_ ≠ 0 := fun z => c4 (decide_eq_true (by rw [z]; rfl))
              refine ⟨_, rfl, _, rfl, _, _, rfl, rfl, l, _, ((at_ : Int) - 1), .int (hAt h (at_ - 1) : Int), rfl, rfl, SqL.of gl5, at_of (show (at_ : Int) - 1 = ((at_ - 1 : Nat) : Int) by omega) (hv_get (by omega)), _, rfl, _, rfl, l, _, _, _, rfl, rfl, SqL.of gl5, atI_nat (hv_get hi), _, _, rfl, rfl, _, rfl, ite2 (fun c5 => ?_) (fun c5 => ?_)⟩
              · have lt : hAt h at_ < hAt h (at_ - 1) := by
                  have := of_decide_eq_true c5
                  omega
                refine ⟨_, rfl, _, rfl, l, _, _, _, rfl, rfl, SqL.of gl5, atI_nat (hv_get hi), _, _, rfl, rfl, _, rfl, _, rfl, l, _, _, at_, rfl, rfl, gl5, ixN_nat (by rw [hv_len]; exact hi), ?_⟩
                refine ⟨_, rfl, rfl, _, rfl, iteF' w3 ?_⟩
                refine ⟨_, rfl, l, _, rfl, .inl ⟨SqL.of upd_same, fun r hr' => ?_⟩⟩
                have hd6 := hd5.upd (o := .lst ((hv h).set at_ (V.int ((hAt h at_ : Int) + 1)))) nl.symm
                refine q r (h.set at_ (hAt h at_ + 1)) _ ?_ (set_heap IH hi (.inr lt)) (by rw [List.length_set]; omega) ?_ (hd6.upd (hd6.ne_new hr')) ((kp45.mut hlH).trans (Keep.new hr'))
                · show upd _ r _ r = _
                  rw [upd_same]
                  show some (HO.tup ((hv h).set at_ (V.int ((hAt h at_ : Int) + 1)))) = _
                  rw [show ((hAt h at_ : Int)) + 1 = ((hAt h at_ + 1 : Nat) : Int) by omega, hv_set]
                · rw [hAt_set _ _ _ _ hi]
                  have := IH.le (Nat.zero_le at_)
                  split <;> omega
              · refine ⟨_, rfl, rfl, _, rfl, iteF' w3 ?_⟩
                exact ⟨_, rfl, l, _, rfl, .inl ⟨SqL.of gl5, fun r hr' => q r h _ upd_same IH (by omega) (by omega) (hd5.upd (hd5.ne_new hr')) (kp45.trans (Keep.new hr'))⟩⟩
          · refine iteF' rfl ?_
            refine ⟨_, rfl, rfl, _, rfl, ite2 (fun c6 => ?_) (fun c6 => ?_)⟩
            · refine ⟨_, rfl, _, rfl, _, rfl, l, _, rfl, SqL.of gl5, fun p1 hp1 => ?_⟩
              have x1 := Ex.new (o := .lst (cutV (hv h) none (some (at_ : Int)))) hp1
              have g1 : (upd H5 p1 (.lst (cutV (hv h) none (some (at_ : Int))))) p1 = some (.lst (hv (h.take at_))) := by
                rw [upd_same, cutT (by omega)]
              have gl6 := x1 _ _ gl5
              have hd6 := hd5.ex x1
              have kp6 := kp45.trans (Keep.ex x1)
              generalize upd H5 p1 (.lst (cutV (hv h) none (some (at_ : Int)))) = H6 at *
              refine ⟨_, rfl, _, rfl, _, _, rfl, rfl, _, rfl, l, _, rfl, SqL.of gl6, fun p2 hp2 => ?_⟩
              have x2 := Ex.new (o := .lst (cutV (hv h) (some ((at_ : Int) + 1)) none)) hp2
              have g2 : (upd H6 p2 (.lst (cutV (hv h) (some ((at_ : Int) + 1)) none))) p2 = some (.lst (hv (h.drop (at_ + 1)))) := by
                rw [upd_same, show (at_ : Int) + 1 = ((at_ + 1 : Nat) : Int) by omega, cutF (by omega)]
              have g12 := x2 _ _ g1
              have hd7 := hd6.ex x2
              have kp7 := kp6.trans (Keep.ex x2)
              generalize upd H6 p2 (.lst (cutV (hv h) (some ((at_ : Int) + 1)) none)) = H7 at *
              refine ⟨p1, p2, _, _, rfl, rfl, g12, g2, ?_, fun p3 hp3 => ?_⟩
              · rw [hv_len, hv_len, List.length_take, List.length_drop]
                exact sz_of (by omega)
              obtain ⟨dh1, dh2, dh3⟩ := del_heap IH at_
              have hd8 := hd7.upd (o := .lst (hv (h.take at_) ++ hv (h.drop (at_ + 1)))) (hd7.ne_new hp3)
              refine ⟨_, rfl, p3, _, rfl, .inl ⟨SqL.of upd_same, fun r hr' => ?_⟩⟩
              refine q r (h.take at_ ++ h.drop (at_ + 1)) _ ?_ dh1 (by omega) (by omega) (hd8.upd (hd8.ne_new hr')) ((kp7.trans (Keep.new hp3)).trans (Keep.new hr'))
              show upd _ r _ r = _
              rw [upd_same]
              unfold hv
              rw [List.map_append]
            · exact ⟨_, rfl, l, _, rfl, .inl ⟨SqL.of gl5, fun r hr' => q r h _ upd_same IH (by omega) (by omega) (hd5.upd (hd5.ne_new hr')) (kp45.trans (Keep.new hr'))⟩⟩
end
end K1

set_option exponentiation.threshold 400
namespace K1
open PySem PySem.Spec PyProof.Rows L2 Evl HM LX ZW TE
theorem PlAt.keep {H : Hp} {p : Addr} {xs : List V} {o : HO} {x : V} {q : Int × Int} (e : H p = some (.lst xs)) (h : PlAt H x q) : PlAt (upd H p o) x q := by
  obtain ⟨t, h1, h2⟩ := h
  refine ⟨t, h1, ?_⟩
  have ne : t ≠ p := fun z => by
    subst z
    rw [e] at h2
    cases h2
  show upd H p o t = _
  unfold upd
  rw [if_neg ne]
  exact h2
theorem sqr_split (h : List Nat) (i j : Nat) : sqr h i j = sqr h i 0 ++ (List.range j).map fun (r : Nat) => ((i : Int), (r : Int)) := by
  unfold sqr
  rw [List.range_zero, List.map_nil, List.append_nil]
theorem mem_sqr {h : List Nat} {p : Int × Int} (hp : p ∈ sqAll h) : ∃ c r : Nat, p = ((c : Int), (r : Int)) ∧ c < h.length ∧ r < hAt h c := by
  unfold sqAll sqr at hp
  rw [List.range_zero, List.map_nil, List.append_nil] at hp
  obtain ⟨l, hl, hp⟩ := List.mem_flatten.mp hp
  obtain ⟨c, hc, rfl⟩ := List.mem_map.mp hl
  obtain ⟨r, hr, rfl⟩ := List.mem_map.mp hp
  exact ⟨c, r, rfl, List.mem_range.mp hc, List.mem_range.mp hr⟩
theorem sqr_mem {h : List Nat} {c r : Nat} (hr : r < hAt h c) : ((c : Int), (r : Int)) ∈ sqAll h := by
  unfold sqAll sqr
  rw [List.range_zero, List.map_nil, List.append_nil]
  have hc : c < h.length := by
    rcases Nat.lt_or_ge c h.length with z | z
    · exact z
    · rw [hAt_ge z] at hr
      omega
  exact List.mem_flatten.mpr ⟨_, List.mem_map.mpr ⟨c, List.mem_range.mpr hc, rfl⟩, List.mem_map.mpr ⟨r, List.mem_range.mpr hr, rfl⟩⟩
theorem sq_len {h : List Nat} {m : Nat} (hm : ∀ c, hAt h c ≤ m) : ∀ n : Nat, (sqr h n 0).length ≤ n * m
  | 0 => by simp [sqr]
  | n + 1 => by
    rw [← sqr_next, sqr_split, List.length_append, List.length_map, List.length_range]
    have := sq_len hm n
    have := hm n
    rw [Nat.succ_mul]
    omega
def hkL (h : List Nat) : List Int := (sqAll h).map fun p => hk h p.1.toNat p.2.toNat
theorem hkL_mem {h : List Nat} {z : Int} : z ∈ hkL h ↔ ∃ c r : Nat, r < hAt h c ∧ hk h c r = z := by
  unfold hkL
  rw [List.mem_map]
  constructor
  · rintro ⟨p, hp, rfl⟩
    obtain ⟨c, r, rfl, _, hr⟩ := mem_sqr hp
    exact ⟨c, r, hr, rfl⟩
  · rintro ⟨c, r, hr, rfl⟩
    exact ⟨_, sqr_mem hr, rfl⟩
theorem due_iff {h : List Nat} (IH : IsHeap h) {k : Int} (hk1 : 1 ≤ k) {b : Bool} (hb : b = true ↔ coreB h k) : b = !decide (k ∈ hkL h) := by
  have : coreB h k ↔ ¬ k ∈ hkL h := by
    rw [core_iff IH hk1, hkL_mem]
    constructor
    · rintro a ⟨c, r, hr, e⟩
      exact a c r hr e
    · intro a c r hr e
      exact a ⟨c, r, hr, e⟩
  rw [this] at hb
  by_cases z : k ∈ hkL h
  · rw [decide_eq_true z]
    cases b with
    | false => rfl
    | true => exact absurd z (hb.mp rfl)
  · rw [decide_eq_false z]
    exact hb.mpr z
theorem due_mult {h : List Nat} (IH : IsHeap h) {k : Int} (hk1 : 1 ≤ k) (nz : ¬ k ∈ hkL h) : (hkL h).filter (fun n => decide (n % k = 0)) = [] := by
  have C : coreB h k := (core_iff IH hk1).mpr fun c r hr e => nz (hkL_mem.mpr ⟨c, r, hr, e⟩)
  rw [List.filter_eq_nil_iff]
  intro n hn z
  obtain ⟨c, r, hr, rfl⟩ := hkL_mem.mp hn
  exact core_mult IH hk1 C hr (of_decide_eq_true z)
def plD (p : Int × Int) : PyData := .tuple [.int p.1, .int p.2]
theorem dp_pls {K : PySem.W.Frag} {H : Hp} : ∀ {xs : List V} {ps : List (Int × Int)}, Pls H xs ps → DpAll K H xs (ps.map plD)
  | _, _, .nil => .nil
  | _, _, .cons ⟨t, h1, h2⟩ r => .cons (by rw [h1]; exact .tup (SqT.of h2) (.cons (.int _) (.cons (.int _) .nil))) (dp_pls r)
theorem can_pls : ∀ l : List (Int × Int), PyData.canLayAll0 (l.map plD) = true
  | [] => by simp [PyData.canLayAll0]
  | p :: r => by simp [PyData.canLayAll0, plD, PyData.canLay0, can_pls r]
theorem depth_pls : ∀ l : List (Int × Int), PyData.depthAll (l.map plD) ≤ 60
  | [] => by decide
  | b :: r => by
    have := depth_pls r
    simp only [List.map_cons, plD, PyData.depthAll, PyData.depth]
    have h1' : PyData.depthAll (List.map (fun p : Int × Int => PyData.tuple [.int p.1, .int p.2]) r) ≤ 60 := this
    first
      | omega
      | (show max _ _ ≤ _; omega)
theorem shaped_pls (l : List (Int × Int)) : SeqAt.shaped (.tuple (l.map plD)) = true := by
  unfold SeqAt.shaped
  have h1 : (PyData.tuple (l.map plD)).canLay0 = true := by simp [PyData.canLay0, can_pls l]
  have h2 : (PyData.tuple (l.map plD)).depth ≤ 64 := by
    have := depth_pls l
    simp only [PyData.depth]
    omega
  rw [h1, decide_eq_true h2]
  rfl
theorem eqv_pls (l : List (Int × Int)) : PyData.eqv (.tuple (l.map plD)) (.tuple (l.map plD)) = true := SeqAt.eqv_refl _ (by simp [PyData.canLay0, can_pls l])
theorem ne_pls {K : PySem.W.Frag} {H : Hp} {p q : Addr} {xs ys : List V} {l : List (Int × Int)} {Q : VK} (h1 : H p = some (.tup xs)) (h2 : H q = some (.tup ys)) (a : Pls H xs l) (b : Pls H ys l) (k : Q (.bl false) H) : rNeD K (.ref p) (.ref q) H Q := by
  refine ⟨.tuple _, .tuple _, .tup (SqT.of h1) (dp_pls a), .tup (SqT.of h2) (dp_pls b), shaped_pls _, shaped_pls _, ?_⟩
  rw [eqv_pls]
  exact k
theorem ne_ints_refl {K : PySem.W.Frag} {H : Hp} {p q : Addr} {l : List Int} {Q : VK} (h1 : H p = some (.lst (l.map V.int))) (h2 : H q = some (.lst (l.map V.int))) (k : Q (.bl false) H) : rNeD K (.ref p) (.ref q) H Q := by
  refine ⟨.list _, .list _, .lst (SqL.of h1) (dp_ints l), .lst (SqL.of h2) (dp_ints l), shaped_intsL _, shaped_intsL _, ?_⟩
  rw [eqv_intsL]
  exact k
theorem neT_empty {K : PySem.W.Frag} {H : Hp} {p q : Addr} {h : List Nat} {Q : VK} (h1 : H p = some (.tup (hv h))) (h2 : H q = some (.tup [])) (k : Q (.bl (!decide (h = []))) H) : rNeD K (.ref p) (.ref q) H Q := by
  rw [hvI] at h1
  refine ⟨.tuple _, .tuple [], .tup (SqT.of h1) (dp_ints _), .tup (SqT.of h2) .nil, shaped_intsT _, rfl, ?_⟩
  cases h with
  | nil =>
    rw [show PyData.eqv (.tuple ((([] : List Nat).map fun (n : Nat) => (n : Int)).map PyData.int)) (.tuple []) = true from eqv_intsT []]
    exact k
  | cons a r =>
    rw [show PyData.eqv (.tuple (((a :: r).map fun (n : Nat) => (n : Int)).map PyData.int)) (.tuple []) = false by simp [PyData.eqv, PyData.eqvAll]]
    rw [decide_eq_false (by simp)] at k
    exact k
theorem hv_neg1 {h : List Nat} (hl : 1 ≤ h.length) : atI (hv h) (-1) = some (V.int (hAt h (h.length - 1) : Int)) := by
  unfold atI ixN
  rw [if_neg (by omega), hv_len, if_pos (by omega)]
  show (hv h)[_]? = _
  rw [show ((-1 : Int) + (h.length : Int)).toNat = h.length - 1 by omega]
  exact hv_get (by omega)
theorem good_nil : Good [] := ⟨IsHeap.nil, by simp, by rw [hAt_ge (by simp)]; omega⟩
theorem core_nil (k : Int) : coreB [] k := fun c hc => absurd hc (Nat.not_lt_zero c)
theorem sql_keep {K : PySem.W.Frag} {H H1 H2 : Hp} {p a : Addr} {xs : List V} (h0 : H p = none) (e : Ex H H1) (k : Keep p H1 H2) (h : SqL K H a xs) : SqL K H2 a xs := by
  rcases h with (h | ⟨o, h⟩) | h
  · exact .inl (.inl (k _ _ (ne_of_none h h0) (e _ _ h)))
  · exact .inl (.inr ⟨o, k _ _ (ne_of_none h h0) (e _ _ h)⟩)
  · exact .inr h
theorem paired_nth1 {α β : Type} {R : α → β → Prop} {x : α} : ∀ {xs : List α} {ys : List β} {i : Nat}, Paired R xs ys → xs[i]? = some x → ∃ y, ys[i]? = some y ∧ R x y
  | _, _, 0, .cons a r, h => ⟨_, rfl, by
    have := Option.some.inj h
    rw [← this]
    exact a⟩
  | _, _, i + 1, .cons a r, h => by
    rw [List.getElem?_cons_succ] at h ⊢
    exact paired_nth1 r h
theorem paired_len1 {α β : Type} {R : α → β → Prop} : ∀ {xs : List α} {ys : List β}, Paired R xs ys → xs.length = ys.length
  | _, _, .nil => rfl
  | _, _, .cons _ r => congrArg (· + 1) (paired_len1 r)
theorem paired_app1 {α β : Type} {R : α → β → Prop} {us : List α} {vs : List β} (h : Paired R us vs) : ∀ {xs : List α} {ys : List β}, Paired R xs ys → Paired R (xs ++ us) (ys ++ vs)
  | _, _, .nil => h
  | _, _, .cons a r => .cons a (paired_app1 h r)
theorem hkL_get {h : List Nat} {i : Nat} {c r : Nat} (e : (sqAll h)[i]? = some ((c : Int), (r : Int))) : (hkL h).getD i 0 = hk h c r := by
  unfold hkL
  rw [List.getD_eq_getElem?_getD, List.getElem?_map, e]
  rfl
theorem range_ints (l : List Int) {n : Nat} (hn : n = l.length) : (List.range n).map (fun i => V.int (l.getD i 0)) = l.map V.int := by
  subst hn
  have := range_getD l (fun z => z)
  rw [List.map_id'] at this
  conv => rhs; rw [← this]
  rw [List.map_map]
  rfl
end K1

set_option exponentiation.threshold 400
namespace K1
open PySem PySem.Spec PyProof.Rows L2 Evl HM LX ZW TE
section
variable {P : Program} {w : World} {K : PySem.W.Frag} {mg : Str → Option Value} {base : Heap}
def spLaw (K : PySem.W.Frag) : Sp := fun vs H Q _ => ∃ (a : Addr) (ns : List Int), vs = [.ref a] ∧ SqL K H a (ns.map V.int) ∧ ns.length ≤ 63 ∧ ∀ H', Q (.bl true) H'
theorem ok_law (T : Txt K mg) {f : Addr} {fd : FuncData} (F : Fun K "law" "law" sLaw f fd) : FnOk P w K mg base CX0 6 f fd ["_law_script"] (spLaw K) := by
  refine F.ok scLaw (fun vs H Q E h => ?_) (fun cdv A outer s₀ H vs Q E hr h => ?_)
  · obtain ⟨a, ns, rfl, _⟩ := h
    rfl
  · obtain ⟨a, ns, rfl, hS, hlen, q⟩ := h
    obtain ⟨f1, fd1, D1⟩ := T.d_is_core
    obtain ⟨f2, fd2, D2⟩ := T.d_l_one_of
    obtain ⟨f3, fd3, D3⟩ := T.d_l_roll
    obtain ⟨f4, fd4, D4⟩ := T.d_l_is_core
    obtain ⟨f5, fd5, D5⟩ := T.d_hook
    obtain ⟨f6, fd6, D6⟩ := T.d_squares
    obtain ⟨f7, fd7, D7⟩ := T.d_l_hook
    obtain ⟨f8, fd8, D8⟩ := T.d_l_some_heap
    obtain ⟨f9, fd9, D9⟩ := T.d_l_dice
    have hr1 : Room 1 _ := hr.mono (by decide)
    have hr2 : Room 2 _ := hr.mono (by decide)
    have hr3 : Room 3 _ := hr.mono (by decide)
    have hr5 : Room 5 _ := hr.mono (by decide)
    refine ⟨_, pss_cons (ps_for PassesOwn.never rfl (pi_range1 (by rfl) T.z_range (pa_cons (pe_callB (call_max2 rfl) (by rfl) T.z_max (by decide +kernel) (pa_cons pe_int (pa_cons (pe_callB (call_min2 rfl) (by rfl) T.z_min (by decide +kernel) (pa_cons pe_int (pa_cons (pe_callB call_len_seq (by rfl) T.z_len PySem.boot_len (pa_cons (pv 0) pa_nil)) pa_nil))) pa_nil))) pa_nil)) (pg_name (i := 1) scLaw.nd rfl (.inl rfl))
        (pss_cons (ps_set (i := 2) scLaw.nd rfl (.inl rfl) (pe_call (ok_dice T D9) hr1 (by rfl) D9.g D9.F.kp D9.b .nil pass0 (pa_cons (pv 0) (pa_cons (pv 1) pa_nil))))
      (pss_one (ps_for PassesOwn.never rfl (pi_range1 (by rfl) T.z_range (pa_cons pe_int pa_nil)) (pg_name (i := 3) scLaw.nd rfl (.inl rfl))
        (pss_cons (ps_set (i := 4) scLaw.nd rfl (.inr rfl) (pe_op op_add pe_int (pe_call (ok_roll T D3) hr1 (by rfl) D3.g D3.F.kp D3.b .nil pass0 (pa_cons (pv 2) (pa_cons pe_int pa_nil)))))
      (pss_cons (ps_set (i := 5) scLaw.nd rfl (.inr rfl) (pe_call (ok_some_heap T D8) hr3 (by rfl) D8.g D8.F.kp D8.b .nil pass0 (pa_cons (pv 2) (pa_cons (pv 4) pa_nil))))
      (pss_cons (ps_set (i := 6) scLaw.nd rfl (.inl rfl) (pe_lst pa_nil))
      (pss_cons (ps_for PassesOwn.never rfl (pi_range1 (by rfl) T.z_range (pa_cons (pe_callB call_len_seq (by rfl) T.z_len PySem.boot_len (pa_cons (pv 5) pa_nil)) pa_nil)) (pg_name (i := 7) scLaw.nd rfl (.inr rfl))
        (pss_one (ps_expr (pe_bm PySem.F.plainAttrs_list PySem.F.slot_list_extend PySem.F.type_list_extend mt_extend (pv 6) (pa_cons (pe_lc (own := [("_law_row", 12)]) (g := gName 12) (tt := tYes) rfl scLaw.nd (pi_range1 (by rfl) T.z_range (pa_cons (pe_ix ix_tup (pv 5) (pv 7) (fun _ _ => rfl)) pa_nil))
        (blkOk_by (N := nLaw) (sc := defScope sLaw) (by decide +kernel)) (fun _ _ _ _ _ => (pg_name (i := 12) scLaw.nd rfl (.inl rfl))) (fun _ _ _ _ _ => pts_nil)
        (fun _ _ _ _ _ => (pe_tup (pa_cons (pv 7) (pa_cons (pv 12) pa_nil))))) pa_nil)))))
      (pss_cons (ps_setLc (i := 8) (own := [("_law_square", 13)]) (g := gName 13) (tt := tYes) (by rfl) scLaw.nd rfl rfl (sw_true rfl rfl rfl (by decide +kernel)) (pi_list (pv 6))
        (blkOk_by (N := nLaw) (sc := defScope sLaw) (by decide +kernel)) (fun _ _ _ _ _ => (pg_name (i := 13) scLaw.nd rfl (.inl rfl))) (fun _ _ _ _ _ => pts_nil)
        (fun _ _ _ _ _ => (pe_call (ok_lhook T D7) hr1 (by rfl) D7.g D7.F.kp D7.b .nil pass0 (pa_cons (pv 5) (pa_cons (pv 13) pa_nil)))))
      (pss_cons (ps_if (PW.pt (pw_or (pt_cmpR (op_neD hr.units) (pe_call (ok_squares T D6) hr5 (by rfl) D6.g D6.F.kp D6.b .nil pass0 (pa_cons (pv 5) pa_nil)) (pe_callTy call_tuple_of (by rfl) T.z_tuple (by decide +kernel) (pa_cons (pv 6) pa_nil)) (nomark _))
          (pw_or1 (pt_cmpR (op_neD hr.units) (pe_lc (own := [("_law_square", 13)]) (g := gName 13) (tt := tYes) rfl scLaw.nd (pi_list (pv 6))
        (blkOk_by (N := nLaw) (sc := defScope sLaw) (by decide +kernel)) (fun _ _ _ _ _ => (pg_name (i := 13) scLaw.nd rfl (.inl rfl))) (fun _ _ _ _ _ => pts_nil)
        (fun _ _ _ _ _ => (pe_call (ok_hook T D5) hr5 (by rfl) D5.g D5.F.kp D5.b .nil pass0 (pa_cons (pv 5) (pa_cons (pv 13) pa_nil))))) (pv 8) (nomark _))))) (pss_one (ps_ret pe_bl)) pss_nil)
      (pss_cons (ps_set (i := 9) scLaw.nd rfl (.inl rfl) (pe_cmpR (show OpR _ (compareOp .NotIn) (rIn K true) from op_notIn_seq) (pv 4) (pv 8) (by rfl)))
      (pss_cons (ps_if (PW.pt (pw_or (pt_cmpR op_ne (pe_call (ok_is_core T D1) hr5 (by rfl) D1.g D1.F.kp D1.b .nil pass0 (pa_cons (pv 4) (pa_cons (pv 5) pa_nil))) (pv 9) (nomark _))
          (pw_or1 (pt_cmpR op_ne (pe_call (ok_lis_core T D4) hr2 (by rfl) D4.g D4.F.kp D4.b .nil pass0 (pa_cons (pv 4) (pa_cons (pv 5) pa_nil))) (pv 9) (nomark _))))) (pss_one (ps_ret pe_bl)) pss_nil)
      (pss_cut (ps_if (PW.pt (pw_and (pt_val (pv 9))
          (pw_and1 (pt_cmpR (op_neD hr.units) (pe_lc (own := [("_law_one", 14)]) (g := gName 14) rfl scLaw.nd (pi_list (pv 8))
        (blkOk_by (N := nLaw) (sc := defScope sLaw) (by decide +kernel)) (fun _ _ _ _ _ => (pg_name (i := 14) scLaw.nd rfl (.inl rfl))) (fun _ _ _ _ _ => pts_one (pt_cmpR op_eq (pe_op op_mod (pv 14) (pv 4)) pe_int (nomark _)))
        (fun _ _ _ _ _ => (pv 14))) (pe_lst pa_nil) (nomark _))))) (pss_one (ps_ret pe_bl)) pss_nil)
      (pss_cons (ps_set (i := 10) scLaw.nd rfl (.inl rfl) (pe_op op_add pe_int (pe_call (ok_roll T D3) hr1 (by rfl) D3.g D3.F.kp D3.b .nil pass0 (pa_cons (pv 2) (pa_cons pe_int pa_nil)))))
      (pss_cons (ps_if (pt_cmpR op_ne (pe_call (ok_is_core T D1) hr5 (by rfl) D1.g D1.F.kp D1.b .nil pass0 (pa_cons (pv 10) (pa_cons (pv 5) pa_nil))) (pe_cmpR (show OpR _ (compareOp .NotIn) (rIn K true) from op_notIn_seq) (pv 10) (pv 8) (by rfl)) (nomark _)) (pss_one (ps_ret pe_bl)) pss_nil)
      (pss_cut (ps_set (i := 11) scLaw.nd rfl (.inl rfl) (pe_lst (pa_cons pe_non (pa_cons pe_int (pa_cons (pe_callTy call_list_of (by rfl) T.z_list (by decide +kernel) (pa_cons (pv 5) pa_nil)) (pa_cons (pe_op op_catE (pv 5) (pe_tup (pa_cons pe_int pa_nil))) (pa_cons (pe_op op_catE (pv 5) (pe_tup (pa_cons (pe_ifExp (pt_cmpR (op_neD hr.units) (pv 5) (pe_tup pa_nil) (nomark _)) (pe_op op_add (pe_ix ix_tup (pv 5) (pe_un un_neg pe_int) (fun _ _ => rfl)) pe_int) (pe_un un_neg pe_int)) pa_nil))) (pa_cons (pe_tup (pa_cons pe_bl pa_nil)) (pa_cons (pe_tup (pa_cons pe_str pa_nil)) (pa_cons pe_dnewK pa_nil))))))))))
      (pss_one (ps_if (pt_val (pe_call (ok_is_core T D1) hr5 (by rfl) D1.g D1.F.kp D1.b .nil pass0 (pa_cons (pv 4) (pa_cons (pe_call (ok_one_of T D2) hr2 (by rfl) D2.g D2.F.kp D2.b .nil pass0 (pa_cons (pv 2) (pa_cons (pv 11) pa_nil))) pa_nil)))) (pss_one (ps_ret pe_bl)) pss_nil))))))))))))))))))
      (pss_one (ps_ret (pe_and (pe_call (ok_is_core T D1) hr5 (by rfl) D1.g D1.F.kp D1.b .nil pass0 (pa_cons pe_int (pa_cons (pe_tup pa_nil) pa_nil))) (pe_one (pe_call (ok_is_core T D1) hr5 (by rfl) D1.g D1.F.kp D1.b .nil pass0 (pa_cons pe_int (pa_cons (pe_tup pa_nil) pa_nil))))))), ?_⟩
    refine ⟨_, rfl, a, _, rfl, .inl hS, 4, _, rfl, 1, _, rfl, _, rfl, ?_, ?_, for_range (lo := 0) (n := Int.toNat _) (fun i σ' H' => ∃ y1 y2 y3 y4 y5 y6 y7 y8 y9 y10 y11, σ' = [some (.ref a), y1, y2, y3, y4, y5, y6, y7, y8, y9, y10, y11, none, none, none] ∧ SqL K H' a (ns.map V.int)) ⟨none, none, none, none, none, none, none, none, none, none, none, rfl, hS⟩ (fun i σ' H' _ hp => ?_) (fun σ' H' hp => ?_)⟩
    · first | omega | (split <;> omega) | (split <;> split <;> omega)
    · rw [List.length_map]
      first | omega | (split <;> omega) | (split <;> split <;> omega)
    · obtain ⟨y1, y2, y3, y4, y5, y6, y7, y8, y9, y10, y11, rfl, hS'⟩ := hp
      refine ⟨_, rfl, _, rfl, a, ns, i, ?_, hS', fun d H1 hp0 e1 hd1 => ?_⟩
      · rw [Int.zero_add]
        rfl
      have fin : ∀ H2, Keep d H1 H2 → SqL K H2 a (ns.map V.int) := fun H2 k2 => sql_keep hp0 e1 k2 hS'
      refine ⟨_, rfl, by decide, by decide, for_range (lo := 0) (n := 4) (fun j σ2 H2 => ∃ z1 z3 z4 z5 z6 z7 z8 z9 z10 z11, σ2 = [some (.ref a), z1, some (.ref d), z3, z4, z5, z6, z7, z8, z9, z10, z11, none, none, none] ∧ Dice H2 d ∧ Keep d H1 H2) ⟨_, y3, y4, y5, y6, y7, y8, y9, y10, y11, rfl, hd1, Keep.refl _ _⟩ (fun j σ2 H2 _ hp => ?_) (fun σ2 H2 hp => ?_)⟩
      · obtain ⟨z1, z3, z4, z5, z6, z7, z8, z9, z10, z11, rfl, hd2, kp2⟩ := hp
        refine ⟨_, rfl, d, _, rfl, hd2, by decide, by decide, fun r0 H3 r1 r2 hd3 k3 => ⟨_, _, rfl, rfl, ?_⟩⟩
        obtain ⟨k, hk⟩ : ∃ k : Int, k = 2 + r0 := ⟨_, rfl⟩
        show gName 4 (V.int (2 + r0)) _ _ _
        rw [← hk]
        have k1 : 2 ≤ k := by omega
        have k2 : k ≤ 60 := by omega
        refine ⟨_, rfl, _, rfl, d, k, rfl, hd3, k1, k2, fun b h H4 hb IH l8 t8 hd4 k4 => ?_⟩
        have G : Good h := ⟨IH, by omega, by omega⟩
        have kp4 := (kp2.trans k3).trans k4
        refine ⟨by show 0 ≤ sizeLine; decide, fun ev hev => ?_⟩
        have x4 := Ex.new (o := .lst []) hev
        have gb5 := x4 _ _ hb
        have ge5 : (upd H4 ev (.lst [])) ev = some (.lst []) := upd_same
        have hd5 := hd4.ex x4
        have kp5 := kp4.trans (Keep.ex x4)
        have nev : ev ≠ d := (hd4.ne_new hev).symm
        have nb : ∀ H', Ex H4 H' → HeapAt H' b h := fun H' e => e _ _ hb
        have hl8 : ∀ c, hAt h c ≤ 8 := fun c => Nat.le_trans (IH.le (Nat.zero_le c)) t8
        have sl : ∀ n, n ≤ 8 → (sqr h n 0).length ≤ 64 := fun n hn => by
          have := sq_len hl8 n
          omega
        refine ⟨_, rfl, b, _, rfl, .inr (SqT.of gb5), _, rfl, by rw [hv_len]; omega, by rw [hv_len]; omega, ?_⟩
        refine for_range (lo := 0) (n := ((hv h).length : Int).toNat) (fun c σ3 H' => ∃ (ys : List V) (w7 : Option V), σ3 = [some (.ref a), z1, some (.ref d), some (.int (0 + (j : Int))), some (.int k), some (.ref b), some (.ref ev), w7, z8, z9, z10, z11, none, none, none] ∧ H' ev = some (.lst ys) ∧ Pls H' ys (sqr h c 0) ∧ Ex H4 H') ⟨[], z7, rfl, ge5, .nil, x4⟩ (fun c σ3 H' hc hp => ?_) (fun σ3 H' hp => ?_)
        · obtain ⟨ys, w7, rfl, v1, v2, v3⟩ := hp
          rw [hv_len] at hc
          have hc' : c < h.length := by omega
          have e0 : (0 : Int) + (c : Int) = (c : Int) := by omega
          rw [e0]
          refine ⟨_, rfl, .inl ⟨rfl, _, SqL.of v1⟩, _, rfl, _, rfl, b, _, (c : Int), .int (hAt h c : Int), rfl, rfl, SqT.of (nb _ v3), atI_nat (hv_get hc'), _, rfl, by have := hl8 c; omega, by have := hl8 c; omega, fun Dl hD => ?_⟩
          refine lc_range (lo := 0) (n := ((hAt h c : Int)).toNat) (fun r H7 => ∃ zs, H7 Dl = some (.lst zs) ∧ Pls H7 zs ((List.range r).map fun (r : Nat) => ((c : Int), (r : Int))) ∧ Ex H' H7) ⟨[], upd_same, .nil, Ex.new hD⟩ (fun r H7 hr7 hp7 => ?_) (fun H7 hp7 => ?_)
          · obtain ⟨zs, u1, u2, u3⟩ := hp7
            have el : zs.length = r := by rw [paired_len1 u2, List.length_map, List.length_range]
            have := hl8 c
            refine ⟨rfl, ?_⟩
            dsimp only [tYes]
            rw [if_pos rfl, show (0 : Int) + (r : Int) = (r : Int) by omega]
            refine ⟨_, rfl, _, rfl, by show 2 ≤ sizeLine; decide, fun t ht => ?_⟩
            have et := Ex.new (o := .tup [V.int (c : Int), V.int (r : Int)]) ht
            have u1' := et _ _ u1
            refine ⟨zs, u1', small1000 (by omega), zs ++ [.ref t], upd_same, ?_, Ex.mut (u3.trans et) hD⟩
            rw [List.range_succ, List.map_append]
            refine paired_snoc2 (PlAt.keep u1' ⟨t, rfl, upd_same⟩) (paired_imp2 (fun _ _ z => (z.ex et).keep u1') u2)
          · obtain ⟨zs, u1, u2, u3⟩ := hp7
            have v1' := u3 _ _ v1
            have l1 := paired_len1 v2
            have l2 := paired_len1 u2
            rw [List.length_map, List.length_range] at l2
            have := hl8 c
            have := sl c (by omega)
            refine ⟨ev, Dl, ys, zs, rfl, rfl, v1', u1, sz_of (by omega), _, _, rfl, upd_same, ?_, Ex.mut (v3.trans u3) hev⟩
            rw [← sqr_next, sqr_split]
            exact paired_app1 (paired_imp2 (fun _ _ z => z.keep v1') u2) (paired_imp2 (fun _ _ z => (z.ex u3).keep v1') v2)
        · obtain ⟨ys, w7, rfl, v1, v2, v3⟩ := hp
          have ea : sqr h (((hv h).length : Int)).toNat 0 = sqAll h := by
            rw [hv_len, Int.toNat_natCast]
            rfl
          rw [ea] at v2
          have al : (sqAll h).length ≤ 64 := sl h.length l8
          have yl : ys.length = (sqAll h).length := paired_len1 v2
          have hkl : (hkL h).length = (sqAll h).length := by unfold hkL; rw [List.length_map]
          have gb6 := nb _ v3
          have kp6 := kp4.trans (Keep.ex v3)
          have hd6 := hd4.ex v3
          refine ⟨_, rfl, ev, rfl, ⟨_, SqL.of v1⟩, fun Lh hLh => ?_⟩
          refine lc_listM (K := K) (fun i => V.int ((hkL h).getD i 0)) hLh v1 (by omega) (fun i x Hq Qk hx e' qk => ?_) (fun H7 e7 h7 => ?_)
          · obtain ⟨p, hp, t, rfl, ht⟩ := paired_nth1 v2 hx
            obtain ⟨c, r, rfl, hc, hr'⟩ := mem_sqr (List.mem_of_getElem? hp)
            refine ⟨rfl, _, rfl, _, rfl, b, t, h, c, r, rfl, e' _ _ gb6, IH, by omega, e' _ _ ht, hr', fun H8 e8 => ?_⟩
            rw [← hkL_get hp]
            exact qk _ e8
          rw [range_ints _ (by omega)] at h7
          have v7 := e7 _ _ v1
          refine ⟨_, rfl, b, h, rfl, e7 _ _ gb6, G, by omega, fun rt zs H8 e8 hrt hz => ?_⟩
          refine ⟨_, rfl, ev, _, rfl, .inl ⟨SqL.of (e8 _ _ v7), fun u hu => ?_⟩⟩
          have x9 := Ex.new (o := .tup ys) hu
          refine ne_pls (x9 _ _ hrt) upd_same (paired_imp2 (fun _ _ z => z.ex x9) hz) (paired_imp2 (fun _ _ z => z.ex ((e7.trans e8).trans x9)) v2) ?_
          refine ⟨_, rfl, iteF' rfl ?_⟩
          have e79 := (e7.trans e8).trans x9
          have h9 := (e8.trans x9) _ _ h7
          generalize upd H8 u (.tup ys) = H9 at *
          have v9 := e79 _ _ v1
          have gb9 := e79 _ _ gb6
          refine ⟨_, rfl, ev, rfl, ⟨_, SqL.of v9⟩, fun Lr hLr => ?_⟩
          refine lc_listM (K := K) (fun i => V.int ((hkL h).getD i 0)) hLr v9 (by omega) (fun i x Hq Qk hx e' qk => ?_) (fun H10 e10 h10 => ?_)
          · obtain ⟨p, hp, t, rfl, ht⟩ := paired_nth1 v2 hx
            obtain ⟨c, r, rfl, hc, hr'⟩ := mem_sqr (List.mem_of_getElem? hp)
            refine ⟨rfl, _, rfl, _, rfl, b, t, h, c, r, rfl, e' _ _ gb9, G, (e79.trans e') _ _ ht, hr', fun H11 e11 => ?_⟩
            rw [← hkL_get hp]
            exact qk _ e11
          rw [range_ints _ (by omega)] at h10
          have h9' := e10 _ _ h9
          refine ⟨_, rfl, ne_ints_refl h10 h9' ⟨_, rfl, iteF' rfl ?_⟩⟩
          refine ⟨_, rfl, _, rfl, Lh, _, rfl, .inl (SqL.of h9'), rfl, flat_ints _, ?_⟩
          rw [inV_ints]
          have gb10 := e10 _ _ gb9
          have kp10 := (kp6.trans (Keep.ex e79)).trans (Keep.ex e10)
          have hd10 := (hd6.ex e79).ex e10
          refine ⟨_, rfl, _, rfl, k, .ref b, rfl, k1, k2, .inr ⟨b, h, rfl, gb10, G, fun bb H11 hbb e11 => ?_⟩⟩
          obtain rfl := due_iff IH (by omega) hbb
          refine ⟨_, rfl, rfl, _, rfl, iteF' (by simp) ?_⟩
          refine ⟨_, rfl, _, rfl, k, b, h, rfl, e11 _ _ gb10, by omega, fun bb H12 hbb2 e12 => ?_⟩
          obtain rfl := due_iff IH (by omega) hbb2
          refine ⟨_, rfl, rfl, _, rfl, iteF' (by simp) ?_⟩
          have e1012 := e11.trans e12
          have h12 := e1012 _ _ h9'
          have gb12 := e1012 _ _ gb10
          have kp12 := kp10.trans (Keep.ex e1012)
          have hd12 := hd10.ex e1012
          refine ⟨fun σ4 H13 => σ4 = [some (.ref a), z1, some (.ref d), some (.int (0 + (j : Int))), some (.int k), some (.ref b), some (.ref ev), w7, some (.ref Lh), some (.bl (!decide (k ∈ hkL h))), z10, z11, none, none, none] ∧ Ex H12 H13, ?_, fun σ4 H13 hM => ?_⟩
          · refine ⟨_, rfl, _, rfl, ite2 (fun c => ?_) (fun c => iteF' rfl ⟨rfl, Ex.refl _⟩)⟩
            have nz : ¬ k ∈ hkL h := fun z => by
              rw [decide_eq_true z] at c
              cases c
            refine ⟨_, rfl, Lh, rfl, ⟨_, SqL.of h12⟩, fun Lo hLo => ?_⟩
            refine lc_list (K := K) (a := Lh) (xs := (hkL h).map V.int) (fun i H4 => H4 Lo = some (.lst ((((hkL h).take i).filter (fun n => decide (n % k = 0))).map V.int)) ∧ Ex H12 H4) ⟨upd_same, Ex.new hLo⟩ (fun i H4 _ hp4 => SqL.of (hp4.2 _ _ h12)) (fun i x H4 hx hp4 => ?_) (fun H4 hp4 => ?_)
            · obtain ⟨u1, u2⟩ := hp4
              obtain ⟨hi, n, hn, rfl⟩ := int_inv hx
              have fz := filt_snoc (fun n => decide (n % k = 0)) hn
              refine ⟨rfl, _, rfl, _, rfl, n, k, rfl, rfl, by omega, rfl, _, rfl, ite2 (fun cc => ?_) (fun cc => ?_)⟩
              · have c0 : decide (n % k = 0) = true := decide_eq_true (V.int.inj (of_decide_eq_true cc))
                rw [if_pos c0] at fz
                refine ⟨_, rfl, _, u1, ?_, ?_, Ex.mut u2 hLo⟩
                · rw [List.length_map]
                  have := List.length_filter_le (fun n => decide (n % k = 0)) ((hkL h).take i)
                  rw [List.length_take] at this
                  exact small1000 (by omega)
                · rw [upd_same, fz, List.map_append]
                  rfl
              · have c0 : ¬ decide (n % k = 0) = true := fun z => cc (decide_eq_true (congrArg V.int (of_decide_eq_true z)))
                rw [if_neg c0, List.append_nil] at fz
                exact ⟨by rw [fz]; exact u1, u2⟩
            · obtain ⟨u1, u2⟩ := hp4
              rw [List.length_map, List.take_length, due_mult IH (by omega) nz] at u1
              refine ⟨by show 0 ≤ sizeLine; decide, fun e he => ?_⟩
              have x5 := Ex.new (o := .lst []) he
              exact ne_empty (l := []) (x5 _ _ u1) upd_same ⟨_, rfl, iteF' rfl ⟨rfl, u2.trans x5⟩⟩
          · obtain ⟨rfl, e13⟩ := hM
            have hd13 := hd12.ex e13
            have kp13 := kp12.trans (Keep.ex e13)
            have h13 := e13 _ _ h12
            have gb13 := e13 _ _ gb12
            have nlh : Lh ≠ d := (hd6.ne_new hLh).symm
            refine ⟨_, rfl, d, _, rfl, hd13, by decide, by decide, fun r3 H14 r30 r31 hd14 kd14 => ⟨_, _, rfl, rfl, ?_⟩⟩
            have h14 := kd14 _ _ nlh h13
            have gb14 := kd14.tup hd13 gb13
            have kp14 := kp13.trans kd14
            refine ⟨_, rfl, _, rfl, 2 + r3, .ref b, rfl, by omega, by omega, .inr ⟨b, h, rfl, gb14, G, fun bb H15 hbb e15 => ?_⟩⟩
            obtain rfl := due_iff IH (by omega) hbb
            refine ⟨_, rfl, _, rfl, Lh, _, rfl, .inl (SqL.of (e15 _ _ h14)), rfl, flat_ints _, ?_⟩
            rw [inV_ints]
            refine ⟨rfl, _, rfl, iteF' (by simp) ?_⟩
            have gb15 := e15 _ _ gb14
            have hd15 := hd14.ex e15
            have kp15 := kp14.trans (Keep.ex e15)
            refine ⟨fun σ5 H16 => ∃ L os z10, σ5 = [some (.ref a), z1, some (.ref d), some (.int (0 + (j : Int))), some (.int k), some (.ref b), some (.ref ev), w7, some (.ref Lh), some (.bl (!decide (k ∈ hkL h))), z10, some (.ref L), none, none, none] ∧ H16 L = some (.lst os) ∧ os.length = 8 ∧ L ≠ d ∧ (∀ x ∈ os, ∀ H17, Keep d H16 H17 → HeapB K H17 x false) ∧ Ex H15 H16, ?_, fun σ5 H16 hM => ?_⟩
            · refine ⟨_, rfl, b, _, rfl, .inr (SqT.of gb15), fun l1 hl1 => ?_⟩
              have x1 := Ex.new (o := .lst (hv h)) hl1
              have g1 : (upd H15 l1 (.lst (hv h))) l1 = some (.lst (hv h)) := upd_same
              generalize upd H15 l1 (.lst (hv h)) = J1 at *
              refine ⟨_, rfl, by show 1 ≤ sizeLine; decide, fun t1 ht1 => ?_⟩
              have x2 := Ex.new (o := .tup [V.int 0]) ht1
              have gb2 := (x1.trans x2) _ _ gb15
              refine ⟨b, t1, _, _, rfl, rfl, gb2, upd_same, sz_of (by rw [hv_len]; show h.length + 1 ≤ _; omega), fun p2 J2 x3 g2 => ?_⟩
              have x13 := x1.trans (x2.trans x3)
              have gb3 := x3 _ _ gb2
              have g13 := (x2.trans x3) _ _ g1
              refine ⟨_, rfl, _, rfl, by show 0 ≤ sizeLine; decide, fun t0 ht0 => ?_⟩
              have x4' := Ex.new (o := .tup []) ht0
              refine neT_empty (x4' _ _ gb3) upd_same ⟨_, rfl, ite2 (fun c => ?_) (fun c => ?_)⟩
              · have ne : h ≠ [] := fun z => by
                  rw [decide_eq_true z] at c
                  cases c
                have hl1' : 1 ≤ h.length := List.length_pos_iff.mpr ne
                refine ⟨_, rfl, 1, rfl, b, _, (-1), .int (hAt h (h.length - 1) : Int), rfl, rfl, SqT.of (x4' _ _ gb3), hv_neg1 hl1', _, _, rfl, rfl, ?_⟩
                refine ⟨by show 1 ≤ sizeLine; decide, fun t2 ht2 => ?_⟩
                have x5 := Ex.new (o := .tup [V.int ((hAt h (h.length - 1) : Int) + 1)]) ht2
                have gb5' := (x4'.trans x5) _ _ gb3
                refine ⟨b, t2, _, _, rfl, rfl, gb5', upd_same, sz_of (by rw [hv_len]; show h.length + 1 ≤ _; omega), fun p3 J4 x6 g6 => ?_⟩
                have x46 := (x4'.trans x5).trans x6
                have g14 := x46 _ _ g13
                have g24 := x46 _ _ g2
                have x16 := x13.trans x46
                refine ⟨by show 1 ≤ sizeLine; decide, fun t3 ht3 => ?_⟩
                have x7 := Ex.new (o := .tup [V.bl true]) ht3
                refine ⟨by show 1 ≤ sizeLine; decide, fun t4 ht4 => ?_⟩
                have x8 := Ex.new (o := .tup [V.str (Str.ofString "a")]) ht4
                refine fun p5 hp5 => ?_
                have x9' := Ex.new (o := .dK []) hp5
                refine ⟨by show 8 ≤ sizeLine; decide, fun L hL => ?_⟩
                have x10 := Ex.new (o := .lst [V.non, .int 5, .ref l1, .ref p2, .ref p3, .ref t3, .ref t4, .ref p5]) hL
                have hdL := (((hd15.ex x16).ex x7).ex x8).ex x9'
                have nl1 : l1 ≠ d := (hd15.ne_new hl1).symm
                have np5 : p5 ≠ d := ((((hd15.ex x16).ex x7).ex x8).ne_new hp5).symm
                have xZ := ((x7.trans x8).trans x9').trans x10
                have f1 := xZ _ _ g14
                have f2 := xZ _ _ g24
                have f3 := xZ _ _ g6
                have f4 := ((x8.trans x9').trans x10) _ _ (upd_same (H := J4) (a := t3) (o := .tup [V.bl true]))
                have f5 := (x9'.trans x10) _ _ (upd_same (a := t4) (o := .tup [V.str (Str.ofString "a")]))
                have f6 := x10 _ _ (upd_same (a := p5) (o := .dK []))
                have hdZ := hdL.ex x10
                refine ⟨L, _, _, rfl, upd_same, rfl, (hdL.ne_new hL).symm, fun x hx H17 kd => ?_, x16.trans xZ⟩
                simp only [List.mem_cons, List.not_mem_nil, or_false] at hx
                rcases hx with rfl | rfl | rfl | rfl | rfl | rfl | rfl | rfl
                · exact .no .non
                · exact .no (.int 5)
                · exact .no (.lst (kd _ _ nl1 f1))
                · exact .bad (kd.tup hdZ f2) G (by omega) (BtwB.out (by omega))
                · exact .bad (kd.tup hdZ f3) G (by omega) (BtwB.out (by rw [if_neg (by omega)]; omega))
                · exact .bad (h := []) (kd.tup hdZ f4) good_nil (by decide) (.no (.bl true))
                · exact .bad (h := []) (kd.tup hdZ f5) good_nil (by decide) (.no (.str _))
                · exact .no (.dK (kd _ _ np5 f6))
              · have e0 : h = [] := by
                  by_cases z : h = []
                  · exact z
                  · rw [decide_eq_false z] at c
                    exact absurd rfl c
                refine ⟨1, rfl, ?_⟩
                refine ⟨by show 1 ≤ sizeLine; decide, fun t2 ht2 => ?_⟩
                have x5 := Ex.new (o := .tup [V.int (-1)]) ht2
                have gb5' := (x4'.trans x5) _ _ gb3
                refine ⟨b, t2, _, _, rfl, rfl, gb5', upd_same, sz_of (by rw [hv_len]; show h.length + 1 ≤ _; omega), fun p3 J4 x6 g6 => ?_⟩
                have x46 := (x4'.trans x5).trans x6
                have g14 := x46 _ _ g13
                have g24 := x46 _ _ g2
                have x16 := x13.trans x46
                refine ⟨by show 1 ≤ sizeLine; decide, fun t3 ht3 => ?_⟩
                have x7 := Ex.new (o := .tup [V.bl true]) ht3
                refine ⟨by show 1 ≤ sizeLine; decide, fun t4 ht4 => ?_⟩
                have x8 := Ex.new (o := .tup [V.str (Str.ofString "a")]) ht4
                refine fun p5 hp5 => ?_
                have x9' := Ex.new (o := .dK []) hp5
                refine ⟨by show 8 ≤ sizeLine; decide, fun L hL => ?_⟩
                have x10 := Ex.new (o := .lst [V.non, .int 5, .ref l1, .ref p2, .ref p3, .ref t3, .ref t4, .ref p5]) hL
                have hdL := (((hd15.ex x16).ex x7).ex x8).ex x9'
                have nl1 : l1 ≠ d := (hd15.ne_new hl1).symm
                have np5 : p5 ≠ d := ((((hd15.ex x16).ex x7).ex x8).ne_new hp5).symm
                have xZ := ((x7.trans x8).trans x9').trans x10
                have f1 := xZ _ _ g14
                have f2 := xZ _ _ g24
                have f3 := xZ _ _ g6
                have f4 := ((x8.trans x9').trans x10) _ _ (upd_same (H := J4) (a := t3) (o := .tup [V.bl true]))
                have f5 := (x9'.trans x10) _ _ (upd_same (a := t4) (o := .tup [V.str (Str.ofString "a")]))
                have f6 := x10 _ _ (upd_same (a := p5) (o := .dK []))
                have hdZ := hdL.ex x10
                refine ⟨L, _, _, rfl, upd_same, rfl, (hdL.ne_new hL).symm, fun x hx H17 kd => ?_, x16.trans xZ⟩
                simp only [List.mem_cons, List.not_mem_nil, or_false] at hx
                rcases hx with rfl | rfl | rfl | rfl | rfl | rfl | rfl | rfl
                · exact .no .non
                · exact .no (.int 5)
                · exact .no (.lst (kd _ _ nl1 f1))
                · exact .bad (kd.tup hdZ f2) G (by omega) (BtwB.out (by omega))
                · exact .bad (kd.tup hdZ f3) G (by omega) (BtwB.out (by omega))
                · exact .bad (h := []) (kd.tup hdZ f4) good_nil (by decide) (.no (.bl true))
                · exact .bad (h := []) (kd.tup hdZ f5) good_nil (by decide) (.no (.str _))
                · exact .no (.dK (kd _ _ np5 f6))
            · obtain ⟨L, os, z10', rfl, o1, o2, nL, o3, e16⟩ := hM
              have hd16 := hd15.ex e16
              have kp16 := kp15.trans (Keep.ex e16)
              refine ⟨_, rfl, _, rfl, _, rfl, d, L, os, rfl, hd16, o1, nL, by omega, by omega, fun x H17 hx hd17 kd17 => ?_⟩
              refine ⟨k, x, rfl, k1, k2, .inl ⟨o3 x hx _ kd17, fun H18 e18 => ⟨_, rfl, iteF' rfl ?_⟩⟩⟩
              exact ⟨_, _, _, _, _, _, _, _, _, _, rfl, hd17.ex e18, (kp16.trans kd17).trans (Keep.ex e18)⟩
      · obtain ⟨z1, z3, z4, z5, z6, z7, z8, z9, z10, z11, rfl, hd2, kp2⟩ := hp
        exact ⟨_, _, _, _, _, _, _, _, _, _, _, rfl, fin _ kp2⟩
    · obtain ⟨y1, y2, y3, y4, y5, y6, y7, y8, y9, y10, y11, rfl, hS'⟩ := hp
      refine ⟨by show 0 ≤ sizeLine; decide, fun u1 hu1 => ?_⟩
      refine ⟨2, .ref u1, rfl, by decide, by decide, .inr ⟨u1, [], rfl, upd_same, good_nil, fun bb H2 hbb e2 => ?_⟩⟩
      obtain rfl : bb = true := hbb.mpr (core_nil 2)
      refine ⟨true, rfl, iteT' rfl ?_⟩
      refine ⟨by show 0 ≤ sizeLine; decide, fun u2 hu2 => ?_⟩
      refine ⟨60, .ref u2, rfl, by decide, by decide, .inr ⟨u2, [], rfl, upd_same, good_nil, fun bb H3 hbb e3 => ?_⟩⟩
      obtain rfl : bb = true := hbb.mpr (core_nil 60)
      exact q _
end
end K1

namespace K1
open PySem PySem.Spec PyProof.Rows L2
/-- what a def of the text leaves -/
theorem mk_def {K : PySem.W.Frag} {h : Heap} {mg : Str → Option Value} {x : Str} {st : Stmt} {ps : List Str} {f : Addr} {oc : Value} {od an : Option Addr} {osl : Array (Option Value)} {kV doc pm cdv ct : Value} (X : K.In h) (G : h.Ns mainGlobals mg)
    (a : PySem.W.nsIn K mainGlobals x = some (some (.ref f))) (l : K.lookup f = some ⟨oc, od, .func (PySem.W.fnOf x x (defArgs st) (defBody st) (defScope st) .none kV doc pm an cdv ct), osl⟩) (c : PySem.W.codeIn K cdv x = true) (k : PySem.W.keepIn K (.ref f) = true)
    (b : ∀ (kV doc pm : Value) (an : Option Addr) (cdv ct : Value) (us : List Value), us.length = ps.length → bindArgs (PySem.W.fnOf x x (defArgs st) (defBody st) (defScope st) .none kV doc pm an cdv ct) ⟨us, []⟩ = pure (ps.zip us)) :
    ∃ f fd, DefAt K mg x st ps f fd := ⟨f, _, ⟨fun_mk (st := st) l c k, PySem.W.mg_of X G a, (fun_mk (st := st) l c k).binds b⟩⟩
theorem all_mk {P : Program} {w : World} {K : PySem.W.Frag} {h : Heap} {mg : Str → Option Value} {fa : Addr} (X : K.In h) (G : h.Ns mainGlobals mg) (hfa : mg "law" = some (.ref fa)) (vBOUND : ∃ t, mg "BOUND" = some (.int (10 ^ 60) t))
    {tSIDE tMAX_ORDER : Tok} (gSIDE : PySem.W.nsIn K mainGlobals "MOST_SIDE" = some (some (.int 60 tSIDE))) (gMAX_ORDER : PySem.W.nsIn K mainGlobals "MAX_ORDER" = some (some (.int 60 tMAX_ORDER)))
    (z_abs : PySem.W.nsIn K mainGlobals "abs" = some none) (z_all : PySem.W.nsIn K mainGlobals "all" = some none) (z_bool : PySem.W.nsIn K mainGlobals "bool" = some none) (z_enumerate : PySem.W.nsIn K mainGlobals "enumerate" = some none) (z_int : PySem.W.nsIn K mainGlobals "int" = some none) (z_isinstance : PySem.W.nsIn K mainGlobals "isinstance" = some none) (z_len : PySem.W.nsIn K mainGlobals "len" = some none) (z_list : PySem.W.nsIn K mainGlobals "list" = some none) (z_max : PySem.W.nsIn K mainGlobals "max" = some none) (z_min : PySem.W.nsIn K mainGlobals "min" = some none) (z_range : PySem.W.nsIn K mainGlobals "range" = some none) (z_sorted : PySem.W.nsIn K mainGlobals "sorted" = some none) (z_tuple : PySem.W.nsIn K mainGlobals "tuple" = some none)
    {f0 : Addr} {oc0 : Value} {od0 an0 : Option Addr} {sl0 : Array (Option Value)} {kV0 dc0 pm0 cd0 ct0 : Value}
    (a0 : PySem.W.nsIn K mainGlobals "is_integer" = some (some (.ref f0))) (l0 : K.lookup f0 = some ⟨oc0, od0, .func (PySem.W.fnOf "is_integer" "is_integer" (defArgs sIsInteger) (defBody sIsInteger) (defScope sIsInteger) .none kV0 dc0 pm0 an0 cd0 ct0), sl0⟩) (c0 : PySem.W.codeIn K cd0 "is_integer" = true) (k0 : PySem.W.keepIn K (.ref f0) = true)
    {f1 : Addr} {oc1 : Value} {od1 an1 : Option Addr} {sl1 : Array (Option Value)} {kV1 dc1 pm1 cd1 ct1 : Value}
    (a1 : PySem.W.nsIn K mainGlobals "is_between" = some (some (.ref f1))) (l1 : K.lookup f1 = some ⟨oc1, od1, .func (PySem.W.fnOf "is_between" "is_between" (defArgs sIsBetween) (defBody sIsBetween) (defScope sIsBetween) .none kV1 dc1 pm1 an1 cd1 ct1), sl1⟩) (c1 : PySem.W.codeIn K cd1 "is_between" = true) (k1 : PySem.W.keepIn K (.ref f1) = true)
    {f2 : Addr} {oc2 : Value} {od2 an2 : Option Addr} {sl2 : Array (Option Value)} {kV2 dc2 pm2 cd2 ct2 : Value}
    (a2 : PySem.W.nsIn K mainGlobals "is_pair" = some (some (.ref f2))) (l2 : K.lookup f2 = some ⟨oc2, od2, .func (PySem.W.fnOf "is_pair" "is_pair" (defArgs sIsPair) (defBody sIsPair) (defScope sIsPair) .none kV2 dc2 pm2 an2 cd2 ct2), sl2⟩) (c2 : PySem.W.codeIn K cd2 "is_pair" = true) (k2 : PySem.W.keepIn K (.ref f2) = true)
    {f3 : Addr} {oc3 : Value} {od3 an3 : Option Addr} {sl3 : Array (Option Value)} {kV3 dc3 pm3 cd3 ct3 : Value}
    (a3 : PySem.W.nsIn K mainGlobals "check_between" = some (some (.ref f3))) (l3 : K.lookup f3 = some ⟨oc3, od3, .func (PySem.W.fnOf "check_between" "check_between" (defArgs sCheckBetween) (defBody sCheckBetween) (defScope sCheckBetween) .none kV3 dc3 pm3 an3 cd3 ct3), sl3⟩) (c3 : PySem.W.codeIn K cd3 "check_between" = true) (k3 : PySem.W.keepIn K (.ref f3) = true)
    {f4 : Addr} {oc4 : Value} {od4 an4 : Option Addr} {sl4 : Array (Option Value)} {kV4 dc4 pm4 cd4 ct4 : Value}
    (a4 : PySem.W.nsIn K mainGlobals "is_heap" = some (some (.ref f4))) (l4 : K.lookup f4 = some ⟨oc4, od4, .func (PySem.W.fnOf "is_heap" "is_heap" (defArgs sIsHeap) (defBody sIsHeap) (defScope sIsHeap) .none kV4 dc4 pm4 an4 cd4 ct4), sl4⟩) (c4 : PySem.W.codeIn K cd4 "is_heap" = true) (k4 : PySem.W.keepIn K (.ref f4) = true)
    {f5 : Addr} {oc5 : Value} {od5 an5 : Option Addr} {sl5 : Array (Option Value)} {kV5 dc5 pm5 cd5 ct5 : Value}
    (a5 : PySem.W.nsIn K mainGlobals "check_heap" = some (some (.ref f5))) (l5 : K.lookup f5 = some ⟨oc5, od5, .func (PySem.W.fnOf "check_heap" "check_heap" (defArgs sCheckHeap) (defBody sCheckHeap) (defScope sCheckHeap) .none kV5 dc5 pm5 an5 cd5 ct5), sl5⟩) (c5 : PySem.W.codeIn K cd5 "check_heap" = true) (k5 : PySem.W.keepIn K (.ref f5) = true)
    {f6 : Addr} {oc6 : Value} {od6 an6 : Option Addr} {sl6 : Array (Option Value)} {kV6 dc6 pm6 cd6 ct6 : Value}
    (a6 : PySem.W.nsIn K mainGlobals "height_at" = some (some (.ref f6))) (l6 : K.lookup f6 = some ⟨oc6, od6, .func (PySem.W.fnOf "height_at" "height_at" (defArgs sHeightAt) (defBody sHeightAt) (defScope sHeightAt) .none kV6 dc6 pm6 an6 cd6 ct6), sl6⟩) (c6 : PySem.W.codeIn K cd6 "height_at" = true) (k6 : PySem.W.keepIn K (.ref f6) = true)
    {f7 : Addr} {oc7 : Value} {od7 an7 : Option Addr} {sl7 : Array (Option Value)} {kV7 dc7 pm7 cd7 ct7 : Value}
    (a7 : PySem.W.nsIn K mainGlobals "squares" = some (some (.ref f7))) (l7 : K.lookup f7 = some ⟨oc7, od7, .func (PySem.W.fnOf "squares" "squares" (defArgs sSquares) (defBody sSquares) (defScope sSquares) .none kV7 dc7 pm7 an7 cd7 ct7), sl7⟩) (c7 : PySem.W.codeIn K cd7 "squares" = true) (k7 : PySem.W.keepIn K (.ref f7) = true)
    {f8 : Addr} {oc8 : Value} {od8 an8 : Option Addr} {sl8 : Array (Option Value)} {kV8 dc8 pm8 cd8 ct8 : Value}
    (a8 : PySem.W.nsIn K mainGlobals "lengths_of" = some (some (.ref f8))) (l8 : K.lookup f8 = some ⟨oc8, od8, .func (PySem.W.fnOf "lengths_of" "lengths_of" (defArgs sLengthsOf) (defBody sLengthsOf) (defScope sLengthsOf) .none kV8 dc8 pm8 an8 cd8 ct8), sl8⟩) (c8 : PySem.W.codeIn K cd8 "lengths_of" = true) (k8 : PySem.W.keepIn K (.ref f8) = true)
    {f9 : Addr} {oc9 : Value} {od9 an9 : Option Addr} {sl9 : Array (Option Value)} {kV9 dc9 pm9 cd9 ct9 : Value}
    (a9 : PySem.W.nsIn K mainGlobals "hook_at" = some (some (.ref f9))) (l9 : K.lookup f9 = some ⟨oc9, od9, .func (PySem.W.fnOf "hook_at" "hook_at" (defArgs sHookAt) (defBody sHookAt) (defScope sHookAt) .none kV9 dc9 pm9 an9 cd9 ct9), sl9⟩) (c9 : PySem.W.codeIn K cd9 "hook_at" = true) (k9 : PySem.W.keepIn K (.ref f9) = true)
    {f10 : Addr} {oc10 : Value} {od10 an10 : Option Addr} {sl10 : Array (Option Value)} {kV10 dc10 pm10 cd10 ct10 : Value}
    (a10 : PySem.W.nsIn K mainGlobals "check_order" = some (some (.ref f10))) (l10 : K.lookup f10 = some ⟨oc10, od10, .func (PySem.W.fnOf "check_order" "check_order" (defArgs sCheckOrder) (defBody sCheckOrder) (defScope sCheckOrder) .none kV10 dc10 pm10 an10 cd10 ct10), sl10⟩) (c10 : PySem.W.codeIn K cd10 "check_order" = true) (k10 : PySem.W.keepIn K (.ref f10) = true)
    {f11 : Addr} {oc11 : Value} {od11 an11 : Option Addr} {sl11 : Array (Option Value)} {kV11 dc11 pm11 cd11 ct11 : Value}
    (a11 : PySem.W.nsIn K mainGlobals "beads_of" = some (some (.ref f11))) (l11 : K.lookup f11 = some ⟨oc11, od11, .func (PySem.W.fnOf "beads_of" "beads_of" (defArgs sBeadsOf) (defBody sBeadsOf) (defScope sBeadsOf) .none kV11 dc11 pm11 an11 cd11 ct11), sl11⟩) (c11 : PySem.W.codeIn K cd11 "beads_of" = true) (k11 : PySem.W.keepIn K (.ref f11) = true)
    {f12 : Addr} {oc12 : Value} {od12 an12 : Option Addr} {sl12 : Array (Option Value)} {kV12 dc12 pm12 cd12 ct12 : Value}
    (a12 : PySem.W.nsIn K mainGlobals "stays_core" = some (some (.ref f12))) (l12 : K.lookup f12 = some ⟨oc12, od12, .func (PySem.W.fnOf "stays_core" "stays_core" (defArgs sStaysCore) (defBody sStaysCore) (defScope sStaysCore) .none kV12 dc12 pm12 an12 cd12 ct12), sl12⟩) (c12 : PySem.W.codeIn K cd12 "stays_core" = true) (k12 : PySem.W.keepIn K (.ref f12) = true)
    {f13 : Addr} {oc13 : Value} {od13 an13 : Option Addr} {sl13 : Array (Option Value)} {kV13 dc13 pm13 cd13 ct13 : Value}
    (a13 : PySem.W.nsIn K mainGlobals "is_core" = some (some (.ref f13))) (l13 : K.lookup f13 = some ⟨oc13, od13, .func (PySem.W.fnOf "is_core" "is_core" (defArgs sIsCore) (defBody sIsCore) (defScope sIsCore) .none kV13 dc13 pm13 an13 cd13 ct13), sl13⟩) (c13 : PySem.W.codeIn K cd13 "is_core" = true) (k13 : PySem.W.keepIn K (.ref f13) = true)
    {f14 : Addr} {oc14 : Value} {od14 an14 : Option Addr} {sl14 : Array (Option Value)} {kV14 dc14 pm14 cd14 ct14 : Value}
    (a14 : PySem.W.nsIn K mainGlobals "hook" = some (some (.ref f14))) (l14 : K.lookup f14 = some ⟨oc14, od14, .func (PySem.W.fnOf "hook" "hook" (defArgs sHook) (defBody sHook) (defScope sHook) .none kV14 dc14 pm14 an14 cd14 ct14), sl14⟩) (c14 : PySem.W.codeIn K cd14 "hook" = true) (k14 : PySem.W.keepIn K (.ref f14) = true)
    {f15 : Addr} {oc15 : Value} {od15 an15 : Option Addr} {sl15 : Array (Option Value)} {kV15 dc15 pm15 cd15 ct15 : Value}
    (a15 : PySem.W.nsIn K mainGlobals "_law_dice" = some (some (.ref f15))) (l15 : K.lookup f15 = some ⟨oc15, od15, .func (PySem.W.fnOf "_law_dice" "_law_dice" (defArgs sLDice) (defBody sLDice) (defScope sLDice) .none kV15 dc15 pm15 an15 cd15 ct15), sl15⟩) (c15 : PySem.W.codeIn K cd15 "_law_dice" = true) (k15 : PySem.W.keepIn K (.ref f15) = true)
    {f16 : Addr} {oc16 : Value} {od16 an16 : Option Addr} {sl16 : Array (Option Value)} {kV16 dc16 pm16 cd16 ct16 : Value}
    (a16 : PySem.W.nsIn K mainGlobals "_law_roll" = some (some (.ref f16))) (l16 : K.lookup f16 = some ⟨oc16, od16, .func (PySem.W.fnOf "_law_roll" "_law_roll" (defArgs sLRoll) (defBody sLRoll) (defScope sLRoll) .none kV16 dc16 pm16 an16 cd16 ct16), sl16⟩) (c16 : PySem.W.codeIn K cd16 "_law_roll" = true) (k16 : PySem.W.keepIn K (.ref f16) = true)
    {f17 : Addr} {oc17 : Value} {od17 an17 : Option Addr} {sl17 : Array (Option Value)} {kV17 dc17 pm17 cd17 ct17 : Value}
    (a17 : PySem.W.nsIn K mainGlobals "_law_one_of" = some (some (.ref f17))) (l17 : K.lookup f17 = some ⟨oc17, od17, .func (PySem.W.fnOf "_law_one_of" "_law_one_of" (defArgs sLOneOf) (defBody sLOneOf) (defScope sLOneOf) .none kV17 dc17 pm17 an17 cd17 ct17), sl17⟩) (c17 : PySem.W.codeIn K cd17 "_law_one_of" = true) (k17 : PySem.W.keepIn K (.ref f17) = true)
    {f18 : Addr} {oc18 : Value} {od18 an18 : Option Addr} {sl18 : Array (Option Value)} {kV18 dc18 pm18 cd18 ct18 : Value}
    (a18 : PySem.W.nsIn K mainGlobals "_law_grown" = some (some (.ref f18))) (l18 : K.lookup f18 = some ⟨oc18, od18, .func (PySem.W.fnOf "_law_grown" "_law_grown" (defArgs sLGrown) (defBody sLGrown) (defScope sLGrown) .none kV18 dc18 pm18 an18 cd18 ct18), sl18⟩) (c18 : PySem.W.codeIn K cd18 "_law_grown" = true) (k18 : PySem.W.keepIn K (.ref f18) = true)
    {f19 : Addr} {oc19 : Value} {od19 an19 : Option Addr} {sl19 : Array (Option Value)} {kV19 dc19 pm19 cd19 ct19 : Value}
    (a19 : PySem.W.nsIn K mainGlobals "_law_beads" = some (some (.ref f19))) (l19 : K.lookup f19 = some ⟨oc19, od19, .func (PySem.W.fnOf "_law_beads" "_law_beads" (defArgs sLBeads) (defBody sLBeads) (defScope sLBeads) .none kV19 dc19 pm19 an19 cd19 ct19), sl19⟩) (c19 : PySem.W.codeIn K cd19 "_law_beads" = true) (k19 : PySem.W.keepIn K (.ref f19) = true)
    {f20 : Addr} {oc20 : Value} {od20 an20 : Option Addr} {sl20 : Array (Option Value)} {kV20 dc20 pm20 cd20 ct20 : Value}
    (a20 : PySem.W.nsIn K mainGlobals "_law_is_core" = some (some (.ref f20))) (l20 : K.lookup f20 = some ⟨oc20, od20, .func (PySem.W.fnOf "_law_is_core" "_law_is_core" (defArgs sLIsCore) (defBody sLIsCore) (defScope sLIsCore) .none kV20 dc20 pm20 an20 cd20 ct20), sl20⟩) (c20 : PySem.W.codeIn K cd20 "_law_is_core" = true) (k20 : PySem.W.keepIn K (.ref f20) = true)
    {f21 : Addr} {oc21 : Value} {od21 an21 : Option Addr} {sl21 : Array (Option Value)} {kV21 dc21 pm21 cd21 ct21 : Value}
    (a21 : PySem.W.nsIn K mainGlobals "_law_hook" = some (some (.ref f21))) (l21 : K.lookup f21 = some ⟨oc21, od21, .func (PySem.W.fnOf "_law_hook" "_law_hook" (defArgs sLHook) (defBody sLHook) (defScope sLHook) .none kV21 dc21 pm21 an21 cd21 ct21), sl21⟩) (c21 : PySem.W.codeIn K cd21 "_law_hook" = true) (k21 : PySem.W.keepIn K (.ref f21) = true)
    {f22 : Addr} {oc22 : Value} {od22 an22 : Option Addr} {sl22 : Array (Option Value)} {kV22 dc22 pm22 cd22 ct22 : Value}
    (a22 : PySem.W.nsIn K mainGlobals "_law_some_core" = some (some (.ref f22))) (l22 : K.lookup f22 = some ⟨oc22, od22, .func (PySem.W.fnOf "_law_some_core" "_law_some_core" (defArgs sLSomeCore) (defBody sLSomeCore) (defScope sLSomeCore) .none kV22 dc22 pm22 an22 cd22 ct22), sl22⟩) (c22 : PySem.W.codeIn K cd22 "_law_some_core" = true) (k22 : PySem.W.keepIn K (.ref f22) = true)
    {f23 : Addr} {oc23 : Value} {od23 an23 : Option Addr} {sl23 : Array (Option Value)} {kV23 dc23 pm23 cd23 ct23 : Value}
    (a23 : PySem.W.nsIn K mainGlobals "_law_some_heap" = some (some (.ref f23))) (l23 : K.lookup f23 = some ⟨oc23, od23, .func (PySem.W.fnOf "_law_some_heap" "_law_some_heap" (defArgs sLSomeHeap) (defBody sLSomeHeap) (defScope sLSomeHeap) .none kV23 dc23 pm23 an23 cd23 ct23), sl23⟩) (c23 : PySem.W.codeIn K cd23 "_law_some_heap" = true) (k23 : PySem.W.keepIn K (.ref f23) = true)
    {f24 : Addr} {oc24 : Value} {od24 an24 : Option Addr} {sl24 : Array (Option Value)} {kV24 dc24 pm24 cd24 ct24 : Value}
    (a24 : PySem.W.nsIn K mainGlobals "law" = some (some (.ref f24))) (l24 : K.lookup f24 = some ⟨oc24, od24, .func (PySem.W.fnOf "law" "law" (defArgs sLaw) (defBody sLaw) (defScope sLaw) .none kV24 dc24 pm24 an24 cd24 ct24), sl24⟩) (c24 : PySem.W.codeIn K cd24 "law" = true) (k24 : PySem.W.keepIn K (.ref f24) = true) :
    ∃ fd : FuncData, (∀ (s : Shared) (v : Value), BindsTo s fd ⟨[v], []⟩ [("_law_script", v)]) ∧ ∀ base : Heap, K.In base → base.Ns mainGlobals mg → FnOk P w K mg base CX0 6 fa fd ["_law_script"] (spLaw K) := by
  have e := hfa.symm.trans (PySem.W.mg_of X G a24)
  cases e
  have T : Txt K mg :=
    { z_abs := PySem.W.mg_none_of X G z_abs, z_all := PySem.W.mg_none_of X G z_all, z_bool := PySem.W.mg_none_of X G z_bool, z_enumerate := PySem.W.mg_none_of X G z_enumerate, z_int := PySem.W.mg_none_of X G z_int, z_isinstance := PySem.W.mg_none_of X G z_isinstance, z_len := PySem.W.mg_none_of X G z_len, z_list := PySem.W.mg_none_of X G z_list, z_max := PySem.W.mg_none_of X G z_max, z_min := PySem.W.mg_none_of X G z_min, z_range := PySem.W.mg_none_of X G z_range, z_sorted := PySem.W.mg_none_of X G z_sorted, z_tuple := PySem.W.mg_none_of X G z_tuple, v_BOUND := vBOUND, v_SIDE := ⟨tSIDE, PySem.W.mg_of X G gSIDE⟩, v_MAX_ORDER := ⟨tMAX_ORDER, PySem.W.mg_of X G gMAX_ORDER⟩,
      d_is_integer := mk_def (ps := ["value"]) X G a0 l0 c0 k0 fun _ _ _ _ _ _ us hl => match us, hl with | [_], _ => rfl,
      d_is_between := mk_def (ps := ["value", "low", "high"]) X G a1 l1 c1 k1 fun _ _ _ _ _ _ us hl => match us, hl with | [_, _, _], _ => rfl,
      d_is_pair := mk_def (ps := ["value"]) X G a2 l2 c2 k2 fun _ _ _ _ _ _ us hl => match us, hl with | [_], _ => rfl,
      d_check_between := mk_def (ps := ["value", "low", "high"]) X G a3 l3 c3 k3 fun _ _ _ _ _ _ us hl => match us, hl with | [_, _, _], _ => rfl,
      d_is_heap := mk_def (ps := ["value"]) X G a4 l4 c4 k4 fun _ _ _ _ _ _ us hl => match us, hl with | [_], _ => rfl,
      d_check_heap := mk_def (ps := ["heap"]) X G a5 l5 c5 k5 fun _ _ _ _ _ _ us hl => match us, hl with | [_], _ => rfl,
      d_height_at := mk_def (ps := ["heap", "column"]) X G a6 l6 c6 k6 fun _ _ _ _ _ _ us hl => match us, hl with | [_, _], _ => rfl,
      d_squares := mk_def (ps := ["heap"]) X G a7 l7 c7 k7 fun _ _ _ _ _ _ us hl => match us, hl with | [_], _ => rfl,
      d_lengths_of := mk_def (ps := ["heap"]) X G a8 l8 c8 k8 fun _ _ _ _ _ _ us hl => match us, hl with | [_], _ => rfl,
      d_hook_at := mk_def (ps := ["heap", "lengths", "column", "row"]) X G a9 l9 c9 k9 fun _ _ _ _ _ _ us hl => match us, hl with | [_, _, _, _], _ => rfl,
      d_check_order := mk_def (ps := ["k"]) X G a10 l10 c10 k10 fun _ _ _ _ _ _ us hl => match us, hl with | [_], _ => rfl,
      d_beads_of := mk_def (ps := ["heap"]) X G a11 l11 c11 k11 fun _ _ _ _ _ _ us hl => match us, hl with | [_], _ => rfl,
      d_stays_core := mk_def (ps := ["k", "heap"]) X G a12 l12 c12 k12 fun _ _ _ _ _ _ us hl => match us, hl with | [_, _], _ => rfl,
      d_is_core := mk_def (ps := ["k", "value"]) X G a13 l13 c13 k13 fun _ _ _ _ _ _ us hl => match us, hl with | [_, _], _ => rfl,
      d_hook := mk_def (ps := ["heap", "square"]) X G a14 l14 c14 k14 fun _ _ _ _ _ _ us hl => match us, hl with | [_, _], _ => rfl,
      d_l_dice := mk_def (ps := ["_law_script", "_law_at"]) X G a15 l15 c15 k15 fun _ _ _ _ _ _ us hl => match us, hl with | [_, _], _ => rfl,
      d_l_roll := mk_def (ps := ["_law_dice_here", "_law_total"]) X G a16 l16 c16 k16 fun _ _ _ _ _ _ us hl => match us, hl with | [_, _], _ => rfl,
      d_l_one_of := mk_def (ps := ["_law_dice_here", "_law_items"]) X G a17 l17 c17 k17 fun _ _ _ _ _ _ us hl => match us, hl with | [_, _], _ => rfl,
      d_l_grown := mk_def (ps := ["_law_heap", "_law_ring", "_law_x"]) X G a18 l18 c18 k18 fun _ _ _ _ _ _ us hl => match us, hl with | [_, _, _], _ => rfl,
      d_l_beads := mk_def (ps := ["_law_heap"]) X G a19 l19 c19 k19 fun _ _ _ _ _ _ us hl => match us, hl with | [_], _ => rfl,
      d_l_is_core := mk_def (ps := ["_law_k", "_law_heap"]) X G a20 l20 c20 k20 fun _ _ _ _ _ _ us hl => match us, hl with | [_, _], _ => rfl,
      d_l_hook := mk_def (ps := ["_law_heap", "_law_square"]) X G a21 l21 c21 k21 fun _ _ _ _ _ _ us hl => match us, hl with | [_, _], _ => rfl,
      d_l_some_core := mk_def (ps := ["_law_dice_here", "_law_k", "_law_most"]) X G a22 l22 c22 k22 fun _ _ _ _ _ _ us hl => match us, hl with | [_, _, _], _ => rfl,
      d_l_some_heap := mk_def (ps := ["_law_dice_here", "_law_k"]) X G a23 l23 c23 k23 fun _ _ _ _ _ _ us hl => match us, hl with | [_, _], _ => rfl }
  have F := fun_mk (st := sLaw) l24 c24 k24
  exact ⟨PySem.W.fnOf "law" "law" (defArgs sLaw) (defBody sLaw) (defScope sLaw) .none kV24 dc24 pm24 an24 cd24 ct24, fun s v => .of_eq rfl, fun base _ _ => ok_law T F⟩
/-- the end of the law's row, what the loose names hold told -/
theorem walk_x {l : PySem.W.OpenLaw} {k : Nat} {q : Program} {loose : List Str} {lv : List (Str × PySem.W.WData)} {YP : World → Heap → Prop} {d : DefRec} {K : Params → PySem.W.Frag}
    (hn : l.most = some 63) (hdf : d.params.defaults = []) (hr : Room k callerA) (hY : ∀ (w : World) (h : Heap), YP w h → (K w.params).In h)
    (F : ∀ (w : World) (mg : Str → Option Value) (fa : Addr) (h : Heap), (K w.params).In h → h.Ns mainGlobals mg → PySem.W.XL q lv mg h → mg d.name = some (.ref fa) →
      ∃ fd : FuncData, (∀ (s : Shared) (u : Value), BindsTo s fd ⟨[u], []⟩ [("_law_script", u)]) ∧
        ∀ base : Heap, (K w.params).In base → base.Ns mainGlobals mg → FnOk l.prog w (K w.params) mg base CX0 k fa fd ["_law_script"] (spLaw (K w.params))) :
    PySem.W.WalkO q loose (PySem.W.XL q lv) YP l.row.toRowW d [] (fun f vs => PySem.call f vs) := by
  refine Att.attach_call hn hdf fun w s₀ s₁ mg mb fa o pm cd doc a vs ns G Y ho hd hcd hmg hobj hints hlen hg => ?_
  obtain ⟨fd, hb, hF⟩ := F w mg fa _ (hY w _ Y) G.T.g G.X hmg
  exact law_call (hY w _ Y) G.T.g G.T.b G.T.builtins G.T.nolimit hg hobj hints (Nat.le_trans hlen (by decide)) hr hF hb (fun H _ hS => ⟨a, ns, rfl, hS, hlen, fun _ => rfl⟩) fun H e s' z => z
end K1

open PySem PySem.W PyProof.Rows
set_option maxHeartbeats 0 in
theorem PySem.Challenge.cw_ringstairs_k59_whole_cores_by_hooks_and_holds : PySem.Challenge.rw_ringstairs_k59_whole_cores_by_hooks_and.Holds := by
  w_on; o_law; k_head; (case hw => w_witness2)
  k_fill
  refine K1.walk_x (k := 6) rfl rfl ⟨rfl, by decide, by decide⟩ (fun w h Y => PySem.W.kIn_of Y) ?F
  case F =>
    intro w mg fa h KX G XF hmg
    have vBOUND : ∃ t, mg "BOUND" = some (.int (10 ^ 60) t) := by
      obtain ⟨v, e1, e2⟩ := XF.2.val _ (List.mem_cons_self ..)
      cases e2
      exact ⟨_, e1⟩
    refine' K1.all_mk KX G hmg vBOUND ?gSIDE ?gMAX_ORDER ?z_abs ?z_all ?z_bool ?z_enumerate ?z_int ?z_isinstance ?z_len ?z_list ?z_max ?z_min ?z_range ?z_sorted ?z_tuple ?a0 ?l0 ?c0 ?k0 ?a1 ?l1 ?c1 ?k1 ?a2 ?l2 ?c2 ?k2 ?a3 ?l3 ?c3 ?k3 ?a4 ?l4 ?c4 ?k4 ?a5 ?l5 ?c5 ?k5 ?a6 ?l6 ?c6 ?k6 ?a7 ?l7 ?c7 ?k7 ?a8 ?l8 ?c8 ?k8 ?a9 ?l9 ?c9 ?k9 ?a10 ?l10 ?c10 ?k10 ?a11 ?l11 ?c11 ?k11 ?a12 ?l12 ?c12 ?k12 ?a13 ?l13 ?c13 ?k13 ?a14 ?l14 ?c14 ?k14 ?a15 ?l15 ?c15 ?k15 ?a16 ?l16 ?c16 ?k16 ?a17 ?l17 ?c17 ?k17 ?a18 ?l18 ?c18 ?k18 ?a19 ?l19 ?c19 ?k19 ?a20 ?l20 ?c20 ?k20 ?a21 ?l21 ?c21 ?k21 ?a22 ?l22 ?c22 ?k22 ?a23 ?l23 ?c23 ?k23 ?a24 ?l24 ?c24 ?k24
    (case gSIDE => k_is); (case gMAX_ORDER => k_is); (case z_abs => k_is); (case z_all => k_is); (case z_bool => k_is); (case z_enumerate => k_is); (case z_int => k_is); (case z_isinstance => k_is)
    (case z_len => k_is); (case z_list => k_is); (case z_max => k_is); (case z_min => k_is); (case z_range => k_is); (case z_sorted => k_is); (case z_tuple => k_is); (case a0 => k_is)
    (case l0 => k_is); (case c0 => k_is); (case k0 => k_is); (case a1 => k_is); (case l1 => k_is); (case c1 => k_is); (case k1 => k_is); (case a2 => k_is)
    (case l2 => k_is); (case c2 => k_is); (case k2 => k_is); (case a3 => k_is); (case l3 => k_is); (case c3 => k_is); (case k3 => k_is); (case a4 => k_is)
    (case l4 => k_is); (case c4 => k_is); (case k4 => k_is); (case a5 => k_is); (case l5 => k_is); (case c5 => k_is); (case k5 => k_is); (case a6 => k_is)
    (case l6 => k_is); (case c6 => k_is); (case k6 => k_is); (case a7 => k_is); (case l7 => k_is); (case c7 => k_is); (case k7 => k_is); (case a8 => k_is)
    (case l8 => k_is); (case c8 => k_is); (case k8 => k_is); (case a9 => k_is); (case l9 => k_is); (case c9 => k_is); (case k9 => k_is); (case a10 => k_is)
    (case l10 => k_is); (case c10 => k_is); (case k10 => k_is); (case a11 => k_is); (case l11 => k_is); (case c11 => k_is); (case k11 => k_is); (case a12 => k_is)
    (case l12 => k_is); (case c12 => k_is); (case k12 => k_is); (case a13 => k_is); (case l13 => k_is); (case c13 => k_is); (case k13 => k_is); (case a14 => k_is)
    (case l14 => k_is); (case c14 => k_is); (case k14 => k_is); (case a15 => k_is); (case l15 => k_is); (case c15 => k_is); (case k15 => k_is); (case a16 => k_is)
    (case l16 => k_is); (case c16 => k_is); (case k16 => k_is); (case a17 => k_is); (case l17 => k_is); (case c17 => k_is); (case k17 => k_is); (case a18 => k_is)
    (case l18 => k_is); (case c18 => k_is); (case k18 => k_is); (case a19 => k_is); (case l19 => k_is); (case c19 => k_is); (case k19 => k_is); (case a20 => k_is)
    (case l20 => k_is); (case c20 => k_is); (case k20 => k_is); (case a21 => k_is); (case l21 => k_is); (case c21 => k_is); (case k21 => k_is); (case a22 => k_is)
    (case l22 => k_is); (case c22 => k_is); (case k22 => k_is); (case a23 => k_is); (case l23 => k_is); (case c23 => k_is); (case k23 => k_is); (case a24 => k_is)
    (case l24 => k_is); (case c24 => k_is); (case k24 => k_is)

