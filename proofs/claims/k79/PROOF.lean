import PyProof.Rows.All
import Wide.All
import OpenK.AllK
import Wide.FinOn
import HandS.Iter
import PyProof.LongRange
import HandS.ForMost
import KE.GoesEnum
import PySem.Challenge.RW_ringstairs_k79_whole_chains_backward_and
import HandS.ForExc
import HandS.Wide
import HandS.SortInts
import HandS.Zip
import HandS.Style
import HandS.Rev
import HandS.TupMul
import HandS.IsInst
import HandS.Evl
import HandS.Gcd
import HandS.RevRange
import HandS.Small
import HandS.Conv
import HandS.Walk
import HandS.DictComp
import KE.KDictSum
import KE.KDictCopyH
import KE.KDictDisplayH
import KE.KDictPairs
import KE.KDictOf
import KE.KEqDict
import HandS.TupAny
import HandS.List
import HandS.DictTup
import HandS.ListItems
import KE.KDictItemsList
import KE.KRevSl
set_option Elab.async false
set_option linter.all false
set_option maxRecDepth 100000
set_option maxHeartbeats 4000000
/-! own rule: range(i, j) with ends of any size, walked -/
namespace LR
open PySem PySem.Spec PyProof.Rows L2
theorem turn_long {P : Program} {w : World} {K : PySem.W.Frag} {tg : Expr} (it : Addr) (lo : Int) (n : Nat) : Turn P w K tg (Itr lo n) [it] it (fun i h => IsLongIter h it (lo + (i : Nat) * 1) ((n : Int) - (i : Nat)) 1) where
  mem := by simp
  obj := fun i h st b hb => by
    have e : b = it := by simpa using hb
    subst e
    exact ⟨_, st, fun v z => nomatch z⟩
  keep := fun i h h' st k => k it (by simp) _ st
  item := by
    intro X hP hw hK hc i pins s σ H E I hf st hg
    subst hP hw hK
    obtain ⟨f0, f1, f2, f3, f4, f5⟩ := hf it (by simp)
    have W := Walks.longrange (prog := X.prog) (w := X.w) (I.ok.hd hc) it lo 1 n
    refine W.item i s _ _ hg st fun v h' tk hv st' kk => ?_
    obtain ⟨t, rfl⟩ := hv
    have I1 : Inv X pins σ H { s with heap := h', toks := tk } := I.turned (fun b o hb e => kk b o (by simpa using hb) e) f0 f1 f3 f4 f5
    exact ⟨_, rfl, go_of (s := { s with heap := h', toks := tk }) (n := "longrange_iterator") st' rfl rfl (by decide) ⟨.int (lo + (i : Nat) * 1), H, I1, ⟨t, rfl⟩, ⟨rfl, by simp⟩, st', fun b hb => (hf b hb).1⟩⟩
  done := by
    intro X hP hw hK hc i pins s σ H E I hf st hg
    subst hP hw hK
    obtain ⟨f0, f1, f2, f3, f4, f5⟩ := hf it (by simp)
    exact wpAny_pyNext_long_end (I.ok.hd hc) st (by have : n ≤ i := hg; omega) fun h' eb => ⟨rfl, I.turned (t' := s.toks) (fun b o hb e => eb b o hb e) f0 f1 f3 f4 f5⟩
  self := fun A i s Q E st h => wpAny_pyIter_longiter st h
theorem range_itL {X : Cx} {tg : Expr} {pins : List (Addr × Obj)} {σ : L2.St} {H : Hp} {s : Shared} {R : It → Hp → Prop} {E : Value → Shared → Prop} {lo hi : Int} {t u v : Tok} {tk : Nat} (I : Inv X pins σ H s) (hb : Builtin.Range.small lo hi 1 = false)
    (q : R (Itr lo (hi - lo).toNat) H) : wpAny (model X.prog X.w) X.A (pyIter (.ref s.heap.objs.size)) (PIE X pins σ tg R) E { s with heap := s.heap.push { cls := .type "range", data := .fields #[.int lo t, .int hi u, .int 1 v] }, toks := tk } := by
  refine wpAny_pyIter_longrange (IsRange.new ..) hb ?_
  have I1 : Inv X pins σ H { s with heap := s.heap.push { cls := .type "range", data := .fields #[.int lo t, .int hi u, .int 1 v] }, toks := tk } := I.kept fun b o e => Heap.get?_push_of_some _ e
  refine ⟨(s.heap.push { cls := .type "range", data := .fields #[.int lo t, .int hi u, .int 1 v] }).objs.size, [(s.heap.push { cls := .type "range", data := .fields #[.int lo t, .int hi u, .int 1 v] }).objs.size], _, _, H, rfl,
    I1.kept (t' := tk) fun b o e => Heap.get?_push_of_some _ e, turn_long _ lo (hi - lo).toNat, ?_, fun b hb => ?_, q⟩
  · have e1 : lo + ((0 : Nat) : Int) * 1 = lo := by simp
    have e2 : (((hi - lo).toNat : Nat) : Int) - ((0 : Nat) : Int) = Builtin.Range.rangeSize lo hi 1 := by rw [rangeSize_one]; split <;> omega
    show IsLongIter _ _ (lo + ((0 : Nat) : Int) * 1) ((((hi - lo).toNat : Nat) : Int) - ((0 : Nat) : Int)) 1
    rw [e1, e2]
    exact Heap.get?_push_size _ rfl
  · have e : b = (s.heap.push { cls := .type "range", data := .fields #[.int lo t, .int hi u, .int 1 v] }).objs.size := by simpa using hb
    subst e
    exact I1.fpOk (Nat.le_refl _) (I1.hok.fresh (Nat.le_refl _))
/-- small or not -/
theorem range_itS {X : Cx} {tg : Expr} {pins : List (Addr × Obj)} {σ : L2.St} {H : Hp} {s : Shared} {R : It → Hp → Prop} {E : Value → Shared → Prop} {lo hi : Int} {t u v : Tok} {tk : Nat} (I : Inv X pins σ H s) (hb : Builtin.Range.small lo hi 1 = true)
    (q : R (Itr lo (hi - lo).toNat) H) : wpAny (model X.prog X.w) X.A (pyIter (.ref s.heap.objs.size)) (PIE X pins σ tg R) E { s with heap := s.heap.push { cls := .type "range", data := .fields #[.int lo t, .int hi u, .int 1 v] }, toks := tk } := by
  refine wpAny_pyIter_range (IsRange.new ..) hb ?_
  have I1 : Inv X pins σ H { s with heap := s.heap.push { cls := .type "range", data := .fields #[.int lo t, .int hi u, .int 1 v] }, toks := tk } := I.kept fun b o e => Heap.get?_push_of_some _ e
  refine ⟨(s.heap.push { cls := .type "range", data := .fields #[.int lo t, .int hi u, .int 1 v] }).objs.size, [(s.heap.push { cls := .type "range", data := .fields #[.int lo t, .int hi u, .int 1 v] }).objs.size], _, _, H, rfl,
    I1.kept (t' := tk) fun b o e => Heap.get?_push_of_some _ e, turn_range _ lo (hi - lo).toNat, ?_, fun b hb => ?_, q⟩
  · have e1 : lo + ((0 : Nat) : Int) * 1 = lo := by simp
    have e2 : (((hi - lo).toNat : Nat) : Int) - ((0 : Nat) : Int) = Builtin.Range.rangeSize lo hi 1 := by rw [rangeSize_one]; split <;> omega
    show IsRangeIter _ _ (lo + ((0 : Nat) : Int) * 1) ((((hi - lo).toNat : Nat) : Int) - ((0 : Nat) : Int)) 1
    rw [e1, e2]
    exact Heap.get?_push_size _ rfl
  · have e : b = (s.heap.push { cls := .type "range", data := .fields #[.int lo t, .int hi u, .int 1 v] }).objs.size := by simpa using hb
    subst e
    exact I1.fpOk (Nat.le_refl _) (I1.hok.fresh (Nat.le_refl _))
def iRng2L (ta : TA) : TI := fun σ H R => ta σ H fun vs H1 => ∃ i j : Int, vs = [.int i, .int j] ∧ R (Itr i (j - i).toNat) H1
theorem pi_range2L {X : Cx} {tg : Expr} {a b : Expr} {ta : TA} {p pos : Pos} (hg : Gl X "range") (hm : X.mg "range" = none) (ha : PA X [a, b] ta) (hs : starEach [a, b] X.env = [(false, eval a X.env), (false, eval b X.env)] := by rfl) (hs2 : starEach [b] X.env = [(false, eval b X.env)] := by rfl) :
    PI X tg (.Call (.Name "range" p) [a, b] [] pos) (iRng2L ta) := by
  refine ⟨fun pins s σ H R I h => ?_⟩
  refine Call_ (ld_blt I hg hm boot_range (PyProof.Rows.callWith_type1 (thn (ha.run pos pins s σ H _ I h) fun us s1 ⟨vs, H1, I1, r1, q1⟩ => ?_) (by rw [hs, hs2]) (by rw [hs2]; rfl)))
  obtain ⟨i, j, e, q⟩ := q1
  subst e
  cases r1 with
  | cons r rr =>
    cases rr with
    | cons r' rr =>
      cases rr
      obtain ⟨t, rfl⟩ := r
      obtain ⟨t', rfl⟩ := r'
      cases hb : Builtin.Range.small i j 1 with
      | true => exact call_range_2 (range_itS I1 hb q)
      | false => exact call_range_2 (range_itL I1 hb q)
end LR

/-! plain mathematics for the orders and the diagonals -/
namespace K1M
/-- the step: the i-th place on the way from the right door by the left door -/
theorem dvd_iff {n s i : Nat} (hn : 0 < n) : (i * s) % n = 0 ↔ (n / Nat.gcd n s) ∣ i := by
  have hg : 0 < Nat.gcd n s := Nat.gcd_pos_of_pos_left _ hn
  have hc : Nat.Coprime (n / Nat.gcd n s) (s / Nat.gcd n s) := Nat.coprime_div_gcd_div_gcd hg
  have hn' : n = Nat.gcd n s * (n / Nat.gcd n s) := (Nat.mul_div_cancel' (Nat.gcd_dvd_left n s)).symm
  have hs' : s = Nat.gcd n s * (s / Nat.gcd n s) := (Nat.mul_div_cancel' (Nat.gcd_dvd_right n s)).symm
  constructor
  · intro h
    have d : n ∣ i * s := Nat.dvd_of_mod_eq_zero h
    have d2 : Nat.gcd n s * (n / Nat.gcd n s) ∣ Nat.gcd n s * (i * (s / Nat.gcd n s)) := by
      rw [← hn']
      have e : Nat.gcd n s * (i * (s / Nat.gcd n s)) = i * s := by
        rw [Nat.mul_left_comm, ← hs']
      rw [e]
      exact d
    have d3 := Nat.dvd_of_mul_dvd_mul_left hg d2
    exact hc.dvd_of_dvd_mul_right d3
  · rintro ⟨c, rfl⟩
    apply Nat.mod_eq_zero_of_dvd
    refine ⟨c * (s / Nat.gcd n s), ?_⟩
    have e : n / Nat.gcd n s * c * s = n / Nat.gcd n s * c * (Nat.gcd n s * (s / Nat.gcd n s)) := by rw [← hs']
    rw [e]
    have e2 : n * (c * (s / Nat.gcd n s)) = Nat.gcd n s * (n / Nat.gcd n s) * (c * (s / Nat.gcd n s)) := by rw [← hn']
    rw [e2]
    simp only [Nat.mul_assoc, Nat.mul_left_comm, Nat.mul_comm]
def ord (n s : Nat) : Nat := n / Nat.gcd n s
theorem ord_pos {n s : Nat} (hn : 0 < n) : 0 < ord n s := Nat.div_pos (Nat.gcd_le_left s hn) (Nat.gcd_pos_of_pos_left _ hn)
theorem ord_le {n s : Nat} : ord n s ≤ n := Nat.div_le_self _ _
theorem ord_ge2 {n s : Nat} (h1 : 1 ≤ s) (h2 : s < n) : 2 ≤ ord n s := by
  have hn : 0 < n := by omega
  have hg : 0 < Nat.gcd n s := Nat.gcd_pos_of_pos_left _ hn
  have hle : Nat.gcd n s ≤ s := Nat.le_of_dvd h1 (Nat.gcd_dvd_right n s)
  have hn' : n = Nat.gcd n s * ord n s := (Nat.mul_div_cancel' (Nat.gcd_dvd_left n s)).symm
  rcases Nat.lt_or_ge (ord n s) 2 with h | h
  · exfalso
    have hp := ord_pos (s := s) hn
    have e1 : ord n s = 1 := by omega
    rw [e1, Nat.mul_one] at hn'
    omega
  · exact h
/-- the way: while the next is not 0 and there are fewer than n -/
def stp (n s i : Nat) : Nat := (i * s) % n
theorem stp_zero_iff {n s i : Nat} (hn : 0 < n) : stp n s i = 0 ↔ ord n s ∣ i := dvd_iff hn
theorem stp_mod {n s i : Nat} (hn : 0 < n) : stp n s (i % ord n s) = stp n s i := by
  have h0 : (ord n s * s) % n = 0 := (stp_zero_iff (i := ord n s) hn).mpr (Nat.dvd_refl _)
  have e : i = ord n s * (i / ord n s) + i % ord n s := (Nat.div_add_mod i (ord n s)).symm
  have e2 : i * s = (i / ord n s) * (ord n s * s) + (i % ord n s) * s := by
    have : (ord n s * (i / ord n s) + i % ord n s) * s = (i / ord n s) * (ord n s * s) + (i % ord n s) * s := by
      rw [Nat.add_mul]
      congr 1
      simp only [Nat.mul_assoc, Nat.mul_left_comm, Nat.mul_comm]
    rw [← this, ← e]
  obtain ⟨q, hq⟩ := Nat.dvd_of_mod_eq_zero h0
  unfold stp
  rw [e2, hq, Nat.mul_left_comm, Nat.add_comm, Nat.add_mul_mod_self_left]
/-- the same for integers: the diagonal's place -/
theorem istp {n s : Nat} (hn : 0 < n) (c : Int) : (c * (s : Int)) % (n : Int) = ((stp n s (c % (ord n s : Int)).toNat : Nat) : Int) := by
  have hm : 0 < ord n s := ord_pos hn
  have hm' : (0 : Int) < (ord n s : Int) := by exact_mod_cast hm
  have hr0 : 0 ≤ c % (ord n s : Int) := Int.emod_nonneg _ (by omega)
  have h0 : ((ord n s : Int) * (s : Int)) % (n : Int) = 0 := by
    have h0 : (ord n s * s) % n = 0 := (stp_zero_iff (i := ord n s) hn).mpr (Nat.dvd_refl _)
    have := congrArg (fun x : Nat => (x : Int)) h0
    simpa using this
  have e : c = (ord n s : Int) * (c / (ord n s : Int)) + c % (ord n s : Int) := (Int.mul_ediv_add_emod c (ord n s : Int)).symm
  have e2 : c * (s : Int) = (c / (ord n s : Int)) * ((ord n s : Int) * (s : Int)) + (c % (ord n s : Int)) * (s : Int) := by
    have : ((ord n s : Int) * (c / (ord n s : Int)) + c % (ord n s : Int)) * (s : Int) = (c / (ord n s : Int)) * ((ord n s : Int) * (s : Int)) + (c % (ord n s : Int)) * (s : Int) := by
      rw [Int.add_mul]
      congr 1
      rw [Int.mul_assoc, Int.mul_left_comm]
    rw [← this, ← e]
  rw [e2, Int.add_emod, Int.mul_emod, h0, Int.mul_zero, Int.zero_emod, Int.zero_add, Int.emod_emod]
  unfold stp
  have e3 : c % (ord n s : Int) = (((c % (ord n s : Int)).toNat : Nat) : Int) := (Int.toNat_of_nonneg hr0).symm
  conv => lhs; rw [e3]
  simp
/-- does_let tells just the place -/
theorem lets_iff {n : Nat} {x p : Int} (hn : 0 < n) (h0 : 0 ≤ p) (h1 : p < n) : (x - p) % (n : Int) = 0 ↔ x % (n : Int) = p := by
  have hn' : (0 : Int) < n := by exact_mod_cast hn
  constructor
  · intro h
    have e := Int.emod_emod_of_dvd x (Int.dvd_refl (n : Int))
    have h2 : x = (n : Int) * ((x - p) / n) + p := by
      have := Int.mul_ediv_add_emod (x - p) n
      omega
    rw [h2, Int.add_comm, Int.add_mul_emod_self_left]
    exact Int.emod_eq_of_lt h0 h1
  · intro h
    have h2 := Int.mul_ediv_add_emod x n
    have h3 : x - p = (n : Int) * (x / n) := by omega
    rw [h3, Int.mul_emod_right]
/-- the stop of the loop is the order -/
theorem stop_is {n s k : Nat} (hn : 0 < n) (hk : 1 ≤ k) (hkn : k ≤ n) (hlow : ∀ i, 0 < i → i < k → stp n s i ≠ 0) (hstop : stp n s k = 0 ∨ k = n) : k = ord n s := by
  have hm := ord_pos (s := s) hn
  have hmn : ord n s ≤ n := ord_le
  have h1 : k ≤ ord n s := by
    rcases Nat.lt_or_ge (ord n s) k with h | h
    · exact absurd ((stp_zero_iff hn).mpr (Nat.dvd_refl _)) (hlow _ hm h)
    · exact h
  rcases hstop with h | h
  · have d := (stp_zero_iff hn).mp h
    have := Nat.le_of_dvd hk d
    omega
  · omega
end K1M

/-! plain mathematics for the written names -/
namespace K1N
def nAt (rs : List (Int × Int)) (j : Nat) : Nat := (rs.getD j (0, 0)).1.toNat
def sAt (rs : List (Int × Int)) (j : Nat) : Int := (rs.getD j (0, 0)).2
def row (j n : Nat) : List (Int × Int) := (List.range n).map fun (q : Nat) => ((j : Int), (q : Int))
def pre (rs : List (Int × Int)) : Nat → List (Int × Int)
  | 0 => []
  | i + 1 => pre rs i ++ row i (nAt rs i)
/-- a place that is its own written name -/
def own (rs : List (Int × Int)) (p : Int × Int) : Bool := !(decide (0 < p.1) && decide (p.2 = sAt rs p.1.toNat))
def names (rs : List (Int × Int)) : List (Int × Int) := (pre rs rs.length).filter (own rs)
def sumTo (rs : List (Int × Int)) : Nat → Nat
  | 0 => 0
  | i + 1 => sumTo rs i + nAt rs i
theorem row_succ (j n : Nat) : row j (n + 1) = row j n ++ [((j : Int), (n : Int))] := by
  unfold row
  rw [List.range_succ, List.map_append]
  rfl
theorem row_len (j n : Nat) : (row j n).length = n := by
  unfold row
  rw [List.length_map, List.length_range]
theorem pre_len {rs : List (Int × Int)} (h : ∀ j, nAt rs j ≤ 60) : ∀ i, (pre rs i).length ≤ 60 * i
  | 0 => Nat.le_refl _
  | i + 1 => by
    show (pre rs i ++ row i (nAt rs i)).length ≤ 60 * (i + 1)
    rw [List.length_append, row_len]
    have := pre_len h i
    have := h i
    omega
theorem row0 (rs : List (Int × Int)) : ∀ n, ((row 0 n).filter (own rs)).length = n
  | 0 => rfl
  | n + 1 => by
    rw [row_succ, List.filter_append, List.length_append, row0 rs n]
    have : own rs (((0 : Nat) : Int), (n : Int)) = true := rfl
    rw [List.filter_cons, if_pos this]
    rfl
theorem rowS (rs : List (Int × Int)) (j : Nat) (s : Nat) (hs : sAt rs (j + 1) = (s : Int)) : ∀ n, ((row (j + 1) n).filter (own rs)).length = if s < n then n - 1 else n
  | 0 => rfl
  | n + 1 => by
    rw [row_succ, List.filter_append, List.length_append, rowS rs j s hs n]
    by_cases c : n = s
    · have e : own rs (((j + 1 : Nat) : Int), (n : Int)) = false := by
        unfold own
        rw [show (((j + 1 : Nat) : Int)).toNat = j + 1 by omega, hs, decide_eq_true (show (0 : Int) < ((j + 1 : Nat) : Int) by omega), decide_eq_true (show (n : Int) = (s : Int) by omega)]
        rfl
      have e2 : [(((j + 1 : Nat) : Int), (n : Int))].filter (own rs) = [] := by
        rw [List.filter_cons, if_neg (show ¬ own rs (((j + 1 : Nat) : Int), (n : Int)) = true by rw [e]; decide)]
        rfl
      rw [e2, if_neg (show ¬ s < n by omega), if_pos (show s < n + 1 by omega)]
      show n + 0 = n + 1 - 1
      omega
    · have e : own rs (((j + 1 : Nat) : Int), (n : Int)) = true := by
        unfold own
        rw [show (((j + 1 : Nat) : Int)).toNat = j + 1 by omega, hs, decide_eq_false (show ¬ (n : Int) = (s : Int) by omega), Bool.and_false]
        rfl
      rw [List.filter_cons, if_pos e]
      show (if s < n then n - 1 else n) + 1 = _
      by_cases c2 : s < n
      · rw [if_pos c2, if_pos (by omega)]
        omega
      · rw [if_neg c2, if_neg (by omega)]
/-- how many written names -/
theorem count_to {rs : List (Int × Int)} (h : ∀ j, j < rs.length → 1 ≤ sAt rs j ∧ sAt rs j < (nAt rs j : Int)) : ∀ i, 1 ≤ i → i ≤ rs.length → ((pre rs i).filter (own rs)).length + i = sumTo rs i + 1
  | 0, z, _ => absurd z (by decide)
  | 1, _, h1 => by
    show (([] ++ row 0 (nAt rs 0)).filter (own rs)).length + 1 = 0 + nAt rs 0 + 1
    rw [List.nil_append, row0]
    omega
  | i + 2, _, h1 => by
    have ih := count_to h (i + 1) (by omega) (by omega)
    have hs := h (i + 1) (by omega)
    have hr := rowS rs i (sAt rs (i + 1)).toNat (by omega) (nAt rs (i + 1))
    rw [if_pos (by omega)] at hr
    show ((pre rs (i + 1) ++ row (i + 1) (nAt rs (i + 1))).filter (own rs)).length + (i + 2) = sumTo rs (i + 1) + nAt rs (i + 1) + 1
    rw [List.filter_append, List.length_append, hr]
    omega
theorem nAt_left {a b : List (Int × Int)} {j : Nat} (h : j < a.length) : nAt (a ++ b) j = nAt a j := by
  unfold nAt
  rw [List.getD_eq_getElem?_getD, List.getD_eq_getElem?_getD, List.getElem?_append_left h]
theorem nAt_right {a b : List (Int × Int)} {j : Nat} : nAt (a ++ b) (a.length + j) = nAt b j := by
  unfold nAt
  rw [List.getD_eq_getElem?_getD, List.getD_eq_getElem?_getD, List.getElem?_append_right (by omega), Nat.add_sub_cancel_left]
theorem sum_left {a b : List (Int × Int)} : ∀ i, i ≤ a.length → sumTo (a ++ b) i = sumTo a i
  | 0, _ => rfl
  | i + 1, h => by
    show sumTo (a ++ b) i + nAt (a ++ b) i = sumTo a i + nAt a i
    rw [sum_left i (by omega), nAt_left (by omega)]
theorem sum_right {a b : List (Int × Int)} : ∀ i, sumTo (a ++ b) (a.length + i) = sumTo a a.length + sumTo b i
  | 0 => by
    rw [Nat.add_zero, sum_left _ (Nat.le_refl _)]
    rfl
  | i + 1 => by
    show sumTo (a ++ b) (a.length + i) + nAt (a ++ b) (a.length + i) = sumTo a a.length + (sumTo b i + nAt b i)
    rw [sum_right i, nAt_right, Nat.add_assoc]
theorem names_joined {a b : List (Int × Int)} (ha : 1 ≤ a.length) (hb : 1 ≤ b.length) (h1 : ∀ j, j < a.length → 1 ≤ sAt a j ∧ sAt a j < (nAt a j : Int)) (h2 : ∀ j, j < b.length → 1 ≤ sAt b j ∧ sAt b j < (nAt b j : Int))
    (h3 : ∀ j, j < (a ++ b).length → 1 ≤ sAt (a ++ b) j ∧ sAt (a ++ b) j < (nAt (a ++ b) j : Int)) : (names (a ++ b)).length + 1 = (names a).length + (names b).length := by
  unfold names
  have e1 := count_to h1 a.length ha (Nat.le_refl _)
  have e2 := count_to h2 b.length hb (Nat.le_refl _)
  have e3 := count_to h3 (a ++ b).length (by rw [List.length_append]; omega) (Nat.le_refl _)
  have e4 := sum_right (a := a) (b := b) b.length
  rw [List.length_append] at e3 ⊢
  omega
end K1N

/-! enumerate over a tuple, one argument -/
namespace EnT
open PySem PySem.Spec PyProof.Rows L2
theorem made {v : Value} {o : Obj} {Hy : Heap → Prop} (B : Begins v o Hy) : Meets (Builtin.«enumerate.__new__» ⟨[.type "enumerate", v], []⟩) (fun _ R s => Hy s.heap ∧
      R (.ok (.ret (.ref (s.heap.push o).objs.size))) { s with heap := (s.heap.push o).push { cls := .type "enumerate", data := .fields #[.none, .bool false, .ref s.heap.objs.size, rawInt 0, .none, .none] } }) :=
  .of_wp fun prog w A R s z => by
    obtain ⟨hp, gs, dr, tk, os⟩ := s
    obtain ⟨z1, z2⟩ := z
    have sb := sub_enumerate
    have it1 : ∀ {A2 : Around} {E2 : Value → Shared → Prop} {Q2 : Value → Shared → Prop}, Q2 (.ref hp.objs.size) ⟨hp.push o, gs, dr, tk, os⟩ → wpAny (model prog w) A2 (pyIter v) Q2 E2 ⟨hp, gs, dr, tk, os⟩ :=
      fun y => B.iter prog w _ _ ⟨hp, gs, dr, tk, os⟩ _ z1 y
    wp_walk using it1
    refine wpAny_stack_any fun _ => wpAny_pure ?_
    split
    · rename_i c _ _ _ _ _
      cases (c == Value.type "enumerate")
      · wp_walk using it1
        exact ⟨_, rfl, z2⟩
      · wp_walk using it1
        exact ⟨_, rfl, z2⟩
    · wp_walk using it1
      exact ⟨_, rfl, z2⟩
section
variable {prog : Program} {w : World} {A : Around} {E : Value → Shared → Prop} {s : Shared}
theorem call_made {v : Value} {o : Obj} {Hy : Heap → Prop} {Q : Value → Shared → Prop} (B : Begins v o Hy) (h1 : Hy s.heap)
    (k : ∀ h2, IsEnum h2 (s.heap.objs.size + 1) s.heap.objs.size 0 .none → h2.get? s.heap.objs.size = some o → (∀ b u, s.heap.get? b = some u → h2.get? b = some u) → Q (.ref (s.heap.objs.size + 1)) { s with heap := h2 }) :
    wpAny (model prog w) A (call (.type "enumerate") [v]) Q E s := by
  refine callType_new F.called_enumerate (by decide) (F.typeCall_enumerate_1 _) (F.newCall_enumerate_1 _) (fun obj => F.args_object_init_2 obj _) F.entry_enumerate_new (made B) ⟨h1, ?_⟩
  have sz : (s.heap.push o).objs.size = s.heap.objs.size + 1 := by rw [Heap.size_push]
  show _ ∧ _
  rw [sz]
  have en := Heap.get?_push_size (s.heap.push o) (o := { cls := .type "enumerate", data := .fields #[.none, .bool false, .ref s.heap.objs.size, rawInt 0, .none, .none] }) rfl
  rw [sz] at en
  exact ⟨⟨_, en, rfl⟩, k _ en (Heap.get?_push_of_some _ (Heap.get?_push_size _ B.free)) fun b u y => Heap.get?_push_of_some _ (Heap.get?_push_of_some _ y)⟩
end
/-- the tuple at a, each item in a new pair with its number -/
def IteT (K : PySem.W.Frag) (a : Addr) : It :=
  ⟨fun i H => ∃ (ts : List V) (x : V), SqT K H a ts ∧ ts[i]? = some x, fun i H v H' => ∃ T x, v = .ref T ∧ H T = none ∧ H' = upd H T (.tup [.int (i : Nat), x]) ∧ ∀ ts, SqT K H a ts → ts[i]? = some x, fun i H => ∃ ts : List V, SqT K H a ts ∧ ts.length = i⟩
theorem tup_inj {X : Cx} {pins : List (Addr × Obj)} {σ : L2.St} {H : Hp} {s : Shared} {a : Addr} {xs ys : List V} (I : Inv X pins σ H s) (h1 : SqT X.K H a xs) (h2 : SqT X.K H a ys) : xs = ys := by
  obtain ⟨i1, r1, ⟨o1, g1, c1, n1, d1⟩, _⟩ := I.tuple h1
  obtain ⟨i2, r2, ⟨o2, g2, c2, n2, d2⟩, _⟩ := I.tuple h2
  rw [g1] at g2
  have e := Option.some.inj g2
  subst e
  rw [d1] at d2
  injection d2 with e1 _
  have e3 : i1 = i2 := by simpa using e1
  subst e3
  exact Vals.inj r1 r2
theorem turn {P : Program} {w : World} {K : PySem.W.Frag} {elts : List Expr} {kk : Nat} {tpos : Pos} (a e it : Addr) :
    Turn P w K (.Tuple elts kk tpos) (IteT K a) [e, it] e (fun i h => (∃ old, IsEnum h e it ((i : Nat) : Int) old) ∧ h.IsTupleIter it a i ∧ e ≠ it ∧ a ≠ e ∧ a ≠ it) where
  mem := by simp
  obj := fun i h st b hb => by
    obtain ⟨⟨old, he⟩, ⟨o, ho, hc, hd⟩, _⟩ := st
    rcases (show b = e ∨ b = it by simpa using hb) with z | z
    · rw [z]
      exact ⟨_, he, fun v q => nomatch q⟩
    · rw [z]
      exact ⟨o, ho, fun v q => by rw [hd] at q; cases q⟩
  keep := fun i h h' st k => by
    obtain ⟨⟨old, he⟩, ⟨o, ho, hc, hd⟩, n1, n2, n3⟩ := st
    exact ⟨⟨old, k e (by simp) _ he⟩, ⟨o, k it (by simp) _ ho, hc, hd⟩, n1, n2, n3⟩
  item := by
    intro X hP hw hK hc i pins s σ H E I hf st hg
    subst hP hw hK
    obtain ⟨⟨old, he⟩, hit, n1, n2, n3⟩ := st
    obtain ⟨xs, x, hq, hx⟩ := hg
    obtain ⟨its, rv, p, _⟩ := I.tuple hq
    obtain ⟨u, hu, ru⟩ := rv.get hx
    have hel : e < s.heap.objs.size := Heap.lt_size he
    have hil : it < s.heap.objs.size := by
      obtain ⟨_, q, _⟩ := hit
      exact Heap.lt_size q
    have hlt : i < its.toArray.size := by
      have := (List.getElem?_eq_some_iff.mp hu).1
      simpa using this
    have hh : X.A.in1.handled = none := I.ok.hd hc
    have DT := Draws.tuple (prog := X.prog) (w := X.w) hh it a n3 its.toArray
    refine wpAny_pyNext_enum_itemD DT he ⟨hit, p⟩ hlt n1 (by simp [n1, Ne.symm n2]) fun y h1 tk hy ho hst hT hsz hk => ?_
    have ey : y = u := by
      have q : its.toArray[i]? = some u := by simpa using hu
      exact Option.some.inj (hy.symm.trans q)
    subst ey
    refine ⟨_, rfl, wpAny_letOwnedTupleGo_enum (s := { s with heap := h1, toks := tk + 1 }) ho fun h2 he2 sb => ?_⟩
    have hT2 : h2.get? s.heap.objs.size = some { cls := .type "tuple", data := .seq #[.int i tk, y] } := (sb.2 _ (Nat.ne_of_gt hel)).trans hT
    have new : ObjOk X.prog X.w (upd H s.heap.objs.size (.tup [.int (i : Nat), x])) h2 s.heap.objs.size (.tup [.int (i : Nat), x]) :=
      ⟨show 2 ≤ sizeLine by decide, [.int i tk, y], .cons ⟨_, rfl⟩ (.cons ru .nil), ⟨_, hT2, rfl, _, rfl⟩⟩
    have I1 : Inv X pins σ (upd H s.heap.objs.size (.tup [.int (i : Nat), x])) { s with heap := h2, toks := tk + 1 } :=
      I.turnedNew (ch := [e, it]) (fun b ob hb q => (sb.2 b (fun z => hb (by simp [z]))).trans (hk b ob (fun z => hb (by simp [z])) (fun z => hb (by simp [z])) q)) hf (Nat.le_refl _) new
    obtain ⟨oi, g1, g2, g3⟩ := hst.1
    refine ⟨.ref s.heap.objs.size, _, I1, rfl, ⟨_, x, rfl, I.hok.fresh (Nat.le_refl _), rfl, fun ys hys => by rw [tup_inj I hys hq]; exact hx⟩, ⟨⟨y, ?_⟩, ⟨oi, (sb.2 it (Ne.symm n1)).trans g1, g2, g3⟩, n1, n2, n3⟩, fun b hb => ?_⟩
    · rw [show ((i + 1 : Nat) : Int) = (i : Int) + 1 by omega]
      exact he2
    · have hb2 : b < s.heap.objs.size := by
        rcases (show b = e ∨ b = it by simpa using hb) with z | z
        · rw [z]
          exact hel
        · rw [z]
          exact hil
      rw [upd_ne (Nat.ne_of_lt hb2)]
      exact (hf b hb).1
  done := by
    intro X hP hw hK hc i pins s σ H E I hf st hg
    subst hP hw hK
    obtain ⟨⟨old, he⟩, hit, n1, n2, n3⟩ := st
    obtain ⟨xs, hq, hx⟩ := hg
    obtain ⟨its, rv, p, _⟩ := I.tuple hq
    obtain ⟨f0, f1, f2, f3, f4, f5⟩ := hf it (by simp)
    have hl := rv.length
    have hn : its.toArray.size = i := by
      rw [List.size_toArray]
      omega
    have hh : X.A.in1.handled = none := I.ok.hd hc
    have DT := Draws.tuple (prog := X.prog) (w := X.w) hh it a n3 its.toArray
    refine wpAny_pyNext_enum_endD DT he ⟨?_, p⟩ fun h1 eb => ⟨rfl, I.turned (t' := s.toks) (fun b o hb q => eb b o hb q) f0 f1 f3 f4 f5⟩
    rw [hn]
    exact hit
  self := fun A i s Q E st h => by
    obtain ⟨⟨_, he⟩, _⟩ := st
    exact wpAny_pyIter_enum he h
def iEnumT (K : PySem.W.Frag) (ta : TA) : TI := fun σ H R => ta σ H fun vs H1 => ∃ a xs, vs = [.ref a] ∧ SqT K H1 a xs ∧ R (IteT K a) H1
theorem pi_enumT {X : Cx} {e : Expr} {ta : TA} {p pos tpos : Pos} {elts : List Expr} {kk : Nat} (hg : Gl X "enumerate") (hm : X.mg "enumerate" = none) (ha : PA X [e] ta) (hs : starEach [e] X.env = [(false, eval e X.env)] := by rfl) :
    PI X (.Tuple elts kk tpos) (.Call (.Name "enumerate" p) [e] [] pos) (iEnumT X.K ta) := by
  refine ⟨fun pins s σ H R I h => ?_⟩
  refine Call_ (ld_blt I hg hm boot_enumerate (PyProof.Rows.callWith_type1 (thn (ha.run pos pins s σ H _ I h) fun us s1 ⟨vs, H1, I1, r1, y1⟩ => ?_) hs rfl))
  obtain ⟨a, xs, ex, hq, q⟩ := y1
  subst ex
  cases r1 with
  | cons r rr =>
    cases rr
    cases r
    obtain ⟨its, rv, p2, _⟩ := I1.tuple hq
    have hal : a < s1.heap.objs.size := by
      obtain ⟨o, g, _⟩ := p2
      exact Heap.lt_size g
    refine call_made (begins_tuple a its.toArray) p2 fun h2 he hit hk => wpAny_pyIter_enum he ?_
    have I2 : Inv X pins σ H1 { s1 with heap := h2 } := I1.kept (t' := s1.toks) hk
    refine ⟨s1.heap.objs.size + 1, [s1.heap.objs.size + 1, s1.heap.objs.size], _, _, H1, rfl, I2, turn a (s1.heap.objs.size + 1) s1.heap.objs.size, ⟨⟨.none, he⟩, ⟨_, hit, rfl, rfl⟩, Nat.succ_ne_self _, Nat.ne_of_lt (Nat.lt_succ_of_lt hal), Nat.ne_of_lt hal⟩, fun b hb => ?_, q⟩
    have hle : s1.heap.objs.size ≤ b := by
      rcases (show b = s1.heap.objs.size + 1 ∨ b = s1.heap.objs.size by simpa using hb) with z | z
      · rw [z]
        exact Nat.le_add_right _ _
      · rw [z]
        exact Nat.le_refl _
    exact I1.fpOk hle (I1.hok.fresh hle)
end EnT

namespace K1
open PySem PySem.Spec PyProof.Rows L2 Evl
def topS (i : Nat) : Stmt := PySem.Challenge.pw_ringstairs_k79_whole_chains_backward_and.main.body.getD i (.Pass ⟨0, 0, 0, 0⟩)
abbrev sIsInteger : Stmt := topS 11
abbrev nIsInteger : List Str := ["value"]
theorem scIsInteger : FnScope nIsInteger ["value"] (defScope sIsInteger) := ⟨rfl, rfl, rfl, by decide +kernel, rfl, by decide +kernel, by decide +kernel⟩
abbrev sIsBetween : Stmt := topS 12
abbrev nIsBetween : List Str := ["value", "low", "high"]
theorem scIsBetween : FnScope nIsBetween ["value", "low", "high"] (defScope sIsBetween) := ⟨rfl, rfl, rfl, by decide +kernel, rfl, by decide +kernel, by decide +kernel⟩
abbrev sIsPair : Stmt := topS 13
abbrev nIsPair : List Str := ["value"]
theorem scIsPair : FnScope nIsPair ["value"] (defScope sIsPair) := ⟨rfl, rfl, rfl, by decide +kernel, rfl, by decide +kernel, by decide +kernel⟩
abbrev sCheckInteger : Stmt := topS 14
abbrev nCheckInteger : List Str := ["value"]
theorem scCheckInteger : FnScope nCheckInteger ["value"] (defScope sCheckInteger) := ⟨rfl, rfl, rfl, by decide +kernel, rfl, by decide +kernel, by decide +kernel⟩
abbrev sCheckBetween : Stmt := topS 15
abbrev nCheckBetween : List Str := ["value", "low", "high"]
theorem scCheckBetween : FnScope nCheckBetween ["value", "low", "high"] (defScope sCheckBetween) := ⟨rfl, rfl, rfl, by decide +kernel, rfl, by decide +kernel, by decide +kernel⟩
abbrev sCheckDigits : Stmt := topS 16
abbrev nCheckDigits : List Str := ["numbers", "number"]
theorem scCheckDigits : FnScope nCheckDigits ["numbers"] (defScope sCheckDigits) := ⟨rfl, rfl, rfl, by decide +kernel, rfl, by decide +kernel, by decide +kernel⟩
abbrev sIsRing : Stmt := topS 20
abbrev nIsRing : List Str := ["value", "places", "door"]
theorem scIsRing : FnScope nIsRing ["value"] (defScope sIsRing) := ⟨rfl, rfl, rfl, by decide +kernel, rfl, by decide +kernel, by decide +kernel⟩
abbrev sIsChain : Stmt := topS 21
abbrev nIsChain : List Str := ["value", "ring"]
theorem scIsChain : FnScope nIsChain ["value"] (defScope sIsChain) := ⟨rfl, rfl, rfl, by decide +kernel, rfl, by decide +kernel, by decide +kernel⟩
abbrev sLiesOn : Stmt := topS 22
abbrev nLiesOn : List Str := ["chain", "value", "index", "spot"]
theorem scLiesOn : FnScope nLiesOn ["chain", "value"] (defScope sLiesOn) := ⟨rfl, rfl, rfl, by decide +kernel, rfl, by decide +kernel, by decide +kernel⟩
abbrev sLiesDealt : Stmt := topS 23
abbrev nLiesDealt : List Str := ["chain", "value", "place"]
theorem scLiesDealt : FnScope nLiesDealt ["chain", "value"] (defScope sLiesDealt) := ⟨rfl, rfl, rfl, by decide +kernel, rfl, by decide +kernel, by decide +kernel⟩
abbrev sCheckRing : Stmt := topS 24
abbrev nCheckRing : List Str := ["ring"]
theorem scCheckRing : FnScope nCheckRing ["ring"] (defScope sCheckRing) := ⟨rfl, rfl, rfl, by decide +kernel, rfl, by decide +kernel, by decide +kernel⟩
abbrev sCheckChain : Stmt := topS 25
abbrev nCheckChain : List Str := ["chain"]
theorem scCheckChain : FnScope nCheckChain ["chain"] (defScope sCheckChain) := ⟨rfl, rfl, rfl, by decide +kernel, rfl, by decide +kernel, by decide +kernel⟩
abbrev sCheckDeal : Stmt := topS 26
abbrev nCheckDeal : List Str := ["chain", "deal"]
theorem scCheckDeal : FnScope nCheckDeal ["chain", "deal"] (defScope sCheckDeal) := ⟨rfl, rfl, rfl, by decide +kernel, rfl, by decide +kernel, by decide +kernel⟩
abbrev sOrderOf : Stmt := topS 27
abbrev nOrderOf : List Str := ["ring"]
theorem scOrderOf : FnScope nOrderOf ["ring"] (defScope sOrderOf) := ⟨rfl, rfl, rfl, by decide +kernel, rfl, by decide +kernel, by decide +kernel⟩
abbrev sLets : Stmt := topS 28
abbrev nLets : List Str := ["ring", "place", "diagonal"]
theorem scLets : FnScope nLets ["ring", "place", "diagonal"] (defScope sLets) := ⟨rfl, rfl, rfl, by decide +kernel, rfl, by decide +kernel, by decide +kernel⟩
abbrev sWrittenName : Stmt := topS 29
abbrev nWrittenName : List Str := ["chain", "place", "index", "spot"]
theorem scWrittenName : FnScope nWrittenName ["chain", "place"] (defScope sWrittenName) := ⟨rfl, rfl, rfl, by decide +kernel, rfl, by decide +kernel, by decide +kernel⟩
abbrev sCombined : Stmt := topS 30
abbrev nCombined : List Str := ["chain", "parts", "sums", "count", "deal", "place", "name"]
theorem scCombined : FnScope nCombined ["chain", "parts"] (defScope sCombined) := ⟨rfl, rfl, rfl, by decide +kernel, rfl, by decide +kernel, by decide +kernel⟩
abbrev sToldSum : Stmt := topS 31
abbrev nToldSum : List Str := ["chain", "parts", "deal"]
theorem scToldSum : FnScope nToldSum ["chain", "parts"] (defScope sToldSum) := ⟨rfl, rfl, rfl, by decide +kernel, rfl, by decide +kernel, by decide +kernel⟩
abbrev sWritten : Stmt := topS 32
abbrev nWritten : List Str := ["chain", "deal"]
theorem scWritten : FnScope nWritten ["chain", "deal"] (defScope sWritten) := ⟨rfl, rfl, rfl, by decide +kernel, rfl, by decide +kernel, by decide +kernel⟩
abbrev sLiesTold : Stmt := topS 34
abbrev nLiesTold : List Str := ["chain", "value", "place", "ring"]
theorem scLiesTold : FnScope nLiesTold ["chain", "value"] (defScope sLiesTold) := ⟨rfl, rfl, rfl, by decide +kernel, rfl, by decide +kernel, by decide +kernel⟩
abbrev sCheckPlaces : Stmt := topS 35
abbrev nCheckPlaces : List Str := ["chain", "places"]
theorem scCheckPlaces : FnScope nCheckPlaces ["chain", "places"] (defScope sCheckPlaces) := ⟨rfl, rfl, rfl, by decide +kernel, rfl, by decide +kernel, by decide +kernel⟩
abbrev sClassAt : Stmt := topS 36
abbrev nClassAt : List Str := ["chain", "deal", "chips", "sums", "place", "index", "spot", "places", "ahead", "ring", "_"]
theorem scClassAt : FnScope nClassAt ["chain", "deal"] (defScope sClassAt) := ⟨rfl, rfl, rfl, by decide +kernel, rfl, by decide +kernel, by decide +kernel⟩
abbrev sClassOf : Stmt := topS 37
abbrev nClassOf : List Str := ["chain", "deal", "told"]
theorem scClassOf : FnScope nClassOf ["chain", "deal"] (defScope sClassOf) := ⟨rfl, rfl, rfl, by decide +kernel, rfl, by decide +kernel, by decide +kernel⟩
abbrev sHeightAt : Stmt := topS 39
abbrev nHeightAt : List Str := ["heap", "column"]
theorem scHeightAt : FnScope nHeightAt ["heap", "column"] (defScope sHeightAt) := ⟨rfl, rfl, rfl, by decide +kernel, rfl, by decide +kernel, by decide +kernel⟩
abbrev sHasBox : Stmt := topS 40
abbrev nHasBox : List Str := ["heap", "columns", "rows"]
theorem scHasBox : FnScope nHasBox ["heap", "columns", "rows"] (defScope sHasBox) := ⟨rfl, rfl, rfl, by decide +kernel, rfl, by decide +kernel, by decide +kernel⟩
abbrev sOpenColumns : Stmt := topS 41
abbrev nOpenColumns : List Str := ["heap", "columns", "column"]
theorem scOpenColumns : FnScope nOpenColumns ["heap"] (defScope sOpenColumns) := ⟨rfl, rfl, rfl, by decide +kernel, rfl, by decide +kernel, by decide +kernel⟩
abbrev sHeaped : Stmt := topS 42
abbrev nHeaped : List Str := ["heap", "columns", "heights", "column", "height"]
theorem scHeaped : FnScope nHeaped ["heap", "columns"] (defScope sHeaped) := ⟨rfl, rfl, rfl, by decide +kernel, rfl, by decide +kernel, by decide +kernel⟩
abbrev sGrownBy : Stmt := topS 43
abbrev nGrownBy : List Str := ["heap", "ring", "place", "columns", "column"]
theorem scGrownBy : FnScope nGrownBy ["heap", "ring", "place"] (defScope sGrownBy) := ⟨rfl, rfl, rfl, by decide +kernel, rfl, by decide +kernel, by decide +kernel⟩
abbrev sHeapsOf : Stmt := topS 44
abbrev nHeapsOf : List Str := ["chain", "places", "heaps", "index", "ring"]
theorem scHeapsOf : FnScope nHeapsOf ["chain", "places"] (defScope sHeapsOf) := ⟨rfl, rfl, rfl, by decide +kernel, rfl, by decide +kernel, by decide +kernel⟩
abbrev sHeapOf : Stmt := topS 45
abbrev nHeapOf : List Str := ["chain", "places"]
theorem scHeapOf : FnScope nHeapOf ["chain", "places"] (defScope sHeapOf) := ⟨rfl, rfl, rfl, by decide +kernel, rfl, by decide +kernel, by decide +kernel⟩
abbrev sRichnessAt : Stmt := topS 47
abbrev nRichnessAt : List Str := ["chain", "degree", "places", "heap", "short", "k"]
theorem scRichnessAt : FnScope nRichnessAt ["chain", "degree", "places"] (defScope sRichnessAt) := ⟨rfl, rfl, rfl, by decide +kernel, rfl, by decide +kernel, by decide +kernel⟩
abbrev sRichnessOf : Stmt := topS 48
abbrev nRichnessOf : List Str := ["chain", "deal", "degree", "places"]
theorem scRichnessOf : FnScope nRichnessOf ["chain", "deal"] (defScope sRichnessOf) := ⟨rfl, rfl, rfl, by decide +kernel, rfl, by decide +kernel, by decide +kernel⟩
abbrev sRichness : Stmt := topS 49
abbrev nRichness : List Str := ["chain", "deal"]
theorem scRichness : FnScope nRichness ["chain", "deal"] (defScope sRichness) := ⟨rfl, rfl, rfl, by decide +kernel, rfl, by decide +kernel, by decide +kernel⟩
abbrev sBackward : Stmt := topS 51
abbrev nBackward : List Str := ["chain", "deal", "last", "moved", "back", "j", "p"]
theorem scBackward : FnScope nBackward ["chain", "deal"] (defScope sBackward) := ⟨rfl, rfl, rfl, by decide +kernel, rfl, by decide +kernel, by decide +kernel⟩
abbrev sFlippedChain : Stmt := topS 52
abbrev nFlippedChain : List Str := ["chain", "index", "places", "door"]
theorem scFlippedChain : FnScope nFlippedChain ["chain", "index"] (defScope sFlippedChain) := ⟨rfl, rfl, rfl, by decide +kernel, rfl, by decide +kernel, by decide +kernel⟩
abbrev sFlippedDeal : Stmt := topS 53
abbrev nFlippedDeal : List Str := ["chain", "deal", "index", "moved", "j", "p"]
theorem scFlippedDeal : FnScope nFlippedDeal ["chain", "deal", "index"] (defScope sFlippedDeal) := ⟨rfl, rfl, rfl, by decide +kernel, rfl, by decide +kernel, by decide +kernel⟩
abbrev sFlipped : Stmt := topS 54
abbrev nFlipped : List Str := ["chain", "deal", "index", "moved"]
theorem scFlipped : FnScope nFlipped ["chain", "deal", "index"] (defScope sFlipped) := ⟨rfl, rfl, rfl, by decide +kernel, rfl, by decide +kernel, by decide +kernel⟩
abbrev sLetterOf : Stmt := topS 56
abbrev nLetterOf : List Str := ["ring", "place", "order", "c"]
theorem scLetterOf : FnScope nLetterOf ["ring", "place"] (defScope sLetterOf) := ⟨rfl, rfl, rfl, by decide +kernel, rfl, by decide +kernel, by decide +kernel⟩
abbrev sMapValues : Stmt := topS 57
abbrev nMapValues : List Str := ["chain", "degree", "places", "first", "last", "many", "low", "at", "values", "index", "told"]
theorem scMapValues : FnScope nMapValues ["chain", "degree", "places", "first", "last"] (defScope sMapValues) := ⟨rfl, rfl, rfl, by decide +kernel, rfl, by decide +kernel, by decide +kernel⟩
abbrev sCheckClassAt : Stmt := topS 58
abbrev nCheckClassAt : List Str := ["chain", "degree", "places"]
theorem scCheckClassAt : FnScope nCheckClassAt ["chain", "degree", "places"] (defScope sCheckClassAt) := ⟨rfl, rfl, rfl, by decide +kernel, rfl, by decide +kernel, by decide +kernel⟩
abbrev sValueAt : Stmt := topS 59
abbrev nValueAt : List Str := ["chain", "degree", "places", "index"]
theorem scValueAt : FnScope nValueAt ["chain", "degree", "places", "index"] (defScope sValueAt) := ⟨rfl, rfl, rfl, by decide +kernel, rfl, by decide +kernel, by decide +kernel⟩
abbrev sTableEntry : Stmt := topS 60
abbrev nTableEntry : List Str := ["chain", "degree", "places", "a", "b", "sure", "values", "value"]
theorem scTableEntry : FnScope nTableEntry ["chain", "degree", "places", "a", "b"] (defScope sTableEntry) := ⟨rfl, rfl, rfl, by decide +kernel, rfl, by decide +kernel, by decide +kernel⟩
abbrev sEndTable : Stmt := topS 61
abbrev nEndTable : List Str := ["chain", "degree", "places", "a", "b"]
theorem scEndTable : FnScope nEndTable ["chain", "degree", "places", "a", "b"] (defScope sEndTable) := ⟨rfl, rfl, rfl, by decide +kernel, rfl, by decide +kernel, by decide +kernel⟩
abbrev sLDice : Stmt := topS 63
abbrev nLDice : List Str := ["_law_script", "_law_at", "_law_cell", "_law_great", "_law_left", "_law_mixed_here"]
theorem scLDice : FnScope nLDice ["_law_script", "_law_at"] (defScope sLDice) := ⟨rfl, rfl, rfl, by decide +kernel, rfl, by decide +kernel, by decide +kernel⟩
abbrev sLRoll : Stmt := topS 64
abbrev nLRoll : List Str := ["_law_dice_here", "_law_total", "_law_size", "_law_drawn", "_law_one", "_law_two"]
theorem scLRoll : FnScope nLRoll ["_law_dice_here", "_law_total"] (defScope sLRoll) := ⟨rfl, rfl, rfl, by decide +kernel, rfl, by decide +kernel, by decide +kernel⟩
abbrev sLOneOf : Stmt := topS 65
abbrev nLOneOf : List Str := ["_law_dice_here", "_law_items"]
theorem scLOneOf : FnScope nLOneOf ["_law_dice_here", "_law_items"] (defScope sLOneOf) := ⟨rfl, rfl, rfl, by decide +kernel, rfl, by decide +kernel, by decide +kernel⟩
abbrev sLMixed : Stmt := topS 66
abbrev nLMixed : List Str := ["_law_dice_here", "_law_items", "_law_left", "_law_found"]
theorem scLMixed : FnScope nLMixed ["_law_dice_here", "_law_items"] (defScope sLMixed) := ⟨rfl, rfl, rfl, by decide +kernel, rfl, by decide +kernel, by decide +kernel⟩
abbrev sLCommon : Stmt := topS 67
abbrev nLCommon : List Str := ["_law_one", "_law_other"]
theorem scLCommon : FnScope nLCommon ["_law_one", "_law_other"] (defScope sLCommon) := ⟨rfl, rfl, rfl, by decide +kernel, rfl, by decide +kernel, by decide +kernel⟩
abbrev sLOrder : Stmt := topS 68
abbrev nLOrder : List Str := ["_law_ring_here"]
theorem scLOrder : FnScope nLOrder ["_law_ring_here"] (defScope sLOrder) := ⟨rfl, rfl, rfl, by decide +kernel, rfl, by decide +kernel, by decide +kernel⟩
abbrev sLRing : Stmt := topS 69
abbrev nLRing : List Str := ["_law_dice_here", "_law_most", "_law_n"]
theorem scLRing : FnScope nLRing ["_law_dice_here", "_law_most"] (defScope sLRing) := ⟨rfl, rfl, rfl, by decide +kernel, rfl, by decide +kernel, by decide +kernel⟩
abbrev sLRingOf : Stmt := topS 70
abbrev nLRingOf : List Str := ["_law_dice_here", "_law_k", "_law_times", "_law_more", "_law_steps", "_law_one"]
theorem scLRingOf : FnScope nLRingOf ["_law_dice_here", "_law_k", "_law_times"] (defScope sLRingOf) := ⟨rfl, rfl, rfl, by decide +kernel, rfl, by decide +kernel, by decide +kernel⟩
abbrev sLChain : Stmt := topS 71
abbrev nLChain : List Str := ["_law_dice_here", "_law_rings", "_law_most", "_law_k", "_law_turn"]
theorem scLChain : FnScope nLChain ["_law_dice_here", "_law_rings", "_law_most"] (defScope sLChain) := ⟨rfl, rfl, rfl, by decide +kernel, rfl, by decide +kernel, by decide +kernel⟩
abbrev sLDeal : Stmt := topS 72
abbrev nLDeal : List Str := ["_law_dice_here", "_law_chain_here", "_law_most", "_law_found", "_law_j", "_law_turn"]
theorem scLDeal : FnScope nLDeal ["_law_dice_here", "_law_chain_here", "_law_most"] (defScope sLDeal) := ⟨rfl, rfl, rfl, by decide +kernel, rfl, by decide +kernel, by decide +kernel⟩
abbrev sLClass : Stmt := topS 73
abbrev nLClass : List Str := ["_law_chain_here", "_law_deal_here", "_law_found", "_law_ahead", "_law_j", "_law_n", "_law_s", "_law_mine", "_law_i", "_law_p", "_law_chips"]
theorem scLClass : FnScope nLClass ["_law_chain_here", "_law_deal_here"] (defScope sLClass) := ⟨rfl, rfl, rfl, by decide +kernel, rfl, by decide +kernel, by decide +kernel⟩
abbrev sLNamed : Stmt := topS 74
abbrev nLNamed : List Str := ["_law_chain_here", "_law_pairs", "_law_found", "_law_place", "_law_number", "_law_name"]
theorem scLNamed : FnScope nLNamed ["_law_chain_here", "_law_pairs"] (defScope sLNamed) := ⟨rfl, rfl, rfl, by decide +kernel, rfl, by decide +kernel, by decide +kernel⟩
abbrev sLBackward : Stmt := topS 75
abbrev nLBackward : List Str := ["_law_chain_here", "_law_deal_here", "_law_last", "_law_rings", "_law_pairs", "_law_j", "_law_p"]
theorem scLBackward : FnScope nLBackward ["_law_chain_here", "_law_deal_here"] (defScope sLBackward) := ⟨rfl, rfl, rfl, by decide +kernel, rfl, by decide +kernel, by decide +kernel⟩
abbrev sLFlipped : Stmt := topS 76
abbrev nLFlipped : List Str := ["_law_chain_here", "_law_deal_here", "_law_index", "_law_n", "_law_s", "_law_rings", "_law_pairs", "_law_j", "_law_p"]
theorem scLFlipped : FnScope nLFlipped ["_law_chain_here", "_law_deal_here", "_law_index"] (defScope sLFlipped) := ⟨rfl, rfl, rfl, by decide +kernel, rfl, by decide +kernel, by decide +kernel⟩
abbrev sLSame : Stmt := topS 77
abbrev nLSame : List Str := ["_law_found", "_law_due"]
theorem scLSame : FnScope nLSame ["_law_found", "_law_due"] (defScope sLSame) := ⟨rfl, rfl, rfl, by decide +kernel, rfl, by decide +kernel, by decide +kernel⟩
abbrev sLBackwardRight : Stmt := topS 78
abbrev nLBackwardRight : List Str := ["_law_dice_here", "_law_chain_here", "_law_deal_here", "_law_due", "_law_total", "_law_x", "_law_other", "_law_y", "_law_a", "_law_b", "_law_i"]
theorem scLBackwardRight : FnScope nLBackwardRight ["_law_dice_here", "_law_chain_here", "_law_deal_here"] (defScope sLBackwardRight) := ⟨rfl, rfl, rfl, by decide +kernel, rfl, by decide +kernel, by decide +kernel⟩
abbrev sLFlippedRight : Stmt := topS 79
abbrev nLFlippedRight : List Str := ["_law_dice_here", "_law_chain_here", "_law_deal_here", "_law_index", "_law_due", "_law_total", "_law_x", "_law_other", "_law_y", "_law_a", "_law_b"]
theorem scLFlippedRight : FnScope nLFlippedRight ["_law_dice_here", "_law_chain_here", "_law_deal_here"] (defScope sLFlippedRight) := ⟨rfl, rfl, rfl, by decide +kernel, rfl, by decide +kernel, by decide +kernel⟩
abbrev sLRight : Stmt := topS 80
abbrev nLRight : List Str := ["_law_dice_here", "_law_chain_here", "_law_deal_here"]
theorem scLRight : FnScope nLRight ["_law_dice_here"] (defScope sLRight) := ⟨rfl, rfl, rfl, by decide +kernel, rfl, by decide +kernel, by decide +kernel⟩
abbrev sLaw : Stmt := topS 81
abbrev nLaw : List Str := ["_law_script", "_law_at"]
theorem scLaw : FnScope nLaw ["_law_script"] (defScope sLaw) := ⟨rfl, rfl, rfl, by decide +kernel, rfl, by decide +kernel, by decide +kernel⟩
/-- a def of the text at its place, and how its arguments bind -/
structure DefAt (K : PySem.W.Frag) (mg : Str → Option Value) (x : Str) (st : Stmt) (ps : List Str) (f : Addr) (fd : FuncData) : Prop where
  F : Fun K x x st f fd
  g : mg x = some (.ref f)
  b : Binds K fd ps []
/-- what the top has written -/
structure Txt (K : PySem.W.Frag) (mg : Str → Option Value) : Prop where
  z_abs : mg "abs" = none
  z_all : mg "all" = none
  z_bool : mg "bool" = none
  z_dict : mg "dict" = none
  z_enumerate : mg "enumerate" = none
  z_int : mg "int" = none
  z_isinstance : mg "isinstance" = none
  z_len : mg "len" = none
  z_list : mg "list" = none
  z_max : mg "max" = none
  z_min : mg "min" = none
  z_range : mg "range" = none
  z_reversed : mg "reversed" = none
  z_sorted : mg "sorted" = none
  z_sum : mg "sum" = none
  z_tuple : mg "tuple" = none
  z_zip : mg "zip" = none
  v_BOUND : ∃ t, mg "BOUND" = some (.int (10 ^ 60) t)
  v_DIGITS : ∃ t, mg "DIGITS" = some (.int 60 t)
  v_RINGS : ∃ t, mg "MOST_RINGS" = some (.int 12 t)
  v_PLACES : ∃ t, mg "MOST_PLACES" = some (.int 60 t)
  v_gcd : mg "gcd" = some (.builtin "math.gcd")
  d_is_integer : ∃ f fd, DefAt K mg "is_integer" sIsInteger ["value"] f fd
  d_is_between : ∃ f fd, DefAt K mg "is_between" sIsBetween ["value", "low", "high"] f fd
  d_is_pair : ∃ f fd, DefAt K mg "is_pair" sIsPair ["value"] f fd
  d_check_integer : ∃ f fd, DefAt K mg "check_integer" sCheckInteger ["value"] f fd
  d_check_between : ∃ f fd, DefAt K mg "check_between" sCheckBetween ["value", "low", "high"] f fd
  d_check_digits : ∃ f fd, DefAt K mg "check_digits" sCheckDigits ["numbers"] f fd
  d_is_ring : ∃ f fd, DefAt K mg "is_ring" sIsRing ["value"] f fd
  d_is_chain : ∃ f fd, DefAt K mg "is_chain" sIsChain ["value"] f fd
  d_lies_on : ∃ f fd, DefAt K mg "lies_on" sLiesOn ["chain", "value"] f fd
  d_lies_dealt : ∃ f fd, DefAt K mg "lies_dealt" sLiesDealt ["chain", "value"] f fd
  d_check_ring : ∃ f fd, DefAt K mg "check_ring" sCheckRing ["ring"] f fd
  d_check_chain : ∃ f fd, DefAt K mg "check_chain" sCheckChain ["chain"] f fd
  d_check_deal : ∃ f fd, DefAt K mg "check_deal" sCheckDeal ["chain", "deal"] f fd
  d_order_of : ∃ f fd, DefAt K mg "order_of" sOrderOf ["ring"] f fd
  d_lets : ∃ f fd, DefAt K mg "lets" sLets ["ring", "place", "diagonal"] f fd
  d_written_name : ∃ f fd, DefAt K mg "written_name" sWrittenName ["chain", "place"] f fd
  d_combined : ∃ f fd, DefAt K mg "combined" sCombined ["chain", "parts"] f fd
  d_told_sum : ∃ f fd, DefAt K mg "told_sum" sToldSum ["chain", "parts"] f fd
  d_written : ∃ f fd, DefAt K mg "written" sWritten ["chain", "deal"] f fd
  d_lies_told : ∃ f fd, DefAt K mg "lies_told" sLiesTold ["chain", "value"] f fd
  d_check_places : ∃ f fd, DefAt K mg "check_places" sCheckPlaces ["chain", "places"] f fd
  d_class_at : ∃ f fd, DefAt K mg "class_at" sClassAt ["chain", "deal"] f fd
  d_class_of : ∃ f fd, DefAt K mg "class_of" sClassOf ["chain", "deal"] f fd
  d_height_at : ∃ f fd, DefAt K mg "height_at" sHeightAt ["heap", "column"] f fd
  d_has_box : ∃ f fd, DefAt K mg "has_box" sHasBox ["heap", "columns", "rows"] f fd
  d_open_columns : ∃ f fd, DefAt K mg "open_columns" sOpenColumns ["heap"] f fd
  d_heaped : ∃ f fd, DefAt K mg "heaped" sHeaped ["heap", "columns"] f fd
  d_grown_by : ∃ f fd, DefAt K mg "grown_by" sGrownBy ["heap", "ring", "place"] f fd
  d_heaps_of : ∃ f fd, DefAt K mg "heaps_of" sHeapsOf ["chain", "places"] f fd
  d_heap_of : ∃ f fd, DefAt K mg "heap_of" sHeapOf ["chain", "places"] f fd
  d_richness_at : ∃ f fd, DefAt K mg "richness_at" sRichnessAt ["chain", "degree", "places"] f fd
  d_richness_of : ∃ f fd, DefAt K mg "richness_of" sRichnessOf ["chain", "deal"] f fd
  d_richness : ∃ f fd, DefAt K mg "richness" sRichness ["chain", "deal"] f fd
  d_backward : ∃ f fd, DefAt K mg "backward" sBackward ["chain", "deal"] f fd
  d_flipped_chain : ∃ f fd, DefAt K mg "flipped_chain" sFlippedChain ["chain", "index"] f fd
  d_flipped_deal : ∃ f fd, DefAt K mg "flipped_deal" sFlippedDeal ["chain", "deal", "index"] f fd
  d_flipped : ∃ f fd, DefAt K mg "flipped" sFlipped ["chain", "deal", "index"] f fd
  d_letter_of : ∃ f fd, DefAt K mg "letter_of" sLetterOf ["ring", "place"] f fd
  d_map_values : ∃ f fd, DefAt K mg "map_values" sMapValues ["chain", "degree", "places", "first", "last"] f fd
  d_check_class_at : ∃ f fd, DefAt K mg "check_class_at" sCheckClassAt ["chain", "degree", "places"] f fd
  d_value_at : ∃ f fd, DefAt K mg "value_at" sValueAt ["chain", "degree", "places", "index"] f fd
  d_table_entry : ∃ f fd, DefAt K mg "table_entry" sTableEntry ["chain", "degree", "places", "a", "b"] f fd
  d_end_table : ∃ f fd, DefAt K mg "end_table" sEndTable ["chain", "degree", "places", "a", "b"] f fd
  d_l_dice : ∃ f fd, DefAt K mg "_law_dice" sLDice ["_law_script", "_law_at"] f fd
  d_l_roll : ∃ f fd, DefAt K mg "_law_roll" sLRoll ["_law_dice_here", "_law_total"] f fd
  d_l_one_of : ∃ f fd, DefAt K mg "_law_one_of" sLOneOf ["_law_dice_here", "_law_items"] f fd
  d_l_common : ∃ f fd, DefAt K mg "_law_common" sLCommon ["_law_one", "_law_other"] f fd
  d_l_ring : ∃ f fd, DefAt K mg "_law_ring" sLRing ["_law_dice_here", "_law_most"] f fd
  d_l_ring_of : ∃ f fd, DefAt K mg "_law_ring_of" sLRingOf ["_law_dice_here", "_law_k", "_law_times"] f fd
  d_l_chain : ∃ f fd, DefAt K mg "_law_chain" sLChain ["_law_dice_here", "_law_rings", "_law_most"] f fd
  d_l_deal : ∃ f fd, DefAt K mg "_law_deal" sLDeal ["_law_dice_here", "_law_chain_here", "_law_most"] f fd
  d_l_class : ∃ f fd, DefAt K mg "_law_class" sLClass ["_law_chain_here", "_law_deal_here"] f fd
  d_l_named : ∃ f fd, DefAt K mg "_law_named" sLNamed ["_law_chain_here", "_law_pairs"] f fd
  d_l_backward : ∃ f fd, DefAt K mg "_law_backward" sLBackward ["_law_chain_here", "_law_deal_here"] f fd
  d_l_flipped : ∃ f fd, DefAt K mg "_law_flipped" sLFlipped ["_law_chain_here", "_law_deal_here", "_law_index"] f fd
  d_l_same : ∃ f fd, DefAt K mg "_law_same" sLSame ["_law_found", "_law_due"] f fd
  d_l_backward_right : ∃ f fd, DefAt K mg "_law_backward_right" sLBackwardRight ["_law_dice_here", "_law_chain_here", "_law_deal_here"] f fd
  d_l_flipped_right : ∃ f fd, DefAt K mg "_law_flipped_right" sLFlippedRight ["_law_dice_here", "_law_chain_here", "_law_deal_here"] f fd
  d_l_right : ∃ f fd, DefAt K mg "_law_right" sLRight ["_law_dice_here"] f fd
end K1

namespace K1
open PySem PySem.Spec PyProof.Rows L2 Evl
/-! ### great powers -/
def CPowW (i j : Int) : Prop := 0 ≤ j ∧ (Builtin.Int.intBits i : Int) * j ≤ 2 ^ 27
theorem op_powW {X : Cx} : OpR X (binaryOp .Pow) (rI CPowW fun i j => .int (i ^ j.toNat)) := opI fun _ _ _ _ _ _ _ hc q => pow_int hc.1 hc.2 q
/-! ### values that are looked at -/
/-- no int -/
inductive NotInt (K : PySem.W.Frag) (H : Hp) : V → Prop where
  | bl (b : Bool) : NotInt K H (.bl b)
  | non : NotInt K H .non
  | str (x : Str) : NotInt K H (.str x)
  | lst {a : Addr} {xs : List V} (e : H a = some (.lst xs)) : NotInt K H (.ref a)
  | tup {a : Addr} {xs : List V} (e : H a = some (.tup xs)) : NotInt K H (.ref a)
  | dK {a : Addr} {kvs : List (Key × V)} (e : H a = some (.dK kvs)) : NotInt K H (.ref a)
inductive IntB (K : PySem.W.Frag) (H : Hp) : V → Bool → Prop where
  | int (i : Int) : IntB K H (.int i) (decide (-(10 ^ 60) < i) && decide (i < 10 ^ 60))
  | no {x : V} (h : NotInt K H x) : IntB K H x false
/-- between two ints -/
inductive BtwB (K : PySem.W.Frag) (H : Hp) (lo hi : Int) : V → Bool → Prop where
  | int (i : Int) : BtwB K H lo hi (.int i) ((decide (-(10 ^ 60) < i) && decide (i < 10 ^ 60)) && (decide (lo ≤ i) && decide (i ≤ hi)))
  | no {x : V} (h : NotInt K H x) : BtwB K H lo hi x false
theorem NotInt.ty {K : PySem.W.Frag} {H : Hp} {x : V} (h : NotInt K H x) : ∃ t : Value, TyX K H x t ∧ ((PySem.W.kitOne K t (.type "int") = some false) ∨ (t = .type "bool")) := by
  cases h with
  | bl b => exact ⟨_, .base (.bl b), .inr rfl⟩
  | non => exact ⟨_, .base .non, .inl (kit_ty (by decide +kernel))⟩
  | str x => exact ⟨_, .base (.str x), .inl (kit_ty (by decide +kernel))⟩
  | lst e => exact ⟨_, .base (.lst e), .inl (kit_ty (by decide +kernel))⟩
  | tup e => exact ⟨_, .base (.tup e), .inl (kit_ty (by decide +kernel))⟩
  | dK e => exact ⟨_, .base (.dK e), .inl (kit_ty (by decide +kernel))⟩
theorem NotInt.mono {K : PySem.W.Frag} {H H' : Hp} {x : V} (e : Ex H H') (h : NotInt K H x) : NotInt K H' x := by
  cases h with
  | bl b => exact .bl b
  | non => exact .non
  | str x => exact .str x
  | lst q => exact .lst (e _ _ q)
  | tup q => exact .tup (e _ _ q)
  | dK q => exact .dK (e _ _ q)
section
variable {P : Program} {w : World} {K : PySem.W.Frag} {mg : Str → Option Value} {base : Heap}
def spIsInteger (K : PySem.W.Frag) : Sp := fun vs H Q _ => ∃ x b, vs = [x] ∧ IntB K H x b ∧ ∀ H', Ex H H' → Q (.bl b) H'
theorem ok_is_integer (T : Txt K mg) {f : Addr} {fd : FuncData} (D : DefAt K mg "is_integer" sIsInteger ["value"] f fd) : FnOk P w K mg base CX0 1 f fd ["value"] (spIsInteger K) := by
  refine D.F.ok scIsInteger (fun vs H Q E h => ?_) (fun cdv A outer s H vs Q E hr h => ?_)
  · obtain ⟨x, b, rfl, _⟩ := h
    rfl
  · obtain ⟨x, b, rfl, hb, q⟩ := h
    obtain ⟨tB, vB⟩ := T.v_BOUND
    refine ⟨_, pss_one (ps_ret (pe_and (pe_callB call_isi (by rfl) T.z_isinstance (by decide +kernel) (pa_cons (pv 0) (pa_cons (pe_bltn (v := .ty "int") (by rfl) T.z_int (by decide +kernel) rfl) pa_nil)))
      (pe_and (pe_not (pe_callB call_isi (by rfl) T.z_isinstance (by decide +kernel) (pa_cons (pv 0) (pa_cons (pe_bltn (v := .ty "bool") (by rfl) T.z_bool (by decide +kernel) rfl) pa_nil))))
      (pe_one (pe_chain op_lt op_lt (pe_un un_neg (pe_glob (v := .int (10 ^ 60)) rfl vB ⟨_, rfl⟩)) (pv 0) (pe_glob (v := .int (10 ^ 60)) rfl vB ⟨_, rfl⟩)))))), ?_⟩
    cases hb with
    | int i =>
      refine ⟨.int i, rfl, .int i, .ty "int", .type "int", .type "int", true, rfl, .ty _, .base (.int i), kit_ty (by decide +kernel), true, rfl, iteT ?_⟩
      refine ⟨.int i, rfl, .int i, .ty "bool", .type "int", .type "bool", false, rfl, .ty _, .base (.int i), kit_ty (by decide +kernel), false, rfl, true, rfl, iteT ?_⟩
      refine ⟨_, rfl, .int i, rfl, _, _, rfl, rfl, _, rfl, ite2 (fun c => ?_) (fun c => ?_)⟩
      · refine ⟨_, _, rfl, rfl, ?_⟩
        have e : decide (-(10 ^ 60) < i) = true := c
        rw [e, Bool.true_and] at q
        exact q _ (Ex.refl _)
      · have e : decide (-(10 ^ 60) < i) = false := Bool.eq_false_iff.mpr c
        rw [e, Bool.false_and] at q
        exact q _ (Ex.refl _)
    | no hn =>
      obtain ⟨t, ty, h | rfl⟩ := hn.ty
      · exact ⟨x, rfl, x, .ty "int", t, .type "int", false, rfl, .ty _, ty, h, false, rfl, iteF (q _ (Ex.refl _))⟩
      · refine ⟨x, rfl, x, .ty "int", .type "bool", .type "int", true, rfl, .ty _, ty, kit_ty (by decide +kernel), true, rfl, iteT ?_⟩
        exact ⟨x, rfl, x, .ty "bool", .type "bool", .type "bool", true, rfl, .ty _, ty, kit_ty (by decide +kernel), true, rfl, false, rfl, iteF (q _ (Ex.refl _))⟩
def spIsBetween (K : PySem.W.Frag) : Sp := fun vs H Q _ => ∃ x lo hi b, vs = [x, .int lo, .int hi] ∧ BtwB K H lo hi x b ∧ ∀ H', Ex H H' → Q (.bl b) H'
theorem ok_is_between (T : Txt K mg) {f : Addr} {fd : FuncData} (D : DefAt K mg "is_between" sIsBetween ["value", "low", "high"] f fd) : FnOk P w K mg base CX0 2 f fd ["value", "low", "high"] (spIsBetween K) := by
  refine D.F.ok scIsBetween (fun vs H Q E h => ?_) (fun cdv A outer s H vs Q E hr h => ?_)
  · obtain ⟨x, lo, hi, b, rfl, _⟩ := h
    rfl
  · obtain ⟨x, lo, hi, b, rfl, hb, q⟩ := h
    obtain ⟨f1, fd1, D1⟩ := T.d_is_integer
    refine ⟨_, pss_one (ps_ret (pe_and (pe_call (ok_is_integer T D1) hr (by rfl) D1.g D1.F.kp D1.b .nil pass0 (pa_cons (pv 0) pa_nil)) (pe_one (pe_chain op_le op_le (pv 1) (pv 0) (pv 2))))), ?_⟩
    cases hb with
    | int i =>
      refine ⟨.int i, rfl, .int i, _, rfl, .int i, fun H1 e1 => ⟨_, rfl, ite2 (fun c => ?_) (fun c => ?_)⟩⟩
      · refine ⟨.int lo, rfl, .int i, rfl, _, _, rfl, rfl, _, rfl, ?_⟩
        rw [c, Bool.true_and] at q
        refine ite2 (fun c2 => ⟨.int hi, rfl, _, _, rfl, rfl, ?_⟩) (fun c2 => ?_)
        · have e : decide (lo ≤ i) = true := c2
          rw [e, Bool.true_and] at q
          exact q _ e1
        · have e : decide (lo ≤ i) = false := Bool.eq_false_iff.mpr c2
          rw [e, Bool.false_and] at q
          exact q _ e1
      · rw [Bool.eq_false_iff.mpr c, Bool.false_and] at q
        exact q _ e1
    | no hn => exact ⟨x, rfl, x, false, rfl, .no hn, fun H1 e1 => ⟨false, rfl, iteF (q _ e1)⟩⟩
end
end K1

namespace K1
open PySem PySem.Spec PyProof.Rows L2 Evl
/-! ### the dice -/
def Dice (H : Hp) (d : Addr) : Prop := ∃ l m c : Int, H d = some (.lst [.int l, .int m, .int c])
/-- all but the dice is as it was -/
def Keep (d : Addr) (H H' : Hp) : Prop := ∀ b o, b ≠ d → H b = some o → H' b = some o
theorem Keep.refl (d : Addr) (H : Hp) : Keep d H H := fun _ _ _ h => h
theorem Keep.trans {d : Addr} {H H1 H2 : Hp} (a : Keep d H H1) (b : Keep d H1 H2) : Keep d H H2 := fun x o n h => b x o n (a x o n h)
theorem Keep.ex {d : Addr} {H H' : Hp} (e : Ex H H') : Keep d H H' := fun b o _ h => e b o h
theorem Keep.dice {d : Addr} {H : Hp} {o : HO} : Keep d H (upd H d o) := fun b u n h => by
  rw [upd_ne n]
  exact h
theorem Keep.new {d p : Addr} {H : Hp} {o : HO} (h : H p = none) : Keep d H (upd H p o) := .ex (.new h)
/-- a thing that H did not know may change -/
theorem Keep.mut {d p : Addr} {H H' : Hp} {o : HO} (e : Keep d H H') (h : H p = none) : Keep d H (upd H' p o) := fun b u n q => by
  rw [upd_ne (ne_of_none q h)]
  exact e b u n q
theorem Keep.free {d p : Addr} {H H' : Hp} (e : Keep d H H') (n : p ≠ d) (h : H' p = none) : H p = none := by
  cases q : H p with
  | none => rfl
  | some o =>
    rw [e p o n q] at h
    cases h
theorem Dice.ex {d : Addr} {H H' : Hp} (e : Ex H H') (h : Dice H d) : Dice H' d := by
  obtain ⟨l, m, c, q⟩ := h
  exact ⟨l, m, c, e _ _ q⟩
theorem Dice.upd {d p : Addr} {H : Hp} {o : HO} (n : d ≠ p) (h : Dice H d) : Dice (L2.upd H p o) d := by
  obtain ⟨l, m, c, q⟩ := h
  exact ⟨l, m, c, by rw [upd_ne n]; exact q⟩
theorem Dice.ne_new {d p : Addr} {H : Hp} (h : Dice H d) (n : H p = none) : d ≠ p := by
  obtain ⟨l, m, c, q⟩ := h
  exact ne_of_none q n
theorem Dice.ne_tup {d p : Addr} {H : Hp} {xs : List V} (h : Dice H d) (n : H p = some (.tup xs)) : p ≠ d := by
  obtain ⟨l, m, c, q⟩ := h
  exact ne_of n q (by intro z; cases z)
theorem Keep.tup {d p : Addr} {H H' : Hp} {xs : List V} (e : Keep d H H') (h : Dice H d) (n : H p = some (.tup xs)) : H' p = some (.tup xs) := e _ _ (h.ne_tup n) n
theorem wide_n {n : Int} (h : 1 ≤ n) (h2 : n ≤ 10 ^ 50) {i : Int} : CDivW i n := wide_div (b := 200) (by omega) (by omega) (by decide) (by decide)
section
variable {P : Program} {w : World} {K : PySem.W.Frag} {mg : Str → Option Value} {base : Heap}
def spRoll : Sp := fun vs H Q _ => ∃ (d : Addr) (n : Int), vs = [.ref d, .int n] ∧ Dice H d ∧ 1 ≤ n ∧ n ≤ 10 ^ 50 ∧ ∀ (r : Int) H', 0 ≤ r → r < n → Dice H' d → Keep d H H' → Q (.int r) H'
theorem ok_roll (T : Txt K mg) {f : Addr} {fd : FuncData} (D : DefAt K mg "_law_roll" sLRoll ["_law_dice_here", "_law_total"] f fd) : FnOk P w K mg base CX0 1 f fd ["_law_dice_here", "_law_total"] spRoll := by
  refine D.F.ok scLRoll (fun vs H Q E h => ?_) (fun cdv A outer s H vs Q E hr h => ?_)
  · obtain ⟨d, n, rfl, _⟩ := h
    rfl
  · obtain ⟨d, n, rfl, ⟨l, m, c, hd⟩, h1, h2, q⟩ := h
    refine ⟨_, pss_cons (ps_set (i := 2) scLRoll.nd rfl (.inl rfl) (pe_callTy call_int1 (by rfl) T.z_int (by decide +kernel) (pa_cons (pv 1) pa_nil)))
      (pss_cons (ps_if (pt_cmpR op_gt (pe_ix ix_list (pv 0) pe_int (fun _ _ => rfl)) pe_int (nomark _))
        (pss_cons (ps_set (i := 3) scLRoll.nd rfl (.inl rfl) (pe_op op_mod (pe_ix ix_list (pv 0) pe_int (fun _ _ => rfl)) (pv 2)))
        (pss_cons (ps_asg (pe_op op_fdivW (pe_ix ix_list (pv 0) pe_int (fun _ _ => rfl)) (pv 2)) (pg_sub (pv 0) pe_int set_list))
        (pss_one (ps_ret (pe_callTy call_int1 (by rfl) T.z_int (by decide +kernel) (pa_cons (pv 3) pa_nil)))))) pss_nil)
      (pss_cons (ps_asg (pe_op op_add (pe_ix ix_list (pv 0) pe_int (fun _ _ => rfl)) pe_int) (pg_sub (pv 0) pe_int set_list))
      (pss_cons (ps_set (i := 4) scLRoll.nd rfl (.inl rfl) (pe_op op_mod (pe_op op_add (pe_ix ix_list (pv 0) pe_int (fun _ _ => rfl)) (pe_op op_mul pe_int (pe_ix ix_list (pv 0) pe_int (fun _ _ => rfl)))) pe_int))
      (pss_cons (ps_set (i := 5) scLRoll.nd rfl (.inl rfl) (pe_op op_add (pe_op op_mul (pe_op op_mod (pe_op op_mul (pv 4) (pv 4)) pe_int) (pv 4)) (pe_op op_mul pe_int (pe_ix ix_list (pv 0) pe_int (fun _ _ => rfl)))))
      (pss_cons (ps_set (i := 5) scLRoll.nd rfl (.inl rfl) (pe_op op_mod (pv 5) pe_int))
      (pss_one (ps_ret (pe_callTy call_int1 (by rfl) T.z_int (by decide +kernel) (pa_cons (pe_op op_mod (pe_op op_fdiv (pv 5) pe_int) (pv 2)) pa_nil))))))))), ?_⟩
    refine ⟨.int n, rfl, .inl ⟨n, rfl, ?_⟩⟩
    have S0 : SqL K H d [.int l, .int m, .int c] := SqL.of hd
    refine ⟨.ref d, rfl, d, _, 0, .int l, rfl, rfl, S0, rfl, l, 0, rfl, rfl, _, rfl, ite2 (fun cc => ?_) (fun cc => ?_)⟩
    · refine ⟨.ref d, rfl, d, _, 0, .int l, rfl, rfl, S0, rfl, .int n, rfl, l, n, rfl, rfl, by omega, ?_⟩
      refine ⟨.ref d, rfl, d, _, 0, .int l, rfl, rfl, S0, rfl, .int n, rfl, l, n, rfl, rfl, wide_n h1 h2, .ref d, rfl, d, _, 0, 0, rfl, rfl, hd, rfl, ?_⟩
      refine ⟨_, rfl, .inl ⟨l % n, rfl, ?_⟩⟩
      exact q _ _ (Int.emod_nonneg _ (by omega)) (Int.emod_lt_of_pos _ (by omega)) ⟨_, _, _, upd_same⟩ Keep.dice
    · refine ⟨.ref d, rfl, d, _, 2, .int c, rfl, rfl, S0, rfl, c, 1, rfl, rfl, .ref d, rfl, d, _, 2, 2, rfl, rfl, hd, rfl, ?_⟩
      generalize hH1 : upd H d _ = H1
      have hd1 : H1 d = some (.lst [.int l, .int m, .int (c + 1)]) := by
        rw [← hH1]
        exact upd_same
      have k1 : Keep d H H1 := by
        rw [← hH1]
        exact Keep.dice
      have S1 : SqL K H1 d [.int l, .int m, .int (c + 1)] := SqL.of hd1
      refine ⟨.ref d, rfl, d, _, 1, .int m, rfl, rfl, S1, rfl, .ref d, rfl, d, _, 2, .int (c + 1), rfl, rfl, S1, rfl, _, _, rfl, rfl, .inl (by decide), _, _, rfl, rfl, _, _, rfl, rfl, by show (0 : Int) < _; decide, ?_⟩
      refine ⟨_, rfl, _, rfl, (m + 1000409 * (c + 1)) % 2305843009213693951, (m + 1000409 * (c + 1)) % 2305843009213693951, rfl, rfl, .inl (by constructor <;> omega), _, _, rfl, rfl, by show (0 : Int) < _; decide, _, rfl, _, (m + 1000409 * (c + 1)) % 2305843009213693951, rfl, rfl, .inr (by constructor <;> omega), ?_⟩
      refine ⟨.ref d, rfl, d, _, 2, .int (c + 1), rfl, rfl, S1, rfl, _, _, rfl, rfl, .inl (by decide), _, _, rfl, rfl, ?_⟩
      refine ⟨_, rfl, _, _, rfl, rfl, by show (0 : Int) < _; decide, ?_⟩
      refine ⟨_, rfl, _, _, rfl, rfl, ⟨by decide, by decide⟩, .int n, rfl, _, n, rfl, rfl, by omega, .inl ⟨_, rfl, ?_⟩⟩
      exact q _ _ (Int.emod_nonneg _ (by omega)) (Int.emod_lt_of_pos _ (by omega)) ⟨_, _, _, hd1⟩ k1
def spOneOf (K : PySem.W.Frag) : Sp := fun vs H Q _ => ∃ (d a : Addr) (xs : List V), vs = [.ref d, .ref a] ∧ Dice H d ∧ H a = some (.lst xs) ∧ a ≠ d ∧ 1 ≤ xs.length ∧ xs.length ≤ 1000 ∧ ∀ x H', x ∈ xs → Dice H' d → Keep d H H' → Q x H'
theorem ok_one_of (T : Txt K mg) {f : Addr} {fd : FuncData} (D : DefAt K mg "_law_one_of" sLOneOf ["_law_dice_here", "_law_items"] f fd) : FnOk P w K mg base CX0 2 f fd ["_law_dice_here", "_law_items"] (spOneOf K) := by
  refine D.F.ok scLOneOf (fun vs H Q E h => ?_) (fun cdv A outer s H vs Q E hr h => ?_)
  · obtain ⟨d, a, xs, rfl, _⟩ := h
    rfl
  · obtain ⟨d, a, xs, rfl, hd, ha, nad, h1, h2, q⟩ := h
    obtain ⟨f1, fd1, D1⟩ := T.d_l_roll
    refine ⟨_, pss_one (ps_ret (pe_ix ix_list (pv 1) (pe_call (ok_roll T D1) hr (by rfl) D1.g D1.F.kp D1.b .nil pass0 (pa_cons (pv 0) (pa_cons (pe_callB call_len_seq (by rfl) T.z_len PySem.boot_len (pa_cons (pv 1) pa_nil)) pa_nil))) (fun _ _ => rfl))), ?_⟩
    refine ⟨.ref a, rfl, .ref d, rfl, .ref a, rfl, a, xs, rfl, .inl (SqL.of ha), d, _, rfl, hd, by omega, by omega, fun r H1 r0 r1 hd1 k1 => ?_⟩
    have hx : xs[r.toNat]? = some (xs[r.toNat]'(by omega)) := List.getElem?_eq_getElem _
    refine ⟨a, xs, r, _, rfl, rfl, SqL.of (k1 _ _ nad ha), ?_, q (xs[r.toNat]'(by omega)) H1 (List.getElem_mem _) hd1 k1⟩
    exact at_of (show r = ((r.toNat : Nat) : Int) by omega) hx
/-- a drawn ring -/
def RingAt (H : Hp) (most : Int) (x : V) (n s : Int) : Prop := ∃ t, x = .ref t ∧ H t = some (.tup [.int n, .int s]) ∧ 2 ≤ n ∧ n ≤ most ∧ 1 ≤ s ∧ s < n
def spRing : Sp := fun vs H Q _ => ∃ (d : Addr) (most : Int), vs = [.ref d, .int most] ∧ Dice H d ∧ 2 ≤ most ∧ most ≤ 1000 ∧ ∀ x n s H', RingAt H' most x n s → Dice H' d → Keep d H H' → Q x H'
theorem ok_ring (T : Txt K mg) {f : Addr} {fd : FuncData} (D : DefAt K mg "_law_ring" sLRing ["_law_dice_here", "_law_most"] f fd) : FnOk P w K mg base CX0 2 f fd ["_law_dice_here", "_law_most"] spRing := by
  refine D.F.ok scLRing (fun vs H Q E h => ?_) (fun cdv A outer s H vs Q E hr h => ?_)
  · obtain ⟨d, a, rfl, _⟩ := h
    rfl
  · obtain ⟨d, most, rfl, hd, h1, h2, q⟩ := h
    obtain ⟨f1, fd1, D1⟩ := T.d_l_roll
    refine ⟨_, pss_cons (ps_set (i := 2) scLRing.nd rfl (.inl rfl) (pe_op op_add pe_int (pe_call (ok_roll T D1) hr (by rfl) D1.g D1.F.kp D1.b .nil pass0 (pa_cons (pv 0) (pa_cons (pe_op op_sub (pv 1) pe_int) pa_nil)))))
      (pss_one (ps_ret (pe_tup (pa_cons (pv 2) (pa_cons (pe_op op_add pe_int (pe_call (ok_roll T D1) hr (by rfl) D1.g D1.F.kp D1.b .nil pass0 (pa_cons (pv 0) (pa_cons (pe_op op_sub (pv 2) pe_int) pa_nil)))) pa_nil))))), ?_⟩
    refine ⟨.ref d, rfl, .int most, rfl, _, _, rfl, rfl, d, _, rfl, hd, by omega, by omega, fun r H1 r0 r1 hd1 k1 => ?_⟩
    refine ⟨2, r, rfl, rfl, _, rfl, .ref d, rfl, .int (2 + r), rfl, _, _, rfl, rfl, d, _, rfl, hd1, by omega, by omega, fun r' H2 r0' r1' hd2 k2 => ?_⟩
    refine ⟨1, r', rfl, rfl, by show 2 ≤ sizeLine; decide, fun t ht => ?_⟩
    exact q _ (2 + r) (1 + r') _ ⟨t, rfl, upd_same, by omega, by omega, by omega, by omega⟩ (hd2.upd (hd2.ne_new ht)) ((k1.trans k2).trans (Keep.new ht))
end
end K1

namespace K1
open PySem PySem.Spec PyProof.Rows L2 Evl
section
variable {P : Program} {w : World} {K : PySem.W.Frag} {mg : Str → Option Value} {base : Heap}
def spDice (K : PySem.W.Frag) : Sp := fun vs H Q _ => ∃ (a : Addr) (ns : List Int) (i : Nat), vs = [.ref a, .int i] ∧ SqL K H a (ns.map V.int) ∧ ∀ p H', H p = none → Ex H H' → Dice H' p → Q (.ref p) H'
theorem ok_dice (T : Txt K mg) {f : Addr} {fd : FuncData} (D : DefAt K mg "_law_dice" sLDice ["_law_script", "_law_at"] f fd) : FnOk P w K mg base CX0 1 f fd ["_law_script", "_law_at"] (spDice K) := by
  refine D.F.ok scLDice (fun vs H Q E h => ?_) (fun cdv A outer s H vs Q E hr h => ?_)
  · obtain ⟨d, n, i, rfl, _⟩ := h
    rfl
  · obtain ⟨a, ns, i, rfl, hS, q⟩ := h
    refine ⟨_, pss_cons (ps_set (i := 2) scLDice.nd rfl (.inl rfl) (pe_op op_add (pe_op op_mul pe_int (pv 1)) pe_int))
      (pss_cut (ps_if (pt_cmpR op_lt (pv 1) (pe_callB call_len_seq (by rfl) T.z_len PySem.boot_len (pa_cons (pv 0) pa_nil)) (nomark _))
        (pss_one (ps_set (i := 2) scLDice.nd rfl (.inl rfl) (pe_ix ix_list (pv 0) (pv 1) (fun _ _ => rfl)))) pss_nil)
      (pss_cons (ps_set (i := 3) scLDice.nd rfl (.inl rfl) (pe_op op_mod (pe_callTy call_int1 (by rfl) T.z_int (by decide +kernel) (pa_cons (pe_callB call_abs (by rfl) T.z_abs (by decide +kernel) (pa_cons (pv 2) pa_nil)) pa_nil)) (pe_op op_powW (pe_op op_pow pe_int pe_int) pe_int)))
      (pss_cons (ps_set (i := 4) scLDice.nd rfl (.inl rfl) (pe_op op_fdivW (pv 3) (pe_op op_pow pe_int pe_int)))
      (pss_cons (ps_set (i := 5) scLDice.nd rfl (.inl rfl) (pe_op op_add (pe_op op_add (pe_op op_add (pe_op op_mul (pe_op op_mod (pv 3) pe_int) pe_int) (pe_op op_mul pe_int (pv 1))) (pe_op op_mul pe_int (pe_callTy call_int1 (by rfl) T.z_int (by decide +kernel) (pa_cons (pe_cmpR op_lt (pv 2) pe_int (nomark _)) pa_nil)))) pe_int))
      (pss_one (ps_ret (pe_lst (pa_cons (pv 4) (pa_cons (pe_op op_mod (pv 5) pe_int) (pa_cons pe_int pa_nil))))))))) ), ?_⟩
    refine ⟨_, rfl, _, _, rfl, rfl, .inl (by decide), _, _, rfl, rfl, ?_⟩
    refine ⟨fun σ' H' => ∃ cell : Int, σ' = [some (.ref a), some (.int i), some (.int cell), none, none, none] ∧ H' = H, ?_, ?_⟩
    · refine ⟨_, rfl, .ref a, rfl, a, _, rfl, .inl hS, _, _, rfl, rfl, _, rfl, ite2 (fun c => ?_) (fun c => ⟨_, rfl, rfl⟩)⟩
      have c' : (i : Int) < ((ns.map V.int).length : Int) := of_decide_eq_true c
      rw [List.length_map] at c'
      have hx : (ns.map V.int)[i]? = some (.int (ns[i]'(by omega))) := by
        rw [List.getElem?_map, List.getElem?_eq_getElem (by omega)]
        rfl
      exact ⟨.ref a, rfl, _, rfl, a, _, _, _, rfl, rfl, hS, atI_nat hx, _, rfl, rfl⟩
    · rintro σ' H' ⟨cell, rfl, rfl⟩
      refine ⟨_, rfl, _, rfl, .inl ⟨_, rfl, _, _, rfl, rfl, ⟨by decide, by decide, by decide⟩, _, _, rfl, rfl, ⟨by decide, by decide +kernel⟩, _, _, rfl, rfl, by show (0 : Int) < (10 ^ Int.toNat 60) ^ Int.toNat 10; decide +kernel, ?_⟩⟩
      refine ⟨_, rfl, _, _, rfl, rfl, ⟨by decide, by decide, by decide⟩, _, _, rfl, rfl, wide_div (b := 60) (by decide +kernel) (by decide +kernel) (by decide) (by decide), ?_⟩
      refine ⟨_, rfl, _, _, rfl, rfl, by show (0 : Int) < _; decide, _, _, rfl, rfl, .inr (by decide), _, rfl, _, _, rfl, rfl, .inl (by decide), _, _, rfl, rfl, _, rfl, _, _, rfl, rfl, .inr ⟨_, rfl, _, _, rfl, rfl, .inl (by decide), _, _, rfl, rfl, _, _, rfl, rfl, ?_⟩⟩
      refine ⟨_, rfl, _, rfl, _, _, rfl, rfl, by show (0 : Int) < _; decide, by show 3 ≤ sizeLine; decide, fun p hp => ?_⟩
      exact q p _ hp (Ex.new hp) ⟨_, _, _, upd_same⟩
/-- the greatest common divisor -/
def spCommon : Sp := fun vs H Q _ => ∃ (a b : Nat), vs = [.int a, .int b] ∧ ∀ H', Ex H H' → Q (.int (Nat.gcd a b : Nat)) H'
theorem ok_common (T : Txt K mg) {f : Addr} {fd : FuncData} (D : DefAt K mg "_law_common" sLCommon ["_law_one", "_law_other"] f fd) : FnOk P w K mg base CX0 1 f fd ["_law_one", "_law_other"] spCommon := by
  refine D.F.ok scLCommon (fun vs H Q E h => ?_) (fun cdv A outer s H vs Q E hr h => ?_)
  · obtain ⟨d, n, rfl, _⟩ := h
    rfl
  · obtain ⟨a, b, rfl, q⟩ := h
    refine ⟨_, pss_cons (ps_while PassesOwn.never (pt_cmpR op_ne (pv 1) pe_int (nomark _))
        (pss_one (ps_par (i := 0) (j := 1) (by rfl) scLCommon.nd rfl rfl (by decide) rfl rfl (pa_cons (pv 1) (pa_cons (pe_op op_mod (pv 0) (pv 1)) pa_nil)) (by rfl))))
      (pss_one (ps_ret (pv 0))), ?_⟩
    refine q_while (fun m σ' H' => ∃ x y : Nat, σ' = [some (.int x), some (.int y)] ∧ m = y ∧ Nat.gcd x y = Nat.gcd a b ∧ Ex H H') b ⟨a, b, rfl, rfl, rfl, Ex.refl _⟩ (fun m σ' H' hW => ?_)
    obtain ⟨x, y, rfl, rfl, hg, e1⟩ := hW
    refine ⟨_, et_test (ev_op (ev_var (v := .int (m : Int)) rfl) ev_c (rv_ne rfl)), fun hb H1 e2 => ?_, fun hb H1 e2 => ?_⟩
    · have hy : m ≠ 0 := fun z => by
        subst z
        exact absurd hb (by decide)
      have hm : (x : Int) % (m : Int) = ((x % m : Nat) : Int) := by simp
      refine ⟨fun σ2 H2 => σ2 = [some (.int m), some (.int ((x % m : Nat) : Int))] ∧ H2 = H1, fun σ2 H2 hN => ?_, ?_⟩
      · obtain ⟨rfl, rfl⟩ := hN
        refine ⟨x % m, Nat.mod_lt _ (by omega), m, x % m, rfl, rfl, ?_, e1.trans e2⟩
        rw [← hg, Nat.gcd_comm m (x % m), ← Nat.gcd_rec, Nat.gcd_comm]
      · refine ⟨_, rfl, _, rfl, _, rfl, (x : Int), (m : Int), rfl, rfl, by omega, _, _, rfl, ?_⟩
        refine ⟨?_, rfl⟩
        show [some (V.int (m : Int)), some (V.int ((x : Int) % (m : Int)))] = _
        rw [hm]
    · have hy : m = 0 := by
        by_cases z : m = 0
        · exact z
        · exfalso
          have : (!decide (V.int (m : Int) = V.int 0)) = true := by
            rw [decide_eq_false (fun q => z (by have := V.int.inj q; omega))]
            rfl
          rw [this] at hb
          cases hb
      subst hy
      refine ⟨_, rfl, ?_⟩
      rw [Nat.gcd_zero_right] at hg
      rw [hg]
      exact q _ (e1.trans e2)
/-- a drawn ring of one order -/
def spRingOf : Sp := fun vs H Q _ => ∃ (d : Addr) (k t : Int), vs = [.ref d, .int k, .int t] ∧ Dice H d ∧ 2 ≤ k ∧ k ≤ 100 ∧ 1 ≤ t ∧ t ≤ 1000 ∧ ∀ x n s H', RingAt H' (k * t) x n s → Dice H' d → Keep d H H' → Q x H'
theorem ok_ring_of (T : Txt K mg) {f : Addr} {fd : FuncData} (D : DefAt K mg "_law_ring_of" sLRingOf ["_law_dice_here", "_law_k", "_law_times"] f fd) : FnOk P w K mg base CX0 3 f fd ["_law_dice_here", "_law_k", "_law_times"] spRingOf := by
  refine D.F.ok scLRingOf (fun vs H Q E h => ?_) (fun cdv A outer s H vs Q E hr h => ?_)
  · obtain ⟨d, n, t, rfl, _⟩ := h
    rfl
  · obtain ⟨d, k, t, rfl, hd, h1, h2, h3, h4, q⟩ := h
    obtain ⟨f1, fd1, D1⟩ := T.d_l_roll
    obtain ⟨f2, fd2, D2⟩ := T.d_l_common
    obtain ⟨f3, fd3, D3⟩ := T.d_l_one_of
    have hr1 : Room 1 _ := hr.mono (by decide)
    refine ⟨_, pss_cons (ps_set (i := 3) scLRingOf.nd rfl (.inl rfl) (pe_op op_add pe_int (pe_call (ok_roll T D1) hr1 (by rfl) D1.g D1.F.kp D1.b .nil pass0 (pa_cons (pv 0) (pa_cons (pv 2) pa_nil)))))
      (pss_cons (ps_setLc (i := 4) (own := [("_law_one", 5)]) (g := gName 5) (by rfl) scLRingOf.nd rfl rfl (sw_true rfl rfl rfl (by decide +kernel)) (pi_range2 (by rfl) T.z_range (pa_cons pe_int (pa_cons (pv 1) pa_nil)))
        (blkOk_by (N := nLRingOf) (sc := defScope sLRingOf) (by decide +kernel)) (fun _ _ _ _ _ => pg_name (i := 5) scLRingOf.nd rfl (Or.inl rfl))
        (fun _ _ _ _ _ => pts_one (pt_cmpR op_eq (pe_call (ok_common T D2) hr1 (by rfl) D2.g D2.F.kp D2.b .nil pass0 (pa_cons (pv 1) (pa_cons (pv 5) pa_nil))) pe_int (nomark _))) (fun _ _ _ _ _ => pv 5))
      (pss_one (ps_ret (pe_tup (pa_cons (pe_op op_mul (pv 1) (pv 3)) (pa_cons (pe_op op_mul (pv 3) (pe_call (ok_one_of T D3) hr (by rfl) D3.g D3.F.kp D3.b .nil pass0 (pa_cons (pv 0) (pa_cons (pv 4) pa_nil)))) pa_nil)))))), ?_⟩
    refine ⟨.ref d, rfl, .int t, rfl, d, _, rfl, hd, by omega, by omega, fun r H1 r0 r1 hd1 k1 => ?_⟩
    refine ⟨1, r, rfl, rfl, .int k, rfl, 1, k, rfl, by omega, fun Dl hD => ?_⟩
    have ndl : d ≠ Dl := hd1.ne_new hD
    have hD0 : H Dl = none := k1.free ndl.symm hD
    refine lc_range (lo := 1) (n := (k - 1).toNat) (fun i H' => ∃ js : List Int, H' Dl = some (.lst (js.map V.int)) ∧ js.length ≤ i ∧ (∀ j ∈ js, 1 ≤ j ∧ j < k) ∧ (1 ≤ i → 1 ≤ js.length) ∧ Keep d H H' ∧ Dice H' d)
      ⟨[], upd_same, Nat.le_refl _, by simp, by omega, k1.trans (Keep.new hD), hd1.upd (hd1.ne_new hD)⟩ (fun i H' hi hp => ?_) (fun H' hp => ?_)
    · obtain ⟨js, a1, a2, a3, a4, a5, a6⟩ := hp
      refine ⟨rfl, .int k, rfl, .int (1 + (i : Int)), rfl, k.toNat, 1 + i, ?_, fun H2 e2 => ?_⟩
      · show [V.int k, V.int (1 + (i : Int))] = [V.int ((k.toNat : Nat) : Int), V.int (((1 + i : Nat)) : Int)]
        rw [show ((k.toNat : Nat) : Int) = k by omega, show (((1 + i : Nat)) : Int) = 1 + (i : Int) by omega]
      · refine ⟨rfl, _, rfl, ite2 (fun c => ?_) (fun c => ?_)⟩
        · refine ⟨_, rfl, js.map V.int, e2 _ _ a1, ?_, js ++ [1 + (i : Int)], ?_, ?_, ?_, ?_, ?_, ?_⟩
          · rw [List.length_map]
            exact small1000 (by omega)
          · rw [List.map_append]
            exact upd_same
          · rw [List.length_append]
            exact Nat.add_le_add_right a2 1
          · intro j hj
            rcases List.mem_append.mp hj with hj | hj
            · exact a3 j hj
            · have := List.mem_singleton.mp hj
              omega
          · intro _
            rw [List.length_append]
            exact Nat.le_add_left _ _
          · exact (a5.trans (Keep.ex e2)).mut hD0
          · exact (a6.ex e2).upd ndl
        · refine ⟨js, e2 _ _ a1, by omega, a3, fun _ => ?_, a5.trans (Keep.ex e2), a6.ex e2⟩
          by_cases z : i = 0
          · subst z
            refine absurd ?_ c
            rw [show k.toNat.gcd (1 + 0) = 1 from Nat.gcd_one_right k.toNat]
            rfl
          · exact a4 (by omega)
    · obtain ⟨js, a1, a2, a3, a4, a5, a6⟩ := hp
      have hl : 1 ≤ js.length := a4 (by omega)
      have hb : 1 ≤ 1 + r ∧ 1 + r ≤ t := by omega
      have hkm : k * (1 + r) ≤ k * t := Int.mul_le_mul_of_nonneg_left hb.2 (by omega)
      have hk2 : 2 ≤ k * (1 + r) := by
        have := Int.mul_le_mul_of_nonneg_left hb.1 (show (0 : Int) ≤ k by omega)
        omega
      refine ⟨.int k, rfl, .int (1 + r), rfl, k, 1 + r, rfl, rfl, .inl (by constructor <;> omega), .int (1 + r), rfl, .ref d, rfl, .ref Dl, rfl, d, Dl, _, rfl, a6, a1, ndl.symm, by rw [List.length_map]; exact hl, by rw [List.length_map]; omega, fun x H2 hx hd2 k2 => ?_⟩
      obtain ⟨j, hj, rfl⟩ := List.mem_map.mp hx
      obtain ⟨j1, j2⟩ := a3 j hj
      refine ⟨1 + r, j, rfl, rfl, .inl (by constructor <;> omega), by show 2 ≤ sizeLine; decide, fun p hp => ?_⟩
      have c1 : 1 ≤ (1 + r) * j := by
        have := Int.mul_le_mul_of_nonneg_left j1 (show (0 : Int) ≤ 1 + r by omega)
        omega
      have c2 : (1 + r) * j < k * (1 + r) := by
        rw [Int.mul_comm k (1 + r)]
        exact Int.mul_lt_mul_of_pos_left j2 (by omega)
      exact q _ _ _ _ ⟨p, rfl, upd_same, hk2, hkm, c1, c2⟩ (hd2.upd (hd2.ne_new hp)) ((a5.trans k2).trans (Keep.new hp))
end
end K1

namespace K1
open PySem PySem.Spec PyProof.Rows L2 Evl
/-! ### chains -/
theorem RingAt.keep {d : Addr} {H H' : Hp} {most n s : Int} {x : V} (e : Keep d H H') (h : Dice H d) (r : RingAt H most x n s) : RingAt H' most x n s := by
  obtain ⟨t, rfl, ht, q⟩ := r
  exact ⟨t, rfl, e.tup h ht, q⟩
theorem RingAt.ex {H H' : Hp} {most n s : Int} {x : V} (e : Ex H H') (r : RingAt H most x n s) : RingAt H' most x n s := by
  obtain ⟨t, rfl, ht, q⟩ := r
  exact ⟨t, rfl, e _ _ ht, q⟩
theorem RingAt.upd {H : Hp} {most n s : Int} {x : V} {p : Addr} {o : HO} (h : ∀ t, x = .ref t → t ≠ p) (r : RingAt H most x n s) : RingAt (upd H p o) most x n s := by
  obtain ⟨t, rfl, ht, q⟩ := r
  exact ⟨t, rfl, by rw [upd_ne (h t rfl)]; exact ht, q⟩
theorem RingAt.most {H : Hp} {m m' n s : Int} {x : V} (h : m ≤ m') (r : RingAt H m x n s) : RingAt H m' x n s := by
  obtain ⟨t, rfl, ht, q1, q2, q3, q4⟩ := r
  exact ⟨t, rfl, ht, q1, by omega, q3, q4⟩
/-- rings at values, one by one -/
abbrev RingsAt (H : Hp) (most : Int) (xs : List V) (rs : List (Int × Int)) : Prop := Paired (fun x (r : Int × Int) => RingAt H most x r.1 r.2) xs rs
theorem paired_snoc {α β : Type} {R : α → β → Prop} {x : α} {y : β} (h : R x y) : ∀ {xs : List α} {ys : List β}, Paired R xs ys → Paired R (xs ++ [x]) (ys ++ [y])
  | _, _, .nil => .cons h .nil
  | _, _, .cons r t => .cons r (paired_snoc h t)
theorem paired_imp {α β : Type} {R S : α → β → Prop} (h : ∀ x y, R x y → S x y) : ∀ {xs : List α} {ys : List β}, Paired R xs ys → Paired S xs ys
  | _, _, .nil => .nil
  | _, _, .cons r t => .cons (h _ _ r) (paired_imp h t)
theorem paired_append {α β : Type} {R : α → β → Prop} : ∀ {xs xs' : List α} {ys ys' : List β}, Paired R xs ys → Paired R xs' ys' → Paired R (xs ++ xs') (ys ++ ys')
  | _, _, _, _, .nil, s => s
  | _, _, _, _, .cons r t, s => .cons r (paired_append t s)
theorem paired_get {α β : Type} {R : α → β → Prop} : ∀ {xs : List α} {ys : List β} {i : Nat} {x : α}, Paired R xs ys → xs[i]? = some x → ∃ y, ys[i]? = some y ∧ R x y
  | _, _, _, _, .nil, e => by simp at e
  | _, _, 0, _, .cons r _, e => by simp at e; subst e; exact ⟨_, rfl, r⟩
  | _, _, i + 1, x, .cons _ t, e => by
    obtain ⟨u, h1, h2⟩ := paired_get (i := i) (x := x) t (by simpa using e)
    exact ⟨u, by simpa using h1, h2⟩
theorem paired_len {α β : Type} {R : α → β → Prop} {xs : List α} {ys : List β} (h : Paired R xs ys) : xs.length = ys.length := Paired.length h
section
variable {P : Program} {w : World} {K : PySem.W.Frag} {mg : Str → Option Value} {base : Heap}
def spChain : Sp := fun vs H Q _ => ∃ (d : Addr) (g most : Int), vs = [.ref d, .int g, .int most] ∧ Dice H d ∧ 1 ≤ g ∧ g ≤ 100 ∧ 2 ≤ most ∧ most ≤ 60 ∧
  ∀ p xs rs H', H' p = some (.tup xs) → RingsAt H' most xs rs → (xs.length : Int) = g → Dice H' d → Keep d H H' → Q (.ref p) H'
/-- what stands behind i rings of the list at D -/
def ChW (d Dl : Addr) (H : Hp) (most : Int) (i : Nat) (H' : Hp) : Prop := ∃ xs rs, H' Dl = some (.lst xs) ∧ RingsAt H' most xs rs ∧ xs.length = i ∧ Keep d H H' ∧ Dice H' d
theorem ChW.turn {d Dl : Addr} {H H' H2 : Hp} {most n s : Int} {x : V} {i : Nat} (W : ChW d Dl H most i H') (ndl : d ≠ Dl) (hD0 : H Dl = none) (k : Keep d H' H2) (hd : Dice H2 d) (r : RingAt H2 most x n s) (hi : i < 1000) :
    ∃ acc, H2 Dl = some (.lst acc) ∧ acc.length < sizeLine ∧ ChW d Dl H most (i + 1) (upd H2 Dl (.lst (acc ++ [x]))) := by
  obtain ⟨xs, rs, a1, a2, a3, a4, a5⟩ := W
  have e1 : H2 Dl = some (.lst xs) := k _ _ ndl.symm a1
  have nt : ∀ {y : V} {n s : Int}, RingAt H2 most y n s → RingAt (upd H2 Dl (.lst (xs ++ [x]))) most y n s := fun {y n s} q => q.upd fun t ht => by
    obtain ⟨t', rfl, ht', _⟩ := q
    cases ht
    exact ne_of ht' e1 (by intro z; cases z)
  refine ⟨xs, e1, small1000 (by omega), xs ++ [x], rs ++ [(n, s)], upd_same, paired_snoc (R := fun x (r : Int × Int) => RingAt (upd H2 Dl (.lst (xs ++ [_]))) most x r.1 r.2) (y := (n, s)) (nt r) (paired_imp (R := fun x (r : Int × Int) => RingAt H' most x r.1 r.2) (fun y r' q => nt (q.keep k a5)) a2), ?_, (a4.trans k).mut hD0, hd.upd ndl⟩
  rw [List.length_append, a3]
  rfl
theorem ok_chain (T : Txt K mg) {f : Addr} {fd : FuncData} (D : DefAt K mg "_law_chain" sLChain ["_law_dice_here", "_law_rings", "_law_most"] f fd) : FnOk P w K mg base CX0 4 f fd ["_law_dice_here", "_law_rings", "_law_most"] spChain := by
  refine D.F.ok scLChain (fun vs H Q E h => ?_) (fun cdv A outer s H vs Q E hr h => ?_)
  · obtain ⟨d, n, t, rfl, _⟩ := h
    rfl
  · obtain ⟨d, g, most, rfl, hd, h1, h2, h3, h4, q⟩ := h
    obtain ⟨f1, fd1, D1⟩ := T.d_l_roll
    obtain ⟨f2, fd2, D2⟩ := T.d_l_ring_of
    obtain ⟨f3, fd3, D3⟩ := T.d_l_ring
    have hr1 : Room 1 _ := hr.mono (by decide)
    have hr2 : Room 2 _ := hr.mono (by decide)
    refine ⟨_, pss_cons (ps_if (pt_cmpR op_eq (pe_call (ok_roll T D1) hr1 (by rfl) D1.g D1.F.kp D1.b .nil pass0 (pa_cons (pv 0) (pa_cons pe_int pa_nil))) pe_int (nomark _))
        (pss_cons (ps_set (i := 3) scLChain.nd rfl (.inr rfl) (pe_op op_add pe_int (pe_call (ok_roll T D1) hr1 (by rfl) D1.g D1.F.kp D1.b .nil pass0 (pa_cons (pv 0) (pa_cons (pe_callB (call_min2 rfl) (by rfl) T.z_min (by decide +kernel) (pa_cons pe_int (pa_cons (pe_op op_sub (pv 2) pe_int) pa_nil))) pa_nil)))))
        (pss_one (ps_ret (pe_callTy call_tuple_of (by rfl) T.z_tuple (by decide +kernel) (pa_cons (pe_lc (own := [("_law_turn", 4)]) (g := gName 4) (tt := tYes) rfl scLChain.nd (pi_range1 (by rfl) T.z_range (pa_cons (pv 1) pa_nil))
          (blkOk_by (N := nLChain) (sc := defScope sLChain) (by decide +kernel)) (fun _ _ _ _ _ => pg_name (i := 4) scLChain.nd rfl (Or.inl rfl)) (fun _ _ _ _ _ => pts_nil)
          (fun _ _ _ _ _ => pe_call (ok_ring_of T D2) hr (by rfl) D2.g D2.F.kp D2.b .nil pass0 (pa_cons (pv 0) (pa_cons (pv 3) (pa_cons (pe_op op_fdiv (pv 2) (pv 3)) pa_nil))))) pa_nil))))) pss_nil)
      (pss_one (ps_ret (pe_callTy call_tuple_of (by rfl) T.z_tuple (by decide +kernel) (pa_cons (pe_lc (own := [("_law_turn", 4)]) (g := gName 4) (tt := tYes) rfl scLChain.nd (pi_range1 (by rfl) T.z_range (pa_cons (pv 1) pa_nil))
          (blkOk_by (N := nLChain) (sc := defScope sLChain) (by decide +kernel)) (fun _ _ _ _ _ => pg_name (i := 4) scLChain.nd rfl (Or.inl rfl)) (fun _ _ _ _ _ => pts_nil)
          (fun _ _ _ _ _ => pe_call (ok_ring T D3) hr2 (by rfl) D3.g D3.F.kp D3.b .nil pass0 (pa_cons (pv 0) (pa_cons (pv 2) pa_nil)))) pa_nil)))), ?_⟩
    refine ⟨.ref d, rfl, d, 3, rfl, hd, by omega, by omega, fun r H1 r0 r1 hd1 k1 => ?_⟩
    refine ⟨rfl, _, rfl, ite2 (fun c => ?_) (fun c => ?_)⟩
    · refine ⟨.ref d, rfl, .int most, rfl, most, 1, rfl, rfl, 3, most - 1, rfl, d, _, rfl, hd1, ?_, ?_, fun r' H2 r0' r1' hd2 k2 => ?_⟩
      · split <;> omega
      · split <;> omega
      have hk : 2 + r' ≤ most ∧ 2 + r' ≤ 4 := by
        split at r1' <;> omega
      refine ⟨2, r', rfl, rfl, .int g, rfl, g, rfl, by omega, by omega, fun Dl hD => ?_⟩
      have ndl : d ≠ Dl := hd2.ne_new hD
      have k12 := k1.trans k2
      have hD0 : H Dl = none := k12.free ndl.symm hD
      refine lc_range (lo := 0) (n := g.toNat) (ChW d Dl H most) ⟨[], [], upd_same, .nil, rfl, k12.trans (Keep.new hD), hd2.upd ndl⟩ (fun i H' hi W => ?_) (fun H' W => ?_)
      · have hd' := W.choose_spec.choose_spec.2.2.2.2
        have hq : 1 ≤ most / (2 + r') := Int.le_ediv_of_mul_le (by omega) (by omega)
        have hq2 : most / (2 + r') ≤ most := Int.ediv_le_self _ (by omega)
        have hq3 : (2 + r') * (most / (2 + r')) ≤ most := Int.mul_ediv_self_le (by omega)
        refine ⟨rfl, ?_⟩
        dsimp only [tYes]
        rw [if_pos rfl]
        refine ⟨.ref d, rfl, .int (2 + r'), rfl, .int most, rfl, .int (2 + r'), rfl, most, 2 + r', rfl, rfl, ⟨by omega, by omega⟩, d, 2 + r', most / (2 + r'), rfl, hd', by omega, by omega, hq, by omega, fun x n s H3 hx hd3 k3 => ?_⟩
        exact W.turn ndl hD0 k3 hd3 (hx.most hq3) (by omega)
      · obtain ⟨xs, rs, a1, a2, a3, a4, a5⟩ := W
        refine ⟨Dl, xs, rfl, .inl ⟨SqL.of a1, fun p hp => q p xs rs _ upd_same (paired_imp (fun y r' z => RingAt.ex (.new hp) z) a2) (by omega) (a5.upd (a5.ne_new hp)) (a4.trans (Keep.new hp))⟩⟩
    · refine ⟨.int g, rfl, g, rfl, by omega, by omega, fun Dl hD => ?_⟩
      have ndl : d ≠ Dl := hd1.ne_new hD
      have hD0 : H Dl = none := k1.free ndl.symm hD
      refine lc_range (lo := 0) (n := g.toNat) (ChW d Dl H most) ⟨[], [], upd_same, .nil, rfl, k1.trans (Keep.new hD), hd1.upd ndl⟩ (fun i H' hi W => ?_) (fun H' W => ?_)
      · have hd' := W.choose_spec.choose_spec.2.2.2.2
        refine ⟨rfl, ?_⟩
        dsimp only [tYes]
        rw [if_pos rfl]
        refine ⟨.ref d, rfl, .int most, rfl, d, most, rfl, hd', by omega, by omega, fun x n s H3 hx hd3 k3 => ?_⟩
        exact W.turn ndl hD0 k3 hd3 hx (by omega)
      · obtain ⟨xs, rs, a1, a2, a3, a4, a5⟩ := W
        refine ⟨Dl, xs, rfl, .inl ⟨SqL.of a1, fun p hp => q p xs rs _ upd_same (paired_imp (fun y r' z => RingAt.ex (.new hp) z) a2) (by omega) (a5.upd (a5.ne_new hp)) (a4.trans (Keep.new hp))⟩⟩
end
end K1

namespace K1
open PySem PySem.Spec PyProof.Rows L2 Evl
/-! ### judges of rings and chains -/
/-- no tuple -/
inductive NotTup (K : PySem.W.Frag) (H : Hp) : V → Prop where
  | bl (b : Bool) : NotTup K H (.bl b)
  | non : NotTup K H .non
  | int (i : Int) : NotTup K H (.int i)
  | str (x : Str) : NotTup K H (.str x)
  | lst {a : Addr} {xs : List V} (e : H a = some (.lst xs)) : NotTup K H (.ref a)
  | dK {a : Addr} {kvs : List (Key × V)} (e : H a = some (.dK kvs)) : NotTup K H (.ref a)
theorem NotTup.ty {K : PySem.W.Frag} {H : Hp} {x : V} (h : NotTup K H x) : ∃ t : Value, TyX K H x t ∧ PySem.W.kitOne K t (.type "tuple") = some false := by
  cases h with
  | bl b => exact ⟨_, .base (.bl b), (kit_ty (by decide +kernel))⟩
  | non => exact ⟨_, .base .non, (kit_ty (by decide +kernel))⟩
  | int x => exact ⟨_, .base (.int x), (kit_ty (by decide +kernel))⟩
  | str x => exact ⟨_, .base (.str x), (kit_ty (by decide +kernel))⟩
  | lst e => exact ⟨_, .base (.lst e), (kit_ty (by decide +kernel))⟩
  | dK e => exact ⟨_, .base (.dK e), (kit_ty (by decide +kernel))⟩
theorem NotTup.mono {K : PySem.W.Frag} {H H' : Hp} {x : V} (e : Ex H H') (h : NotTup K H x) : NotTup K H' x := by
  cases h with
  | bl b => exact .bl b
  | non => exact .non
  | int x => exact .int x
  | str x => exact .str x
  | lst q => exact .lst (e _ _ q)
  | dK q => exact .dK (e _ _ q)
theorem BtwB.mono {K : PySem.W.Frag} {H H' : Hp} {lo hi : Int} {x : V} {b : Bool} (e : Ex H H') (h : BtwB K H lo hi x b) : BtwB K H' lo hi x b := by
  cases h with
  | int i => exact .int i
  | no h => exact .no (h.mono e)
theorem BtwB.yes {K : PySem.W.Frag} {H : Hp} {lo hi i : Int} (h1 : lo ≤ i) (h2 : i ≤ hi) (h3 : -(10 ^ 60) < i) (h4 : i < 10 ^ 60) : BtwB K H lo hi (.int i) true := by
  have := BtwB.int (K := K) (H := H) (lo := lo) (hi := hi) i
  rw [decide_eq_true h1, decide_eq_true h2, decide_eq_true h3, decide_eq_true h4] at this
  exact this
theorem BtwB.out {K : PySem.W.Frag} {H : Hp} {lo hi i : Int} (h1 : ¬ (lo ≤ i ∧ i ≤ hi)) : BtwB K H lo hi (.int i) false := by
  have := BtwB.int (K := K) (H := H) (lo := lo) (hi := hi) i
  have e : (decide (lo ≤ i) && decide (i ≤ hi)) = false := by
    by_cases c : lo ≤ i
    · have c2 : ¬ i ≤ hi := fun z => h1 ⟨c, z⟩
      rw [decide_eq_false c2, Bool.and_false]
    · rw [decide_eq_false c, Bool.false_and]
  rw [e, Bool.and_false] at this
  exact this
inductive PairB (K : PySem.W.Frag) (H : Hp) : V → Bool → Prop where
  | no {x : V} (h : NotTup K H x) : PairB K H x false
  | tup {a : Addr} {xs : List V} (e : H a = some (.tup xs)) : PairB K H (.ref a) (decide (xs.length = 2))
inductive RingB (K : PySem.W.Frag) (H : Hp) : V → Bool → Prop where
  | no {x : V} (h : NotTup K H x) : RingB K H x false
  | len {a : Addr} {xs : List V} (e : H a = some (.tup xs)) (h : xs.length ≠ 2) : RingB K H (.ref a) false
  | first {a : Addr} {x y : V} (e : H a = some (.tup [x, y])) (h : BtwB K H 2 60 x false) : RingB K H (.ref a) false
  | both {a : Addr} {n : Int} {y : V} {b : Bool} (e : H a = some (.tup [.int n, y])) (h1 : 2 ≤ n) (h2 : n ≤ 60) (h : BtwB K H 1 (n - 1) y b) : RingB K H (.ref a) b
theorem RingB.mono {K : PySem.W.Frag} {H H' : Hp} {x : V} {b : Bool} (e : Ex H H') (h : RingB K H x b) : RingB K H' x b := by
  cases h with
  | no h => exact .no (h.mono e)
  | len q h => exact .len (e _ _ q) h
  | first q h => exact .first (e _ _ q) (h.mono e)
  | both q h1 h2 h => exact .both (e _ _ q) h1 h2 (h.mono e)
inductive ChainB (K : PySem.W.Frag) (H : Hp) : V → Bool → Prop where
  | no {x : V} (h : NotTup K H x) : ChainB K H x false
  | len {a : Addr} {xs : List V} (e : H a = some (.tup xs)) (h : ¬ (1 ≤ xs.length ∧ xs.length ≤ 12)) : ChainB K H (.ref a) false
  | tup {a : Addr} {xs : List V} {bs : List Bool} (e : H a = some (.tup xs)) (h : 1 ≤ xs.length ∧ xs.length ≤ 12) (hb : Paired (RingB K H) xs bs) : ChainB K H (.ref a) (bs.all id)
theorem RingAt.ring {K : PySem.W.Frag} {H : Hp} {most n s : Int} {x : V} (h : RingAt H most x n s) (hm : most ≤ 60) : RingB K H x true := by
  obtain ⟨t, rfl, ht, h1, h2, h3, h4⟩ := h
  exact .both ht h1 (by omega) (.yes h3 (by omega) (by omega) (by omega))
section
variable {P : Program} {w : World} {K : PySem.W.Frag} {mg : Str → Option Value} {base : Heap}
def spIsPair (K : PySem.W.Frag) : Sp := fun vs H Q _ => ∃ x b, vs = [x] ∧ PairB K H x b ∧ ∀ H', Ex H H' → Q (.bl b) H'
theorem ok_is_pair (T : Txt K mg) {f : Addr} {fd : FuncData} (D : DefAt K mg "is_pair" sIsPair ["value"] f fd) : FnOk P w K mg base CX0 1 f fd ["value"] (spIsPair K) := by
  refine D.F.ok scIsPair (fun vs H Q E h => ?_) (fun cdv A outer s H vs Q E hr h => ?_)
  · obtain ⟨x, b, rfl, _⟩ := h
    rfl
  · obtain ⟨x, b, rfl, hb, q⟩ := h
    refine ⟨_, pss_one (ps_ret (pe_and (pe_callB call_isi (by rfl) T.z_isinstance (by decide +kernel) (pa_cons (pv 0) (pa_cons (pe_bltn (v := .ty "tuple") (by rfl) T.z_tuple (by decide +kernel) rfl) pa_nil)))
      (pe_one (pe_cmpR op_eq (pe_callB call_len (by rfl) T.z_len PySem.boot_len (pa_cons (pv 0) pa_nil)) pe_int (nomark _))))), ?_⟩
    cases hb with
    | no hn =>
      obtain ⟨t, ty, h⟩ := hn.ty
      exact ⟨x, rfl, x, .ty "tuple", t, .type "tuple", false, rfl, .ty _, ty, h, false, rfl, iteF (q _ (Ex.refl _))⟩
    | @tup a xs e =>
      refine ⟨_, rfl, .ref a, .ty "tuple", .type "tuple", .type "tuple", true, rfl, .ty _, .base (.tup e), kit_ty (by decide +kernel), true, rfl, iteT ?_⟩
      refine ⟨_, rfl, _, xs.length, rfl, .inr ⟨_, SqT.of e, rfl⟩, rfl, ?_⟩
      have e2 : decide (V.int (xs.length : Int) = V.int 2) = decide (xs.length = 2) := by
        by_cases c : xs.length = 2
        · rw [c]
          rfl
        · rw [decide_eq_false c, decide_eq_false (fun z => c (by have := V.int.inj z; omega))]
      rw [e2]
      exact q _ (Ex.refl _)
def spIsRing (K : PySem.W.Frag) : Sp := fun vs H Q _ => ∃ x b, vs = [x] ∧ RingB K H x b ∧ ∀ H', Ex H H' → Q (.bl b) H'
theorem ok_is_ring (T : Txt K mg) {f : Addr} {fd : FuncData} (D : DefAt K mg "is_ring" sIsRing ["value"] f fd) : FnOk P w K mg base CX0 3 f fd ["value"] (spIsRing K) := by
  refine D.F.ok scIsRing (fun vs H Q E h => ?_) (fun cdv A outer s H vs Q E hr h => ?_)
  · obtain ⟨x, b, rfl, _⟩ := h
    rfl
  · obtain ⟨x, b, rfl, hb, q⟩ := h
    obtain ⟨f1, fd1, D1⟩ := T.d_is_pair
    obtain ⟨f2, fd2, D2⟩ := T.d_is_between
    obtain ⟨tM, vM⟩ := T.v_PLACES
    have hr1 : Room 1 _ := hr.mono (by decide)
    refine ⟨_, pss_cons (ps_if (pt_not (pt_val (pe_call (ok_is_pair T D1) hr1 (by rfl) D1.g D1.F.kp D1.b .nil pass0 (pa_cons (pv 0) pa_nil)))) (pss_one (ps_ret pe_bl)) pss_nil)
      (pss_cons (ps_asg (pv 0) (pg_tup (by rfl) (pgs_cons (pg_name (i := 1) scIsRing.nd rfl (.inl rfl)) (pgs_cons (pg_name (i := 2) scIsRing.nd rfl (.inl rfl)) pgs_nil))))
      (pss_one (ps_ret (pe_and (pe_call (ok_is_between T D2) hr (by rfl) D2.g D2.F.kp D2.b .nil pass0 (pa_cons (pv 1) (pa_cons pe_int (pa_cons (pe_glob (v := .int 60) rfl vM ⟨_, rfl⟩) pa_nil))))
        (pe_one (pe_call (ok_is_between T D2) hr (by rfl) D2.g D2.F.kp D2.b .nil pass0 (pa_cons (pv 2) (pa_cons pe_int (pa_cons (pe_op op_sub (pv 1) pe_int) pa_nil))))))))), ?_⟩
    cases hb with
    | no h => exact ⟨x, rfl, x, false, rfl, .no h, fun H1 e1 => ⟨false, rfl, iteT (q _ e1)⟩⟩
    | @len a xs e h => exact ⟨_, rfl, .ref a, false, rfl, by have := PairB.tup (K := K) e; rw [decide_eq_false h] at this; exact this, fun H1 e1 => ⟨false, rfl, iteT (q _ e1)⟩⟩
    | @first a x y e h =>
      refine ⟨_, rfl, .ref a, true, rfl, .tup e, fun H1 e1 => ⟨true, rfl, iteF ?_⟩⟩
      refine ⟨_, rfl, a, [x, y], rfl, SqT.of (e1 _ _ e), rfl, x, [y], rfl, y, [], rfl, rfl, ?_⟩
      exact ⟨x, rfl, x, 2, 60, false, rfl, h.mono e1, fun H2 e2 => ⟨false, rfl, iteF (q _ (e1.trans e2))⟩⟩
    | @both a n y b e h1 h2 h =>
      refine ⟨_, rfl, .ref a, true, rfl, .tup e, fun H1 e1 => ⟨true, rfl, iteF ?_⟩⟩
      refine ⟨_, rfl, a, [.int n, y], rfl, SqT.of (e1 _ _ e), rfl, .int n, [y], rfl, y, [], rfl, rfl, ?_⟩
      refine ⟨.int n, rfl, .int n, 2, 60, true, rfl, .yes h1 h2 (by omega) (by omega), fun H2 e2 => ⟨true, rfl, iteT ?_⟩⟩
      exact ⟨y, rfl, .int n, rfl, n, 1, rfl, rfl, y, 1, n - 1, b, rfl, h.mono (e1.trans e2), fun H3 e3 => q _ ((e1.trans e2).trans e3)⟩
def spIsChain (K : PySem.W.Frag) : Sp := fun vs H Q _ => ∃ x b, vs = [x] ∧ ChainB K H x b ∧ ∀ H', Ex H H' → Q (.bl b) H'
theorem ok_is_chain (T : Txt K mg) {f : Addr} {fd : FuncData} (D : DefAt K mg "is_chain" sIsChain ["value"] f fd) : FnOk P w K mg base CX0 4 f fd ["value"] (spIsChain K) := by
  refine D.F.ok scIsChain (fun vs H Q E h => ?_) (fun cdv A outer s H vs Q E hr h => ?_)
  · obtain ⟨x, b, rfl, _⟩ := h
    rfl
  · obtain ⟨x, b, rfl, hb, q⟩ := h
    obtain ⟨f1, fd1, D1⟩ := T.d_is_ring
    obtain ⟨tM, vM⟩ := T.v_RINGS
    refine ⟨_, pss_cons (ps_if (PW.pt (pw_or (pt_not (pt_val (pe_callB call_isi (by rfl) T.z_isinstance (by decide +kernel) (pa_cons (pv 0) (pa_cons (pe_bltn (v := .ty "tuple") (by rfl) T.z_tuple (by decide +kernel) rfl) pa_nil)))))
        (pw_or1 (pt_not (pt_chain op_le op_le pe_int (pe_callB call_len (by rfl) T.z_len PySem.boot_len (pa_cons (pv 0) pa_nil)) (pe_glob (v := .int 12) rfl vM ⟨_, rfl⟩)))))) (pss_one (ps_ret pe_bl)) pss_nil)
      (pss_one (ps_ret (pe_callB (cr_all rfl) (by rfl) T.z_all (by decide +kernel) (pa_cons (pe_lc (own := [("ring", 1)]) (g := gName 1) (tt := tYes) rfl scIsChain.nd (pi_tup (pv 0))
          (blkOk_by (N := nIsChain) (sc := defScope sIsChain) (by decide +kernel)) (fun _ _ _ _ _ => pg_name (i := 1) scIsChain.nd rfl (Or.inl rfl)) (fun _ _ _ _ _ => pts_nil)
          (fun _ _ _ _ _ => pe_call (ok_is_ring T D1) hr (by rfl) D1.g D1.F.kp D1.b .nil pass0 (pa_cons (pv 1) pa_nil))) pa_nil)))), ?_⟩
    cases hb with
    | no hn =>
      obtain ⟨t, ty, h⟩ := hn.ty
      exact ⟨x, rfl, x, .ty "tuple", t, .type "tuple", false, rfl, .ty _, ty, h, false, rfl, iteT (iteT (q _ (Ex.refl _)))⟩
    | @len a xs e h =>
      refine ⟨_, rfl, .ref a, .ty "tuple", .type "tuple", .type "tuple", true, rfl, .ty _, .base (.tup e), kit_ty (by decide +kernel), true, rfl, iteF ?_⟩
      refine ⟨_, rfl, _, xs.length, rfl, .inr ⟨_, SqT.of e, rfl⟩, _, _, rfl, rfl, _, rfl, ite2 (fun c => ?_) (fun c => ?_)⟩
      · refine ⟨_, _, rfl, rfl, _, rfl, ?_⟩
        have c2 : ¬ ((xs.length : Int) ≤ 12) := fun z => h ⟨by have : (1 : Int) ≤ (xs.length : Int) := of_decide_eq_true c; omega, by omega⟩
        rw [decide_eq_false c2]
        exact iteT (q _ (Ex.refl _))
      · exact ⟨_, rfl, iteT (q _ (Ex.refl _))⟩
    | @tup a xs bs e h hb =>
      refine ⟨_, rfl, .ref a, .ty "tuple", .type "tuple", .type "tuple", true, rfl, .ty _, .base (.tup e), kit_ty (by decide +kernel), true, rfl, iteF ?_⟩
      refine ⟨_, rfl, _, xs.length, rfl, .inr ⟨_, SqT.of e, rfl⟩, _, _, rfl, rfl, _, rfl, ite2 (fun c => ?_) (fun c => ?_)⟩
      · refine ⟨_, _, rfl, rfl, _, rfl, ?_⟩
        rw [decide_eq_true (show (xs.length : Int) ≤ 12 by omega)]
        refine iteF ?_
        refine ⟨_, rfl, a, rfl, ⟨_, SqT.of e⟩, fun Dl hD => ?_⟩
        refine lc_tup (K := K) (a := a) (xs := xs) (fun i H' => H' Dl = some (.lst ((bs.take i).map V.bl)) ∧ Ex H H') ⟨upd_same, Ex.new hD⟩ (fun i H' _ hp => SqT.of (hp.2 _ _ e)) (fun i x H' hx hp => ?_) (fun H' hp => ?_)
        · obtain ⟨y, hy, hR⟩ := paired_get hb hx
          refine ⟨rfl, ?_⟩
          dsimp only [tYes]
          rw [if_pos rfl]
          refine ⟨x, rfl, x, y, rfl, hR.mono hp.2, fun H2 e2 => ⟨_, e2 _ _ hp.1, ?_, ?_, ?_⟩⟩
          · have := (List.getElem?_eq_some_iff.mp hx).1
            rw [List.length_map, List.length_take]
            exact small1000 (Nat.le_trans (Nat.min_le_left _ _) (by omega))
          · rw [upd_same, List.take_add_one, hy, List.map_append]
            rfl
          · exact Ex.mut (hp.2.trans e2) hD
        · refine ⟨Dl, bs, rfl, ?_, q _ hp.2⟩
          have e3 : bs.take xs.length = bs := List.take_of_length_le (by rw [paired_len hb]; exact Nat.le_refl _)
          have h1 := hp.1
          rw [e3] at h1
          exact SqL.of h1
      · exact absurd (decide_eq_true (show (1 : Int) ≤ (xs.length : Int) by omega)) c
end
end K1

namespace K1
open PySem PySem.Spec PyProof.Rows L2 Evl
/-! ### orders and diagonals -/
section
variable {P : Program} {w : World} {K : PySem.W.Frag} {mg : Str → Option Value} {base : Heap}
def spCheckInteger (K : PySem.W.Frag) : Sp := fun vs H Q _ => ∃ i : Int, vs = [.int i] ∧ -(10 ^ 60) < i ∧ i < 10 ^ 60 ∧ ∀ H', Ex H H' → Q .non H'
theorem ok_check_integer (T : Txt K mg) {f : Addr} {fd : FuncData} (D : DefAt K mg "check_integer" sCheckInteger ["value"] f fd) : FnOk P w K mg base CX0 2 f fd ["value"] (spCheckInteger K) := by
  refine D.F.ok scCheckInteger (fun vs H Q E h => ?_) (fun cdv A outer s H vs Q E hr h => ?_)
  · obtain ⟨x, rfl, _⟩ := h
    rfl
  · obtain ⟨i, rfl, h1, h2, q⟩ := h
    obtain ⟨f1, fd1, D1⟩ := T.d_is_integer
    refine ⟨_, pss_one (ps_if (pt_not (pt_val (pe_call (ok_is_integer T D1) hr (by rfl) D1.g D1.F.kp D1.b .nil pass0 (pa_cons (pv 0) pa_nil)))) pss_never pss_nil), ?_⟩
    refine ⟨_, rfl, .int i, true, rfl, ?_, fun H1 e1 => ⟨true, rfl, iteF (q _ e1)⟩⟩
    have := IntB.int (K := K) (H := H) i
    rw [decide_eq_true h1, decide_eq_true h2] at this
    exact this
def spCheckRing (K : PySem.W.Frag) : Sp := fun vs H Q _ => ∃ x, vs = [x] ∧ RingB K H x true ∧ ∀ H', Ex H H' → Q .non H'
theorem ok_check_ring (T : Txt K mg) {f : Addr} {fd : FuncData} (D : DefAt K mg "check_ring" sCheckRing ["ring"] f fd) : FnOk P w K mg base CX0 4 f fd ["ring"] (spCheckRing K) := by
  refine D.F.ok scCheckRing (fun vs H Q E h => ?_) (fun cdv A outer s H vs Q E hr h => ?_)
  · obtain ⟨x, rfl, _⟩ := h
    rfl
  · obtain ⟨x, rfl, hb, q⟩ := h
    obtain ⟨f1, fd1, D1⟩ := T.d_is_ring
    refine ⟨_, pss_one (ps_if (pt_not (pt_val (pe_call (ok_is_ring T D1) hr (by rfl) D1.g D1.F.kp D1.b .nil pass0 (pa_cons (pv 0) pa_nil)))) pss_never pss_nil), ?_⟩
    exact ⟨_, rfl, x, true, rfl, hb, fun H1 e1 => ⟨true, rfl, iteF (q _ e1)⟩⟩
def spCheckChain (K : PySem.W.Frag) : Sp := fun vs H Q _ => ∃ x, vs = [x] ∧ ChainB K H x true ∧ ∀ H', Ex H H' → Q .non H'
theorem ok_check_chain (T : Txt K mg) {f : Addr} {fd : FuncData} (D : DefAt K mg "check_chain" sCheckChain ["chain"] f fd) : FnOk P w K mg base CX0 5 f fd ["chain"] (spCheckChain K) := by
  refine D.F.ok scCheckChain (fun vs H Q E h => ?_) (fun cdv A outer s H vs Q E hr h => ?_)
  · obtain ⟨x, rfl, _⟩ := h
    rfl
  · obtain ⟨x, rfl, hb, q⟩ := h
    obtain ⟨f1, fd1, D1⟩ := T.d_is_chain
    refine ⟨_, pss_one (ps_if (pt_not (pt_val (pe_call (ok_is_chain T D1) hr (by rfl) D1.g D1.F.kp D1.b .nil pass0 (pa_cons (pv 0) pa_nil)))) pss_never pss_nil), ?_⟩
    exact ⟨_, rfl, x, true, rfl, hb, fun H1 e1 => ⟨true, rfl, iteF (q _ e1)⟩⟩
def spOrderOf : Sp := fun vs H Q _ => ∃ x n s, vs = [x] ∧ RingAt H 60 x n s ∧ ∀ H', Ex H H' → Q (.int (K1M.ord n.natAbs s.natAbs : Nat)) H'
theorem ok_order_of (T : Txt K mg) {f : Addr} {fd : FuncData} (D : DefAt K mg "order_of" sOrderOf ["ring"] f fd) : FnOk P w K mg base CX0 5 f fd ["ring"] spOrderOf := by
  refine D.F.ok scOrderOf (fun vs H Q E h => ?_) (fun cdv A outer s H vs Q E hr h => ?_)
  · obtain ⟨x, n, s, rfl, _⟩ := h
    rfl
  · obtain ⟨x, n, s, rfl, hx, q⟩ := h
    obtain ⟨f1, fd1, D1⟩ := T.d_check_ring
    refine ⟨_, pss_cons (ps_expr (pe_call (ok_check_ring T D1) hr (by rfl) D1.g D1.F.kp D1.b .nil pass0 (pa_cons (pv 0) pa_nil)))
      (pss_one (ps_ret (pe_op op_fdivN (pe_ix ix_tup (pv 0) pe_int (fun _ _ => rfl)) (pe_callBfun cr_gcd (by rfl) T.v_gcd (pa_cons (pe_ix ix_tup (pv 0) pe_int (fun _ _ => rfl)) (pa_cons (pe_ix ix_tup (pv 0) pe_int (fun _ _ => rfl)) pa_nil)))))), ?_⟩
    refine ⟨_, rfl, x, rfl, hx.ring (Int.le_refl _), fun H1 e1 => ?_⟩
    obtain ⟨t, rfl, ht, h1, h2, h3, h4⟩ := hx
    have ht1 := SqT.of (K := K) (e1 _ _ ht)
    refine ⟨_, rfl, t, _, 0, .int n, rfl, rfl, ht1, rfl, _, rfl, t, _, 0, .int n, rfl, rfl, ht1, rfl, _, rfl, t, _, 1, .int s, rfl, rfl, ht1, rfl, n, s, rfl, ?_⟩
    have hg : 0 < Nat.gcd n.natAbs s.natAbs := Nat.gcd_pos_of_pos_left _ (by omega)
    have hle : Nat.gcd n.natAbs s.natAbs ≤ n.natAbs := Nat.gcd_le_left _ (by omega)
    refine ⟨n, _, rfl, rfl, ⟨by omega, by omega⟩, ?_⟩
    have e : n.fdiv ((Nat.gcd n.natAbs s.natAbs : Nat) : Int) = ((K1M.ord n.natAbs s.natAbs : Nat) : Int) := by
      rw [Int.fdiv_eq_ediv_of_nonneg _ (by omega)]
      conv => lhs; lhs; rw [show n = ((n.natAbs : Nat) : Int) by omega]
      rfl
    show Q (V.int (n.fdiv ((Nat.gcd n.natAbs s.natAbs : Nat) : Int))) H1
    rw [e]
    exact q _ e1
def spLets : Sp := fun vs H Q _ => ∃ x n s p c, vs = [x, .int p, .int c] ∧ RingAt H 60 x n s ∧ ∀ H', Ex H H' → Q (.bl (decide ((c * s - p) % n = 0))) H'
theorem ok_lets (T : Txt K mg) {f : Addr} {fd : FuncData} (D : DefAt K mg "lets" sLets ["ring", "place", "diagonal"] f fd) : FnOk P w K mg base CX0 1 f fd ["ring", "place", "diagonal"] spLets := by
  refine D.F.ok scLets (fun vs H Q E h => ?_) (fun cdv A outer s H vs Q E hr h => ?_)
  · obtain ⟨x, n, s, p, c, rfl, _⟩ := h
    rfl
  · obtain ⟨x, n, s, p, c, rfl, hx, q⟩ := h
    refine ⟨_, pss_one (ps_ret (pe_cmpR op_eq (pe_op op_mod (pe_op op_sub (pe_op op_mul (pv 2) (pe_ix ix_tup (pv 0) pe_int (fun _ _ => rfl))) (pv 1)) (pe_ix ix_tup (pv 0) pe_int (fun _ _ => rfl))) pe_int (nomark _))), ?_⟩
    obtain ⟨t, rfl, ht, h1, h2, h3, h4⟩ := hx
    have ht1 := SqT.of (K := K) ht
    refine ⟨_, rfl, _, rfl, t, _, 1, .int s, rfl, rfl, ht1, rfl, c, s, rfl, rfl, .inr (by constructor <;> omega), _, rfl, _, _, rfl, rfl, _, rfl, t, _, 0, .int n, rfl, rfl, ht1, rfl, _, n, rfl, rfl, by omega, rfl, ?_⟩
    have e : decide (V.int ((c * s - p) % n) = V.int 0) = decide ((c * s - p) % n = 0) := by
      by_cases z : (c * s - p) % n = 0
      · rw [z]
        rfl
      · rw [decide_eq_false z, decide_eq_false (fun y => z (V.int.inj y))]
    show Q (V.bl (decide (V.int ((c * s - p) % n) = V.int 0))) H
    rw [e]
    exact q _ (Ex.refl _)
def spDoesLet : Sp := fun vs H Q _ => ∃ x n s p c, vs = [x, .int p, .int c] ∧ RingAt H 60 x n s ∧ 0 ≤ p ∧ p < n ∧ -(10 ^ 60) < c ∧ c < 10 ^ 60 ∧ ∀ H', Ex H H' → Q (.bl (decide ((c * s) % n = p))) H'
end
end K1

/-! plain mathematics of heaps: heights of columns that do not ascend -/
namespace HM
def hAt (h : List Nat) (c : Nat) : Nat := h.getD c 0
theorem hAt_lt {h : List Nat} {c : Nat} (hc : c < h.length) : h[c]? = some (hAt h c) := by
  unfold hAt
  rw [List.getD_eq_getElem?_getD, List.getElem?_eq_getElem hc]
  rfl
theorem hAt_ge {h : List Nat} {c : Nat} (hc : h.length ≤ c) : hAt h c = 0 := by
  unfold hAt
  rw [List.getD_eq_getElem?_getD, List.getElem?_eq_none hc]
  rfl
structure IsHeap (h : List Nat) : Prop where
  pos : ∀ c, c < h.length → 0 < hAt h c
  fall : ∀ c, hAt h (c + 1) ≤ hAt h c
theorem IsHeap.nil : IsHeap [] := ⟨fun c hc => absurd hc (Nat.not_lt_zero c), fun c => by rw [hAt_ge (Nat.zero_le _), hAt_ge (Nat.zero_le _)]; exact Nat.le_refl _⟩
theorem IsHeap.le {h : List Nat} (H : IsHeap h) {c : Nat} : ∀ {d : Nat}, c ≤ d → hAt h d ≤ hAt h c
  | 0, hd => by
    have : c = 0 := by omega
    rw [this]
    exact Nat.le_refl _
  | d + 1, hd => by
    by_cases e : c = d + 1
    · rw [e]
      exact Nat.le_refl _
    · exact Nat.le_trans (H.fall d) (H.le (by omega))
/-- two heaps with the same heights are one -/
theorem heap_ext {h h' : List Nat} (H : IsHeap h) (H' : IsHeap h') (e : ∀ c, hAt h c = hAt h' c) : h = h' := by
  have l : h.length = h'.length := by
    rcases Nat.lt_trichotomy h.length h'.length with q | q | q
    · have a := H'.pos _ q
      rw [← e, hAt_ge (Nat.le_refl _)] at a
      omega
    · exact q
    · have a := H.pos _ q
      rw [e, hAt_ge (Nat.le_refl _)] at a
      omega
  refine List.ext_getElem? fun c => ?_
  by_cases hc : c < h.length
  · rw [hAt_lt hc, hAt_lt (by omega), e]
  · rw [List.getElem?_eq_none (by omega), List.getElem?_eq_none (by omega)]
/-- a square can be added on top of the column -/
def opn (h : List Nat) (c : Nat) : Bool := decide (c = 0) || decide (hAt h c < hAt h (c - 1))
theorem opn_le {h : List Nat} {c : Nat} (o : opn h c = true) : c ≤ h.length := by
  unfold opn at o
  by_cases hc : c ≤ h.length
  · exact hc
  · rw [decide_eq_false (show ¬ c = 0 by omega), hAt_ge (show h.length ≤ c by omega), hAt_ge (show h.length ≤ c - 1 by omega)] at o
    exact absurd o (by decide)
theorem opn_lt {h : List Nat} {c : Nat} (o : opn h (c + 1) = true) : hAt h (c + 1) < hAt h c := by
  unfold opn at o
  rw [decide_eq_false (show ¬ c + 1 = 0 by omega), Bool.false_or] at o
  exact of_decide_eq_true o
def b2n (b : Bool) : Nat := if b = true then 1 else 0
theorem b2n_le (b : Bool) : b2n b ≤ 1 := by cases b <;> decide
def grow (h : List Nat) (g : Nat → Bool) : List Nat := (List.range h.length).map (fun c => hAt h c + b2n (g c)) ++ (if g h.length = true then [1] else [])
theorem grow_len (h : List Nat) (g : Nat → Bool) : (grow h g).length = h.length + b2n (g h.length) := by
  unfold grow b2n
  rw [List.length_append, List.length_map, List.length_range]
  split <;> rfl
theorem hAt_grow {h : List Nat} {g : Nat → Bool} (hg : ∀ c, g c = true → opn h c = true) (c : Nat) : hAt (grow h g) c = hAt h c + b2n (g c) := by
  unfold hAt
  rw [List.getD_eq_getElem?_getD, List.getD_eq_getElem?_getD]
  unfold grow
  by_cases hc : c < h.length
  · rw [List.getElem?_append_left (by rw [List.length_map, List.length_range]; exact hc), List.getElem?_map, List.getElem?_range hc, hAt_lt hc]
    rfl
  · rw [List.getElem?_append_right (by rw [List.length_map, List.length_range]; omega), List.length_map, List.length_range, List.getElem?_eq_none (show h.length ≤ c by omega)]
    by_cases e : c = h.length
    · subst e
      rw [Nat.sub_self]
      unfold b2n
      by_cases q : g h.length = true
      · rw [if_pos q, if_pos q]
        rfl
      · rw [if_neg q, if_neg q]
        rfl
    · have q : g c = false := by
        cases q : g c with
        | false => rfl
        | true => exact absurd (opn_le (hg c q)) (by omega)
      rw [q]
      have l : (if g h.length = true then [1] else []).length ≤ 1 := by split <;> decide
      rw [List.getElem?_eq_none (by omega)]
      rfl
theorem grow_heap {h : List Nat} {g : Nat → Bool} (H : IsHeap h) (hg : ∀ c, g c = true → opn h c = true) : IsHeap (grow h g) := by
  refine ⟨fun c hc => ?_, fun c => ?_⟩
  · rw [hAt_grow hg]
    rw [grow_len] at hc
    by_cases q : c < h.length
    · have := H.pos c q
      omega
    · have : c = h.length := by
        have := b2n_le (g h.length)
        omega
      subst this
      omega
  · rw [hAt_grow hg, hAt_grow hg]
    have := H.fall c
    cases q : g (c + 1) with
    | false =>
      show hAt h (c + 1) + 0 ≤ _
      omega
    | true =>
      have := opn_lt (hg _ q)
      show hAt h (c + 1) + 1 ≤ _
      omega
/-- heights and one more, 0, with some more -/
def hts (h : List Nat) (f : Nat → Nat) : List Nat := (List.range (h.length + 1)).map fun c => hAt h c + f c
theorem hts_len (h : List Nat) (f : Nat → Nat) : (hts h f).length = h.length + 1 := by
  unfold hts
  rw [List.length_map, List.length_range]
theorem hts_get {h : List Nat} {f : Nat → Nat} {c : Nat} (hc : c ≤ h.length) : (hts h f)[c]? = some (hAt h c + f c) := by
  unfold hts
  rw [List.getElem?_map, List.getElem?_range (by omega)]
  rfl
theorem hts_zero (h : List Nat) : h ++ [0] = hts h fun _ => 0 := by
  refine List.ext_getElem? fun c => ?_
  by_cases q : c < h.length
  · rw [List.getElem?_append_left q, hAt_lt q, hts_get (by omega)]
    rfl
  · by_cases e : c = h.length
    · subst e
      rw [List.getElem?_append_right (Nat.le_refl _), Nat.sub_self, hts_get (Nat.le_refl _), hAt_ge (Nat.le_refl _)]
      rfl
    · rw [List.getElem?_eq_none (by rw [List.length_append]; show h.length + 1 ≤ c; omega), List.getElem?_eq_none (by rw [hts_len]; omega)]
def cnt (cols : List Nat) (c : Nat) : Nat := (cols.filter fun d => d == c).length
theorem cnt_snoc (cols : List Nat) (d c : Nat) : cnt (cols ++ [d]) c = cnt cols c + b2n (d == c) := by
  unfold cnt
  rw [List.filter_append, List.length_append]
  cases q : (d == c) with
  | true =>
    rw [List.filter_cons, if_pos q]
    rfl
  | false =>
    rw [List.filter_cons, if_neg (by rw [q]; decide)]
    rfl
theorem hts_set {h : List Nat} {cols : List Nat} {d : Nat} (hd : d ≤ h.length) : (hts h (cnt cols)).set d (hAt h d + cnt cols d + 1) = hts h (cnt (cols ++ [d])) := by
  refine List.ext_getElem? fun c => ?_
  rw [List.getElem?_set]
  by_cases e : d = c
  · subst e
    rw [if_pos rfl, if_pos (by rw [hts_len]; omega), hts_get hd, cnt_snoc]
    show some _ = some (hAt h d + (cnt cols d + b2n (d == d)))
    rw [beq_self_eq_true]
    rfl
  · rw [if_neg e]
    by_cases q : c ≤ h.length
    · rw [hts_get q, hts_get q, cnt_snoc]
      have : (d == c) = false := by simpa using e
      rw [this]
      rfl
    · rw [List.getElem?_eq_none (by rw [hts_len]; omega), List.getElem?_eq_none (by rw [hts_len]; omega)]
theorem range_filter_cnt (n : Nat) (g : Nat → Bool) (c : Nat) : cnt ((List.range n).filter g) c = b2n (decide (c < n) && g c) := by
  induction n with
  | zero => rfl
  | succ n ih =>
    rw [List.range_succ, List.filter_append]
    have e : cnt ((List.range n).filter g ++ [n].filter g) c = cnt ((List.range n).filter g) c + cnt ([n].filter g) c := by
      unfold cnt
      rw [List.filter_append, List.length_append]
    rw [e, ih]
    by_cases q : g n = true
    · have : [n].filter g = [n] := by
        rw [List.filter_cons, if_pos q]
        rfl
      rw [this]
      unfold cnt
      by_cases z : n = c
      · subst z
        rw [List.filter_cons, if_pos (beq_self_eq_true n), decide_eq_false (Nat.lt_irrefl n), decide_eq_true (Nat.lt_succ_self n), q]
        rfl
      · rw [List.filter_cons, if_neg (show ¬ (n == c) = true by simpa using z)]
        have : decide (c < n) = decide (c < n + 1) := decide_eq_decide.mpr (by omega)
        rw [this]
        rfl
    · have : [n].filter g = [] := by
        rw [List.filter_cons, if_neg q]
        rfl
      rw [this]
      by_cases z : c = n
      · subst z
        have : g c = false := by simpa using q
        rw [this, Bool.and_false, Bool.and_false]
        rfl
      · have : decide (c < n) = decide (c < n + 1) := decide_eq_decide.mpr (by omega)
        rw [this]
        rfl
/-- what heaped makes of columns -/
theorem hts_filter {h : List Nat} (hp : ∀ c, c < h.length → 0 < hAt h c) {g : Nat → Bool} {f : Nat → Nat} (hf : ∀ c, c ≤ h.length → f c = b2n (g c)) : (hts h f).filter (fun x => decide (0 < x)) = grow h g := by
  unfold hts grow
  rw [List.range_succ, List.map_append, List.filter_append]
  have e1 : ((List.range h.length).map fun c => hAt h c + f c).filter (fun x => decide (0 < x)) = (List.range h.length).map fun c => hAt h c + b2n (g c) := by
    have e : ((List.range h.length).map fun c => hAt h c + f c) = (List.range h.length).map fun c => hAt h c + b2n (g c) := by
      refine List.map_congr_left fun c hc => ?_
      rw [hf c (Nat.le_of_lt (List.mem_range.mp hc))]
    rw [e]
    refine List.filter_eq_self.mpr fun x hx => ?_
    obtain ⟨c, hc, rfl⟩ := List.mem_map.mp hx
    have := hp c (List.mem_range.mp hc)
    exact decide_eq_true (by omega)
  rw [e1]
  congr 1
  show [hAt h h.length + f h.length].filter _ = _
  rw [hAt_ge (Nat.le_refl _), hf _ (Nat.le_refl _)]
  unfold b2n
  by_cases q : g h.length = true
  · rw [if_pos q, if_pos q]
    rfl
  · rw [if_neg q, if_neg q]
    rfl
/-- the diagonal of the square on top -/
def dg (h : List Nat) (c : Nat) : Int := (c : Int) - (hAt h c : Int)
theorem dg_lt {h : List Nat} (H : IsHeap h) {c d : Nat} (hcd : c < d) : dg h c < dg h d := by
  unfold dg
  have := H.le (Nat.le_of_lt hcd)
  omega
theorem dg_inj {h : List Nat} (H : IsHeap h) {c d : Nat} (e : dg h c = dg h d) : c = d := by
  rcases Nat.lt_trichotomy c d with q | q | q
  · have := dg_lt H q
    omega
  · exact q
  · have := dg_lt H q
    omega
theorem dg_two {h : List Nat} (H : IsHeap h) {c d : Nat} (hcd : c < d) (o : opn h d = true) : dg h c + 2 ≤ dg h d := by
  obtain ⟨e, rfl⟩ : ∃ e, d = e + 1 := ⟨d - 1, by omega⟩
  have a := opn_lt o
  have b := H.le (show c ≤ e by omega)
  unfold dg
  omega
def oc (h : List Nat) : List Nat := (List.range (h.length + 1)).filter (opn h)
theorem oc_mem {h : List Nat} {c : Nat} : c ∈ oc h ↔ opn h c = true := by
  unfold oc
  rw [List.mem_filter, List.mem_range]
  exact ⟨fun z => z.2, fun z => ⟨Nat.lt_succ_of_le (opn_le z), z⟩⟩
end HM

/-! own rules: xs[i] op= e of a list; range(n) as a value, walked later -/
namespace LX
open PySem PySem.Spec PyProof.Rows L2
section
variable {X : Cx}
/-- xs[i] by values, 0 ≤ i -/
def rGetL (K : PySem.W.Frag) : V → V → Hp → VK → Prop := fun o i H Q => ∃ (a : Addr) (ys : List V) (j : Nat) (v : V), o = .ref a ∧ i = .int (j : Int) ∧ SqL K H a ys ∧ ys[j]? = some v ∧ Q v H
theorem get_list : PGet X (rGetL X.K) := by
  intro pins s σ H o i ov iv Q I ro ri h
  obtain ⟨a, ys, j, v, rfl, rfl, hq, hv, q⟩ := h
  cases ro
  obtain ⟨t, rfl⟩ := ri
  obtain ⟨its, r, pl, hz⟩ := I.list hq
  obtain ⟨u, hu, ru⟩ := r.get hv
  have hn := line63
  have hj := (List.getElem?_eq_some_iff.mp hu).1
  have hl := r.length
  exact wpAny_getItem_list pl.isList (by omega) (by omega) (by simpa using hu) ⟨v, H, I, ru, q⟩
/-- range(n), a new range object -/
theorem cr_range1 : CallR X (.type "range") (fun vs H Q => ∃ j, vs = [V.int j] ∧ ∀ p, H p = none → Q (.ref p) (upd H p (.rng 0 j))) := by
  intro pins s σ H vs us Q I r h
  obtain ⟨j, rfl, q⟩ := h
  obtain ⟨u1, rfl, rj⟩ := vals1 r
  obtain ⟨t, rfl⟩ := rj
  have nw : ObjOk X.prog X.w (upd H s.heap.objs.size (.rng 0 j)) (s.heap.push { cls := .type "range", data := .fields #[.int 0 s.toks, .int j t, .int 1 (s.toks + 1)] }) s.heap.objs.size (.rng 0 j) := ⟨s.toks, t, s.toks + 1, Heap.get?_push_size _ rfl⟩
  exact call_range_1 ⟨.ref s.heap.objs.size, _, I.laid (t' := s.toks + 1 + 1) (fun b o e => Heap.get?_push_of_some _ e) (Nat.le_refl _) nw, rfl, q _ (I.hok.fresh (Nat.le_refl _))⟩
/-- a range object that stands, walked -/
def iRngV (te : TE) : TI := fun σ H R => te σ H fun x H1 => ∃ (p : Addr) (lo hi : Int), x = .ref p ∧ H1 p = some (.rng lo hi) ∧ (-(2 ^ 62) ≤ lo ∧ lo < 2 ^ 62 ∧ -(2 ^ 62) ≤ hi ∧ hi < 2 ^ 62) ∧ R (Itr lo (hi - lo).toNat) H1
theorem pi_rngV {tg e : Expr} {te : TE} (he : PE X e te) : PI X tg e (iRngV te) := by
  refine ⟨fun pins s σ H R I h => ?_⟩
  refine thn (he.run pins s σ H _ I h) fun u s1 ⟨x, H1, I1, r1, p, lo, hi, ex, hp, ⟨b1, b2, b3, b4⟩, q⟩ => ?_
  subst ex
  obtain rfl : u = Value.ref p := r1
  obtain ⟨t, u, v, g⟩ := (show ObjOk X.prog X.w H1 s1.heap p (.rng lo hi) from I1.hok p _ hp)
  refine wpAny_pyIter_range (s := s1) g (small_one b1 b2 b3 b4) ?_
  refine ⟨s1.heap.objs.size, [s1.heap.objs.size], _, _, H1, rfl, I1.kept (t' := s1.toks) fun b o e => Heap.get?_push_of_some _ e, turn_range _ lo (hi - lo).toNat, ?_, fun b hb => ?_, q⟩
  · have e1 : lo + ((0 : Nat) : Int) * 1 = lo := by simp
    have e2 : (((hi - lo).toNat : Nat) : Int) - ((0 : Nat) : Int) = Builtin.Range.rangeSize lo hi 1 := by
      rw [rangeSize_one]
      split <;> omega
    show IsRangeIter _ _ (lo + ((0 : Nat) : Int) * 1) ((((hi - lo).toNat : Nat) : Int) - ((0 : Nat) : Int)) 1
    rw [e1, e2]
    exact Heap.get?_push_size _ rfl
  · obtain rfl : b = s1.heap.objs.size := by simpa using hb
    exact I1.fpOk (Nat.le_refl _) (I1.hok.fresh (Nat.le_refl _))
end
end LX

namespace K1
open PySem PySem.Spec PyProof.Rows L2 Evl HM LX
/-! ### heaps -/
def hv (h : List Nat) : List V := h.map fun (n : Nat) => V.int (n : Int)
theorem hv_len (h : List Nat) : (hv h).length = h.length := List.length_map ..
theorem hv_get {h : List Nat} {c : Nat} (hc : c < h.length) : (hv h)[c]? = some (V.int (hAt h c : Int)) := by
  unfold hv
  rw [List.getElem?_map, hAt_lt hc]
  rfl
def HeapAt (H : Hp) (p : Addr) (h : List Nat) : Prop := H p = some (.tup (hv h))
/-- a heap that the package takes -/
structure Good (h : List Nat) : Prop where
  heap : IsHeap h
  len : h.length ≤ 60
  top : hAt h 0 ≤ 60
theorem Good.all {h : List Nat} (G : Good h) (c : Nat) : hAt h c ≤ 60 := Nat.le_trans (G.heap.le (Nat.zero_le c)) G.top
section
variable {P : Program} {w : World} {K : PySem.W.Frag} {mg : Str → Option Value} {base : Heap}
def spCheckBetween (K : PySem.W.Frag) : Sp := fun vs H Q _ => ∃ i lo hi : Int, vs = [.int i, .int lo, .int hi] ∧ lo ≤ i ∧ i ≤ hi ∧ -(10 ^ 60) < i ∧ i < 10 ^ 60 ∧ ∀ H', Ex H H' → Q .non H'
def spIsHeap (K : PySem.W.Frag) : Sp := fun vs H Q _ => ∃ p h, vs = [.ref p] ∧ HeapAt H p h ∧ Good h ∧ ∀ H', Ex H H' → Q (.bl true) H'
def spCheckHeap (K : PySem.W.Frag) : Sp := fun vs H Q _ => ∃ p h, vs = [.ref p] ∧ HeapAt H p h ∧ Good h ∧ ∀ H', Ex H H' → Q .non H'
def spHeightAt : Sp := fun vs H Q _ => ∃ p h, ∃ c : Nat, vs = [.ref p, .int (c : Int)] ∧ HeapAt H p h ∧ ∀ H', Ex H H' → Q (.int (hAt h c : Int)) H'
theorem ok_height_at (T : Txt K mg) {f : Addr} {fd : FuncData} (D : DefAt K mg "height_at" sHeightAt ["heap", "column"] f fd) : FnOk P w K mg base CX0 1 f fd ["heap", "column"] spHeightAt := by
  refine D.F.ok scHeightAt (fun vs H Q E h => ?_) (fun cdv A outer s H vs Q E hr h => ?_)
  · obtain ⟨p, h, c, rfl, _⟩ := h
    rfl
  · obtain ⟨p, h, c, rfl, hp, q⟩ := h
    refine ⟨_, pss_one (ps_ret (pe_ifExp (pt_cmpR op_lt (pv 1) (pe_callB call_len_seq (by rfl) T.z_len PySem.boot_len (pa_cons (pv 0) pa_nil)) (nomark _)) (pe_ix ix_tup (pv 0) (pv 1) (fun _ _ => rfl)) pe_int)), ?_⟩
    refine ⟨_, rfl, _, rfl, p, _, rfl, .inr (SqT.of hp), _, _, rfl, rfl, _, rfl, ite2 (fun cc => ?_) (fun cc => ?_)⟩
    · have hc : c < h.length := by
        have : (c : Int) < ((hv h).length : Int) := of_decide_eq_true cc
        rw [hv_len] at this
        omega
      exact ⟨_, rfl, _, rfl, p, _, _, _, rfl, rfl, SqT.of hp, atI_nat (hv_get hc), q _ (Ex.refl _)⟩
    · have hc : h.length ≤ c := by
        have : ¬ (c : Int) < ((hv h).length : Int) := fun z => cc (decide_eq_true z)
        rw [hv_len] at this
        omega
      have := hAt_ge hc
      have q2 := q _ (Ex.refl _)
      rw [this] at q2
      exact q2
/-- the list of columns -/
def spOpenColumns : Sp := fun vs H Q _ => ∃ p h, vs = [.ref p] ∧ HeapAt H p h ∧ h.length ≤ 100 ∧ ∀ a H', Ex H H' → H a = none → H' a = some (.lst (hv (oc h))) → Q (.ref a) H'
theorem oc_snoc (h : List Nat) (i : Nat) : ((List.range (i + 1)).filter (opn h)) = ((List.range i).filter (opn h)) ++ (if opn h i = true then [i] else []) := by
  rw [List.range_succ, List.filter_append]
  by_cases q : opn h i = true
  · rw [if_pos q, List.filter_cons, if_pos q]
    rfl
  · rw [if_neg q, List.filter_cons, if_neg q]
    rfl
theorem hv_snoc (l : List Nat) (c : Nat) : hv (l ++ [c]) = hv l ++ [V.int (c : Int)] := by
  unfold hv
  rw [List.map_append]
  rfl
theorem ok_open_columns (T : Txt K mg) {f : Addr} {fd : FuncData} (D : DefAt K mg "open_columns" sOpenColumns ["heap"] f fd) : FnOk P w K mg base CX0 2 f fd ["heap"] spOpenColumns := by
  refine D.F.ok scOpenColumns (fun vs H Q E h => ?_) (fun cdv A outer s H vs Q E hr h => ?_)
  · obtain ⟨p, h, rfl, _⟩ := h
    rfl
  · obtain ⟨p, h, rfl, hp, hl, q⟩ := h
    obtain ⟨f1, fd1, D1⟩ := T.d_height_at
    refine ⟨_, pss_cons (ps_set (i := 1) scOpenColumns.nd rfl (.inl rfl) (pe_callTy cr_range1 (by rfl) T.z_range (by decide +kernel) (pa_cons (pe_op op_add (pe_callB call_len_seq (by rfl) T.z_len PySem.boot_len (pa_cons (pv 0) pa_nil)) pe_int) pa_nil)))
      (pss_one (ps_ret (pe_lc (own := [("column", 2)]) (g := gName 2) rfl scOpenColumns.nd (pi_rngV (pv 1)) (blkOk_by (N := nOpenColumns) (sc := defScope sOpenColumns) (by decide +kernel)) (fun _ _ _ _ _ => pg_name (i := 2) scOpenColumns.nd rfl (Or.inl rfl))
        (fun _ _ _ _ _ => pts_one (PW.pt (pw_or (pt_cmpR op_eq (pv 2) pe_int (nomark _)) (pw_or1 (pt_cmpR op_gt (pe_ix (show IxR _ (rIxT K) from ix_tup) (pv 0) (pe_op op_sub (pv 2) pe_int) (fun _ _ => rfl)) (pe_call (ok_height_at T D1) hr (by rfl) D1.g D1.F.kp D1.b .nil pass0 (pa_cons (pv 0) (pa_cons (pv 2) pa_nil))) (nomark _))))))
        (fun _ _ _ _ _ => pv 2)))), ?_⟩
    refine ⟨_, rfl, p, _, rfl, .inr (SqT.of hp), _, _, rfl, rfl, _, rfl, fun r hr0 => ?_⟩
    have e1 := Ex.new (o := .rng 0 (((hv h).length : Int) + 1)) hr0
    have hr1 : (upd H r (.rng 0 (((hv h).length : Int) + 1))) r = some (.rng 0 (((hv h).length : Int) + 1)) := upd_same
    generalize hG : upd H r (.rng 0 (((hv h).length : Int) + 1)) = H1 at *
    have hp1 : HeapAt H1 p h := e1 _ _ hp
    refine ⟨.ref r, rfl, r, 0, _, rfl, hr1, ⟨by decide, by decide, by rw [hv_len]; omega, by rw [hv_len]; omega⟩, fun Dl hD => ?_⟩
    refine lc_range (lo := 0) (n := (((hv h).length : Int) + 1 - 0).toNat) (fun i H' => H' Dl = some (.lst (hv ((List.range i).filter (opn h)))) ∧ Ex H1 H') ⟨upd_same, Ex.new hD⟩ (fun i H' hi hW => ?_) (fun H' hW => ?_)
    · obtain ⟨w1, w2⟩ := hW
      rw [hv_len] at hi
      have hi' : i ≤ h.length := by omega
      have hp2 := w2 _ _ hp1
      have ll : (hv ((List.range i).filter (opn h))).length < sizeLine := by
        rw [hv_len]
        have := List.length_filter_le (opn h) (List.range i)
        rw [List.length_range] at this
        exact small1000 (by omega)
      have fin : ∀ H3, Ex H' H3 → opn h i = true → ∃ acc, H3 Dl = some (.lst acc) ∧ acc.length < sizeLine ∧ (upd H3 Dl (.lst (acc ++ [V.int (0 + (i : Int))]))) Dl = some (.lst (hv ((List.range (i + 1)).filter (opn h)))) ∧ Ex H1 (upd H3 Dl (.lst (acc ++ [V.int (0 + (i : Int))]))) := fun H3 e3 o => by
        refine ⟨_, e3 _ _ w1, ll, ?_, Ex.mut (w2.trans e3) hD⟩
        rw [upd_same, oc_snoc, if_pos o, hv_snoc, Int.zero_add]
      refine ⟨rfl, _, rfl, rfl, _, rfl, ite2 (fun c => ?_) (fun c => ?_)⟩
      · have c2 : i = 0 := by
          have := V.int.inj (of_decide_eq_true c)
          omega
        have o : opn h i = true := by
          unfold opn
          rw [decide_eq_true c2, Bool.true_or]
        exact ⟨_, rfl, fin H' (Ex.refl _) o⟩
      · have c2 : i ≠ 0 := fun z => c (by subst z; rfl)
        have hx : (hv h)[i - 1]? = some (V.int (hAt h (i - 1) : Int)) := hv_get (by omega)
        refine ⟨_, rfl, _, rfl, _, _, rfl, rfl, p, _, _, _, rfl, rfl, SqT.of hp2, at_of (show (0 + (i : Int)) - 1 = ((i - 1 : Nat) : Int) by omega) hx, _, rfl, _, rfl, p, h, i, by rw [Int.zero_add]; rfl, hp2, fun H3 e3 => ⟨_, _, rfl, rfl, _, rfl, ite2 (fun cc => ?_) (fun cc => ?_)⟩⟩
        · have o : opn h i = true := by
            unfold opn
            have := of_decide_eq_true cc
            rw [decide_eq_true (show hAt h i < hAt h (i - 1) by omega), Bool.or_true]
          exact ⟨_, rfl, fin H3 e3 o⟩
        · have o : ¬ opn h i = true := fun z => by
            unfold opn at z
            rw [decide_eq_false c2, Bool.false_or] at z
            have := of_decide_eq_true z
            exact cc (decide_eq_true (by omega))
          refine ⟨?_, w2.trans e3⟩
          rw [oc_snoc, if_neg o, List.append_nil]
          exact e3 _ _ w1
    · obtain ⟨w1, w2⟩ := hW
      have e : (((hv h).length : Int) + 1 - 0).toNat = h.length + 1 := by
        rw [hv_len]
        omega
      rw [e] at w1
      exact q Dl H' (e1.trans w2) (fresh_back e1 hD) w1
end
end K1

namespace K1
open PySem PySem.Spec PyProof.Rows L2 Evl HM LX
theorem hv_set {l : List Nat} {d x : Nat} : (hv l).set d (V.int (x : Int)) = hv (l.set d x) := by
  unfold hv
  rw [List.map_set]
theorem hv_at {l : List Nat} {i x : Nat} (h : l[i]? = some x) : (hv l)[i]? = some (V.int (x : Int)) := by
  unfold hv
  rw [List.getElem?_map, h]
  rfl
theorem hv_inv {l : List Nat} {i : Nat} {v : V} (h : (hv l)[i]? = some v) : ∃ x, l[i]? = some x ∧ v = V.int (x : Int) := by
  unfold hv at h
  rw [List.getElem?_map] at h
  cases e : l[i]? with
  | none =>
    rw [e] at h
    cases h
  | some x =>
    rw [e] at h
    exact ⟨x, rfl, (Option.some.inj h).symm⟩
theorem take_filter_snoc {α : Type} {l : List α} {i : Nat} {x : α} (g : α → Bool) (h : l[i]? = some x) : (l.take (i + 1)).filter g = (l.take i).filter g ++ (if g x = true then [x] else []) := by
  rw [List.take_add_one, h, List.filter_append]
  show _ ++ [x].filter g = _
  by_cases q : g x = true
  · rw [if_pos q, List.filter_cons, if_pos q]
    rfl
  · rw [if_neg q, List.filter_cons, if_neg q]
    rfl
section
variable {P : Program} {w : World} {K : PySem.W.Frag} {mg : Str → Option Value} {base : Heap}
def spHeaped : Sp := fun vs H Q _ => ∃ p a h cols, vs = [.ref p, .ref a] ∧ HeapAt H p h ∧ H a = some (.lst (hv cols)) ∧ h.length ≤ 100 ∧ (∀ c ∈ cols, c ≤ h.length) ∧
  ∀ r H', Ex H H' → HeapAt H' r ((hts h (cnt cols)).filter fun x => decide (0 < x)) → Q (.ref r) H'
theorem ok_heaped (T : Txt K mg) {f : Addr} {fd : FuncData} (D : DefAt K mg "heaped" sHeaped ["heap", "columns"] f fd) : FnOk P w K mg base CX0 1 f fd ["heap", "columns"] spHeaped := by
  refine D.F.ok scHeaped (fun vs H Q E h => ?_) (fun cdv A outer s H vs Q E hr h => ?_)
  · obtain ⟨p, a, h, cols, rfl, _⟩ := h
    rfl
  · obtain ⟨p, a, h, cols, rfl, hp, ha, hl, hc, q⟩ := h
    refine ⟨_, pss_cons (ps_set (i := 2) scHeaped.nd rfl (.inl rfl) (pe_op op_cat (pe_callTy call_list_of (by rfl) T.z_list (by decide +kernel) (pa_cons (pv 0) pa_nil)) (pe_lst (pa_cons pe_int pa_nil))))
      (pss_cons (ps_for PassesOwn.never rfl (pi_list (pv 1)) (pg_name (i := 3) scHeaped.nd rfl (.inl rfl)) (pss_one (ps_augS (pv 2) (pv 3) get_list pe_int ip_add set_list)))
      (pss_one (ps_ret (pe_callTy call_tuple_of (by rfl) T.z_tuple (by decide +kernel) (pa_cons (pe_lc (own := [("height", 4)]) (g := gName 4) rfl scHeaped.nd (pi_list (pv 2)) (blkOk_by (N := nHeaped) (sc := defScope sHeaped) (by decide +kernel)) (fun _ _ _ _ _ => pg_name (i := 4) scHeaped.nd rfl (Or.inl rfl))
        (fun _ _ _ _ _ => pts_one (pt_cmpR op_gt (pv 4) pe_int (nomark _))) (fun _ _ _ _ _ => pv 4)) pa_nil))))), ?_⟩
    refine ⟨_, rfl, p, hv h, rfl, .inr (SqT.of hp), fun l1 hl1 => ⟨by show 1 ≤ sizeLine; decide, fun l2 hl2 => ?_⟩⟩
    have e1 := Ex.new (o := .lst (hv h)) hl1
    have e2 := Ex.new (o := .lst [V.int 0]) hl2
    refine ⟨l1, l2, hv h, [V.int 0], rfl, rfl, e2 _ _ upd_same, upd_same, ?_, fun l3 hl3 => ?_⟩
    · rw [hv_len]
      exact sz_of (by show h.length + 1 ≤ _; omega)
    have e03 : Ex H (upd (upd (upd H l1 (.lst (hv h))) l2 (.lst [V.int 0])) l3 (.lst (hv h ++ [V.int 0]))) := (e1.trans e2).trans (Ex.new hl3)
    have n3 : H l3 = none := fresh_back (e1.trans e2) hl3
    have g3 : (upd (upd (upd H l1 (.lst (hv h))) l2 (.lst [V.int 0])) l3 (.lst (hv h ++ [V.int 0]))) l3 = some (.lst (hv (hts h (cnt [])))) := by
      rw [upd_same, show hts h (cnt []) = h ++ [0] from (hts_zero h).symm, hv_snoc]
      rfl
    generalize upd (upd (upd H l1 (.lst (hv h))) l2 (.lst [V.int 0])) l3 (.lst (hv h ++ [V.int 0])) = H3 at *
    refine ⟨.ref a, rfl, a, rfl, ⟨_, SqL.of (e03 _ _ ha)⟩, for_list (K := K) (a := a) (xs := hv cols) (fun i σ' H' => ∃ y, σ' = [some (.ref p), some (.ref a), some (.ref l3), y, none] ∧ H' l3 = some (.lst (hv (hts h (cnt (cols.take i))))) ∧ Ex H H') ⟨none, rfl, g3, e03⟩ (fun i σ' H' _ hW => ?_) (fun i x σ' H' hx hW => ?_) (fun σ' H' hW => ?_)⟩
    · obtain ⟨_, _, _, e⟩ := hW
      exact SqL.of (e _ _ ha)
    · obtain ⟨y, rfl, w1, w2⟩ := hW
      obtain ⟨c, hcx, rfl⟩ := hv_inv hx
      have hcl : c ≤ h.length := hc c (List.mem_of_getElem? hcx)
      have gt : (hts h (cnt (cols.take i)))[c]? = some (hAt h c + cnt (cols.take i) c) := hts_get hcl
      refine ⟨_, rfl, _, rfl, l3, _, c, _, rfl, rfl, SqL.of w1, hv_at gt, _, _, rfl, rfl, l3, _, _, c, rfl, rfl, w1, ?_, ?_⟩
      · refine ixN_nat ?_
        rw [hv_len, hts_len]
        omega
      · refine ⟨_, rfl, ?_, Ex.mut w2 n3⟩
        rw [upd_same]
        dsimp only
        rw [show ((hAt h c + cnt (cols.take i) c : Nat) : Int) + 1 = ((hAt h c + cnt (cols.take i) c + 1 : Nat) : Int) by omega, hv_set, hts_set hcl, List.take_add_one, hcx]
        rfl
    · obtain ⟨y, rfl, w1, w2⟩ := hW
      rw [hv_len, List.take_length] at w1
      refine ⟨.ref l3, rfl, l3, rfl, ⟨_, SqL.of w1⟩, fun Dl hD => ?_⟩
      refine lc_list (K := K) (a := l3) (xs := hv (hts h (cnt cols))) (fun i H2 => H2 Dl = some (.lst (hv (((hts h (cnt cols)).take i).filter fun x => decide (0 < x)))) ∧ Ex H' H2) ⟨upd_same, Ex.new hD⟩ (fun i H2 _ hp2 => SqL.of (hp2.2 _ _ w1)) (fun i x H2 hx hp2 => ?_) (fun H2 hp2 => ?_)
      · obtain ⟨v1, v2⟩ := hp2
        obtain ⟨c, hcx, rfl⟩ := hv_inv hx
        refine ⟨rfl, _, rfl, _, _, rfl, rfl, _, rfl, ite2 (fun cc => ?_) (fun cc => ?_)⟩
        · have c0 : 0 < c := by
            have := of_decide_eq_true cc
            omega
          refine ⟨_, rfl, _, v1, ?_, ?_, Ex.mut v2 hD⟩
          · rw [hv_len]
            have a1 := List.length_filter_le (fun x => decide (0 < x)) ((hts h (cnt cols)).take i)
            have a2 : ((hts h (cnt cols)).take i).length ≤ (hts h (cnt cols)).length := by
              rw [List.length_take]
              exact Nat.min_le_right _ _
            rw [hts_len] at a2
            exact small1000 (by omega)
          · rw [upd_same, take_filter_snoc _ hcx, if_pos (decide_eq_true c0), hv_snoc]
        · have c0 : ¬ 0 < c := fun z => cc (decide_eq_true (by omega))
          refine ⟨?_, v2⟩
          rw [take_filter_snoc _ hcx, if_neg (by rw [decide_eq_false c0]; decide), List.append_nil]
          exact v1
      · obtain ⟨v1, v2⟩ := hp2
        rw [hv_len, List.take_length] at v1
        exact ⟨Dl, _, rfl, .inl ⟨SqL.of v1, fun r hr => q r _ ((w2.trans v2).trans (Ex.new hr)) upd_same⟩⟩
/-- which columns a ring with a place adds to -/
def gl (h : List Nat) (n s q : Int) (c : Nat) : Bool := opn h c && decide ((dg h c * s - q) % n = 0)
theorem gl_opn {h : List Nat} {n s q : Int} (c : Nat) (z : gl h n s q c = true) : opn h c = true := by
  unfold gl at z
  exact (Bool.and_eq_true_iff.mp z).1
def spGrownBy : Sp := fun vs H Q _ => ∃ p h x n s q, vs = [.ref p, x, .int q] ∧ HeapAt H p h ∧ IsHeap h ∧ h.length ≤ 100 ∧ RingAt H 60 x n s ∧ ∀ r H', Ex H H' → HeapAt H' r (grow h (gl h n s q)) → Q (.ref r) H'
theorem ok_grown_by (T : Txt K mg) {f : Addr} {fd : FuncData} (D : DefAt K mg "grown_by" sGrownBy ["heap", "ring", "place"] f fd) : FnOk P w K mg base CX0 3 f fd ["heap", "ring", "place"] spGrownBy := by
  refine D.F.ok scGrownBy (fun vs H Q E h => ?_) (fun cdv A outer s₀ H vs Q E hr h => ?_)
  · obtain ⟨p, h, x, n, s, q, rfl, _⟩ := h
    rfl
  · obtain ⟨p, h, x, n, s, q, rfl, hp, IH, hl, hx, k⟩ := h
    obtain ⟨f1, fd1, D1⟩ := T.d_open_columns
    obtain ⟨f2, fd2, D2⟩ := T.d_heaped
    obtain ⟨f3, fd3, D3⟩ := T.d_lets
    obtain ⟨f4, fd4, D4⟩ := T.d_height_at
    have hr1 : Room 1 _ := hr.mono (by decide)
    refine ⟨_, pss_cons (ps_set (i := 3) scGrownBy.nd rfl (.inl rfl) (pe_call (ok_open_columns T D1) hr (by rfl) D1.g D1.F.kp D1.b .nil pass0 (pa_cons (pv 0) pa_nil)))
      (pss_one (ps_ret (pe_call (ok_heaped T D2) hr1 (by rfl) D2.g D2.F.kp D2.b .nil pass0 (pa_cons (pv 0) (pa_cons (pe_lc (own := [("column", 4)]) (g := gName 4) rfl scGrownBy.nd (pi_list (pv 3)) (blkOk_by (N := nGrownBy) (sc := defScope sGrownBy) (by decide +kernel)) (fun _ _ _ _ _ => pg_name (i := 4) scGrownBy.nd rfl (Or.inl rfl))
        (fun _ _ _ _ _ => pts_one (pt_val (pe_call (ok_lets T D3) hr1 (by rfl) D3.g D3.F.kp D3.b .nil pass0 (pa_cons (pv 1) (pa_cons (pv 2) (pa_cons (pe_op op_sub (pv 4) (pe_call (ok_height_at T D4) hr1 (by rfl) D4.g D4.F.kp D4.b .nil pass0 (pa_cons (pv 0) (pa_cons (pv 4) pa_nil)))) pa_nil))))))
        (fun _ _ _ _ _ => pv 4)) pa_nil))))), ?_⟩
    refine ⟨_, rfl, p, h, rfl, hp, hl, fun a H1 e1 ha0 ha => ?_⟩
    have hp1 : HeapAt H1 p h := e1 _ _ hp
    have hx1 := hx.ex e1
    let lt : Nat → Bool := fun c => decide ((dg h c * s - q) % n = 0)
    refine ⟨_, rfl, .ref a, rfl, a, rfl, ⟨_, SqL.of ha⟩, fun Dl hD => ?_⟩
    refine lc_list (K := K) (a := a) (xs := hv (oc h)) (fun i H2 => H2 Dl = some (.lst (hv (((oc h).take i).filter lt))) ∧ Ex H1 H2) ⟨upd_same, Ex.new hD⟩ (fun i H2 _ hp2 => SqL.of (hp2.2 _ _ ha)) (fun i x H2 hx2 hp2 => ?_) (fun H2 hp2 => ?_)
    · obtain ⟨v1, v2⟩ := hp2
      obtain ⟨c, hcx, rfl⟩ := hv_inv hx2
      have ol : (oc h).length ≤ 101 := by
        unfold oc
        have := List.length_filter_le (opn h) (List.range (h.length + 1))
        rw [List.length_range] at this
        omega
      refine ⟨rfl, _, rfl, _, rfl, _, rfl, _, rfl, _, rfl, p, h, c, rfl, v2 _ _ hp1, fun H3 e3 => ⟨_, _, rfl, rfl, _, n, s, q, dg h c, rfl, (hx1.ex v2).ex e3, fun H4 e4 => ⟨_, rfl, ite2 (fun cc => ?_) (fun cc => ?_)⟩⟩⟩
      · refine ⟨_, rfl, _, e4 _ _ (e3 _ _ v1), ?_, ?_, Ex.mut ((v2.trans e3).trans e4) hD⟩
        · rw [hv_len]
          have a1 := List.length_filter_le lt ((oc h).take i)
          have a2 : ((oc h).take i).length ≤ (oc h).length := by
            rw [List.length_take]
            exact Nat.min_le_right _ _
          exact small1000 (by omega)
        · rw [upd_same, take_filter_snoc lt hcx, if_pos (show lt c = true from cc), hv_snoc]
      · refine ⟨?_, (v2.trans e3).trans e4⟩
        rw [take_filter_snoc lt hcx, if_neg (show ¬ lt c = true from cc), List.append_nil]
        exact e4 _ _ (e3 _ _ v1)
    · obtain ⟨v1, v2⟩ := hp2
      rw [hv_len, List.take_length] at v1
      have ef : (oc h).filter lt = (List.range (h.length + 1)).filter (gl h n s q) := by
        unfold oc
        rw [List.filter_filter]
        refine List.filter_congr fun c _ => ?_
        unfold gl
        rw [Bool.and_comm]
      refine ⟨p, Dl, h, (oc h).filter lt, rfl, v2 _ _ hp1, v1, hl, fun c hc => opn_le (oc_mem.mp (List.mem_filter.mp hc).1), fun r H3 e3 hrr => ?_⟩
      rw [ef, hts_filter IH.pos (g := gl h n s q) (fun c hc => by rw [range_filter_cnt, decide_eq_true (show c < h.length + 1 by omega), Bool.true_and])] at hrr
      exact k r H3 ((e1.trans v2).trans e3) hrr
end
end K1

/-! own walks: comprehensions and loops over zip and enumerate of tuples, zip of lists of any lengths -/
namespace ZW
open PySem PySem.Spec PyProof.Rows L2
theorem lc_zipT {K : PySem.W.Frag} {a b : Addr} {xs ys : List V} {n : Nat} {g : TG} {tt : TT} {te : TE} {vs : List Nat} {σ : L2.St} {H1 : Hp} {D : Addr} {Qd : Hp → Prop} (hx : n ≤ xs.length) (hy : n ≤ ys.length) (hn : xs.length ≤ n ∨ ys.length ≤ n)
    (Pv : Nat → Hp → Prop) (h0 : Pv 0 (upd H1 D (.lst []))) (hq : ∀ i H, Pv i H → SqT K H a xs ∧ SqT K H b ys)
    (hs : ∀ i x y T H, i < n → xs[i]? = some x → ys[i]? = some y → Pv i H → H T = none → g (.ref T) (wipe σ vs) (upd H T (.tup [x, y])) fun σ2 H2 => wipe σ2 vs = wipe σ vs ∧ tt σ2 H2 fun c H3 =>
      if c = true then te σ2 H3 fun z H4 => ∃ acc, H4 D = some (.lst acc) ∧ acc.length < sizeLine ∧ Pv (i + 1) (upd H4 D (.lst (acc ++ [z]))) else Pv (i + 1) H3) (hd : ∀ H, Pv n H → Qd H) :
    ∃ W : Nat → Nat → Hp → Prop, (∃ m, W 0 m (upd H1 D (.lst []))) ∧ ∀ i m H, W i m H →
      ((RZ.ItzT K a b).stop i H ∧ Qd H) ∨ ((RZ.ItzT K a b).go i H ∧ ∃ Nx : Hp → Prop, (∀ H', Nx H' → ∃ m', m' < m ∧ W (i + 1) m' H') ∧ ∀ v H', (RZ.ItzT K a b).yld i H v H' → g v (wipe σ vs) H' fun σ2 H2 => wipe σ2 vs = wipe σ vs ∧ tt σ2 H2 fun c H3 =>
        if c = true then te σ2 H3 fun z H4 => ∃ acc, H4 D = some (.lst acc) ∧ acc.length < sizeLine ∧ Nx (upd H4 D (.lst (acc ++ [z]))) else Nx H3) := by
  refine ⟨fun i m H => m = n - i ∧ i ≤ n ∧ Pv i H, ⟨n, (Nat.sub_zero n).symm, Nat.zero_le _, h0⟩, ?_⟩
  rintro i m H ⟨rfl, hi, p⟩
  obtain ⟨qa, qb⟩ := hq i H p
  by_cases hlt : i < n
  · have e1 : xs[i]? = some (xs[i]'(by omega)) := List.getElem?_eq_getElem _
    have e2 : ys[i]? = some (ys[i]'(by omega)) := List.getElem?_eq_getElem _
    refine .inr ⟨⟨xs, ys, _, _, qa, qb, e1, e2⟩, Pv (i + 1), fun H' p' => ⟨n - (i + 1), by omega, rfl, hlt, p'⟩, fun v H' hy' => ?_⟩
    obtain ⟨T, x, y, rfl, nT, rfl, fx, fy⟩ := hy'
    exact hs i x y T H hlt (fx _ qa) (fy _ qb) p nT
  · have e : i = n := by omega
    subst e
    exact .inl ⟨⟨xs, ys, qa, qb, by omega⟩, hd H p⟩
theorem for_zipT {K : PySem.W.Frag} {a b : Addr} {xs ys : List V} {n : Nat} {g : TG} {tb : TS} {D : Ends} {σ : L2.St} {H : Hp} (hx : n ≤ xs.length) (hy : n ≤ ys.length) (hn : xs.length ≤ n ∨ ys.length ≤ n)
    (Pv : Nat → L2.St → Hp → Prop) (h0 : Pv 0 σ H) (hq : ∀ i σ H, Pv i σ H → SqT K H a xs ∧ SqT K H b ys)
    (hs : ∀ i x y T σ H, i < n → xs[i]? = some x → ys[i]? = some y → Pv i σ H → H T = none → g (.ref T) σ (upd H T (.tup [x, y])) fun σ2 H2 => tb { D with nx := Pv (i + 1), ct := Pv (i + 1), bk := D.nx } σ2 H2) (hd : ∀ σ H, Pv n σ H → D.nx σ H) :
    ∃ W : Nat → Nat → L2.St → Hp → Prop, (∃ m, W 0 m σ H) ∧ ∀ i m σ H, W i m σ H →
      ((RZ.ItzT K a b).stop i H ∧ D.nx σ H) ∨ ((RZ.ItzT K a b).go i H ∧ ∃ N : L2.St → Hp → Prop, (∀ σ' H', N σ' H' → ∃ m', m' < m ∧ W (i + 1) m' σ' H') ∧ ∀ v H', (RZ.ItzT K a b).yld i H v H' → g v σ H' fun σ2 H2 => tb { D with nx := N, ct := N, bk := D.nx } σ2 H2) := by
  refine ⟨fun i m σ H => m = n - i ∧ i ≤ n ∧ Pv i σ H, ⟨n, (Nat.sub_zero n).symm, Nat.zero_le _, h0⟩, ?_⟩
  rintro i m σ H ⟨rfl, hi, p⟩
  obtain ⟨qa, qb⟩ := hq i σ H p
  by_cases hlt : i < n
  · have e1 : xs[i]? = some (xs[i]'(by omega)) := List.getElem?_eq_getElem _
    have e2 : ys[i]? = some (ys[i]'(by omega)) := List.getElem?_eq_getElem _
    refine .inr ⟨⟨xs, ys, _, _, qa, qb, e1, e2⟩, Pv (i + 1), fun σ' H' p' => ⟨n - (i + 1), by omega, rfl, hlt, p'⟩, fun v H' hy' => ?_⟩
    obtain ⟨T, x, y, rfl, nT, rfl, fx, fy⟩ := hy'
    exact hs i x y T σ H hlt (fx _ qa) (fy _ qb) p nT
  · have e : i = n := by omega
    subst e
    exact .inl ⟨⟨xs, ys, qa, qb, by omega⟩, hd σ H p⟩
theorem lc_zipL {K : PySem.W.Frag} {a b : Addr} {xs ys : List V} {n : Nat} {g : TG} {tt : TT} {te : TE} {vs : List Nat} {σ : L2.St} {H1 : Hp} {D : Addr} {Qd : Hp → Prop} (hx : n ≤ xs.length) (hy : n ≤ ys.length) (hn : xs.length ≤ n ∨ ys.length ≤ n)
    (Pv : Nat → Hp → Prop) (h0 : Pv 0 (upd H1 D (.lst []))) (hq : ∀ i H, Pv i H → SqL K H a xs ∧ SqL K H b ys)
    (hs : ∀ i x y T H, i < n → xs[i]? = some x → ys[i]? = some y → Pv i H → H T = none → g (.ref T) (wipe σ vs) (upd H T (.tup [x, y])) fun σ2 H2 => wipe σ2 vs = wipe σ vs ∧ tt σ2 H2 fun c H3 =>
      if c = true then te σ2 H3 fun z H4 => ∃ acc, H4 D = some (.lst acc) ∧ acc.length < sizeLine ∧ Pv (i + 1) (upd H4 D (.lst (acc ++ [z]))) else Pv (i + 1) H3) (hd : ∀ H, Pv n H → Qd H) :
    ∃ W : Nat → Nat → Hp → Prop, (∃ m, W 0 m (upd H1 D (.lst []))) ∧ ∀ i m H, W i m H →
      ((Itz K a b).stop i H ∧ Qd H) ∨ ((Itz K a b).go i H ∧ ∃ Nx : Hp → Prop, (∀ H', Nx H' → ∃ m', m' < m ∧ W (i + 1) m' H') ∧ ∀ v H', (Itz K a b).yld i H v H' → g v (wipe σ vs) H' fun σ2 H2 => wipe σ2 vs = wipe σ vs ∧ tt σ2 H2 fun c H3 =>
        if c = true then te σ2 H3 fun z H4 => ∃ acc, H4 D = some (.lst acc) ∧ acc.length < sizeLine ∧ Nx (upd H4 D (.lst (acc ++ [z]))) else Nx H3) := by
  refine ⟨fun i m H => m = n - i ∧ i ≤ n ∧ Pv i H, ⟨n, (Nat.sub_zero n).symm, Nat.zero_le _, h0⟩, ?_⟩
  rintro i m H ⟨rfl, hi, p⟩
  obtain ⟨qa, qb⟩ := hq i H p
  by_cases hlt : i < n
  · have e1 : xs[i]? = some (xs[i]'(by omega)) := List.getElem?_eq_getElem _
    have e2 : ys[i]? = some (ys[i]'(by omega)) := List.getElem?_eq_getElem _
    refine .inr ⟨⟨xs, ys, _, _, qa, qb, e1, e2⟩, Pv (i + 1), fun H' p' => ⟨n - (i + 1), by omega, rfl, hlt, p'⟩, fun v H' hy' => ?_⟩
    obtain ⟨T, x, y, rfl, nT, rfl, fx, fy⟩ := hy'
    exact hs i x y T H hlt (fx _ qa) (fy _ qb) p nT
  · have e : i = n := by omega
    subst e
    exact .inl ⟨⟨xs, ys, qa, qb, by omega⟩, hd H p⟩
theorem for_zipL {K : PySem.W.Frag} {a b : Addr} {xs ys : List V} {n : Nat} {g : TG} {tb : TS} {D : Ends} {σ : L2.St} {H : Hp} (hx : n ≤ xs.length) (hy : n ≤ ys.length) (hn : xs.length ≤ n ∨ ys.length ≤ n)
    (Pv : Nat → L2.St → Hp → Prop) (h0 : Pv 0 σ H) (hq : ∀ i σ H, Pv i σ H → SqL K H a xs ∧ SqL K H b ys)
    (hs : ∀ i x y T σ H, i < n → xs[i]? = some x → ys[i]? = some y → Pv i σ H → H T = none → g (.ref T) σ (upd H T (.tup [x, y])) fun σ2 H2 => tb { D with nx := Pv (i + 1), ct := Pv (i + 1), bk := D.nx } σ2 H2) (hd : ∀ σ H, Pv n σ H → D.nx σ H) :
    ∃ W : Nat → Nat → L2.St → Hp → Prop, (∃ m, W 0 m σ H) ∧ ∀ i m σ H, W i m σ H →
      ((Itz K a b).stop i H ∧ D.nx σ H) ∨ ((Itz K a b).go i H ∧ ∃ N : L2.St → Hp → Prop, (∀ σ' H', N σ' H' → ∃ m', m' < m ∧ W (i + 1) m' σ' H') ∧ ∀ v H', (Itz K a b).yld i H v H' → g v σ H' fun σ2 H2 => tb { D with nx := N, ct := N, bk := D.nx } σ2 H2) := by
  refine ⟨fun i m σ H => m = n - i ∧ i ≤ n ∧ Pv i σ H, ⟨n, (Nat.sub_zero n).symm, Nat.zero_le _, h0⟩, ?_⟩
  rintro i m σ H ⟨rfl, hi, p⟩
  obtain ⟨qa, qb⟩ := hq i σ H p
  by_cases hlt : i < n
  · have e1 : xs[i]? = some (xs[i]'(by omega)) := List.getElem?_eq_getElem _
    have e2 : ys[i]? = some (ys[i]'(by omega)) := List.getElem?_eq_getElem _
    refine .inr ⟨⟨xs, ys, _, _, qa, qb, e1, e2⟩, Pv (i + 1), fun σ' H' p' => ⟨n - (i + 1), by omega, rfl, hlt, p'⟩, fun v H' hy' => ?_⟩
    obtain ⟨T, x, y, rfl, nT, rfl, fx, fy⟩ := hy'
    exact hs i x y T σ H hlt (fx _ qa) (fy _ qb) p nT
  · have e : i = n := by omega
    subst e
    exact .inl ⟨⟨xs, ys, qa, qb, by omega⟩, hd σ H p⟩
theorem for_enumT {K : PySem.W.Frag} {a : Addr} {xs : List V} {g : TG} {tb : TS} {D : Ends} {σ : L2.St} {H : Hp} (Pv : Nat → L2.St → Hp → Prop) (h0 : Pv 0 σ H) (hq : ∀ i σ H, Pv i σ H → SqT K H a xs)
    (hs : ∀ i x T σ H, xs[i]? = some x → Pv i σ H → H T = none → g (.ref T) σ (upd H T (.tup [.int (i : Nat), x])) fun σ2 H2 => tb { D with nx := Pv (i + 1), ct := Pv (i + 1), bk := D.nx } σ2 H2) (hd : ∀ σ H, Pv xs.length σ H → D.nx σ H) :
    ∃ W : Nat → Nat → L2.St → Hp → Prop, (∃ m, W 0 m σ H) ∧ ∀ i m σ H, W i m σ H →
      ((EnT.IteT K a).stop i H ∧ D.nx σ H) ∨ ((EnT.IteT K a).go i H ∧ ∃ N : L2.St → Hp → Prop, (∀ σ' H', N σ' H' → ∃ m', m' < m ∧ W (i + 1) m' σ' H') ∧ ∀ v H', (EnT.IteT K a).yld i H v H' → g v σ H' fun σ2 H2 => tb { D with nx := N, ct := N, bk := D.nx } σ2 H2) := by
  refine ⟨fun i m σ H => m = xs.length - i ∧ i ≤ xs.length ∧ Pv i σ H, ⟨xs.length, (Nat.sub_zero _).symm, Nat.zero_le _, h0⟩, ?_⟩
  rintro i m σ H ⟨rfl, hi, p⟩
  have qa := hq i σ H p
  by_cases hlt : i < xs.length
  · have e1 : xs[i]? = some (xs[i]'hlt) := List.getElem?_eq_getElem _
    refine .inr ⟨⟨xs, _, qa, e1⟩, Pv (i + 1), fun σ' H' p' => ⟨xs.length - (i + 1), by omega, rfl, hlt, p'⟩, fun v H' hy' => ?_⟩
    obtain ⟨T, x, rfl, nT, rfl, fx⟩ := hy'
    exact hs i x T σ H (fx _ qa) p nT
  · have e : i = xs.length := by omega
    subst e
    exact .inl ⟨⟨xs, qa, rfl⟩, hd σ H p⟩
theorem lc_enumT {K : PySem.W.Frag} {a : Addr} {xs : List V} {g : TG} {tt : TT} {te : TE} {vs : List Nat} {σ : L2.St} {H1 : Hp} {D : Addr} {Qd : Hp → Prop} (Pv : Nat → Hp → Prop) (h0 : Pv 0 (upd H1 D (.lst []))) (hq : ∀ i H, Pv i H → SqT K H a xs)
    (hs : ∀ i x T H, xs[i]? = some x → Pv i H → H T = none → g (.ref T) (wipe σ vs) (upd H T (.tup [.int (i : Nat), x])) fun σ2 H2 => wipe σ2 vs = wipe σ vs ∧ tt σ2 H2 fun c H3 =>
      if c = true then te σ2 H3 fun z H4 => ∃ acc, H4 D = some (.lst acc) ∧ acc.length < sizeLine ∧ Pv (i + 1) (upd H4 D (.lst (acc ++ [z]))) else Pv (i + 1) H3) (hd : ∀ H, Pv xs.length H → Qd H) :
    ∃ W : Nat → Nat → Hp → Prop, (∃ m, W 0 m (upd H1 D (.lst []))) ∧ ∀ i m H, W i m H →
      ((EnT.IteT K a).stop i H ∧ Qd H) ∨ ((EnT.IteT K a).go i H ∧ ∃ Nx : Hp → Prop, (∀ H', Nx H' → ∃ m', m' < m ∧ W (i + 1) m' H') ∧ ∀ v H', (EnT.IteT K a).yld i H v H' → g v (wipe σ vs) H' fun σ2 H2 => wipe σ2 vs = wipe σ vs ∧ tt σ2 H2 fun c H3 =>
        if c = true then te σ2 H3 fun z H4 => ∃ acc, H4 D = some (.lst acc) ∧ acc.length < sizeLine ∧ Nx (upd H4 D (.lst (acc ++ [z]))) else Nx H3) := by
  refine ⟨fun i m H => m = xs.length - i ∧ i ≤ xs.length ∧ Pv i H, ⟨xs.length, (Nat.sub_zero _).symm, Nat.zero_le _, h0⟩, ?_⟩
  rintro i m H ⟨rfl, hi, p⟩
  have qa := hq i H p
  by_cases hlt : i < xs.length
  · have e1 : xs[i]? = some (xs[i]'hlt) := List.getElem?_eq_getElem _
    refine .inr ⟨⟨xs, _, qa, e1⟩, Pv (i + 1), fun H' p' => ⟨xs.length - (i + 1), by omega, rfl, hlt, p'⟩, fun v H' hy' => ?_⟩
    obtain ⟨T, x, rfl, nT, rfl, fx⟩ := hy'
    exact hs i x T H (fx _ qa) p nT
  · have e : i = xs.length := by omega
    subst e
    exact .inl ⟨⟨xs, qa, rfl⟩, hd H p⟩
end ZW

namespace K1
open PySem PySem.Spec PyProof.Rows L2 Evl HM LX ZW
theorem grow_good {h : List Nat} {g : Nat → Bool} (G : IsHeap h) (h1 : h.length < 60) (h2 : hAt h 0 < 60) (hg : ∀ c, g c = true → opn h c = true) : Good (grow h g) := by
  refine ⟨grow_heap G hg, ?_, ?_⟩
  · rw [grow_len]
    have := b2n_le (g h.length)
    omega
  · rw [hAt_grow hg]
    have := b2n_le (g 0)
    omega
/-- ints of a tuple of places -/
def PlacesT (H : Hp) (a : Addr) (ps : List Int) : Prop := H a = some (.tup (ps.map V.int))
/-- the heaps behind each ring -/
def hseq (rs : List (Int × Int)) (ps : List Int) : Nat → List Nat
  | 0 => []
  | i + 1 => grow (hseq rs ps i) (gl (hseq rs ps i) (K1N.nAt rs i) (K1N.sAt rs i) (ps.getD i 0))
theorem hseq_ok (rs : List (Int × Int)) (ps : List Int) : ∀ i, IsHeap (hseq rs ps i) ∧ (hseq rs ps i).length ≤ i ∧ hAt (hseq rs ps i) 0 ≤ i
  | 0 => ⟨IsHeap.nil, Nat.le_refl _, Nat.le_refl _⟩
  | i + 1 => by
    obtain ⟨a, b, c⟩ := hseq_ok rs ps i
    refine ⟨grow_heap a gl_opn, ?_, ?_⟩
    · show (grow _ _).length ≤ _
      rw [grow_len]
      have := b2n_le (gl (hseq rs ps i) (K1N.nAt rs i) (K1N.sAt rs i) (ps.getD i 0) (hseq rs ps i).length)
      omega
    · show hAt (grow _ _) 0 ≤ _
      rw [hAt_grow gl_opn]
      have := b2n_le (gl (hseq rs ps i) (K1N.nAt rs i) (K1N.sAt rs i) (ps.getD i 0) 0)
      omega
theorem rings_nth4 {H : Hp} {most : Int} {xs : List V} {rs : List (Int × Int)} (h : RingsAt H most xs rs) {j : Nat} {x : V} (hx : xs[j]? = some x) : RingAt H most x (K1N.nAt rs j : Int) (K1N.sAt rs j) := by
  obtain ⟨r, hr, q⟩ := paired_get h hx
  have e : rs.getD j (0, 0) = r := by
    rw [List.getD_eq_getElem?_getD, hr]
    rfl
  obtain ⟨t, e1, e2, e3, e4, e5, e6⟩ := id q
  unfold K1N.nAt K1N.sAt
  rw [e, show ((r.1.toNat : Nat) : Int) = r.1 by omega]
  exact q
theorem rings_ex4 {H H' : Hp} {most : Int} {xs : List V} {rs : List (Int × Int)} (e : Ex H H') (h : RingsAt H most xs rs) : RingsAt H' most xs rs := paired_imp (fun _ _ z => RingAt.ex e z) h
theorem rings_chain4 {K : PySem.W.Frag} {H : Hp} {a : Addr} {xs : List V} {rs : List (Int × Int)} (h : RingsAt H 60 xs rs) (ha : H a = some (.tup xs)) (h1 : 1 ≤ xs.length) (h2 : xs.length ≤ 12) : ChainB K H (.ref a) true := by
  have p : ∀ {xs : List V} {rs : List (Int × Int)}, RingsAt H 60 xs rs → Paired (RingB K H) xs (List.replicate xs.length true) := by
    intro xs rs h
    induction h with
    | nil => exact .nil
    | cons r _ ih => exact .cons (RingAt.ring r (Int.le_refl _)) ih
  have q := ChainB.tup (K := K) ha ⟨h1, h2⟩ (p h)
  rw [show (List.replicate xs.length true).all id = true by simp] at q
  exact q
section
variable {P : Program} {w : World} {K : PySem.W.Frag} {mg : Str → Option Value} {base : Heap}
def spGrown : Sp := fun vs H Q _ => ∃ p h x n s q, vs = [.ref p, x, .int q] ∧ HeapAt H p h ∧ IsHeap h ∧ h.length < 60 ∧ hAt h 0 < 60 ∧ RingAt H 60 x n s ∧ 0 ≤ q ∧ q < n ∧ ∀ r H', Ex H H' → HeapAt H' r (grow h (gl h n s q)) → Q (.ref r) H'
def spCheckPlaces (K : PySem.W.Frag) : Sp := fun vs H Q _ => ∃ c a xs rs ps, vs = [.ref c, .ref a] ∧ H c = some (.tup xs) ∧ RingsAt H 60 xs rs ∧ xs.length ≤ 12 ∧ PlacesT H a ps ∧ ps.length = xs.length ∧ (∀ j : Nat, j < ps.length → 0 ≤ ps.getD j 0 ∧ ps.getD j 0 < (K1N.nAt rs j : Int)) ∧ ∀ H', Ex H H' → Q .non H'
def spLiesTold (K : PySem.W.Frag) : Sp := fun vs H Q E => spCheckPlaces K vs H (fun _ H' => Q (.bl true) H') E
theorem ok_lies_told (T : Txt K mg) {f : Addr} {fd : FuncData} (D : DefAt K mg "lies_told" sLiesTold ["chain", "value"] f fd) : FnOk P w K mg base CX0 3 f fd ["chain", "value"] (spLiesTold K) := by
  refine D.F.ok scLiesTold (fun vs H Q E h => ?_) (fun cdv A outer s₀ H vs Q E hr h => ?_)
  · obtain ⟨c, a, xs, rs, ps, rfl, _⟩ := h
    rfl
  · obtain ⟨c, a, xs, rs, ps, rfl, hc, hR, hl, ha, hlen, hb, q⟩ := h
    obtain ⟨f1, fd1, D1⟩ := T.d_is_between
    refine ⟨_, pss_cons (ps_if (PW.pt (pw_or (pt_not (pt_val (pe_callB call_isi (by rfl) T.z_isinstance (by decide +kernel) (pa_cons (pv 1) (pa_cons (pe_bltn (v := .ty "tuple") (by rfl) T.z_tuple (by decide +kernel) rfl) pa_nil)))))
        (pw_or1 (pt_cmpR op_ne (pe_callB call_len_seq (by rfl) T.z_len PySem.boot_len (pa_cons (pv 1) pa_nil)) (pe_callB call_len_seq (by rfl) T.z_len PySem.boot_len (pa_cons (pv 0) pa_nil)) (nomark _))))) (pss_one (ps_ret pe_bl)) pss_nil)
      (pss_one (ps_ret (pe_callB (cr_all rfl) (by rfl) T.z_all (by decide +kernel) (pa_cons (pe_lc (own := [("place", 2), ("ring", 3)]) (g := gTup K 2 (gCons (gName 2) (gCons (gName 3) gNil))) (tt := tYes) rfl scLiesTold.nd (RZ.pi_zipA (by rfl) T.z_zip (pa_cons (pv 1) (pa_cons (pv 0) pa_nil)))
          (blkOk_by (N := nLiesTold) (sc := defScope sLiesTold) (by decide +kernel)) (fun _ _ _ _ _ => pg_tup (by rfl) (pgs_cons (pg_name (i := 2) scLiesTold.nd rfl (.inl rfl)) (pgs_cons (pg_name (i := 3) scLiesTold.nd rfl (.inl rfl)) pgs_nil))) (fun _ _ _ _ _ => pts_nil)
          (fun _ _ _ _ _ => pe_call (ok_is_between T D1) hr (by rfl) D1.g D1.F.kp D1.b .nil pass0 (pa_cons (pv 2) (pa_cons pe_int (pa_cons (pe_op op_sub (pe_ix (show IxR _ (rIxT K) from ix_tup) (pv 3) pe_int (fun _ _ => rfl)) pe_int) pa_nil))))) pa_nil)))), ?_⟩
    refine ⟨_, rfl, .ref a, .ty "tuple", .type "tuple", .type "tuple", true, rfl, .ty _, .base (.tup ha), kit_ty (by decide +kernel), true, rfl, iteF ?_⟩
    refine ⟨_, rfl, a, _, rfl, .inr (SqT.of ha), _, rfl, c, _, rfl, .inr (SqT.of hc), rfl, _, rfl, ?_⟩
    rw [List.length_map, hlen, decide_eq_true (rfl : V.int (xs.length : Int) = V.int (xs.length : Int))]
    refine iteF ?_
    refine ⟨_, rfl, _, rfl, a, c, _, _, rfl, .inr ⟨SqT.of ha, SqT.of hc, fun Dl hD => ?_⟩⟩
    refine lc_zipT (K := K) (a := a) (b := c) (xs := ps.map V.int) (ys := xs) (n := xs.length) (by rw [List.length_map]; omega) (Nat.le_refl _) (.inr (Nat.le_refl _)) (fun i H' => H' Dl = some (.lst ((List.replicate i true).map V.bl)) ∧ Ex H H') ⟨upd_same, Ex.new hD⟩ (fun i H' hp => ⟨SqT.of (hp.2 _ _ ha), SqT.of (hp.2 _ _ hc)⟩) (fun i x y Tp H' hi hx hy hp nT => ?_) (fun H' hp => ?_)
    · have ex : ∃ p : Int, x = .int p ∧ ps.getD i 0 = p := by
        rw [List.getElem?_map] at hx
        cases e : ps[i]? with
        | none =>
          rw [e] at hx
          cases hx
        | some p =>
          rw [e] at hx
          refine ⟨p, (Option.some.inj hx).symm, ?_⟩
          rw [List.getD_eq_getElem?_getD, e]
          rfl
      obtain ⟨p, rfl, hpv⟩ := ex
      have eT := Ex.new (o := .tup [.int p, y]) nT
      have hy1 := rings_nth4 (rings_ex4 (hp.2.trans eT) hR) hy
      obtain ⟨t, rfl, ht, b1, b2, b3, b4⟩ := hy1
      obtain ⟨c0, c1⟩ := hb i (by omega)
      rw [hpv] at c0 c1
      refine ⟨Tp, _, rfl, SqT.of upd_same, rfl, .int p, [.ref t], rfl, .ref t, [], rfl, rfl, rfl, ?_⟩
      dsimp only [tYes]
      rw [if_pos rfl]
      refine ⟨_, rfl, _, rfl, t, _, 0, _, rfl, rfl, SqT.of ht, rfl, _, _, rfl, rfl, .int p, 0, _, true, rfl, .yes c0 (by omega) (by omega) (by omega), fun H3 e3 => ?_⟩
      refine ⟨_, e3 _ _ (eT _ _ hp.1), ?_, ?_, Ex.mut ((hp.2.trans eT).trans e3) hD⟩
      · rw [List.length_map, List.length_replicate]
        exact small1000 (by omega)
      · rw [upd_same, List.replicate_succ', List.map_append]
        rfl
    · refine ⟨Dl, List.replicate xs.length true, rfl, SqL.of hp.1, ?_⟩
      rw [show (List.replicate xs.length true).all id = true by simp]
      exact q _ hp.2
theorem ok_check_places (T : Txt K mg) {f : Addr} {fd : FuncData} (D : DefAt K mg "check_places" sCheckPlaces ["chain", "places"] f fd) : FnOk P w K mg base CX0 4 f fd ["chain", "places"] (spCheckPlaces K) := by
  refine D.F.ok scCheckPlaces (fun vs H Q E h => ?_) (fun cdv A outer s₀ H vs Q E hr h => ?_)
  · obtain ⟨c, a, xs, rs, ps, rfl, _⟩ := h
    rfl
  · obtain ⟨c, a, xs, rs, ps, rfl, hc, hR, hl, ha, hlen, hb, q⟩ := h
    obtain ⟨f1, fd1, D1⟩ := T.d_lies_told
    refine ⟨_, pss_one (ps_if (pt_not (pt_val (pe_call (ok_lies_told T D1) hr (by rfl) D1.g D1.F.kp D1.b .nil pass0 (pa_cons (pv 0) (pa_cons (pv 1) pa_nil))))) pss_never pss_nil), ?_⟩
    exact ⟨_, rfl, _, rfl, c, a, xs, rs, ps, rfl, hc, hR, hl, ha, hlen, hb, fun H1 e1 => ⟨true, rfl, iteF (q _ e1)⟩⟩
/-- the list of the heaps -/
def spHeapsOf : Sp := fun vs H Q _ => ∃ c a xs rs ps, vs = [.ref c, .ref a] ∧ H c = some (.tup xs) ∧ RingsAt H 60 xs rs ∧ xs.length ≤ 12 ∧ PlacesT H a ps ∧ ps.length = xs.length ∧
  ∀ (p : Addr) (as : List Addr) (H' : Hp), Ex H H' → H p = none → H' p = some (.lst (as.map V.ref)) → as.length = xs.length + 1 → (∀ i b, as[i]? = some b → HeapAt H' b (hseq rs ps i)) → Q (.ref p) H'
theorem ok_heaps_of (T : Txt K mg) {f : Addr} {fd : FuncData} (D : DefAt K mg "heaps_of" sHeapsOf ["chain", "places"] f fd) : FnOk P w K mg base CX0 4 f fd ["chain", "places"] spHeapsOf := by
  refine D.F.ok scHeapsOf (fun vs H Q E h => ?_) (fun cdv A outer s₀ H vs Q E hr h => ?_)
  · obtain ⟨c, a, xs, rs, ps, rfl, _⟩ := h
    rfl
  · obtain ⟨c, a, xs, rs, ps, rfl, hc, hR, hl, ha, hlen, q⟩ := h
    obtain ⟨f1, fd1, D1⟩ := T.d_grown_by
    refine ⟨_, pss_cons (ps_set (i := 2) scHeapsOf.nd rfl (.inl rfl) (pe_lst (pa_cons (pe_tup pa_nil) pa_nil)))
      (pss_cons (ps_for PassesOwn.never rfl (EnT.pi_enumT (by rfl) T.z_enumerate (pa_cons (pv 0) pa_nil)) (pg_tup rfl (pgs_cons (pg_name (i := 3) scHeapsOf.nd rfl (.inl rfl)) (pgs_cons (pg_name (i := 4) scHeapsOf.nd rfl (.inl rfl)) pgs_nil)))
        (pss_one (ps_expr (pe_bm PySem.F.plainAttrs_list PySem.F.slot_list_append PySem.F.type_list_append mt_append (pv 2) (pa_cons (pe_call (ok_grown_by T D1) hr (by rfl) D1.g D1.F.kp D1.b .nil pass0
          (pa_cons (pe_ix ix_list (pv 2) (pv 3) (fun _ _ => rfl)) (pa_cons (pv 4) (pa_cons (pe_ix ix_tup (pv 1) (pv 3) (fun _ _ => rfl)) pa_nil)))) pa_nil)))))
      (pss_one (ps_ret (pv 2)))), ?_⟩
    refine ⟨by show 0 ≤ sizeLine; decide, fun t0 ht0 => ⟨by show 1 ≤ sizeLine; decide, fun l hl0 => ?_⟩⟩
    have e1 := Ex.new (o := .tup []) ht0
    have e2 := e1.trans (Ex.new (o := .lst [V.ref t0]) hl0)
    have nl : H l = none := fresh_back e1 hl0
    have gl0 : (upd (upd H t0 (.tup [])) l (.lst [V.ref t0])) l = some (.lst ([t0].map V.ref)) := upd_same
    have gt0 : HeapAt (upd (upd H t0 (.tup [])) l (.lst [V.ref t0])) t0 (hseq rs ps 0) := by
      show (upd (upd H t0 (.tup [])) l (.lst [V.ref t0])) t0 = some (.tup (hv []))
      exact (Ex.new hl0) _ _ upd_same
    generalize upd (upd H t0 (.tup [])) l (.lst [V.ref t0]) = H2 at *
    refine ⟨_, rfl, c, xs, rfl, SqT.of (e2 _ _ hc), for_enumT (K := K) (a := c) (xs := xs) (fun i σ' H' => ∃ (y3 y4 : Option V) (as : List Addr), σ' = [some (.ref c), some (.ref a), some (.ref l), y3, y4] ∧ H' l = some (.lst (as.map V.ref)) ∧ as.length = i + 1 ∧ (∀ j b, as[j]? = some b → HeapAt H' b (hseq rs ps j)) ∧ Ex H H')
      ⟨none, none, [t0], rfl, gl0, rfl, fun j b hb => ?_, e2⟩ (fun i σ' H' hp => ?_) (fun i x Tp σ' H' hx hp nT => ?_) (fun σ' H' hp => ?_)⟩
    · cases j with
      | zero =>
        obtain rfl := Option.some.inj hb
        exact gt0
      | succ j => simp at hb
    · obtain ⟨_, _, _, _, _, _, _, e⟩ := hp
      exact SqT.of (e _ _ hc)
    · obtain ⟨y3, y4, as, rfl, w1, w2, w3, e⟩ := hp
      have eT := Ex.new (o := .tup [.int (i : Nat), x]) nT
      have hi : i < xs.length := (List.getElem?_eq_some_iff.mp hx).1
      have hx1 := rings_nth4 (rings_ex4 (e.trans eT) hR) hx
      have hasi : as[i]? = some (as[i]'(by omega)) := List.getElem?_eq_getElem _
      have hpi : (ps.map V.int)[i]? = some (.int (ps.getD i 0)) := by
        rw [List.getElem?_map, List.getD_eq_getElem?_getD, List.getElem?_eq_getElem (by omega)]
        rfl
      obtain ⟨ok1, ok2, ok3⟩ := hseq_ok rs ps i
      have hl1 := eT _ _ w1
      refine ⟨Tp, _, rfl, SqT.of upd_same, rfl, .int (i : Nat), [x], rfl, x, [], rfl, rfl, ?_⟩
      refine ⟨_, rfl, .inl ⟨rfl, _, SqL.of hl1⟩, _, rfl, _, rfl, l, _, _, .ref (as[i]'(by omega)), rfl, rfl, SqL.of hl1, atI_nat (by rw [List.getElem?_map, hasi]; rfl), _, rfl, _, rfl, _, rfl, a, _, _, _, rfl, rfl, SqT.of ((e.trans eT) _ _ ha), atI_nat hpi,
        as[i]'(by omega), hseq rs ps i, x, _, _, _, rfl, eT _ _ (w3 i _ hasi), ok1, by omega, hx1, fun r H4 e4 hr4 => ?_⟩
      have hl4 := e4 _ _ hl1
      have nlr : ∀ {b : Addr} {h : List Nat}, HeapAt H4 b h → b ≠ l := fun {b h} z => ne_of z hl4 (by intro y; cases y)
      refine ⟨l, _, _, rfl, rfl, hl4, ?_, some (.int (i : Nat)), some x, as ++ [r], rfl, ?_, ?_, ?_, Ex.mut ((e.trans eT).trans e4) nl⟩
      · rw [List.length_map]
        exact small1000 (by omega)
      · rw [upd_same, List.map_append]
        rfl
      · rw [List.length_append, w2]
        rfl
      · intro j b hb
        by_cases hj : j < as.length
        · rw [List.getElem?_append_left hj] at hb
          have z := e4 _ _ (eT _ _ (w3 j b hb))
          show (upd H4 l _) b = _
          rw [upd_ne (nlr z)]
          exact z
        · have ej : j = i + 1 := by
            have := (List.getElem?_eq_some_iff.mp hb).1
            rw [List.length_append] at this
            have h1 : ([r] : List Addr).length = 1 := rfl
            omega
          subst ej
          rw [List.getElem?_append_right (by omega), show i + 1 - as.length = 0 by omega] at hb
          obtain rfl := Option.some.inj hb
          show (upd H4 l _) _ = _
          rw [upd_ne (nlr hr4)]
          exact hr4
    · obtain ⟨y3, y4, as, rfl, w1, w2, w3, e⟩ := hp
      exact ⟨_, rfl, q l as H' e nl w1 w2 w3⟩
end
end K1

namespace K1
open PySem PySem.Spec PyProof.Rows L2 Evl HM LX ZW
theorem at_end {as : List Addr} {g : Nat} (h : as.length = g + 1) : atI (as.map V.ref) (-1) = some (V.ref (as[g]'(by omega))) := by
  have e : as = as.take g ++ [as[g]'(by omega)] := by
    have := List.take_append_getElem (l := as) (i := g) (by omega)
    rw [this, List.take_of_length_le (by omega)]
  have e2 : as.map V.ref = (as.take g).map V.ref ++ [V.ref (as[g]'(by omega))] := by
    conv => lhs; rw [e]
    rw [List.map_append]
    rfl
  rw [e2]
  exact atI_last _ _
section
variable {P : Program} {w : World} {K : PySem.W.Frag} {mg : Str → Option Value} {base : Heap}
def spHeapOf : Sp := fun vs H Q _ => ∃ c a xs rs ps, vs = [.ref c, .ref a] ∧ H c = some (.tup xs) ∧ RingsAt H 60 xs rs ∧ (1 ≤ xs.length ∧ xs.length ≤ 12) ∧ PlacesT H a ps ∧ ps.length = xs.length ∧ (∀ j : Nat, j < ps.length → 0 ≤ ps.getD j 0 ∧ ps.getD j 0 < (K1N.nAt rs j : Int)) ∧
  ∀ (b : Addr) H', Ex H H' → HeapAt H' b (hseq rs ps xs.length) → Q (.ref b) H'
theorem ok_heap_of (T : Txt K mg) {f : Addr} {fd : FuncData} (D : DefAt K mg "heap_of" sHeapOf ["chain", "places"] f fd) : FnOk P w K mg base CX0 6 f fd ["chain", "places"] spHeapOf := by
  refine D.F.ok scHeapOf (fun vs H Q E h => ?_) (fun cdv A outer s₀ H vs Q E hr h => ?_)
  · obtain ⟨c, a, xs, rs, ps, rfl, _⟩ := h
    rfl
  · obtain ⟨c, a, xs, rs, ps, rfl, hc, hR, hl, ha, hlen, hb, q⟩ := h
    obtain ⟨f1, fd1, D1⟩ := T.d_check_chain
    obtain ⟨f2, fd2, D2⟩ := T.d_check_places
    obtain ⟨f3, fd3, D3⟩ := T.d_heaps_of
    have hr4 : Room 4 _ := hr.mono (by decide)
    refine ⟨_, pss_cons (ps_expr (pe_call (ok_check_chain T D1) hr (by rfl) D1.g D1.F.kp D1.b .nil pass0 (pa_cons (pv 0) pa_nil)))
      (pss_cons (ps_expr (pe_call (ok_check_places T D2) hr4 (by rfl) D2.g D2.F.kp D2.b .nil pass0 (pa_cons (pv 0) (pa_cons (pv 1) pa_nil))))
      (pss_one (ps_ret (pe_ix ix_list (pe_call (ok_heaps_of T D3) hr4 (by rfl) D3.g D3.F.kp D3.b .nil pass0 (pa_cons (pv 0) (pa_cons (pv 1) pa_nil))) (pe_un un_neg pe_int) (fun _ _ => rfl))))), ?_⟩
    refine ⟨_, rfl, .ref c, rfl, rings_chain4 hR hc hl.1 hl.2, fun H1 e1 => ?_⟩
    refine ⟨_, rfl, _, rfl, c, a, xs, rs, ps, rfl, e1 _ _ hc, rings_ex4 e1 hR, hl.2, e1 _ _ ha, hlen, hb, fun H2 e2 => ?_⟩
    have e12 := e1.trans e2
    refine ⟨_, rfl, _, rfl, c, a, xs, rs, ps, rfl, e12 _ _ hc, rings_ex4 e12 hR, hl.2, e12 _ _ ha, hlen, fun p as H3 e3 hp0 hp hal hh => ?_⟩
    exact ⟨1, rfl, p, _, -1, _, rfl, rfl, SqL.of hp, at_end hal, q _ H3 (e12.trans e3) (hh _ _ (List.getElem?_eq_getElem _))⟩
def spHeapsAlong : Sp := fun vs H Q _ => ∃ c a xs rs ps, vs = [.ref c, .ref a] ∧ H c = some (.tup xs) ∧ RingsAt H 60 xs rs ∧ (1 ≤ xs.length ∧ xs.length ≤ 12) ∧ PlacesT H a ps ∧ ps.length = xs.length ∧ (∀ j : Nat, j < ps.length → 0 ≤ ps.getD j 0 ∧ ps.getD j 0 < (K1N.nAt rs j : Int)) ∧
  ∀ (r : Addr) (as : List Addr) H', Ex H H' → H' r = some (.tup (as.map V.ref)) → as.length = xs.length + 1 → (∀ i b, as[i]? = some b → HeapAt H' b (hseq rs ps i)) → Q (.ref r) H'
/-- how many squares the first columns have -/
def sumT (h : List Nat) : Nat → Nat
  | 0 => 0
  | i + 1 => sumT h i + hAt h i
theorem sumT_le {h : List Nat} (G : Good h) : ∀ i, sumT h i ≤ 60 * i
  | 0 => Nat.le_refl _
  | i + 1 => by
    show sumT h i + hAt h i ≤ _
    have := sumT_le G i
    have := G.all i
    omega
def spSquares : Sp := fun vs H Q _ => ∃ p h, vs = [.ref p] ∧ HeapAt H p h ∧ Good h ∧ ∀ r ys H', Ex H H' → H' r = some (.tup ys) → ys.length = sumT h h.length → Q (.ref r) H'
end
end K1

namespace K1
open PySem PySem.Spec PyProof.Rows L2 Evl HM LX ZW
/-! ### data: ints in lists and tuples -/
theorem dp_ints {K : PySem.W.Frag} {H : Hp} : ∀ ns : List Int, DpAll K H (ns.map V.int) (ns.map PyData.int)
  | [] => .nil
  | n :: r => .cons (.int n) (dp_ints r)
theorem can_ints : ∀ l : List Int, PyData.canLayAll0 (l.map PyData.int) = true
  | [] => rfl
  | b :: r => by simp [PyData.canLayAll0, PyData.canLay0, can_ints r]
theorem shaped_intsL (ns : List Int) : SeqAt.shaped (.list (ns.map PyData.int)) = true := by
  induction ns with
  | nil => rfl
  | cons b r ih => exact ih
theorem depth_ints : ∀ l : List Int, PyData.depthAll (l.map PyData.int) ≤ 60
  | [] => by decide
  | b :: r => by
    have := depth_ints r
    simp only [List.map_cons, PyData.depthAll, PyData.depth]
    omega
theorem shaped_intsT (ns : List Int) : SeqAt.shaped (.tuple (ns.map PyData.int)) = true := by
  unfold SeqAt.shaped
  have h1 : (PyData.tuple (ns.map PyData.int)).canLay0 = true := by simp [PyData.canLay0, can_ints ns]
  have h2 : (PyData.tuple (ns.map PyData.int)).depth ≤ 64 := by
    have := depth_ints ns
    simp only [PyData.depth]
    omega
  rw [h1, decide_eq_true h2]
  rfl
theorem eqv_intsL (ns : List Int) : PyData.eqv (.list (ns.map PyData.int)) (.list (ns.map PyData.int)) = true := SeqAt.eqv_refl _ (by simp [PyData.canLay0, can_ints ns])
theorem eqv_intsT (ns : List Int) : PyData.eqv (.tuple (ns.map PyData.int)) (.tuple (ns.map PyData.int)) = true := SeqAt.eqv_refl _ (by simp [PyData.canLay0, can_ints ns])
theorem eqv_nil : PyData.eqv (.list []) (.list []) = true := eqv_intsL []
theorem eqv_consnil (d : PyData) (ds : List PyData) : PyData.eqv (.list (d :: ds)) (.list []) = false := by simp [PyData.eqv, PyData.eqvAll]
theorem erase_perm {ls : List Int} {i : Nat} {y : Int} (h : ls[i]? = some y) : ls.Perm (y :: ls.eraseIdx i) := by
  induction ls generalizing i with
  | nil => simp at h
  | cons x r ih =>
    cases i with
    | zero =>
      obtain rfl := Option.some.inj h
      exact .refl _
    | succ i =>
      have := ih (i := i) h
      exact (List.Perm.cons x this).trans (List.Perm.swap y x _)
theorem map_erase {α β : Type} (g : α → β) : ∀ (ls : List α) (i : Nat), (ls.eraseIdx i).map g = (ls.map g).eraseIdx i
  | [], _ => rfl
  | _ :: _, 0 => rfl
  | x :: r, i + 1 => congrArg (g x :: ·) (map_erase g r i)
section
variable {P : Program} {w : World} {K : PySem.W.Frag} {mg : Str → Option Value} {base : Heap}
def spMixed : Sp := fun vs H Q _ => ∃ (d a : Addr) (ns : List Int), vs = [.ref d, .ref a] ∧ Dice H d ∧ H a = some (.lst (ns.map V.int)) ∧ ns.length ≤ 1000 ∧
  ∀ (p : Addr) (ms : List Int) H', ms.Perm ns → H' p = some (.lst (ms.map V.int)) → Dice H' d → Keep d H H' → Q (.ref p) H'
end
end K1

namespace K1
open PySem PySem.Spec PyProof.Rows L2 Evl HM LX ZW
theorem getD_snoc_lt {l : List Int} {x : Int} {j : Nat} (h : j < l.length) : (l ++ [x]).getD j 0 = l.getD j 0 := by
  rw [List.getD_eq_getElem?_getD, List.getD_eq_getElem?_getD, List.getElem?_append_left h]
theorem getD_snoc_eq {l : List Int} {x : Int} : (l ++ [x]).getD l.length 0 = x := by
  rw [List.getD_eq_getElem?_getD, List.getElem?_append_right (Nat.le_refl _), Nat.sub_self]
  rfl
def PlOk (rs : List (Int × Int)) (ps : List Int) : Prop := ∀ j : Nat, j < ps.length → 0 ≤ ps.getD j 0 ∧ ps.getD j 0 < (K1N.nAt rs j : Int)
theorem PlOk.snoc {rs : List (Int × Int)} {ps : List Int} {x : Int} (h : PlOk rs ps) (h0 : 0 ≤ x) (h1 : x < (K1N.nAt rs ps.length : Int)) : PlOk rs (ps ++ [x]) := by
  intro j hj
  by_cases c : j < ps.length
  · rw [getD_snoc_lt c]
    exact h j c
  · have e : j = ps.length := by
      rw [List.length_append] at hj
      have : ([x] : List Int).length = 1 := rfl
      omega
    subst e
    rw [getD_snoc_eq]
    exact ⟨h0, h1⟩
section
variable {P : Program} {w : World} {K : PySem.W.Frag} {mg : Str → Option Value} {base : Heap}
def spTuple : Sp := fun vs H Q _ => ∃ d c xs rs, vs = [.ref d, .ref c] ∧ Dice H d ∧ H c = some (.tup xs) ∧ RingsAt H 60 xs rs ∧ xs.length ≤ 12 ∧
  ∀ (a : Addr) (ps : List Int) H', PlacesT H' a ps → ps.length = xs.length → PlOk rs ps → Dice H' d → Keep d H H' → Q (.ref a) H'
end
end K1

/-! plain mathematics of heaps, continued: growing column by column, tries, squares added in any order -/
namespace HM
theorem range_hAt (h : List Nat) : (List.range h.length).map (hAt h) = h := by
  refine List.ext_getElem? fun c => ?_
  by_cases q : c < h.length
  · rw [List.getElem?_map, List.getElem?_range q, hAt_lt q]
    rfl
  · rw [List.getElem?_eq_none (by rw [List.length_map, List.length_range]; omega), List.getElem?_eq_none (by omega)]
/-- grown at the first columns -/
def fr (h : List Nat) (g : Nat → Bool) (i : Nat) : List Nat := (List.range h.length).map (fun c => hAt h c + b2n (decide (c < i) && g c)) ++ (if (decide (h.length < i) && g h.length) = true then [1] else [])
theorem fr_zero (h : List Nat) (g : Nat → Bool) : fr h g 0 = h := by
  unfold fr
  rw [decide_eq_false (Nat.not_lt_zero _), Bool.false_and, if_neg (by decide), List.append_nil]
  conv => rhs; rw [← range_hAt h]
  refine List.map_congr_left fun c _ => ?_
  rw [decide_eq_false (Nat.not_lt_zero _), Bool.false_and]
  rfl
theorem fr_end (h : List Nat) (g : Nat → Bool) : fr h g (h.length + 1) = grow h g := by
  unfold fr grow
  rw [decide_eq_true (Nat.lt_succ_self _), Bool.true_and]
  congr 1
  refine List.map_congr_left fun c hc => ?_
  rw [decide_eq_true (show c < h.length + 1 from Nat.lt_succ_of_lt (List.mem_range.mp hc)), Bool.true_and]
theorem fr_skip {h : List Nat} {g : Nat → Bool} {i : Nat} (q : g i = false) : fr h g (i + 1) = fr h g i := by
  have e : ∀ c, (decide (c < i + 1) && g c) = (decide (c < i) && g c) := fun c => by
    by_cases z : c = i
    · subst z
      rw [q, Bool.and_false, Bool.and_false]
    · have : decide (c < i + 1) = decide (c < i) := decide_eq_decide.mpr (by omega)
      rw [this]
  unfold fr
  rw [e]
  congr 1
  exact List.map_congr_left fun c _ => by rw [e]
theorem fr_low {h : List Nat} {g : Nat → Bool} {i : Nat} (hi : i ≤ h.length) : fr h g i = (List.range h.length).map (fun c => hAt h c + b2n (decide (c < i) && g c)) := by
  unfold fr
  rw [decide_eq_false (show ¬ h.length < i by omega), Bool.false_and, if_neg (by decide), List.append_nil]
theorem fr_low_len {h : List Nat} {g : Nat → Bool} {i : Nat} (hi : i ≤ h.length) : (fr h g i).length = h.length := by
  rw [fr_low hi, List.length_map, List.length_range]
theorem fr_set {h : List Nat} {g : Nat → Bool} {i : Nat} (hi : i < h.length) (q : g i = true) : (fr h g i).set i (hAt h i + 1) = fr h g (i + 1) := by
  rw [fr_low (show i ≤ h.length by omega), fr_low (show i + 1 ≤ h.length by omega)]
  refine List.ext_getElem? fun c => ?_
  rw [List.getElem?_set]
  by_cases e : i = c
  · subst e
    rw [if_pos rfl, if_pos (by rw [List.length_map, List.length_range]; exact hi), List.getElem?_map, List.getElem?_range hi]
    show some _ = some (hAt h i + b2n (decide (i < i + 1) && g i))
    rw [decide_eq_true (Nat.lt_succ_self i), q]
    rfl
  · rw [if_neg e, List.getElem?_map, List.getElem?_map]
    have : decide (c < i + 1) = decide (c < i) := decide_eq_decide.mpr (by omega)
    by_cases l : c < h.length
    · rw [List.getElem?_range l]
      show some (hAt h c + b2n (decide (c < i) && g c)) = some (hAt h c + b2n (decide (c < i + 1) && g c))
      rw [this]
    · rw [List.getElem?_eq_none (by rw [List.length_range]; omega)]
      rfl
theorem fr_app {h : List Nat} {g : Nat → Bool} (q : g h.length = true) : fr h g h.length ++ [1] = fr h g (h.length + 1) := by
  rw [fr_end, fr_low (Nat.le_refl _)]
  unfold grow
  rw [if_pos q]
  congr 1
  refine List.map_congr_left fun c hc => ?_
  rw [decide_eq_true (List.mem_range.mp hc), Bool.true_and]
/-! ### tries -/
def Falls (ns : List Int) : Prop := (∀ j, j + 1 < ns.length → ns.getD (j + 1) 0 ≤ ns.getD j 0) ∧ ∀ y ∈ ns, (0 : Int) ≤ y
/-- heights with 0 behind them, one changed -/
def chg (h : List Nat) (st : Int) (c : Nat) : List Int := (List.range (h.length + 1)).map fun x => (hAt h x : Int) + (if x = c then st else 0)
theorem chg_len (h : List Nat) (st : Int) (c : Nat) : (chg h st c).length = h.length + 1 := by
  unfold chg
  rw [List.length_map, List.length_range]
theorem chg_get {h : List Nat} {st : Int} {c x : Nat} (hx : x ≤ h.length) : (chg h st c).getD x 0 = (hAt h x : Int) + (if x = c then st else 0) := by
  unfold chg
  rw [List.getD_eq_getElem?_getD, List.getElem?_map, List.getElem?_range (by omega)]
  rfl
/-- columns at which a try leaves a heap -/
def tr (h : List Nat) (st : Int) (c : Nat) : Bool := if st = 1 then opn h c else decide (hAt h (c + 1) < hAt h c)
theorem chg_falls {h : List Nat} (H : IsHeap h) {st : Int} (hst : st = 1 ∨ st = -1) {c : Nat} (hc : c ≤ h.length) : Falls (chg h st c) ↔ tr h st c = true := by
  have hm : ∀ y, y ∈ chg h st c → ∃ x, x ≤ h.length ∧ y = (hAt h x : Int) + (if x = c then st else 0) := fun y hy => by
    unfold chg at hy
    obtain ⟨x, hx, rfl⟩ := List.mem_map.mp hy
    exact ⟨x, Nat.le_of_lt_succ (List.mem_range.mp hx), rfl⟩
  have hm2 : ∀ x, x ≤ h.length → (hAt h x : Int) + (if x = c then st else 0) ∈ chg h st c := fun x hx => List.mem_map.mpr ⟨x, List.mem_range.mpr (Nat.lt_succ_of_le hx), rfl⟩
  rcases hst with rfl | rfl
  · unfold tr
    rw [if_pos rfl]
    constructor
    · rintro ⟨f1, f2⟩
      unfold opn
      by_cases z : c = 0
      · rw [decide_eq_true z, Bool.true_or]
      · have a := f1 (c - 1) (by rw [chg_len]; omega)
        rw [show c - 1 + 1 = c by omega, chg_get hc, chg_get (by omega), if_pos rfl, if_neg (by omega)] at a
        rw [decide_eq_true (show hAt h c < hAt h (c - 1) by omega), Bool.or_true]
    · intro o
      refine ⟨fun j hj => ?_, fun y hy => ?_⟩
      · rw [chg_len] at hj
        rw [chg_get (show j + 1 ≤ h.length by omega), chg_get (show j ≤ h.length by omega)]
        have := H.fall j
        by_cases z : j + 1 = c
        · subst z
          have := opn_lt o
          rw [if_pos rfl, if_neg (by omega)]
          omega
        · rw [if_neg z]
          split <;> omega
      · obtain ⟨x, _, rfl⟩ := hm y hy
        split <;> omega
  · unfold tr
    rw [if_neg (by decide)]
    constructor
    · rintro ⟨f1, f2⟩
      by_cases z : c = h.length
      · have := f2 _ (hm2 c hc)
        rw [if_pos rfl, z, hAt_ge (Nat.le_refl _)] at this
        exact absurd this (by decide)
      · have a := f1 c (by rw [chg_len]; omega)
        rw [chg_get (by omega), chg_get hc, if_pos rfl, if_neg (by omega)] at a
        exact decide_eq_true (by omega)
    · intro o
      have o' := of_decide_eq_true o
      refine ⟨fun j hj => ?_, fun y hy => ?_⟩
      · rw [chg_len] at hj
        rw [chg_get (show j + 1 ≤ h.length by omega), chg_get (show j ≤ h.length by omega)]
        have := H.fall j
        by_cases z : j = c
        · subst z
          rw [if_pos rfl, if_neg (by omega)]
          omega
        · rw [if_neg z]
          split <;> omega
      · obtain ⟨x, _, rfl⟩ := hm y hy
        split
        · next z =>
          subst z
          omega
        · omega
def tv (h : List Nat) (st : Int) (c : Nat) : Int := if st = 1 then dg h c else dg h c + 1
def trs (h : List Nat) (st : Int) (i : Nat) : List Int := ((List.range i).filter (tr h st)).map (tv h st)
theorem tv_lt {h : List Nat} (H : IsHeap h) {st : Int} {c d : Nat} (hcd : c < d) : tv h st c < tv h st d := by
  have := dg_lt H hcd
  unfold tv
  split <;> omega
theorem range_lt (n : Nat) : (List.range n).Pairwise (· < ·) := List.pairwise_lt_range
theorem trs_sorted {h : List Nat} (H : IsHeap h) (st : Int) (i : Nat) : (trs h st i).Pairwise (· ≤ ·) := by
  unfold trs
  refine List.pairwise_map.mpr ?_
  refine ((range_lt i).filter _).imp fun {a b} hab => ?_
  have := tv_lt H (st := st) hab
  omega
theorem sorted_eq : ∀ {a b : List Int}, a.Perm b → a.Pairwise (· ≤ ·) → b.Pairwise (· ≤ ·) → a = b
  | [], b, p, _, _ => (List.nil_perm.mp p).symm
  | x :: a, [], p, _, _ => absurd p.length_eq (by simp)
  | x :: a, y :: b, p, ha, hb => by
    have e : x = y := by
      have h1 : y ∈ x :: a := p.mem_iff.mpr List.mem_cons_self
      have h2 : x ∈ y :: b := p.mem_iff.mp List.mem_cons_self
      rcases List.mem_cons.mp h1 with z | z
      · exact z.symm
      · rcases List.mem_cons.mp h2 with u | u
        · exact u
        · have q1 := (List.pairwise_cons.mp ha).1 y z
          have q2 := (List.pairwise_cons.mp hb).1 x u
          omega
    subst e
    rw [sorted_eq ((List.perm_cons x).mp p) (List.pairwise_cons.mp ha).2 (List.pairwise_cons.mp hb).2]
theorem trs_add (h : List Nat) : trs h 1 (h.length + 1) = (oc h).map (dg h) := by
  have e : tr h 1 = opn h := funext fun c => if_pos rfl
  have e2 : tv h 1 = dg h := funext fun c => if_pos rfl
  unfold trs oc
  rw [e, e2]
theorem trs_sub (h : List Nat) : trs h (-1) (h.length + 1) = ((List.range h.length).filter fun c => decide (hAt h (c + 1) < hAt h c)).map fun c => dg h c + 1 := by
  have e : tr h (-1) = fun c => decide (hAt h (c + 1) < hAt h c) := funext fun c => if_neg (by decide)
  have e2 : tv h (-1) = fun c => dg h c + 1 := funext fun c => if_neg (by decide)
  unfold trs
  rw [e, e2, List.range_succ, List.filter_append, List.filter_cons, if_neg (by rw [hAt_ge (Nat.le_refl h.length)]; simp)]
  simp
theorem oc_two {h : List Nat} (H : IsHeap h) : ((oc h).map (dg h)).Pairwise (fun a b => a + 2 ≤ b) := by
  refine List.pairwise_map.mpr ?_
  unfold oc
  have : ((List.range (h.length + 1)).filter (opn h)).Pairwise (fun a b => a < b) := (range_lt _).filter _
  refine (List.Pairwise.and_mem.mp this).imp fun {a b} hab => ?_
  exact dg_two H hab.2.2 (List.mem_filter.mp hab.2.1).2
theorem two_next {l : List Int} (h : l.Pairwise (fun a b => a + 2 ≤ b)) {i : Nat} {x y : Int} (hx : l[i]? = some x) (hy : l[i + 1]? = some y) : x + 2 ≤ y := by
  obtain ⟨h1, rfl⟩ := List.getElem?_eq_some_iff.mp hx
  obtain ⟨h2, rfl⟩ := List.getElem?_eq_some_iff.mp hy
  exact List.pairwise_iff_getElem.mp h i (i + 1) h1 h2 (by omega)
/-! ### squares added in any order -/
def adm (h : List Nat) (ms : List Int) (i : Nat) (c : Nat) : Bool := opn h c && decide (dg h c ∈ ms.take i)
theorem adm_opn {h : List Nat} {ms : List Int} {i : Nat} (c : Nat) (z : adm h ms i c = true) : opn h c = true := by
  unfold adm at z
  exact (Bool.and_eq_true_iff.mp z).1
theorem adm_zero (h : List Nat) (ms : List Int) : grow h (adm h ms 0) = h := by
  have e : adm h ms 0 = fun _ => false := funext fun c => by
    unfold adm
    rw [List.take_zero, decide_eq_false (by simp), Bool.and_false]
  rw [e]
  unfold grow
  rw [if_neg (show ¬ false = true by decide), List.append_nil]
  exact range_hAt h
theorem grow_opn {h : List Nat} {g : Nat → Bool} (hg : ∀ c, g c = true → opn h c = true) {c : Nat} (o : opn h c = true) (q : g c = false) : opn (grow h g) c = true := by
  unfold opn
  by_cases z : c = 0
  · rw [decide_eq_true z, Bool.true_or]
  · obtain ⟨e, rfl⟩ : ∃ e, c = e + 1 := ⟨c - 1, by omega⟩
    have a := opn_lt o
    have b : hAt (grow h g) (e + 1) < hAt (grow h g) (e + 1 - 1) := by
      rw [hAt_grow hg, hAt_grow hg, q, show e + 1 - 1 = e by omega]
      have : b2n false = 0 := rfl
      omega
    rw [decide_eq_true b, Bool.or_true]
theorem grow_dg {h : List Nat} {g : Nat → Bool} (hg : ∀ c, g c = true → opn h c = true) {c : Nat} (q : g c = false) : dg (grow h g) c = dg h c := by
  unfold dg
  rw [hAt_grow hg, q]
  rfl
theorem adm_no {h : List Nat} (_ : IsHeap h) {ms : List Int} (nd : ms.Nodup) {i c : Nat} (hi : ms[i]? = some (dg h c)) : adm h ms i c = false := by
  unfold adm
  have : ¬ dg h c ∈ ms.take i := fun z => by
    obtain ⟨j, hj, e⟩ := List.getElem_of_mem z
    rw [List.length_take] at hj
    obtain ⟨hi', e'⟩ := List.getElem?_eq_some_iff.mp hi
    rw [List.getElem_take] at e
    have := (List.nodup_iff_pairwise_ne.mp nd)
    have := List.pairwise_iff_getElem.mp this j i (by omega) hi' (by omega)
    exact this (e.trans e'.symm)
  rw [decide_eq_false this, Bool.and_false]
theorem adm_next {h : List Nat} (H : IsHeap h) {ms : List Int} (nd : ms.Nodup) {i c : Nat} (o : opn h c = true) (hi : ms[i]? = some (dg h c)) {g1 : Nat → Bool} (hg1 : ∀ x, g1 x = (c == x)) :
    grow (grow h (adm h ms i)) g1 = grow h (adm h ms (i + 1)) := by
  have no := adm_no H nd hi
  have h1 : IsHeap (grow h (adm h ms i)) := grow_heap H adm_opn
  have o1 : ∀ x, g1 x = true → opn (grow h (adm h ms i)) x = true := fun x z => by
    rw [hg1] at z
    have e : c = x := by simpa using z
    subst e
    exact grow_opn adm_opn o no
  refine heap_ext (grow_heap h1 o1) (grow_heap H adm_opn) fun x => ?_
  rw [hAt_grow o1, hAt_grow adm_opn, hAt_grow adm_opn, hg1]
  by_cases e : c = x
  · subst e
    have yes : adm h ms (i + 1) c = true := by
      unfold adm
      rw [o, List.take_add_one, hi, decide_eq_true (by simp)]
      rfl
    rw [no, yes, beq_self_eq_true]
    rfl
  · have e2 : (c == x) = false := by simpa using e
    have e3 : adm h ms (i + 1) x = adm h ms i x := by
      unfold adm
      have : (dg h x ∈ ms.take (i + 1)) ↔ dg h x ∈ ms.take i := by
        rw [List.take_add_one, hi, List.mem_append]
        constructor
        · rintro (z | z)
          · exact z
          · have : dg h x = dg h c := by simpa using z
            exact absurd (dg_inj H this).symm e
        · exact Or.inl
      rw [decide_eq_decide.mpr this]
    rw [e2, e3]
    rfl
end HM

namespace K1
open PySem PySem.Spec PyProof.Rows L2 Evl HM LX ZW
section
variable {P : Program} {w : World} {K : PySem.W.Frag} {mg : Str → Option Value} {base : Heap}
def spLGrown : Sp := fun vs H Q _ => ∃ p h x n s q, vs = [.ref p, x, .int q] ∧ HeapAt H p h ∧ h.length ≤ 100 ∧ RingAt H 60 x n s ∧ ∀ r H', Ex H H' → HeapAt H' r (grow h (gl h n s q)) → Q (.ref r) H'
end
end K1

namespace K1
open PySem PySem.Spec PyProof.Rows L2 Evl HM LX ZW
theorem pair_heap {l : List Nat} (hp : l.Pairwise (fun a b => b ≤ a)) (h0 : ∀ x ∈ l, 0 < x) : IsHeap l := by
  refine ⟨fun c hc => h0 _ (List.mem_of_getElem? (hAt_lt hc)), fun c => ?_⟩
  by_cases q : c + 1 < l.length
  · obtain ⟨h1, e1⟩ := List.getElem?_eq_some_iff.mp (hAt_lt q)
    obtain ⟨h2, e2⟩ := List.getElem?_eq_some_iff.mp (hAt_lt (show c < l.length by omega))
    have := List.pairwise_iff_getElem.mp hp c (c + 1) h2 h1 (by omega)
    rw [e1, e2] at this
    exact this
  · rw [hAt_ge (show l.length ≤ c + 1 by omega)]
    exact Nat.zero_le _
theorem hv_nat {js : List Int} (h : ∀ j ∈ js, 0 ≤ j) : js.map V.int = hv (js.map Int.toNat) := by
  unfold hv
  rw [List.map_map]
  refine List.map_congr_left fun j hj => ?_
  show V.int j = V.int ((j.toNat : Nat) : Int)
  rw [Int.toNat_of_nonneg (h j hj)]
theorem pl_get {ps : List Int} {i : Nat} {x : V} (hx : (ps.map V.int)[i]? = some x) : x = .int (ps.getD i 0) := by
  rw [List.getElem?_map] at hx
  rw [List.getD_eq_getElem?_getD]
  cases e : ps[i]? with
  | none =>
    rw [e] at hx
    cases hx
  | some p =>
    rw [e] at hx
    exact (Option.some.inj hx).symm
section
variable {P : Program} {w : World} {K : PySem.W.Frag} {mg : Str → Option Value} {base : Heap}
def spLHeap : Sp := fun vs H Q _ => ∃ c a xs rs ps, vs = [.ref c, .ref a] ∧ H c = some (.tup xs) ∧ RingsAt H 60 xs rs ∧ xs.length ≤ 12 ∧ PlacesT H a ps ∧ ps.length = xs.length ∧ ∀ b H', Ex H H' → HeapAt H' b (hseq rs ps xs.length) → Q (.ref b) H'
def spDrawnHeap : Sp := fun vs H Q _ => ∃ d, vs = [.ref d] ∧ Dice H d ∧ ∀ b h H', HeapAt H' b h → IsHeap h → h.length ≤ 9 → hAt h 0 ≤ 9 → Dice H' d → Keep d H H' → Q (.ref b) H'
end
end K1

namespace K1
open PySem PySem.Spec PyProof.Rows L2 Evl K1N
/-! ### written names -/
theorem eqv_pair (a b c d : Int) : PyData.eqv (.tuple [.int a, .int b]) (.tuple [.int c, .int d]) = (a == c && b == d) := by
  simp [PyData.eqv, PyData.eqvAll]
def PlaceAt (H : Hp) (x : V) (p : Int × Int) : Prop := ∃ t, x = .ref t ∧ H t = some (.tup [.int p.1, .int p.2])
theorem PlaceAt.ex {H H' : Hp} {x : V} {p : Int × Int} (e : Ex H H') (h : PlaceAt H x p) : PlaceAt H' x p := by
  obtain ⟨t, rfl, ht⟩ := h
  exact ⟨t, rfl, e _ _ ht⟩
theorem PlaceAt.updL {H : Hp} {x : V} {p : Int × Int} {D : Addr} {ys zs : List V} (hD : H D = some (.lst ys)) (h : PlaceAt H x p) : PlaceAt (upd H D (.lst zs)) x p := by
  obtain ⟨t, rfl, ht⟩ := h
  exact ⟨t, rfl, by rw [upd_ne (ne_of ht hD (by intro z; cases z))]; exact ht⟩
abbrev Places (H : Hp) (xs : List V) (ps : List (Int × Int)) : Prop := Paired (PlaceAt H) xs ps
theorem Places.ex {H H' : Hp} {xs : List V} {ps : List (Int × Int)} (e : Ex H H') (h : Places H xs ps) : Places H' xs ps := paired_imp (fun _ _ q => PlaceAt.ex e q) h
theorem Places.updL {H : Hp} {xs : List V} {ps : List (Int × Int)} {D : Addr} {ys zs : List V} (hD : H D = some (.lst ys)) (h : Places H xs ps) : Places (upd H D (.lst zs)) xs ps := paired_imp (fun _ _ q => PlaceAt.updL hD q) h
/-- what the rings of a chain are, by number -/
theorem rings_nth {H : Hp} {most : Int} {xs : List V} {rs : List (Int × Int)} (h : RingsAt H most xs rs) {j : Nat} (hj : j < rs.length) : ∃ x, xs[j]? = some x ∧ RingAt H most x (nAt rs j : Int) (sAt rs j) := by
  have hl := paired_len h
  have hx : xs[j]? = some (xs[j]'(by omega)) := List.getElem?_eq_getElem _
  obtain ⟨r, hr, q⟩ := paired_get h hx
  have e : rs.getD j (0, 0) = r := by rw [List.getD_eq_getElem?_getD, hr]; rfl
  obtain ⟨t, e1, e2, e3, e4, e5, e6⟩ := id q
  refine ⟨_, hx, ?_⟩
  unfold nAt sAt
  rw [e, show ((r.1.toNat : Nat) : Int) = r.1 by omega]
  exact q
theorem rings_ok {H : Hp} {most : Int} {xs : List V} {rs : List (Int × Int)} (h : RingsAt H most xs rs) (j : Nat) (hj : j < rs.length) : 1 ≤ sAt rs j ∧ sAt rs j < (nAt rs j : Int) := by
  obtain ⟨x, _, t, _, _, _, _, e5, e6⟩ := rings_nth h hj
  exact ⟨e5, e6⟩
theorem rings_n {H : Hp} {xs : List V} {rs : List (Int × Int)} (h : RingsAt H 60 xs rs) (j : Nat) : nAt rs j ≤ 60 := by
  by_cases hj : j < rs.length
  · obtain ⟨x, _, t, _, _, _, e4, _⟩ := rings_nth h hj
    omega
  · unfold nAt
    rw [List.getD_eq_getElem?_getD, List.getElem?_eq_none (by omega)]
    decide
theorem rings_chain {K : PySem.W.Frag} {H : Hp} {a : Addr} {xs : List V} {rs : List (Int × Int)} (h : RingsAt H 60 xs rs) (ha : H a = some (.tup xs)) (h1 : 1 ≤ xs.length) (h2 : xs.length ≤ 12) : ChainB K H (.ref a) true := by
  have p : ∀ {xs : List V} {rs : List (Int × Int)}, RingsAt H 60 xs rs → Paired (RingB K H) xs (List.replicate xs.length true) := by
    intro xs rs h
    induction h with
    | nil => exact .nil
    | cons r _ ih => exact .cons (RingAt.ring r (Int.le_refl _)) ih
  have q := ChainB.tup (K := K) ha ⟨h1, h2⟩ (p h)
  have e : (List.replicate xs.length true).all id = true := by simp
  rw [e] at q
  exact q
theorem pre_in (rs : List (Int × Int)) : ∀ (i : Nat) {p : Int × Int}, p ∈ pre rs i → 0 ≤ p.1 ∧ p.1 < (i : Int)
  | 0, p, h => by cases h
  | i + 1, p, h => by
    rcases List.mem_append.mp h with h | h
    · have := pre_in rs i h
      omega
    · unfold row at h
      obtain ⟨q, _, rfl⟩ := List.mem_map.mp h
      show 0 ≤ (i : Int) ∧ (i : Int) < ((i + 1 : Nat) : Int)
      omega
/-- the written name of a place -/
def wn (rs : List (Int × Int)) (p : Int × Int) : Int × Int := if own rs p then p else (p.1 - 1, 0)
section
variable {P : Program} {w : World} {K : PySem.W.Frag} {mg : Str → Option Value} {base : Heap}
def spWrittenName : Sp := fun vs H Q _ => ∃ (c : Addr) (xs : List V) (rs : List (Int × Int)) (x : V) (p : Int × Int), vs = [.ref c, x] ∧ H c = some (.tup xs) ∧ RingsAt H 60 xs rs ∧ PlaceAt H x p ∧ 0 ≤ p.1 ∧ p.1 < (rs.length : Int) ∧
  ∀ y H', Ex H H' → PlaceAt H' y (wn rs p) → Q y H'
theorem ok_written_name (T : Txt K mg) {f : Addr} {fd : FuncData} (D : DefAt K mg "written_name" sWrittenName ["chain", "place"] f fd) : FnOk P w K mg base CX0 1 f fd ["chain", "place"] spWrittenName := by
  refine D.F.ok scWrittenName (fun vs H Q E h => ?_) (fun cdv A outer s H vs Q E hr h => ?_)
  · obtain ⟨c, xs, rs, x, p, rfl, _⟩ := h
    rfl
  · obtain ⟨c, xs, rs, x, ⟨j, q⟩, rfl, hc, hR, hp, p0, p1, k⟩ := h
    obtain ⟨t, rfl, ht⟩ := id hp
    have hj : j.toNat < rs.length := by
      have : (0 : Int) ≤ j := p0
      have : j < (rs.length : Int) := p1
      omega
    obtain ⟨y, hy, t2, rfl, ht2, n1, n2, n3, n4⟩ := rings_nth hR hj
    refine ⟨_, pss_cons (ps_asg (pv 1) (pg_tup (by rfl) (pgs_cons (pg_name (i := 2) scWrittenName.nd rfl (.inl rfl)) (pgs_cons (pg_name (i := 3) scWrittenName.nd rfl (.inl rfl)) pgs_nil))))
      (pss_cons (ps_if (PW.pt (pw_and (pt_cmpR op_gt (pv 2) pe_int (nomark _)) (pw_and1 (pt_cmpR op_eq (pv 3) (pe_ix ix_tup (pe_ix ix_tup (pv 0) (pv 2) (fun _ _ => rfl)) pe_int (fun _ _ => rfl)) (nomark _)))))
        (pss_one (ps_ret (pe_tup (pa_cons (pe_op op_sub (pv 2) pe_int) (pa_cons pe_int pa_nil))))) pss_nil)
      (pss_one (ps_ret (pv 1)))), ?_⟩
    refine ⟨_, rfl, t, _, rfl, SqT.of ht, rfl, _, _, rfl, _, _, rfl, rfl, ?_⟩
    refine ⟨_, rfl, _, _, rfl, rfl, _, rfl, ite2 (fun c1 => ?_) (fun c1 => ?_)⟩
    · have c2 : 0 < j := of_decide_eq_true c1
      refine ⟨_, rfl, _, rfl, _, rfl, c, xs, j, .ref t2, rfl, rfl, SqT.of hc, at_of (show j = ((j.toNat : Nat) : Int) by omega) hy, t2, _, 1, _, rfl, rfl, SqT.of ht2, rfl, rfl, _, rfl, ite2 (fun c3 => ?_) (fun c3 => ?_)⟩
      · have c4 : q = sAt rs j.toNat := V.int.inj (of_decide_eq_true c3)
        have ow : own rs (j, q) = false := by
          unfold own
          rw [decide_eq_true (show 0 < (j, q).1 from c2), decide_eq_true (show (j, q).2 = sAt rs (j, q).1.toNat from c4)]
          rfl
        refine ⟨_, rfl, _, _, rfl, rfl, by show 2 ≤ sizeLine; decide, fun p hp => k _ _ (Ex.new hp) ⟨p, rfl, ?_⟩⟩
        unfold wn
        rw [ow, if_neg (by decide)]
        exact upd_same
      · have c4 : ¬ q = sAt rs j.toNat := fun z => c3 (decide_eq_true (by rw [z]))
        have ow : own rs (j, q) = true := by
          unfold own
          rw [decide_eq_false (show ¬ (j, q).2 = sAt rs (j, q).1.toNat from c4), Bool.and_false]
          rfl
        refine ⟨_, rfl, k _ _ (Ex.refl _) ?_⟩
        unfold wn
        rw [if_pos ow]
        exact hp
    · have c2 : ¬ 0 < j := fun z => c1 (decide_eq_true z)
      have ow : own rs (j, q) = true := by
        unfold own
        rw [decide_eq_false (show ¬ 0 < (j, q).1 from c2), Bool.false_and]
        rfl
      refine iteF ?_
      refine ⟨_, rfl, k _ _ (Ex.refl _) ?_⟩
      unfold wn
      rw [if_pos ow]
      exact hp
def spNamesOf : Sp := fun vs H Q _ => ∃ (c : Addr) (xs : List V) (rs : List (Int × Int)), vs = [.ref c] ∧ H c = some (.tup xs) ∧ RingsAt H 60 xs rs ∧ xs.length ≤ 12 ∧ ∀ p ys H', Ex H H' → H p = none → H' p = some (.lst ys) → Places H' ys (names rs) → Q (.ref p) H'
def spPlacesOf : Sp := fun vs H Q _ => ∃ (c : Addr) (xs : List V) (rs : List (Int × Int)), vs = [.ref c] ∧ H c = some (.tup xs) ∧ RingsAt H 60 xs rs ∧ 1 ≤ xs.length ∧ xs.length ≤ 12 ∧ ∀ p ys H', Ex H H' → H' p = some (.tup ys) → Places H' ys (names rs) → Q (.ref p) H'
end
end K1

/-! own walk: zip of a list and a tuple -/
namespace ZM
open PySem PySem.Spec PyProof.Rows L2
/-- a list and a tuple, their items in new pairs -/
def ItM (K : PySem.W.Frag) (a b : Addr) : It :=
  ⟨fun i H => ∃ (xs ys : List V) (x y : V), SqL K H a xs ∧ SqT K H b ys ∧ xs[i]? = some x ∧ ys[i]? = some y,
    fun i H v H' => ∃ T x y, v = .ref T ∧ H T = none ∧ H' = upd H T (.tup [x, y]) ∧ (∀ xs, SqL K H a xs → xs[i]? = some x) ∧ ∀ ys, SqT K H b ys → ys[i]? = some y,
    fun i H => ∃ xs ys : List V, SqL K H a xs ∧ SqT K H b ys ∧ xs.length = i ∧ ys.length = i⟩
theorem turnM {P : Program} {w : World} {K : PySem.W.Frag} {elts : List Expr} {kk : Nat} {tpos : Pos} {a b z TI TO i1 i2 : Addr} (S : ZipSep2 z TI TO i1 i2 [i1, a] [i2, b]) (na : a ≠ i1) (nb : b ≠ i2) (w1 : z ≠ i1 ∧ z ≠ i2) :
    Turn P w K (.Tuple elts kk tpos) (ItM K a b) [z, TI, TO, i1, i2] z (fun i h => IsZip h z TI TO .none ∧ IsTupOf2 h TI (.ref i1) (.ref i2) ∧ (∃ x y, IsTupOf2 h TO x y) ∧ h.IsListIter i1 a i ∧ h.IsTupleIter i2 b i) where
  mem := by simp
  obj := fun i h st t ht => by
    obtain ⟨hz, hTI, ⟨x, y, hTO⟩, ⟨o1, e1, _, d1⟩, ⟨o2, e2, _, d2⟩⟩ := st
    rcases (show t = z ∨ t = TI ∨ t = TO ∨ t = i1 ∨ t = i2 by simpa using ht) with q | q | q | q | q
    · rw [q]
      exact ⟨_, hz, fun v q => nomatch q⟩
    · rw [q]
      exact ⟨_, hTI, fun v q => nomatch q⟩
    · rw [q]
      exact ⟨_, hTO, fun v q => nomatch q⟩
    · exact ⟨o1, q ▸ e1, fun v q => by rw [d1] at q; cases q⟩
    · exact ⟨o2, q ▸ e2, fun v q => by rw [d2] at q; cases q⟩
  keep := fun i h h' st k => by
    obtain ⟨hz, hTI, ⟨x, y, hTO⟩, h1, h2⟩ := st
    exact ⟨k z (by simp) _ hz, k TI (by simp) _ hTI, ⟨x, y, k TO (by simp) _ hTO⟩, h1.at fun o q => k i1 (by simp) o q, h2.at fun o q => k i2 (by simp) o q⟩
  item := by
    intro X eP eW eK hc i pins s σ H E I hf st hg
    subst eP eW eK
    obtain ⟨hz, hTI, ⟨x0, y0, hTO⟩, h1, h2⟩ := st
    obtain ⟨xs, ys, x, y, qx, qy, gx, gy⟩ := hg
    obtain ⟨t1, r1, p1, _⟩ := I.list qx
    obtain ⟨t2, r2, p2, _⟩ := I.tuple qy
    obtain ⟨v1, m1, rv1⟩ := r1.get gx
    obtain ⟨v2, m2, rv2⟩ := r2.get gy
    have l1 : i < t1.toArray.size := by simpa using (List.getElem?_eq_some_iff.mp m1).1
    have l2 : i < t2.toArray.size := by simpa using (List.getElem?_eq_some_iff.mp m2).1
    have hzl : z < s.heap.objs.size := Heap.lt_size hz
    have hh : X.A.in1.handled = none := I.ok.hd hc
    refine wpAny_pyNext_zipD2_item S (Draws.list hh i1 a na t1.toArray) (Draws.tuple hh i2 b nb t2.toArray) hz hTI hTO ⟨h1, p1.isList⟩ ⟨h2, p2⟩ l1 l2 fun w1' w2' h' tk g1 g2 zz tt s1 s2 hT hsz hk => ?_
    have a1 : w1' = v1 := Option.some.inj (g1.symm.trans (by simpa using m1))
    have a2 : w2' = v2 := Option.some.inj (g2.symm.trans (by simpa using m2))
    subst a1 a2
    refine ⟨_, rfl, wpAny_letOwnedTupleGo_zip (s := { s with heap := h', toks := tk }) zz fun h2' z2 sb => ?_⟩
    have hT2 : h2'.get? s.heap.objs.size = some { cls := .type "tuple", data := .seq #[w1', w2'] } := (sb.2 _ (Nat.ne_of_gt hzl)).trans hT
    have made : ObjOk X.prog X.w (upd H s.heap.objs.size (.tup [x, y])) h2' s.heap.objs.size (.tup [x, y]) :=
      ⟨by show 2 ≤ sizeLine; decide, [w1', w2'], .cons rv1 (.cons rv2 .nil), ⟨_, hT2, rfl, _, rfl⟩⟩
    have I2 : Inv X pins σ (upd H s.heap.objs.size (.tup [x, y])) { s with heap := h2', toks := tk } :=
      I.turnedNew (ch := [z, TI, TO, i1, i2]) (fun t o ht q => (sb.2 t (fun e => ht (by simp [e]))).trans (hk t o (fun e => ht (by simp [e])) (fun e => ht (by simp [e])) (fun e => ht (by simp [e])) (fun e => ht (by simp [e])) q)) hf (Nat.le_refl _) made
    refine ⟨.ref s.heap.objs.size, _, I2, rfl, ⟨_, x, y, rfl, I.hok.fresh (Nat.le_refl _), rfl, fun l hl => by rw [I.list_inj hl qx]; exact gx, fun l hl => by rw [I.tuple_inj hl qy]; exact gy⟩,
      ⟨z2, (sb.2 _ S.TIz).trans (hk _ _ S.TIz S.TITO S.TIi1 S.TIi2 hTI), ⟨w1', w2', (sb.2 _ S.TOz).trans tt⟩, s1.1.at fun o q => (sb.2 _ w1.1.symm).trans q, s2.1.at fun o q => (sb.2 _ w1.2.symm).trans q⟩, fun t ht => ?_⟩
    have lt : t < s.heap.objs.size := by
      rcases (show t = z ∨ t = TI ∨ t = TO ∨ t = i1 ∨ t = i2 by simpa using ht) with q | q | q | q | q
      · exact q ▸ hzl
      · exact q ▸ Heap.lt_size hTI
      · exact q ▸ Heap.lt_size hTO
      · obtain ⟨_, e, _⟩ := h1
        exact q ▸ Heap.lt_size e
      · obtain ⟨_, e, _⟩ := h2
        exact q ▸ Heap.lt_size e
    rw [upd_ne (Nat.ne_of_lt lt)]
    exact (hf t ht).1
  done := by
    intro X eP eW eK hc i pins s σ H E I hf st hg
    subst eP eW eK
    obtain ⟨hz, hTI, ⟨x0, y0, hTO⟩, h1, h2⟩ := st
    obtain ⟨xs, ys, qx, qy, gx, gy⟩ := hg
    obtain ⟨t1, r1, p1, _⟩ := I.list qx
    obtain ⟨t2, r2, p2, _⟩ := I.tuple qy
    have k1 := r1.length
    have k2 := r2.length
    have hh : X.A.in1.handled = none := I.ok.hd hc
    exact wpAny_pyNext_zipD2_end S (Draws.list hh i1 a na t1.toArray) (Draws.tuple hh i2 b nb t2.toArray) hz hTI hTO ⟨h1, p1.isList⟩ ⟨h2, p2⟩ (by rw [List.size_toArray]; omega) (by rw [List.size_toArray]; omega) (.inl (by rw [List.size_toArray]; omega))
      fun h' tk hk => ⟨rfl, I.turnedL (ch := [z, TI, TO, i1, i2]) (fun t o ht q => hk t o (fun e => ht (by simp [e])) (fun e => ht (by simp [e])) (fun e => ht (by simp [e])) (fun e => ht (by simp [e])) q) hf⟩
  self := fun A i s Q E st h => wpAny_pyIter_zip st.1 h
def iZipM (K : PySem.W.Frag) (ta : TA) : TI := fun σ H R => ta σ H fun vs H1 => ∃ a b xs ys, vs = [.ref a, .ref b] ∧ SqL K H1 a xs ∧ SqT K H1 b ys ∧ R (ItM K a b) H1
theorem pi_zipM {X : Cx} {e e2 : Expr} {ta : TA} {p pos tpos : Pos} {elts : List Expr} {kk : Nat} (hg : Gl X "zip") (hm : X.mg "zip" = none) (ha : PA X [e, e2] ta)
    (hs : starEach [e, e2] X.env = (false, eval e X.env) :: starEach [e2] X.env := by rfl) (hpl : (backTo pos (starEach [e2] X.env)).any (·.1) = false := by rfl) :
    PI X (.Tuple elts kk tpos) (.Call (.Name "zip" p) [e, e2] [] pos) (iZipM X.K ta) := by
  refine ⟨fun pins s σ H R I h => ?_⟩
  refine Call_ (ld_blt I hg hm PyProof.Rows.boot_zip (PyProof.Rows.callWith_type1 (thn (ha.run pos pins s σ H _ I h) fun vs' s1 ⟨vs, H1, I1, r1, q1⟩ => ?_) hs hpl))
  obtain ⟨a, b, xs, ys, ex, qx, qy, q⟩ := q1
  subst ex
  obtain ⟨t1, r1', p1, _⟩ := I1.list qx
  obtain ⟨t2, r2', p2, _⟩ := I1.tuple qy
  cases r1 with
  | cons ra rr =>
    cases rr with
    | cons rb rr =>
      cases rr
      cases ra
      cases rb
      have la : a < s1.heap.objs.size := by
        obtain ⟨_, e, _⟩ := p1.isList
        exact Heap.lt_size e
      have lb : b < s1.heap.objs.size := by
        obtain ⟨_, e, _⟩ := p2
        exact Heap.lt_size e
      refine zip_begins2 (begins_list a t1.toArray) (begins_tuple b t2.toArray) p1.isList p2 fun h' hz hTI hTO g1 g2 _ hk => wpAny_pyIter_zip hz ?_
      have I2 : Inv X pins σ H1 { s1 with heap := h' } := I1.kept (t' := s1.toks) hk
      have S : ZipSep2 (s1.heap.objs.size + 4) (s1.heap.objs.size + 2) (s1.heap.objs.size + 3) s1.heap.objs.size (s1.heap.objs.size + 1) [s1.heap.objs.size, a] [s1.heap.objs.size + 1, b] :=
        zip_sep2 (fun t ht => by rw [List.mem_singleton.mp ht]; exact la) (fun t ht => by rw [List.mem_singleton.mp ht]; exact lb)
      have add : ∀ {m k : Nat}, m ≠ k → s1.heap.objs.size + m ≠ s1.heap.objs.size + k := fun n e => n (Nat.add_left_cancel e)
      refine ⟨s1.heap.objs.size + 4, [s1.heap.objs.size + 4, s1.heap.objs.size + 2, s1.heap.objs.size + 3, s1.heap.objs.size, s1.heap.objs.size + 1], _, _, H1, rfl, I2,
        turnM S (Nat.ne_of_lt la) (Nat.ne_of_lt (Nat.lt_succ_of_lt lb)) ⟨add (m := 4) (k := 0) (by decide), add (by decide)⟩,
        ⟨hz, hTI, ⟨_, _, hTO⟩, ⟨_, g1, rfl, rfl⟩, ⟨_, g2, rfl, rfl⟩⟩, fun t ht => ?_, q⟩
      have le : s1.heap.objs.size ≤ t := by
        rcases (show t = s1.heap.objs.size + 4 ∨ t = s1.heap.objs.size + 2 ∨ t = s1.heap.objs.size + 3 ∨ t = s1.heap.objs.size ∨ t = s1.heap.objs.size + 1 by simpa using ht) with q | q | q | q | q
        · exact q ▸ Nat.le_add_right _ _
        · exact q ▸ Nat.le_add_right _ _
        · exact q ▸ Nat.le_add_right _ _
        · exact q ▸ Nat.le_refl _
        · exact q ▸ Nat.le_add_right _ _
      exact I1.fpOk le (I1.hok.fresh le)
theorem lc_zipM {K : PySem.W.Frag} {a b : Addr} {xs ys : List V} {n : Nat} {g : TG} {tt : TT} {te : TE} {vs : List Nat} {σ : L2.St} {H1 : Hp} {D : Addr} {Qd : Hp → Prop} (hx : xs.length = n) (hy : ys.length = n)
    (Pv : Nat → Hp → Prop) (h0 : Pv 0 (upd H1 D (.lst []))) (hq : ∀ i H, Pv i H → SqL K H a xs ∧ SqT K H b ys)
    (hs : ∀ i x y T H, i < n → xs[i]? = some x → ys[i]? = some y → Pv i H → H T = none → g (.ref T) (wipe σ vs) (upd H T (.tup [x, y])) fun σ2 H2 => wipe σ2 vs = wipe σ vs ∧ tt σ2 H2 fun c H3 =>
      if c = true then te σ2 H3 fun z H4 => ∃ acc, H4 D = some (.lst acc) ∧ acc.length < sizeLine ∧ Pv (i + 1) (upd H4 D (.lst (acc ++ [z]))) else Pv (i + 1) H3) (hd : ∀ H, Pv n H → Qd H) :
    ∃ W : Nat → Nat → Hp → Prop, (∃ m, W 0 m (upd H1 D (.lst []))) ∧ ∀ i m H, W i m H →
      ((ItM K a b).stop i H ∧ Qd H) ∨ ((ItM K a b).go i H ∧ ∃ Nx : Hp → Prop, (∀ H', Nx H' → ∃ m', m' < m ∧ W (i + 1) m' H') ∧ ∀ v H', (ItM K a b).yld i H v H' → g v (wipe σ vs) H' fun σ2 H2 => wipe σ2 vs = wipe σ vs ∧ tt σ2 H2 fun c H3 =>
        if c = true then te σ2 H3 fun z H4 => ∃ acc, H4 D = some (.lst acc) ∧ acc.length < sizeLine ∧ Nx (upd H4 D (.lst (acc ++ [z]))) else Nx H3) := by
  refine ⟨fun i m H => m = n - i ∧ i ≤ n ∧ Pv i H, ⟨n, (Nat.sub_zero n).symm, Nat.zero_le _, h0⟩, ?_⟩
  rintro i m H ⟨rfl, hi, p⟩
  obtain ⟨qa, qb⟩ := hq i H p
  by_cases hlt : i < n
  · have e1 : xs[i]? = some (xs[i]'(by omega)) := List.getElem?_eq_getElem _
    have e2 : ys[i]? = some (ys[i]'(by omega)) := List.getElem?_eq_getElem _
    refine .inr ⟨⟨xs, ys, _, _, qa, qb, e1, e2⟩, Pv (i + 1), fun H' p' => ⟨n - (i + 1), by omega, rfl, hlt, p'⟩, fun v H' hy' => ?_⟩
    obtain ⟨T, x, y, rfl, nT, rfl, fx, fy⟩ := hy'
    exact hs i x y T H hlt (fx _ qa) (fy _ qb) p nT
  · have e : i = n := by omega
    subst e
    exact .inl ⟨⟨xs, ys, qa, qb, hx, hy⟩, hd H p⟩
end ZM

namespace K1
open PySem PySem.Spec PyProof.Rows L2 Evl LX ZW
theorem int_get5 {ns : List Int} {i : Nat} (h : i < ns.length) : (ns.map V.int)[i]? = some (V.int (ns.getD i 0)) := by
  rw [List.getElem?_map, List.getD_eq_getElem?_getD, List.getElem?_eq_getElem h]
  rfl
theorem mapr_get {n i : Nat} (f : Nat → Int) (h : i < n) : ((List.range n).map f).getD i 0 = f i := by
  rw [List.getD_eq_getElem?_getD, List.getElem?_map, List.getElem?_range h]
  rfl
section
variable {P : Program} {w : World} {K : PySem.W.Frag} {mg : Str → Option Value} {base : Heap}
def spCheckDigits (K : PySem.W.Frag) : Sp := fun vs H Q _ => ∃ (l : Addr) (ns : List Int), vs = [.ref l] ∧ H l = some (.lst (ns.map V.int)) ∧ ns.length ≤ 1000 ∧ (∀ z ∈ ns, -(10 ^ 60) < z ∧ z < 10 ^ 60) ∧ ∀ H', Ex H H' → Q .non H'
theorem ok_check_digits (T : Txt K mg) {f : Addr} {fd : FuncData} (D : DefAt K mg "check_digits" sCheckDigits ["numbers"] f fd) : FnOk P w K mg base CX0 2 f fd ["numbers"] (spCheckDigits K) := by
  refine D.F.ok scCheckDigits (fun vs H Q E h => ?_) (fun cdv A outer s H vs Q E hr h => ?_)
  · obtain ⟨l, ns, rfl, _⟩ := h
    rfl
  · obtain ⟨l, ns, rfl, hl, h1000, hb, k⟩ := h
    obtain ⟨f1, fd1, D1⟩ := T.d_is_integer
    refine ⟨_, pss_one (ps_if (pt_not (pt_val (pe_callB (cr_all rfl) (by rfl) T.z_all (by decide +kernel) (pa_cons (pe_lc (own := [("number", 1)]) (g := gName 1) (tt := tYes) rfl scCheckDigits.nd (pi_list (pv 0))
        (blkOk_by (N := nCheckDigits) (sc := defScope sCheckDigits) (by decide +kernel)) (fun _ _ _ _ _ => pg_name (i := 1) scCheckDigits.nd rfl (Or.inl rfl)) (fun _ _ _ _ _ => pts_nil)
        (fun _ _ _ _ _ => pe_call (ok_is_integer T D1) hr (by rfl) D1.g D1.F.kp D1.b .nil pass0 (pa_cons (pv 1) pa_nil))) pa_nil)))) pss_never pss_nil), ?_⟩
    refine ⟨_, rfl, l, rfl, ⟨_, SqL.of hl⟩, fun Dl hD => ?_⟩
    refine lc_list (K := K) (a := l) (xs := ns.map V.int) (fun i H' => H' Dl = some (.lst ((List.replicate i true).map V.bl)) ∧ Ex H H') ⟨upd_same, Ex.new hD⟩ (fun i H' _ hp => SqL.of (hp.2 _ _ hl)) (fun i x H' hx hp => ?_) (fun H' hp => ?_)
    · obtain ⟨w1, w2⟩ := hp
      have hi : i < ns.length := by
        have := (List.getElem?_eq_some_iff.mp hx).1
        rw [List.length_map] at this
        exact this
      rw [int_get5 hi] at hx
      obtain rfl := Option.some.inj hx
      obtain ⟨b1, b2⟩ := hb (ns.getD i 0) (by rw [List.getD_eq_getElem?_getD, List.getElem?_eq_getElem hi]; exact List.getElem_mem hi)
      refine ⟨rfl, ?_⟩
      dsimp only [tYes]
      rw [if_pos rfl]
      refine ⟨_, rfl, _, true, rfl, ?_, fun H3 e3 => ⟨_, e3 _ _ w1, ?_, ?_, Ex.mut (w2.trans e3) hD⟩⟩
      · have := IntB.int (K := K) (H := H') (ns.getD i 0)
        rw [decide_eq_true b1, decide_eq_true b2] at this
        exact this
      · rw [List.length_map, List.length_replicate]
        exact small1000 (by omega)
      · rw [upd_same, List.replicate_succ', List.map_append]
        rfl
    · refine ⟨Dl, List.replicate (ns.map V.int).length true, rfl, SqL.of hp.1, ?_⟩
      rw [show (List.replicate (ns.map V.int).length true).all id = true by simp]
      exact ⟨_, rfl, iteF (k _ hp.2)⟩
end
end K1

/-! plain mathematics of deals: numbers by places, linear readings of them -/
namespace DM
abbrev Pl := Int × Int
abbrev Dl := List (Pl × Int)
def getE (ds : Dl) (p : Pl) : Option Int := (ds.find? fun e => decide (e.1 = p)).map (·.2)
def g0 (ds : Dl) (p : Pl) : Int := (getE ds p).getD 0
def putE (ds : Dl) (p : Pl) (v : Int) : Dl := if (ds.any fun e => decide (e.1 = p)) = true then ds.map (fun e => if e.1 = p then (e.1, v) else e) else ds ++ [(p, v)]
def NK (ds : Dl) : Prop := (ds.map (·.1)).Nodup
/-- a linear reading -/
def Sf (f : Pl → Int) : Dl → Int
  | [] => 0
  | e :: r => f e.1 * e.2 + Sf f r
/-- all absolute numbers -/
def Ab : Dl → Int
  | [] => 0
  | e :: r => (e.2.natAbs : Int) + Ab r
theorem getE_pos {e : Pl × Int} {r : Dl} {p : Pl} (h : e.1 = p) : getE (e :: r) p = some e.2 := by simp [getE, List.find?_cons, h]
theorem getE_neg {e : Pl × Int} {r : Dl} {p : Pl} (h : ¬ e.1 = p) : getE (e :: r) p = getE r p := by simp [getE, List.find?_cons, h]
theorem getE_any (p : Pl) : ∀ ds : Dl, (ds.any fun e => decide (e.1 = p)) = (getE ds p).isSome
  | [] => rfl
  | e :: r => by
    rw [List.any_cons]
    by_cases h : e.1 = p
    · rw [getE_pos h, decide_eq_true h]
      rfl
    · rw [getE_neg h, decide_eq_false h, getE_any p r]
      rfl
theorem getE_mem {p : Pl} {v : Int} : ∀ {ds : Dl}, getE ds p = some v → (p, v) ∈ ds
  | [], h => by cases h
  | e :: r, h => by
    by_cases q : e.1 = p
    · rw [getE_pos q] at h
      obtain rfl := Option.some.inj h
      rw [← q]
      exact List.mem_cons_self
    · rw [getE_neg q] at h
      exact List.mem_cons_of_mem _ (getE_mem h)
theorem getE_none {p : Pl} {ds : Dl} (h : getE ds p = none) : ∀ e ∈ ds, e.1 ≠ p := fun e he z => by
  have := getE_any p ds
  rw [h] at this
  have t : (ds.any fun e => decide (e.1 = p)) = true := List.any_eq_true.mpr ⟨e, he, decide_eq_true z⟩
  rw [t] at this
  cases this
theorem getE_of {p : Pl} {v : Int} : ∀ {ds : Dl}, NK ds → (p, v) ∈ ds → getE ds p = some v
  | [], _, h => by cases h
  | e :: r, n, h => by
    obtain ⟨n1, n2⟩ := List.nodup_cons.mp n
    rcases List.mem_cons.mp h with q | q
    · subst q
      exact getE_pos rfl
    · have : ¬ e.1 = p := fun z => n1 (List.mem_map.mpr ⟨(p, v), q, z.symm⟩)
      rw [getE_neg this]
      exact getE_of n2 q
theorem Sf_append (f : Pl → Int) : ∀ a b : Dl, Sf f (a ++ b) = Sf f a + Sf f b
  | [], b => (Int.zero_add _).symm
  | e :: a, b => by
    show f e.1 * e.2 + Sf f (a ++ b) = f e.1 * e.2 + Sf f a + Sf f b
    rw [Sf_append f a b, Int.add_assoc]
theorem Ab_append : ∀ a b : Dl, Ab (a ++ b) = Ab a + Ab b
  | [], b => (Int.zero_add _).symm
  | e :: a, b => by
    show (e.2.natAbs : Int) + Ab (a ++ b) = (e.2.natAbs : Int) + Ab a + Ab b
    rw [Ab_append a b, Int.add_assoc]
theorem Ab_nonneg : ∀ a : Dl, 0 ≤ Ab a
  | [] => Int.le_refl 0
  | e :: a => by
    have := Ab_nonneg a
    show 0 ≤ (e.2.natAbs : Int) + Ab a
    omega
theorem Ab_mem : ∀ {ds : Dl} {e : Pl × Int}, e ∈ ds → (e.2.natAbs : Int) ≤ Ab ds
  | [], e, h => by cases h
  | d :: r, e, h => by
    show _ ≤ (d.2.natAbs : Int) + Ab r
    have := Ab_nonneg r
    rcases List.mem_cons.mp h with q | q
    · rw [q]
      omega
    · have := Ab_mem q
      omega
theorem map_no {p : Pl} {v : Int} : ∀ {ds : Dl}, (∀ e ∈ ds, e.1 ≠ p) → ds.map (fun e => if e.1 = p then (e.1, v) else e) = ds
  | [], _ => rfl
  | e :: r, h => by
    rw [List.map_cons, if_neg (h e List.mem_cons_self), map_no fun x hx => h x (List.mem_cons_of_mem _ hx)]
theorem put_map {f : Pl → Int} {p : Pl} {v o : Int} : ∀ {ds : Dl}, NK ds → getE ds p = some o → Sf f (ds.map fun e => if e.1 = p then (e.1, v) else e) = Sf f ds + f p * (v - o) ∧ Ab (ds.map fun e => if e.1 = p then (e.1, v) else e) + (o.natAbs : Int) = Ab ds + (v.natAbs : Int)
  | [], _, h => by cases h
  | e :: r, n, h => by
    obtain ⟨n1, n2⟩ := List.nodup_cons.mp n
    by_cases q : e.1 = p
    · rw [getE_pos q] at h
      obtain rfl := Option.some.inj h
      have no : ∀ x ∈ r, x.1 ≠ p := fun x hx z => n1 (List.mem_map.mpr ⟨x, hx, z.trans q.symm⟩)
      rw [List.map_cons, if_pos q, map_no no]
      constructor
      · show f e.1 * v + Sf f r = f e.1 * e.2 + Sf f r + f p * (v - e.2)
        rw [q, Int.mul_sub]
        omega
      · show (v.natAbs : Int) + Ab r + _ = (e.2.natAbs : Int) + Ab r + _
        omega
    · rw [getE_neg q] at h
      obtain ⟨a, b⟩ := put_map (f := f) (v := v) n2 h
      rw [List.map_cons, if_neg q]
      constructor
      · show f e.1 * e.2 + Sf f _ = f e.1 * e.2 + Sf f r + f p * (v - o)
        rw [a]
        omega
      · show (e.2.natAbs : Int) + Ab _ + _ = (e.2.natAbs : Int) + Ab r + _
        omega
/-- what a number put at a place changes -/
theorem put_sum {f : Pl → Int} {p : Pl} {x : Int} {ds : Dl} (n : NK ds) : Sf f (putE ds p (g0 ds p + x)) = Sf f ds + f p * x ∧ Ab (putE ds p (g0 ds p + x)) ≤ Ab ds + (x.natAbs : Int) := by
  unfold putE
  have a := getE_any p ds
  cases h : getE ds p with
  | none =>
    rw [h] at a
    have z : g0 ds p = 0 := by
      unfold g0
      rw [h]
      rfl
    rw [if_neg (by rw [a]; decide), Sf_append, Ab_append, z, Int.zero_add]
    constructor
    · show Sf f ds + (f p * x + 0) = _
      omega
    · show Ab ds + ((x.natAbs : Int) + 0) ≤ _
      omega
  | some o =>
    rw [h] at a
    have z : g0 ds p = o := by
      unfold g0
      rw [h]
      rfl
    rw [if_pos (by rw [a]; rfl), z]
    obtain ⟨b, c⟩ := put_map (f := f) (v := o + x) n h
    constructor
    · rw [b, show o + x - o = x by omega]
    · omega
theorem put_keys {p : Pl} {v : Int} {ds : Dl} : ∀ e ∈ putE ds p v, e.1 = p ∨ ∃ d ∈ ds, d.1 = e.1 := fun e he => by
  unfold putE at he
  split at he
  · obtain ⟨d, hd, rfl⟩ := List.mem_map.mp he
    refine .inr ⟨d, hd, ?_⟩
    split <;> rfl
  · rcases List.mem_append.mp he with h | h
    · exact .inr ⟨e, h, rfl⟩
    · rw [List.mem_singleton.mp h]
      exact .inl rfl
theorem put_nk {p : Pl} {v : Int} {ds : Dl} (n : NK ds) : NK (putE ds p v) := by
  unfold NK putE
  have a := getE_any p ds
  cases h : getE ds p with
  | none =>
    rw [h] at a
    rw [if_neg (by rw [a]; decide), List.map_append]
    refine List.nodup_append.mpr ⟨n, by simp, fun x hx y hy => ?_⟩
    rw [List.mem_singleton.mp hy]
    obtain ⟨e, he, rfl⟩ := List.mem_map.mp hx
    exact getE_none h e he
  | some o =>
    rw [h] at a
    rw [if_pos (by rw [a]; rfl), List.map_map]
    have : ds.map ((fun e => e.1) ∘ fun e => if e.1 = p then (e.1, v) else e) = ds.map (·.1) := List.map_congr_left fun e _ => by
      show (if e.1 = p then (e.1, v) else e).1 = e.1
      split <;> rfl
    rw [this]
    exact n
theorem put_len (ds : Dl) (p : Pl) (v : Int) : (putE ds p v).length ≤ ds.length + 1 := by
  unfold putE
  split
  · rw [List.length_map]
    omega
  · rw [List.length_append]
    exact Nat.le_refl _
theorem put_get {ds : Dl} (n : NK ds) {p q : Pl} {v : Int} (h : ¬ q = p) : getE (putE ds p v) q = getE ds q := by
  unfold putE
  split
  · clear n
    induction ds with
    | nil => rfl
    | cons e r ih =>
      rename_i hh
      by_cases z : e.1 = p
      · rw [List.map_cons, if_pos z, getE_neg (by show ¬ e.1 = q; rw [z]; exact fun y => h y.symm), getE_neg (by rw [z]; exact fun y => h y.symm)]
        by_cases any : (r.any fun e => decide (e.1 = p)) = true
        · exact ih any
        · have no : ∀ x ∈ r, x.1 ≠ p := fun x hx y => any (List.any_eq_true.mpr ⟨x, hx, decide_eq_true y⟩)
          rw [map_no no]
      · have any : (r.any fun e => decide (e.1 = p)) = true := by
          rw [List.any_cons, decide_eq_false z, Bool.false_or] at hh
          exact hh
        rw [List.map_cons, if_neg z]
        by_cases y : e.1 = q
        · rw [getE_pos y, getE_pos y]
        · rw [getE_neg y, getE_neg y, ih any]
  · clear n
    induction ds with
    | nil =>
      show getE [(p, v)] q = none
      rw [getE_neg (by exact fun y => h y.symm)]
      rfl
    | cons e r ih =>
      rename_i hh
      have any : ¬ (r.any fun e => decide (e.1 = p)) = true := fun y => hh (by rw [List.any_cons, y, Bool.or_true])
      rw [List.cons_append]
      by_cases y : e.1 = q
      · rw [getE_pos y, getE_pos y]
      · rw [getE_neg y, getE_neg y, ih any]
/-! ### the told sum: keys in any order, zeros left out -/
def told (ds : Dl) (ks : List Pl) : Dl := (ks.map fun k => (k, g0 ds k)).filter fun e => !decide (e.2 = 0)
theorem keys_back {ds : Dl} (n : NK ds) : ds = (ds.map (·.1)).map fun k => (k, g0 ds k) := by
  rw [List.map_map]
  conv => lhs; rw [← List.map_id ds]
  refine List.map_congr_left fun e he => ?_
  show e = (e.1, g0 ds e.1)
  unfold g0
  rw [getE_of n (p := e.1) (v := e.2) he]
  rfl
theorem Sf_perm {f : Pl → Int} {a b : Dl} (p : a.Perm b) : Sf f a = Sf f b := by
  induction p with
  | nil => rfl
  | cons x _ ih =>
    show f x.1 * x.2 + Sf f _ = f x.1 * x.2 + Sf f _
    rw [ih]
  | swap x y l =>
    show f y.1 * y.2 + (f x.1 * x.2 + Sf f l) = f x.1 * x.2 + (f y.1 * y.2 + Sf f l)
    omega
  | trans _ _ h1 h2 => exact h1.trans h2
theorem Ab_perm {a b : Dl} (p : a.Perm b) : Ab a = Ab b := by
  induction p with
  | nil => rfl
  | cons x _ ih =>
    show (x.2.natAbs : Int) + Ab _ = (x.2.natAbs : Int) + Ab _
    rw [ih]
  | swap x y l =>
    show (y.2.natAbs : Int) + ((x.2.natAbs : Int) + Ab l) = (x.2.natAbs : Int) + ((y.2.natAbs : Int) + Ab l)
    omega
  | trans _ _ h1 h2 => exact h1.trans h2
theorem Sf_zero {f : Pl → Int} : ∀ ds : Dl, Sf f (ds.filter fun e => !decide (e.2 = 0)) = Sf f ds
  | [] => rfl
  | e :: r => by
    by_cases h : e.2 = 0
    · rw [List.filter_cons, if_neg (by rw [decide_eq_true h]; decide), Sf_zero r]
      show _ = f e.1 * e.2 + Sf f r
      rw [h, Int.mul_zero, Int.zero_add]
    · rw [List.filter_cons, if_pos (by rw [decide_eq_false h]; rfl)]
      show f e.1 * e.2 + Sf f _ = f e.1 * e.2 + Sf f r
      rw [Sf_zero r]
theorem Ab_zero : ∀ ds : Dl, Ab (ds.filter fun e => !decide (e.2 = 0)) ≤ Ab ds
  | [] => Int.le_refl _
  | e :: r => by
    have := Ab_zero r
    rw [List.filter_cons]
    split
    · show (e.2.natAbs : Int) + Ab _ ≤ (e.2.natAbs : Int) + Ab r
      omega
    · show _ ≤ (e.2.natAbs : Int) + Ab r
      omega
theorem told_perm {ds : Dl} (n : NK ds) {ks : List Pl} (p : ks.Perm (ds.map (·.1))) : (ks.map fun k => (k, g0 ds k)).Perm ds := by
  have := p.map fun k => (k, g0 ds k)
  rw [← keys_back n] at this
  exact this
theorem told_sum {f : Pl → Int} {ds : Dl} (n : NK ds) {ks : List Pl} (p : ks.Perm (ds.map (·.1))) : Sf f (told ds ks) = Sf f ds := (Sf_zero _).trans (Sf_perm (told_perm n p))
theorem told_abs {ds : Dl} (n : NK ds) {ks : List Pl} (p : ks.Perm (ds.map (·.1))) : Ab (told ds ks) ≤ Ab ds := by
  have := Ab_zero (ks.map fun k => (k, g0 ds k))
  rw [Ab_perm (told_perm n p)] at this
  exact this
theorem told_keys {ds : Dl} {ks : List Pl} : ∀ e ∈ told ds ks, e.1 ∈ ks := fun e he => by
  obtain ⟨k, hk, rfl⟩ := List.mem_map.mp (List.mem_filter.mp he).1
  exact hk
theorem told_nk {ds : Dl} {ks : List Pl} (n : ks.Nodup) : NK (told ds ks) := by
  unfold NK told
  have s : ((ks.map fun k => (k, g0 ds k)).filter fun e => !decide (e.2 = 0)).Sublist (ks.map fun k => (k, g0 ds k)) := List.filter_sublist
  have s2 := s.map (·.1)
  rw [List.map_map] at s2
  have : ks.map ((fun e : Pl × Int => e.1) ∘ fun k => (k, g0 ds k)) = ks := by
    conv => rhs; rw [← List.map_id ks]
    rfl
  rw [this] at s2
  exact n.sublist s2
theorem told_snoc {ds : Dl} {ks : List Pl} {k : Pl} : told ds (ks ++ [k]) = told ds ks ++ (if g0 ds k = 0 then [] else [(k, g0 ds k)]) := by
  unfold told
  rw [List.map_append, List.filter_append]
  congr 1
  show [(k, g0 ds k)].filter _ = _
  rw [List.filter_cons]
  by_cases h : g0 ds k = 0
  · rw [if_neg (show ¬ (!decide ((k, g0 ds k).2 = 0)) = true by rw [decide_eq_true h]; decide), if_pos h]
    rfl
  · rw [if_pos (show (!decide ((k, g0 ds k).2 = 0)) = true by rw [decide_eq_false h]; rfl), if_neg h]
    rfl
end DM

/-! plain mathematics of classes: a class as a degree and a reading of each ring -/
namespace DM
open K1N
theorem Sf_congr {f g : Pl → Int} : ∀ {ds : Dl}, (∀ e ∈ ds, f e.1 = g e.1) → Sf f ds = Sf g ds
  | [], _ => rfl
  | e :: r, h => by
    show f e.1 * e.2 + Sf f r = g e.1 * e.2 + Sf g r
    rw [h e List.mem_cons_self, Sf_congr fun x hx => h x (List.mem_cons_of_mem _ hx)]
theorem Sf_lin (f g : Pl → Int) (c : Int) : ∀ ds : Dl, Sf (fun p => f p + c * g p) ds = Sf f ds + c * Sf g ds
  | [] => by
    show (0 : Int) = 0 + c * 0
    rw [Int.mul_zero, Int.add_zero]
  | e :: r => by
    show (f e.1 + c * g e.1) * e.2 + Sf _ r = f e.1 * e.2 + Sf f r + c * (g e.1 * e.2 + Sf g r)
    rw [Sf_lin f g c r, Int.add_mul, Int.mul_add, Int.mul_assoc]
    omega
theorem Sf_le {f : Pl → Int} (h : ∀ p, f p = 1 ∨ f p = 0) : ∀ ds : Dl, (Sf f ds).natAbs ≤ (Ab ds).natAbs
  | [] => Nat.le_refl _
  | e :: r => by
    have a := Sf_le h r
    have b := Ab_nonneg r
    have t : Ab (e :: r) = (e.2.natAbs : Int) + Ab r := rfl
    have u : Sf f (e :: r) = f e.1 * e.2 + Sf f r := rfl
    rcases h e.1 with q | q
    · rw [t, u, q, Int.one_mul]
      omega
    · rw [t, u, q, Int.zero_mul, Int.zero_add]
      omega
def one : Pl → Int := fun _ => 1
/-- what a chip at a place counts for a ring: its place, or a step of the ring for a chip ahead -/
def tau (rs : List (Int × Int)) (i : Nat) : Pl → Int := fun p => if p.1 = (i : Int) then p.2 else if p.1 < (i : Int) then sAt rs i else 0
def wname (rs : List (Int × Int)) (p : Pl) : Pl := if own rs p then p else (p.1 - 1, 0)
theorem tau_wname {rs : List (Int × Int)} {p : Pl} (h : 0 ≤ p.1) (i : Nat) : tau rs i (wname rs p) = tau rs i p := by
  unfold wname
  by_cases o : own rs p = true
  · rw [if_pos o]
  · rw [if_neg o]
    have o2 : 0 < p.1 ∧ p.2 = sAt rs p.1.toNat := by
      unfold own at o
      simpa using o
    unfold tau
    show (if p.1 - 1 = (i : Int) then 0 else if p.1 - 1 < (i : Int) then sAt rs i else 0) = _
    by_cases e1 : p.1 = (i : Int)
    · rw [if_neg (by omega), if_pos (by omega), if_pos e1, o2.2, show p.1.toNat = i by omega]
    · rw [if_neg e1]
      by_cases e2 : p.1 < (i : Int)
      · rw [if_neg (by omega), if_pos (by omega), if_pos e2]
      · rw [if_neg e2]
        by_cases e3 : p.1 - 1 = (i : Int)
        · rw [if_pos e3]
        · rw [if_neg e3, if_neg (by omega)]
/-- valid places -/
def PlIn (rs : List (Int × Int)) (p : Pl) : Prop := (0 ≤ p.1 ∧ p.1 < (rs.length : Int)) ∧ 0 ≤ p.2 ∧ p.2 < (nAt rs p.1.toNat : Int)
def KIn (rs : List (Int × Int)) (ds : Dl) : Prop := ∀ e ∈ ds, PlIn rs e.1
/-- the tuple of a class by its readings -/
def cx (rs : List (Int × Int)) (t : Nat → Int) : List Int := (List.range rs.length).map fun i => (t i - (i : Int) * sAt rs i) % (nAt rs i : Int)
theorem cx_congr {rs : List (Int × Int)} {t u : Nat → Int} (h : ∀ i, i < rs.length → t i = u i) : cx rs t = cx rs u := by
  unfold cx
  refine List.map_congr_left fun i hi => ?_
  rw [h i (List.mem_range.mp hi)]
theorem cx_len (rs : List (Int × Int)) (t : Nat → Int) : (cx rs t).length = rs.length := by
  unfold cx
  rw [List.length_map, List.length_range]
theorem cx_get {rs : List (Int × Int)} {t : Nat → Int} {i : Nat} (h : i < rs.length) : (cx rs t).getD i 0 = (t i - (i : Int) * sAt rs i) % (nAt rs i : Int) := by
  unfold cx
  rw [List.getD_eq_getElem?_getD, List.getElem?_map, List.getElem?_range h]
  rfl
def td (rs : List (Int × Int)) (ds : Dl) : Nat → Int := fun i => Sf (tau rs i) ds
theorem mod_add3 (a b c n : Int) : (a % n + b % n + c) % n = (a + b + c) % n := by
  have ea := Int.mul_ediv_add_emod a n
  have eb := Int.mul_ediv_add_emod b n
  have : a + b + c = a % n + b % n + c + n * (a / n + b / n) := by
    rw [Int.mul_add]
    omega
  rw [this, Int.add_mul_emod_self_left]
theorem mod_sub3 (a b c n : Int) : (a % n - b % n - c) % n = (a - b - c) % n := by
  have ea := Int.mul_ediv_add_emod a n
  have eb := Int.mul_ediv_add_emod b n
  have : a - b - c = a % n - b % n - c + n * (a / n - b / n) := by
    rw [Int.mul_sub]
    omega
  rw [this, Int.add_mul_emod_self_left]
theorem mod_add2 (a c n : Int) : (a % n + c) % n = (a + c) % n := by
  have ea := Int.mul_ediv_add_emod a n
  have : a + c = a % n + c + n * (a / n) := by omega
  rw [this, Int.add_mul_emod_self_left]
/-- rests of a sum, a difference, chips at the ends -/
theorem sum_rest (t u s n i : Int) : ((t - i * s) % n + (u - i * s) % n + i * s) % n = (t + u - i * s) % n := by
  rw [mod_add3]
  congr 1
  omega
theorem less_rest (t u s n i : Int) : ((t - i * s) % n - (u - i * s) % n - i * s) % n = (t - u - i * s) % n := by
  rw [mod_sub3]
  congr 1
  omega
theorem ends_rest (t a s n i : Int) : ((t - i * s) % n + a * s) % n = (t + a * s - i * s) % n := by
  rw [mod_add2]
  congr 1
  omega
/-! ### the readings ring by ring -/
def ind (i : Nat) : Pl → Int := fun p => if p.1 = (i : Int) then 1 else 0
def spt (i : Nat) : Pl → Int := fun p => if p.1 = (i : Int) then p.2 else 0
def bef (i : Nat) : Pl → Int := fun p => if p.1 < (i : Int) then 1 else 0
theorem bef_zero {rs : List (Int × Int)} {ds : Dl} (h : KIn rs ds) : Sf (bef 0) ds = 0 := by
  have : Sf (bef 0) ds = Sf (fun _ => 0) ds := Sf_congr fun e he => by
    have := (h e he).1.1
    unfold bef
    rw [if_neg (by omega)]
  rw [this]
  clear this h
  induction ds with
  | nil => rfl
  | cons e r ih =>
    show 0 * e.2 + Sf (fun _ => 0) r = 0
    rw [ih, Int.zero_mul]
    rfl
theorem bef_succ (ds : Dl) (i : Nat) : Sf (bef (i + 1)) ds = Sf (bef i) ds + Sf (ind i) ds := by
  have a := Sf_lin (bef i) (ind i) 1 ds
  rw [Int.one_mul] at a
  rw [← a]
  refine Sf_congr fun e _ => ?_
  unfold bef ind
  by_cases q : e.1.1 < (i : Int)
  · rw [if_pos (by omega), if_pos q, if_neg (by omega)]
    rfl
  · by_cases z : e.1.1 = (i : Int)
    · rw [if_pos (by omega), if_neg q, if_pos z]
      rfl
    · rw [if_neg (by omega), if_neg q, if_neg z]
      rfl
theorem tau_parts (rs : List (Int × Int)) (ds : Dl) (i : Nat) : Sf (spt i) ds + sAt rs i * Sf (bef i) ds = Sf (tau rs i) ds := by
  rw [← Sf_lin (spt i) (bef i) (sAt rs i) ds]
  refine Sf_congr fun e _ => ?_
  unfold spt bef tau
  by_cases z : e.1.1 = (i : Int)
  · rw [if_pos z, if_neg (by omega), if_pos z, Int.mul_zero, Int.add_zero]
  · rw [if_neg z, if_neg z]
    by_cases q : e.1.1 < (i : Int)
    · rw [if_pos q, if_pos q, Int.mul_one, Int.zero_add]
    · rw [if_neg q, if_neg q, Int.mul_zero]
      rfl
theorem bef_all {rs : List (Int × Int)} {ds : Dl} (h : KIn rs ds) : Sf (bef rs.length) ds = Sf one ds := Sf_congr fun e he => by
  unfold bef one
  rw [if_pos (h e he).1.2]
end DM

/-! own rule: a dict comprehension whose keys are tuples -/
namespace DR
open PySem PySem.Spec PyProof.Rows L2
/-- the block's own store, the key a tuple of ints and texts -/
theorem put_tup {X : Cx} {pins : List (Addr × Obj)} {σ : L2.St} {H : Hp} {s : Shared} {E : Value → Shared → Prop} {D b : Addr} {kvs : List (List Key × V)} {k : List Key} {v : V} {r : Value} {Q : Unit → Shared → Prop} (hu : X.A.units < cLine) (I : Inv X pins σ H s) (hD : H D = some (.dT kvs)) (hz : kvs.length < sizeLine)
    (hb : H b = some (.tup (k.map kV))) (rv : RelV v r) (h : ∀ s', Inv X pins σ (upd H D (.dT (putK kvs k v))) s' → Q () s') : wpAny (model X.prog X.w) X.A (dictSet D (.ref b) r) Q E s := by
  obtain ⟨z, lo, xs, rel, dd⟩ := dt_of I.hok hD
  have hx : xs.length ≤ sizeLine := by rw [← Paired.length rel]; exact z
  have hl : (putK kvs k v).length ≤ sizeLine := by have := length_putK kvs k v; omega
  refine wpAny_dictSet_heap (hsz := hx) (show (tupleKind (mixKind X.prog X.w)).room X.A from hu) (key_of I.hok hb) dd fun h' dd' hs => h _ ?_
  obtain ⟨q, es, ep, hq, h2, h3, h4, _, h5⟩ := dd'
  refine d_write I (by rw [hD]; exact True.intro) hs ⟨q, hq⟩ ⟨hl, lo, _, (rel.put k hb rv).keeps fun c ys ec => ?_, q, es, ep, hq, h2, h3, h4, h5⟩
  rw [upd_ne (ne_of ec hD (fun z => nomatch z))]
  exact ec
/-- {k: v for target in iter if ..}, the keys tuples of ints and texts; D the new dict -/
def tDcT (wi : TI) (g : TG) (tt : TT) (tk tv : TE) (vs : List Nat) : TE := fun σ H Q => wi σ H fun J H1 => ∀ D, H1 D = none → ∃ W : Nat → Nat → Hp → Prop, (∃ m, W 0 m (upd H1 D (.dT []))) ∧ ∀ i m H, W i m H →
  (J.stop i H ∧ Q (.ref D) H) ∨ (J.go i H ∧ ∃ Nx : Hp → Prop, (∀ H', Nx H' → ∃ m', m' < m ∧ W (i + 1) m' H') ∧ ∀ x H', J.yld i H x H' → g x (wipe σ vs) H' fun σ2 H2 => wipe σ2 vs = wipe σ vs ∧ tt σ2 H2 fun b H3 =>
    if b = true then tk σ2 H3 fun y H4 => tv σ2 H4 fun z H5 => ∃ kvs k c, y = .ref c ∧ H5 c = some (.tup (k.map kV)) ∧ H5 D = some (.dT kvs) ∧ kvs.length < sizeLine ∧ Nx (upd H5 D (.dT (putK kvs k z))) else Nx H3)
theorem pe_dcT {X : Cx} {kx vx tg iter : Expr} {ifs : List Expr} {scope : Scope} {own : List (Str × Nat)} {pos : Pos} {wi : TI} {g : TG} {tt : TT} {tk tv : TE} (hc : X.calm = true) (hu : X.A.units < cLine) (hN : X.N.Nodup) (hi : PI X tg iter wi) (ok : BlkOk X.N X.env.scope scope own)
    (hg : ∀ (s : Shared) (H : Hp) (C : Addr) (cl : List (Str × Addr)) (fp : List Addr), PG (X.blk s H scope (compEnvC scope cl C X.env) fp) tg g) (ht : ∀ (s : Shared) (H : Hp) (C : Addr) (cl : List (Str × Addr)) (fp : List Addr), PTs (X.blk s H scope (compEnvC scope cl C X.env) fp) ifs tt)
    (hk : ∀ (s : Shared) (H : Hp) (C : Addr) (cl : List (Str × Addr)) (fp : List Addr), PE (X.blk s H scope (compEnvC scope cl C X.env) fp) kx tk)
    (he : ∀ (s : Shared) (H : Hp) (C : Addr) (cl : List (Str × Addr)) (fp : List Addr), PE (X.blk s H scope (compEnvC scope cl C X.env) fp) vx tv) (hs : ∀ x, foldedSetIterable iter X.env x = pure x := by intro _; rfl) :
    PE X (.DictComp kx vx [⟨tg, iter, ifs, 0⟩] scope pos) (tDcT wi g tt tk tv (own.map (·.2))) := by
  refine ⟨fun pins s σ H Q I h => ?_⟩
  rw [arm_eval_DictComp]
  have cap : ∀ y ∈ scope.names, y.2 = .free → ∃ c, X.env.cells.lookup y.1 = some c := fun y hy e => (ok.free y hy e).elim (fun k => I.ok.has _ (.inl k)) fun k => I.ok.has _ (.inr k)
  refine wpAny_comprehension_free (use := none) rfl hs (closure_ok cap) ok.kind (fun y hy e => by rw [ok.uniq y hy, e])
    (thn (hi.run pins s σ H _ I h) fun xv s1 hx => thn hx fun itv s2 h2 => ?_)
  obtain ⟨it, fp, tn, J, H2, e, I2, T, st2, f2, q⟩ := h2
  subst e
  refine wpAny_newObj_type (newEnv_comp ?_)
  generalize hD : s2.heap.objs.size = D
  have nD : H2 D = none := I2.hok.fresh (Nat.le_of_eq hD)
  obtain ⟨W, ⟨m0, w0⟩, turn⟩ := q D nD
  have J3 : ∃ s3 : Shared, s3 = { s2 with heap := s2.heap.push { cls := .type "dict", data := .dict #[] } } := ⟨_, rfl⟩
  obtain ⟨s3, hs3⟩ := J3
  have h3 : s3.heap = s2.heap.push { cls := .type "dict", data := .dict #[] } := by rw [hs3]
  have I3 : Inv X pins σ (upd H2 D (.dT [])) s3 := by
    rw [hs3]
    refine I2.laid (t' := s2.toks) (fun b o e => Heap.get?_push_of_some _ e) (Nat.le_of_eq hD) ?_
    rw [← hD]
    exact dt_empty s2.heap I2.big
  have low : ∀ b ∈ fp, b < s2.heap.objs.size := fun b hb => by
    obtain ⟨o, e, _⟩ := T.obj _ _ st2 b hb
    exact Heap.lt_size e
  have f3 : ∀ b ∈ fp, FpOk X pins (upd H2 D (.dT [])) b ∧ b < s3.heap.objs.size := fun b hb => by
    have lt := low b hb
    refine ⟨⟨?_, (f2 b hb).2⟩, by rw [h3, Heap.size_push]; exact Nat.lt_succ_of_lt lt⟩
    rw [upd_ne (by rw [← hD]; exact Nat.ne_of_lt lt)]
    exact (f2 b hb).1
  have st3 : tn 0 s3.heap := T.keep _ _ _ st2 fun b _ o e => by rw [h3]; exact Heap.get?_push_of_some _ e
  have I4 := block_start I3 ok hN f3
  have pg := hg s3 (upd H2 D (.dT [])) s3.heap.objs.size (cellsFrom (s3.heap.objs.size + 1) scope.names (cloFrom X.env.cells scope.names [])) fp
  have pt := ht s3 (upd H2 D (.dT [])) s3.heap.objs.size (cellsFrom (s3.heap.objs.size + 1) scope.names (cloFrom X.env.cells scope.names [])) fp
  have pk := hk s3 (upd H2 D (.dT [])) s3.heap.objs.size (cellsFrom (s3.heap.objs.size + 1) scope.names (cloFrom X.env.cells scope.names [])) fp
  have pe := he s3 (upd H2 D (.dT [])) s3.heap.objs.size (cellsFrom (s3.heap.objs.size + 1) scope.names (cloFrom X.env.cells scope.names [])) fp
  rw [← hs3]
  show codeAny _ _ (.compStart (.DictComp kx vx [⟨tg, iter, ifs, 0⟩] scope pos) 0 (.ref it) (.ref D) (compEnvC scope (cellsFrom (s3.heap.objs.size + 1) scope.names (cloFrom X.env.cells scope.names [])) s3.heap.objs.size X.env)) (compPost (model X.prog X.w) X.A X.xe none (EP X pins σ Q) (.ref D) s3.heap.objs.size) { s3 with heap := pushCells (s3.heap.push { cls := .type "dict", data := .dict #[] }) scope.names }
  have clear : ∀ b ∈ fp, (upd H2 D (.dT [])) b = none := fun b hb => (f3 b hb).1.1
  generalize hce : compEnvC scope (cellsFrom (s3.heap.objs.size + 1) scope.names (cloFrom X.env.cells scope.names [])) s3.heap.objs.size X.env = ce at I4 pg pt pk pe ⊢
  have cL : ce.locals = s3.heap.objs.size := by subst hce; rfl
  generalize upd H2 D (.dT []) = H3 at I3 I4 pg pt pk pe w0 clear f3
  generalize hs4 : ({ s3 with heap := pushCells (s3.heap.push { cls := .type "dict", data := .dict #[] }) scope.names } : Shared) = s4 at I4 ⊢
  have st4 : tn 0 s4.heap := T.keep _ _ _ st3 fun b _ o e => by rw [← hs4]; exact pushCells_keeps _ _ _ _ (Heap.get?_push_of_some _ e)
  have stat : ∀ {σ' : L2.St} {H' : Hp} {s' : Shared}, Inv (X.blk s3 H3 scope ce fp) [] σ' H' s' → (∀ b ∈ fp, H' b = none) → ∀ b ∈ fp, FpOk (X.blk s3 H3 scope ce fp) [] H' b := fun {σ' H' s'} I' hn b hb =>
    ⟨hn b hb, (I'.ok.exf b hb).1, I'.ok.exfs b hb, .inl hb, fun x c e => (I'.ok.exf b hb).2 x c e, fun p hp => absurd (show p ∈ ([] : List (Addr × Obj)) ++ [] from hp) (by simp)⟩
  have loop : codeAny (model X.prog X.w) X.A (.compLoop (.DictComp kx vx [⟨tg, iter, ifs, 0⟩] scope pos) 0 (.ref it) (.ref D) ce) (compPost (model X.prog X.w) X.A X.xe none (EP X pins σ Q) (.ref D) s3.heap.objs.size) s4 := by
    refine compLoop_anyD (fun n s' => ∃ i H', Inv (X.blk s3 H3 scope ce fp) [] (wipe σ (own.map (·.2))) H' s' ∧ tn i s'.heap ∧ (∀ b ∈ fp, H' b = none) ∧ W i n H') ?_ m0 ⟨0, H3, I4, st4, clear, w0⟩
    rintro n s5 ⟨i, H5, I5, st5, n5, w5⟩
    rcases turn i n H5 w5 with ⟨stop, qq⟩ | ⟨go, Nx, hNx, step⟩
    · refine thnF (T.done (X.blk s3 H3 scope ce fp) rfl rfl rfl hc i [] s5 _ H5 (fun _ _ => False) I5 (stat I5 n5) st5 stop) fun r s6 ⟨hr, I6⟩ => ?_
      subst hr
      have I7 : Inv X pins σ H5 s6 := I3.call' (ch := fp) I6.os I6.base I6.hok I6.bare fun b hb => ⟨(f3 b hb).1.2.2.2.1, (f3 b hb).1.2.1, (f3 b hb).1.2.2.2.2.1, (f3 b hb).1.2.2.2.2.2⟩
      have nC : H5 s3.heap.objs.size = none := cL ▸ (show H5 ce.locals = none from I6.free)
      obtain ⟨m, hn, _⟩ := I6.loc
      have hn' : s6.heap.Ns s3.heap.objs.size m := cL ▸ (show s6.heap.Ns ce.locals m from hn)
      obtain ⟨f0, f1, f3', f4, f5, f6⟩ := I3.fpOk (Nat.le_refl _) nC
      exact ⟨m, hn', fun h'' sb => ⟨.ref D, H5, I7.turned (t' := s6.toks) (fun b o hb e => (sb.2 b hb).trans e) f0 f1 f4 f5 f6, rfl, qq⟩⟩
    · refine thnF (T.item (X.blk s3 H3 scope ce fp) rfl rfl rfl hc i [] s5 _ H5 (fun _ _ => False) I5 (stat I5 n5) st5 go) fun r s6 ⟨u, hr, h6⟩ => ?_
      subst hr
      refine thnF h6 fun _ s7 ⟨x, H7, I7, r7, y7, st7, n7⟩ => ?_
      have P7 := I7.pinned (stat I7 n7) (T.obj _ _ st7)
      refine thnF (pg.run _ s7 _ H7 x u _ P7 r7 (step x H7 y7)) fun _ s8 ⟨σ8, H8, I8, hw8, q8⟩ => ?_
      refine thnF (pt.run _ s8 σ8 H8 _ I8 q8) fun b s9 ⟨H9, I9, q9⟩ => ?_
      have over : ∀ {s' : Shared} {H' : Hp}, Inv (X.blk s3 H3 scope ce fp) ([] ++ pinsAt fp s7.heap) σ8 H' s' → Nx H' → ∃ m, m < n ∧ ∃ i H', Inv (X.blk s3 H3 scope ce fp) [] (wipe σ (own.map (·.2))) H' s' ∧ tn i s'.heap ∧ (∀ b ∈ fp, H' b = none) ∧ W i m H' := fun {s' H'} I' nx => by
        obtain ⟨m', hm, w'⟩ := hNx H' nx
        have pin' : ∀ b ∈ fp, ∀ o, s7.heap.get? b = some o → s'.heap.get? b = some o ∧ H' b = none := fun b hb o e =>
          let z := I'.pin (b, o) (List.mem_append_right _ (List.mem_append_right _ (mem_pinsAt hb e)))
          ⟨z.1, z.2.1⟩
        refine ⟨m', hm, i + 1, H', (I'.unpinned (pins := [])).weak (by rw [← hw8, wipe_length]) (fun j v e => ?_), T.keep _ _ _ st7 fun b hb o e => (pin' b hb o e).1, fun b hb => ?_, w'⟩
        · rw [← hw8] at e
          exact (wipe_some e).1
        · obtain ⟨o, e, _⟩ := T.obj _ _ st7 b hb
          exact (pin' b hb o e).2
      cases b with
      | false => exact over I9 (by simpa using q9)
      | true =>
        simp only [if_true] at q9 ⊢
        refine thnF (pk.run _ s9 σ8 H9 _ I9 q9) fun z s10 ⟨yk, H10, I10, r10, q10⟩ => ?_
        refine thnF (pe.run _ s10 σ8 H10 _ I10 q10) fun z2 s11 ⟨yv, H11, I11, r11, kvs, k, c, ek, hc11, hD11, hz11, nx⟩ => ?_
        subst ek
        cases (show z = Value.ref c from r10)
        exact put_tup (X := X.blk s3 H3 scope ce fp) hu I11 hD11 hz11 hc11 r11 fun s12 I12 => over I12 nx
  exact codeAny_compStart_dict loop (T.self X.A 0 _ _ _ st4 loop)
end DR

/-! own rules: sorted(d) of a dict whose keys are pairs of ints -/
namespace DR
open PySem PySem.Spec PyProof.Rows L2 PySem.W
/-- the pair that a reference names -/
def keyP (H : Hp) : V → Int × Int
  | .ref t => match H t with
    | some (.tup [.int i, .int j]) => (i, j)
    | _ => (0, 0)
  | _ => (0, 0)
theorem keyP_of {H : Hp} {t : Addr} {i j : Int} (h : H t = some (.tup [.int i, .int j])) : keyP H (.ref t) = (i, j) := by
  show (match H t with | some (.tup [.int i, .int j]) => (i, j) | _ => ((0 : Int), (0 : Int))) = (i, j)
  rw [h]
def rSortedDT : List V → Hp → VK → Prop := fun vs H Q => ∃ (d : Addr) (kvs : List (List Key × V)), vs = [V.ref d] ∧ Rd H d (.dT kvs) ∧ (∀ p ∈ kvs, ∃ i j : Int, p.1 = [.inl i, .inl j]) ∧
  ∀ (bs : List Addr) (ys : List V) (p : Addr), IsKeys H kvs bs → ys.Perm (bs.map V.ref) → ys.Pairwise (fun x y => SrtO.lexB (keyP H y) (keyP H x) = false) → H p = none → Q (.ref p) (upd H p (.lst ys))
theorem isKeys_mem {H : Hp} : ∀ {kvs : List (List Key × V)} {bs : List Addr}, IsKeys H kvs bs → ∀ b ∈ bs, ∃ p ∈ kvs, H b = some (.tup (p.1.map kV))
  | _, _, .nil, b, hb => absurd hb (by simp)
  | p :: kvs, c :: bs, .cons r t, b, hb => by
    rcases List.mem_cons.mp hb with e | hb
    · exact ⟨p, List.mem_cons_self, e ▸ r⟩
    · obtain ⟨q, h1, h2⟩ := isKeys_mem (kvs := kvs) (bs := bs) t b hb
      exact ⟨q, List.mem_cons_of_mem _ h1, h2⟩
theorem cr_sortedDT {X : Cx} (hc : X.calm = true) : CallR X (.builtin "sorted") rSortedDT := by
  intro pins s σ H vs us Q I r h
  obtain ⟨d, kvs, rfl, hd, hkv, q⟩ := h
  obtain ⟨u, rfl, rx⟩ := r.one
  cases rx
  obtain ⟨z, hs, ks, pr, o, es, ep, ho, hx, hdt, he, hn⟩ := (show ObjOk X.prog X.w H s.heap d (.dT kvs) from hd.ok I.hok)
  have l1 : es.size = ks.length := size_of_entries he
  have l2 : kvs.length = ks.length := Paired.length pr
  refine Calls.call_function_entry kind_sorted plain_sorted entry_sorted (args_sorted1 _) ?_
  unfold Builtin.«sorted»
  refine wpAny_bind (m := checkCount "sorted" 1 1 _) (wpAny_pure ?_)
  refine wpAny_bind (kdu_collect (A := X.A.in1) (kdl_raw hs hx hdt) (I.ok.hd hc) ho (by omega) fun h' tk acc hk it => ?_)
  have ea : acc.toList = (ks.map fun x => x.2.1).map Value.ref := by
    rw [List.map_map]
    refine List.ext_getElem? fun j => ?_
    have hl : acc.toList.length = ks.length := by rw [Array.length_toList, it.1]; exact l1
    by_cases hj : j < ks.length
    · have gj : acc[j]? = some (acc[j]'(by rw [← Array.length_toList]; omega)) := Array.getElem?_eq_getElem _
      obtain ⟨en, hen, hv⟩ := it.2 j _ gj
      have qe := entry_at he j
      rw [hen, List.getElem?_eq_getElem hj] at qe
      have e2 : en = entryOfKey (tupleKind (mixKind X.prog X.w)) ks[j] := Option.some.inj qe
      rw [Array.getElem?_toList, gj, hv, e2, List.getElem?_map, List.getElem?_eq_getElem hj]
      rfl
    · rw [List.getElem?_eq_none (by omega), List.getElem?_eq_none (by rw [List.length_map]; omega)]
  have hik := isKeys_of pr
  generalize ks.map (fun x => x.2.1) = bs at ea hik
  have lb : bs.length = ks.length := by
    have := Paired.length hik
    omega
  rw [ea]
  refine wpAny_bind (wpAny_newList ?_ (by rw [List.length_map]; omega))
  have I1 : Inv X pins σ H { s with heap := h', toks := tk } := I.kept hk
  have I2 := I1.laid (t' := tk) (o := .lst (bs.map V.ref)) (h' := h'.push { cls := .type "list", data := .seq (bs.map Value.ref).toArray }) (a := h'.objs.size) (fun b u e => Heap.get?_push_of_some _ e) (Nat.le_refl _)
    ⟨by rw [List.length_map]; omega, bs.map Value.ref, 0, vals_refs bs, Heap.get?_push_size _ rfl⟩
  have nD : H h'.objs.size = none := I1.hok.fresh (Nat.le_refl _)
  have hob : (h'.push { cls := .type "list", data := .seq (bs.map Value.ref).toArray }).get? h'.objs.size = some (seqObj "list" (bs.map Value.ref).toArray 0) := Heap.get?_push_size _ rfl
  have isp : ∀ v ∈ bs.map Value.ref, Srt.IsPair (h'.push { cls := .type "list", data := .seq (bs.map Value.ref).toArray }) v (keyP H (backV v)).1 (keyP H (backV v)).2 := fun v hv => by
    obtain ⟨b, hb, rfl⟩ := List.mem_map.mp hv
    obtain ⟨p, hp, e⟩ := isKeys_mem hik b hb
    obtain ⟨i, j, e2⟩ := hkv p hp
    rw [e2] at e
    have e3 : H b = some (.tup [.int i, .int j]) := e
    have kp : keyP H (backV (Value.ref b)) = (i, j) := keyP_of e3
    rw [kp]
    obtain ⟨_, its2, r2, o2, ho2, hc2, n2, hd2⟩ := I2.hok b _ (by rw [upd_ne (ne_of_none e3 nD)]; exact e3)
    obtain ⟨u1, u2, rfl, ri, rj⟩ := vals2 r2
    obtain ⟨t1, rfl⟩ := ri
    obtain ⟨t2, rfl⟩ := rj
    exact ⟨b, o2, t1, t2, n2, rfl, ho2, hc2, hd2⟩
  have srt : wpAny (model X.prog X.w) X.A.in1 (call (.builtin "list.sort") [.ref h'.objs.size]) (fun _ s' => EP X pins σ Q (.ref h'.objs.size) s') X.xe { s with heap := h'.push { cls := .type "list", data := .seq (bs.map Value.ref).toArray }, toks := tk } := by
    refine wpAny_call_entry PyProof.Rows.slot_list_sort ⟨_, hob, rfl⟩ PyProof.Rows.entry_list_sort
      (SrtO.list_sort_ord (SrtO.swo_lex fun u => keyP H (backV u)) hob (by rw [List.length_map]; omega) (fun h2 => SrtO.pairs_sortableO (by omega) isp fun o' e => ?_) fun out h1 h2 => ⟨.none, rfl, ?_⟩) (PyProof.Rows.args_list_sort _)
    · have e' : some o' = some (seqObj "list" (bs.map Value.ref).toArray 0) := e.symm.trans hob
      cases e'
      intro c
      exact absurd (Value.type.inj c) (by decide)
    · have h3 : ∀ u ∈ out, ∃ a, u = Value.ref a := fun u hu => by
        obtain ⟨b, _, e⟩ := List.mem_map.mp (h2.perm.mem_iff.mp hu)
        exact ⟨b, e.symm⟩
      obtain ⟨ep', he'⟩ := PyProof.Rows.sortedHeap_at (vs := bs.map Value.ref) (out := out.toArray) hob
      have hp : (out.map backV).Perm (bs.map V.ref) := by
        have := h2.perm.map backV
        rw [List.map_map] at this
        exact this
      have I3 : Inv X pins σ (upd (upd H h'.objs.size (.lst (bs.map V.ref))) h'.objs.size (.lst (out.map backV))) { s with heap := PyProof.Rows.sortedHeap (h'.push { cls := .type "list", data := .seq (bs.map Value.ref).toArray }) h'.objs.size (bs.map Value.ref) out.toArray, toks := tk } := by
        refine I2.write (e := h'.objs.size) (t' := tk) (by rw [upd_same]; trivial) (.inl rfl) (fun b u hb hu => ?_) ⟨_, he'⟩ ⟨?_, out, ep', vals_back h3, he'⟩
        · rw [PyProof.Rows.sortedHeap_old hb (Heap.lt_size hu)]
          exact hu
        · rw [hp.length_eq, List.length_map]
          omega
      rw [upd_upd] at I3
      exact ⟨.ref _, _, I3, rfl, q bs _ _ hik hp (List.pairwise_map.mpr (h1.imp fun {x y} e => e)) nD⟩
  exact wpAny_bind (wpAny_holding (wpAny_mono srt (fun _ s' x => wpAny_pure ⟨_, rfl, x⟩) fun _ _ e => e))
end DR

/-! own rules: d.values() and list(d.values()) of a dict whose keys are tuples -/
namespace DR
open PySem PySem.Spec PyProof.Rows L2 PySem.W
/-- the view of d's values at p -/
def valsO (p d : Addr) : HO := .ext fun h => h.IsValuesView p d
theorem valsO_ok {P : Program} {w : World} {H : Hp} {h : Heap} {p d : Addr} (e : h.get? p = some { cls := .type "dict_values", data := .fields #[.ref d] }) : ObjOk P w H h p (valsO p d) :=
  ⟨⟨_, e, rfl, rfl⟩, ⟨_, e⟩, fun h1 h2 x k => let ⟨o, ho, r⟩ := x; ⟨o, k o ho, r⟩⟩
def rValsT : V → List V → Hp → VK → Prop := fun x xs H Q => ∃ (a : Addr) (kvs : List (List Key × V)), x = .ref a ∧ xs = [] ∧ H a = some (.dT kvs) ∧ ∀ p, H p = none → Q (.ref p) (upd H p (valsO p a))
theorem mt_valsT {X : Cx} : MtR X "dict.values" rValsT := by
  intro pins s σ H x xs v us Q I rx rxs h
  obtain ⟨a, kvs, rfl, rfl, ha, q⟩ := h
  cases rx
  cases rxs
  obtain ⟨z, lo, xs', rel, o, es, ep, ho, hx, hdat, _⟩ := dt_of I.hok ha
  have raw : s.heap.DictRaw a es ep := ⟨o, ho, hx, hdat⟩
  refine call_meetsIn PySem.F.slot_dict_values raw.typeIs PySem.F.entry_dict_values (PySem.F.args_dict_values_1 _) (meets_dict_values_raw a lo) ⟨⟨es, ep, raw⟩, ?_⟩
  exact ⟨.ref s.heap.objs.size, upd H s.heap.objs.size (valsO s.heap.objs.size a), I.laid (t' := s.toks) (fun b u e => Heap.get?_push_of_some _ e) (Nat.le_refl _) (valsO_ok (Heap.get?_push_size _ rfl)), rfl, q _ (I.hok.fresh (Nat.le_refl _))⟩
/-- list(view) -/
def rListVals : List V → Hp → VK → Prop := fun xs H Q => ∃ (p a : Addr) (kvs : List (List Key × V)), xs = [.ref p] ∧ H p = some (valsO p a) ∧ H a = some (.dT kvs) ∧ ∀ l, H l = none → Q (.ref l) (upd H l (.lst (kvs.map (·.2))))
theorem vals_snd {H : Hp} : ∀ {kvs : List (List Key × V)} {xs : List (List Key × Addr × Value)}, KT H kvs xs → Vals (kvs.map (·.2)) (xs.map fun x => x.2.2)
  | _, _, .nil => .nil
  | _ :: _, _ :: _, .cons r t => .cons r.2.2 (vals_snd t)
theorem cr_listVals {X : Cx} (hc : X.calm = true) : CallR X (.type "list") rListVals := by
  intro pins s σ H xs us Q I r h
  obtain ⟨p, a, kvs, rfl, hp, ha, q⟩ := h
  obtain ⟨u, rfl, rx⟩ := r.one
  cases rx
  obtain ⟨z, lo, ks, pr, o, es, ep, ho, hx, hdt, he, hn⟩ := (show ObjOk X.prog X.w H s.heap a (.dT kvs) from I.hok a _ ha)
  have hv : s.heap.IsValuesView p a := (I.hok p _ hp).1
  have raw : s.heap.DictRaw a es ep := ⟨o, ho, hx, hdt⟩
  have l1 : es.size = ks.length := size_of_entries he
  have l2 : kvs.length = ks.length := Paired.length pr
  refine kdl_call KdlSrc.rawValues (I.ok.hd hc) ⟨hv, raw⟩ (by omega) fun h' tk acc' c' kp e it => ?_
  have ea : acc'.toList = ks.map fun x => x.2.2 := by
    refine List.ext_getElem? fun j => ?_
    have hl : acc'.toList.length = ks.length := by rw [Array.length_toList, it.1]; exact l1
    by_cases hj : j < ks.length
    · have gj : acc'[j]? = some (acc'[j]'(by rw [← Array.length_toList]; omega)) := Array.getElem?_eq_getElem _
      obtain ⟨hi, hv'⟩ := it.2 j _ gj
      have qe := entry_at he j
      rw [Array.getElem?_eq_getElem hi, List.getElem?_eq_getElem hj] at qe
      have e2 : es[j] = entryOfKey (tupleKind (mixKind X.prog X.w)) ks[j] := Option.some.inj qe
      rw [Array.getElem?_toList, gj, hv', e2, List.getElem?_map, List.getElem?_eq_getElem hj]
      rfl
    · rw [List.getElem?_eq_none (by omega), List.getElem?_eq_none (by rw [List.length_map]; omega)]
  have rv : Vals (kvs.map (·.2)) acc'.toList := by
    rw [ea]
    exact vals_snd pr
  refine ⟨.ref s.heap.objs.size, _, I.laid (t' := tk) (o := .lst (kvs.map (·.2))) kp (Nat.le_refl _) ?_, rfl, q _ (I.hok.fresh (Nat.le_refl _))⟩
  exact ⟨by rw [List.length_map]; omega, acc'.toList, c', rv, by rw [Array.toArray_toList]; exact e⟩
end DR

namespace K1
open PySem PySem.Spec PyProof.Rows L2 Evl LX ZW ZM DM DR
/-! ### deals as dicts -/
def dk (p : Pl) : List Key := [.inl p.1, .inl p.2]
def ent (e : Pl × Int) : List Key × V := (dk e.1, .int e.2)
theorem dk_inj {p q : Pl} (h : dk p = dk q) : p = q := by
  unfold dk at h
  simp only [List.cons.injEq, Sum.inl.injEq, and_true] at h
  exact Prod.ext h.1 h.2
theorem dk_tup (p : Pl) : (dk p).map kV = [V.int p.1, V.int p.2] := rfl
theorem any_ent (ds : Dl) (p : Pl) : ((ds.map ent).any fun kv => decide (kv.1 = dk p)) = ds.any fun e => decide (e.1 = p) := by
  rw [List.any_map]
  congr 1
  funext e
  exact decide_eq_decide.mpr ⟨fun h => dk_inj h, fun h => by show dk e.1 = dk p; rw [h]⟩
theorem putK_ent (ds : Dl) (p : Pl) (v : Int) : putK (ds.map ent) (dk p) (.int v) = (putE ds p v).map ent := by
  unfold putK putE
  rw [any_ent]
  split
  · rw [List.map_map, List.map_map]
    refine List.map_congr_left fun e _ => ?_
    show (if (ent e).1 = dk p then ((ent e).1, V.int v) else ent e) = ent (if e.1 = p then (e.1, v) else e)
    by_cases h : e.1 = p
    · rw [if_pos (show (ent e).1 = dk p by show dk e.1 = dk p; rw [h]), if_pos h]
      rfl
    · rw [if_neg (show ¬ (ent e).1 = dk p from fun z => h (dk_inj z)), if_neg h]
  · rw [List.map_append]
    rfl
theorem valV_ent (p : Pl) : ∀ ds : Dl, valV (ds.map ent) (dk p) = (getE ds p).map V.int
  | [] => rfl
  | e :: r => by
    rw [List.map_cons]
    by_cases h : e.1 = p
    · rw [valV_pos (show (ent e).1 = dk p by show dk e.1 = dk p; rw [h]), getE_pos h]
      rfl
    · rw [valV_neg (show ¬ (ent e).1 = dk p from fun z => h (dk_inj z)), getE_neg h]
      exact valV_ent p r
def DealAt (H : Hp) (a : Addr) (ds : Dl) : Prop := H a = some (.dT (ds.map ent))
/-- a deal that the package takes -/
structure DOk (rs : List (Int × Int)) (ds : Dl) (B : Int) : Prop where
  nk : NK ds
  keys : KIn rs ds
  abs : Ab ds ≤ B
  len : ds.length ≤ 1000
theorem Ex.unlock {H H' : Hp} {d : Addr} {od : Obj} {u : HO} (h : H d = some u) (e : Ex (upd H d (.frz od u)) H') : Ex H (upd H' d u) := fun b o hb => by
  by_cases z : b = d
  · rw [z, upd_same]
    rw [z, h] at hb
    exact hb
  · rw [upd_ne z]
    exact e b o (by rw [upd_ne z]; exact hb)
theorem keep_lock {H : Hp} {d : Addr} {o : HO} : Keep d H (upd H d o) := fun b u n h => by
  rw [upd_ne n]
  exact h
theorem Ex.of_keep {H H' : Hp} {d : Addr} {u : HO} (h : H d = some u) (k : Keep d H H') : Ex H (upd H' d u) := fun b o hb => by
  by_cases z : b = d
  · rw [z, upd_same]
    rw [z, h] at hb
    exact hb
  · rw [upd_ne z]
    exact k b o z hb
section
variable {P : Program} {w : World} {K : PySem.W.Frag} {mg : Str → Option Value} {base : Heap}
def spLiesOn (K : PySem.W.Frag) : Sp := fun vs H Q _ => ∃ c x xs rs p, vs = [.ref c, x] ∧ H c = some (.tup xs) ∧ RingsAt H 60 xs rs ∧ xs.length ≤ 12 ∧ PlaceAt H x p ∧ PlIn rs p ∧ ∀ H', Ex H H' → Q (.bl true) H'
theorem ok_lies_on (T : Txt K mg) {f : Addr} {fd : FuncData} (D : DefAt K mg "lies_on" sLiesOn ["chain", "value"] f fd) : FnOk P w K mg base CX0 3 f fd ["chain", "value"] (spLiesOn K) := by
  refine D.F.ok scLiesOn (fun vs H Q E h => ?_) (fun cdv A outer s₀ H vs Q E hr h => ?_)
  · obtain ⟨c, x, xs, rs, p, rfl, _⟩ := h
    rfl
  · obtain ⟨c, x, xs, rs, ⟨j, q⟩, rfl, hc, hR, hl, hp, hin, k⟩ := h
    obtain ⟨f1, fd1, D1⟩ := T.d_is_pair
    obtain ⟨f2, fd2, D2⟩ := T.d_is_between
    have hr1 : Room 1 _ := hr.mono (by decide)
    obtain ⟨t, rfl, ht⟩ := id hp
    obtain ⟨⟨j0, j1⟩, q0, q1⟩ := hin
    replace j0 : 0 ≤ j := j0
    replace j1 : j < (rs.length : Int) := j1
    replace q0 : 0 ≤ q := q0
    replace q1 : q < (K1N.nAt rs j.toNat : Int) := q1
    obtain ⟨y, hy, hyr⟩ := rings_nth hR (show j.toNat < rs.length by omega)
    have hl2 := paired_len hR
    refine ⟨_, pss_cons (ps_if (pt_not (pt_val (pe_call (ok_is_pair T D1) hr1 (by rfl) D1.g D1.F.kp D1.b .nil pass0 (pa_cons (pv 1) pa_nil)))) (pss_one (ps_ret pe_bl)) pss_nil)
      (pss_cons (ps_asg (pv 1) (pg_tup (by rfl) (pgs_cons (pg_name (i := 2) scLiesOn.nd rfl (.inl rfl)) (pgs_cons (pg_name (i := 3) scLiesOn.nd rfl (.inl rfl)) pgs_nil))))
      (pss_one (ps_ret (pe_and (pe_call (ok_is_between T D2) hr (by rfl) D2.g D2.F.kp D2.b .nil pass0 (pa_cons (pv 2) (pa_cons pe_int (pa_cons (pe_op op_sub (pe_callB call_len_seq (by rfl) T.z_len PySem.boot_len (pa_cons (pv 0) pa_nil)) pe_int) pa_nil))))
        (pe_one (pe_call (ok_is_between T D2) hr (by rfl) D2.g D2.F.kp D2.b .nil pass0 (pa_cons (pv 3) (pa_cons pe_int (pa_cons (pe_op op_sub (pe_ix ix_tup (pe_ix ix_tup (pv 0) (pv 2) (fun _ _ => rfl)) pe_int (fun _ _ => rfl)) pe_int) pa_nil))))))))), ?_⟩
    refine ⟨_, rfl, _, _, rfl, .tup ht, fun H1 e1 => ⟨true, rfl, iteF ?_⟩⟩
    refine ⟨_, rfl, t, _, rfl, SqT.of (e1 _ _ ht), rfl, .int j, [_], rfl, .int q, [], rfl, rfl, ?_⟩
    refine ⟨_, rfl, _, rfl, c, _, rfl, .inr (SqT.of (e1 _ _ hc)), _, _, rfl, rfl, .int j, 0, _, true, rfl, .yes j0 (by omega) (by omega) (by omega), fun H2 e2 => ⟨true, rfl, iteT ?_⟩⟩
    have e12 := e1.trans e2
    obtain ⟨t2, rfl, ht2, b1, b2, b3, b4⟩ := hyr.ex e12
    refine ⟨_, rfl, _, rfl, _, rfl, c, _, j, _, rfl, rfl, SqT.of (e12 _ _ hc), at_of (show j = ((j.toNat : Nat) : Int) by omega) hy, t2, _, 0, .int _, rfl, rfl, SqT.of ht2, rfl, _, _, rfl, rfl, .int q, 0, _, true, rfl, .yes q0 (by omega) (by omega) (by omega), fun H3 e3 => k _ (e12.trans e3)⟩
def spLiesDealt (K : PySem.W.Frag) : Sp := fun vs H Q _ => ∃ c a xs rs ds, vs = [.ref c, .ref a] ∧ H c = some (.tup xs) ∧ RingsAt H 60 xs rs ∧ xs.length ≤ 12 ∧ DealAt H a ds ∧ DOk rs ds (10 ^ 50) ∧ ∀ H', Ex H H' → Q (.bl true) H'
theorem ok_lies_dealt (T : Txt K mg) {f : Addr} {fd : FuncData} (D : DefAt K mg "lies_dealt" sLiesDealt ["chain", "value"] f fd) : FnOk P w K mg base CX0 4 f fd ["chain", "value"] (spLiesDealt K) := by
  refine D.F.ok scLiesDealt (fun vs H Q E h => ?_) (fun cdv A outer s₀ H vs Q E hr h => ?_)
  · obtain ⟨c, a, xs, rs, ds, rfl, _⟩ := h
    rfl
  · obtain ⟨c, a, xs, rs, ds, rfl, hc, hR, hl, ha, hd, k⟩ := h
    obtain ⟨f1, fd1, D1⟩ := T.d_lies_on
    obtain ⟨f2, fd2, D2⟩ := T.d_is_integer
    have hr1 : Room 1 _ := hr.mono (by decide)
    have hu1 := Nat.lt_of_le_of_lt (Nat.add_le_add_left (show 1 ≤ 64 by decide) _) hr.units
    refine ⟨_, pss_cons (ps_if (pt_not (pt_val (pe_callB call_isi (by rfl) T.z_isinstance (by decide +kernel) (pa_cons (pv 1) (pa_cons (pe_bltn (v := .ty "dict") (by rfl) T.z_dict (by decide +kernel) rfl) pa_nil))))) (pss_one (ps_ret pe_bl)) pss_nil)
      (pss_one (ps_ret (pe_lock (pe_callB (cr_all rfl) (by rfl) T.z_all (by decide +kernel) (pa_cons (pe_lc (own := [("place", 2)]) (g := gName 2) (tt := tYes) rfl scLiesDealt.nd (pi_keys (pv 1))
        (blkOk_by (N := nLiesDealt) (sc := defScope sLiesDealt) (by decide +kernel)) (fun _ _ _ _ _ => pg_name (i := 2) scLiesDealt.nd rfl (Or.inl rfl)) (fun _ _ _ _ _ => pts_nil)
        (fun _ _ _ _ _ => pe_and (pe_call (ok_lies_on T D1) hr (by rfl) D1.g D1.F.kp D1.b .nil pass0 (pa_cons (pv 0) (pa_cons (pv 2) pa_nil)))
          (pe_one (pe_call (ok_is_integer T D2) hr1 (by rfl) D2.g D2.F.kp D2.b .nil pass0 (pa_cons (pe_dget hu1 (pv 1) (pv 2) (fun _ _ => rfl)) pa_nil))))) pa_nil))))), ?_⟩
    refine ⟨_, rfl, .ref a, .ty "dict", .type "dict", .type "dict", true, rfl, .ty _, .base (.dT ha), kit_ty (by decide +kernel), true, rfl, iteF ?_⟩
    refine ⟨a, _, ha, trivial, fun od => ?_⟩
    have nca : c ≠ a := ne_of hc ha (by intro z; cases z)
    have hc1 : (upd H a (.frz od (.dT (ds.map ent)))) c = some (.tup xs) := by rw [upd_ne nca]; exact hc
    have kl : Keep a H (upd H a (.frz od (.dT (ds.map ent)))) := keep_lock
    have hR1 : RingsAt (upd H a (.frz od (.dT (ds.map ent)))) 60 xs rs := paired_imp (fun _ _ ⟨t, e, ht, z⟩ => ⟨t, e, by rw [upd_ne (ne_of ht ha (by intro z; cases z))]; exact ht, z⟩) hR
    have ha1 : (upd H a (.frz od (.dT (ds.map ent)))) a = some (.frz od (.dT (ds.map ent))) := upd_same
    refine ⟨_, rfl, a, od, rfl, .inr ⟨_, ha1, fun Dl hD => ?_⟩⟩
    have eun : ∀ H', Ex (upd H a (.frz od (.dT (ds.map ent)))) H' → Ex H (upd H' a (.dT (ds.map ent))) := fun H' e => Ex.unlock ha e
    generalize upd H a (.frz od (.dT (ds.map ent))) = H1 at hc1 hR1 ha1 hD eun ⊢
    refine lc_it walk_keysT (fun i H' => H' Dl = some (.lst ((List.replicate i true).map V.bl)) ∧ Ex H1 H') ⟨upd_same, Ex.new hD⟩ (fun i H' _ hp => hp.2 _ _ ha1) (fun i x H' H2 hi hp hy => ?_) (fun H' hp => ?_)
    · obtain ⟨w1, w2⟩ := hp
      obtain ⟨rfl, ky, v, q, hkv, rfl, hq⟩ := hy
      rw [List.getElem?_map] at hkv
      obtain ⟨e, he, hek⟩ := Option.map_eq_some_iff.mp hkv
      cases hek
      have hem := List.mem_of_getElem? he
      have hpl : PlaceAt H2 (.ref q) e.1 := ⟨q, rfl, hq⟩
      refine ⟨rfl, ?_⟩
      dsimp only [tYes]
      rw [if_pos rfl]
      refine ⟨_, rfl, _, rfl, c, _, xs, rs, e.1, rfl, w2 _ _ hc1, rings_ex4 w2 hR1, hl, hpl, hd.keys e hem, fun H3 e3 => ⟨true, rfl, iteT ?_⟩⟩
      have gv : getE ds e.1 = some e.2 := getE_of hd.nk hem
      have ab := Ab_mem hem
      have ab2 := hd.abs
      refine ⟨_, rfl, _, rfl, a, .int e.2, rfl, .inr ⟨_, dk e.1, q, .inr ⟨od, (w2.trans e3) _ _ ha1⟩, rfl, e3 _ _ hq, ?_⟩, _, true, rfl, ?_, fun H4 e4 => ⟨_, e4 _ _ (e3 _ _ w1), ?_, ?_, Ex.mut ((w2.trans e3).trans e4) hD⟩⟩
      · rw [valV_ent, gv]
        rfl
      · have := IntB.int (K := K) (H := H3) e.2
        rw [decide_eq_true (show -(10 ^ 60) < e.2 by omega), decide_eq_true (show e.2 < 10 ^ 60 by omega)] at this
        exact this
      · rw [List.length_map, List.length_replicate]
        rw [List.length_map] at hi
        have := hd.len
        exact small1000 (by omega)
      · rw [upd_same, List.replicate_succ', List.map_append]
        rfl
    · obtain ⟨w1, w2⟩ := hp
      refine ⟨Dl, List.replicate (ds.map ent).length true, rfl, SqL.of w1, w2 _ _ ha1, ?_⟩
      rw [show (List.replicate (ds.map ent).length true).all id = true by simp]
      exact k _ (eun _ w2)
def spCheckDeal (K : PySem.W.Frag) : Sp := fun vs H Q _ => ∃ c a xs rs ds, vs = [.ref c, .ref a] ∧ H c = some (.tup xs) ∧ RingsAt H 60 xs rs ∧ xs.length ≤ 12 ∧ DealAt H a ds ∧ DOk rs ds (10 ^ 50) ∧ ∀ H', Ex H H' → Q .non H'
theorem ok_check_deal (T : Txt K mg) {f : Addr} {fd : FuncData} (D : DefAt K mg "check_deal" sCheckDeal ["chain", "deal"] f fd) : FnOk P w K mg base CX0 5 f fd ["chain", "deal"] (spCheckDeal K) := by
  refine D.F.ok scCheckDeal (fun vs H Q E h => ?_) (fun cdv A outer s₀ H vs Q E hr h => ?_)
  · obtain ⟨c, a, xs, rs, ds, rfl, _⟩ := h
    rfl
  · obtain ⟨c, a, xs, rs, ds, rfl, hc, hR, hl, ha, hd, k⟩ := h
    obtain ⟨f1, fd1, D1⟩ := T.d_lies_dealt
    refine ⟨_, pss_one (ps_if (pt_not (pt_val (pe_call (ok_lies_dealt T D1) hr (by rfl) D1.g D1.F.kp D1.b .nil pass0 (pa_cons (pv 0) (pa_cons (pv 1) pa_nil))))) pss_never pss_nil), ?_⟩
    exact ⟨_, rfl, _, rfl, c, a, xs, rs, ds, rfl, hc, hR, hl, ha, hd, fun H1 e1 => ⟨true, rfl, iteF (k _ e1)⟩⟩
end
end K1

/-! plain mathematics: written deals are told by their readings -/
namespace DM
open K1N
def pltP (p q : Pl) : Prop := p.1 < q.1 ∨ (p.1 = q.1 ∧ p.2 < q.2)
structure Canon (rs : List (Int × Int)) (ds : Dl) : Prop where
  srt : ds.Pairwise fun a b => pltP a.1 b.1
  nz : ∀ e ∈ ds, e.2 ≠ 0
  own : ∀ e ∈ ds, own rs e.1 = true
def KO (rs : List (Int × Int)) (ds : Dl) : Prop := KIn rs ds ∧ ∀ e ∈ ds, own rs e.1 = true
/-- a reading that does not look at the names -/
def Nl (rs : List (Int × Int)) (f : Pl → Int) : Prop := ∀ p, 0 ≤ p.1 → p.1 < (rs.length : Int) → f (wname rs p) = f p
theorem own_wname {rs : List (Int × Int)} (hs : ∀ j, j < rs.length → 1 ≤ sAt rs j) {p : Pl} (h0 : 0 ≤ p.1) (h1 : p.1 < (rs.length : Int)) : own rs (wname rs p) = true := by
  unfold wname
  by_cases o : own rs p = true
  · rw [if_pos o, o]
  · rw [if_neg o]
    have o2 : 0 < p.1 := by
      unfold own at o
      have : 0 < p.1 ∧ p.2 = sAt rs p.1.toNat := by simpa using o
      exact this.1
    have := hs (p.1 - 1).toNat (by omega)
    unfold own
    rw [decide_eq_false (show ¬ ((p.1 - 1, (0 : Int)) : Pl).2 = sAt rs ((p.1 - 1, (0 : Int)) : Pl).1.toNat by show ¬ (0 : Int) = sAt rs (p.1 - 1).toNat; omega), Bool.and_false]
    rfl
theorem wname_own {rs : List (Int × Int)} {p : Pl} (h : own rs p = true) : wname rs p = p := by
  unfold wname
  rw [if_pos h]
theorem wname_in {rs : List (Int × Int)} {p : Pl} (h0 : 0 ≤ p.1) (h1 : p.1 < (rs.length : Int)) : 0 ≤ (wname rs p).1 ∧ (wname rs p).1 < (rs.length : Int) := by
  unfold wname
  by_cases o : own rs p = true
  · rw [if_pos o]
    exact ⟨h0, h1⟩
  · rw [if_neg o]
    have o2 : 0 < p.1 := by
      unfold own at o
      have : 0 < p.1 ∧ p.2 = sAt rs p.1.toNat := by simpa using o
      exact this.1
    constructor
    · show 0 ≤ p.1 - 1
      omega
    · show p.1 - 1 < _
      omega
def fpt (rs : List (Int × Int)) (p : Pl) : Pl → Int := fun q => if wname rs q = p then 1 else 0
theorem nl_fpt {rs : List (Int × Int)} (hs : ∀ j, j < rs.length → 1 ≤ sAt rs j) (p : Pl) : Nl rs (fpt rs p) := fun q h0 h1 => by
  unfold fpt
  rw [wname_own (own_wname hs h0 h1)]
theorem g0_eq {e : Pl × Int} {r : Dl} : g0 (e :: r) e.1 = e.2 := by
  unfold g0
  rw [getE_pos rfl]
  rfl
theorem g0_ne {e : Pl × Int} {r : Dl} {p : Pl} (h : ¬ e.1 = p) : g0 (e :: r) p = g0 r p := by
  unfold g0
  rw [getE_neg h]
theorem g0_zero {p : Pl} : ∀ {ds : Dl}, (∀ e ∈ ds, ¬ e.1 = p) → g0 ds p = 0
  | [], _ => rfl
  | e :: r, h => by
    rw [g0_ne (h e List.mem_cons_self)]
    exact g0_zero fun x hx => h x (List.mem_cons_of_mem _ hx)
theorem ltP_ne {p q : Pl} (h : pltP p q) : ¬ q = p := fun e => by
  rw [e] at h
  unfold pltP at h
  omega
theorem g0_fpt {rs : List (Int × Int)} (p : Pl) : ∀ {ds : Dl}, NK ds → (∀ e ∈ ds, own rs e.1 = true) → Sf (fpt rs p) ds = g0 ds p
  | [], _, _ => rfl
  | e :: r, n, ho => by
    obtain ⟨n1, n2⟩ := List.nodup_cons.mp n
    have ih := g0_fpt p n2 fun x hx => ho x (List.mem_cons_of_mem _ hx)
    show fpt rs p e.1 * e.2 + Sf (fpt rs p) r = _
    rw [ih]
    unfold fpt
    rw [wname_own (ho e List.mem_cons_self)]
    by_cases q : e.1 = p
    · rw [if_pos q]
      have z : g0 r p = 0 := g0_zero fun x hx hxe => n1 (List.mem_map.mpr ⟨x, hx, hxe.trans q.symm⟩)
      rw [← q] at z ⊢
      rw [g0_eq, z]
      omega
    · rw [if_neg q, g0_ne q]
      omega
theorem nk_srt {ds : Dl} (h : ds.Pairwise fun a b => pltP a.1 b.1) : NK ds := List.pairwise_map.mpr (h.imp fun {a b} q (e : a.1 = b.1) => ltP_ne q e.symm)
theorem srt_ext : ∀ {A B : Dl}, A.Pairwise (fun a b => pltP a.1 b.1) → B.Pairwise (fun a b => pltP a.1 b.1) → (∀ e ∈ A, e.2 ≠ 0) → (∀ e ∈ B, e.2 ≠ 0) → (∀ p, g0 A p = g0 B p) → A = B
  | [], [], _, _, _, _, _ => rfl
  | [], e :: r, _, _, _, nb, h => by
    have := h e.1
    rw [g0_eq] at this
    exact absurd this.symm (nb e List.mem_cons_self)
  | e :: r, [], _, _, na, _, h => by
    have := h e.1
    rw [g0_eq] at this
    exact absurd this (na e List.mem_cons_self)
  | e :: r, d :: q, sa, sb, na, nb, h => by
    obtain ⟨a1, a2⟩ := List.pairwise_cons.mp sa
    obtain ⟨b1, b2⟩ := List.pairwise_cons.mp sb
    have lo : ¬ pltP e.1 d.1 := fun l => by
      have := h e.1
      rw [g0_eq, g0_zero] at this
      · exact na e List.mem_cons_self this
      · intro x hx
        rcases List.mem_cons.mp hx with z | hx
        · rw [z]
          exact ltP_ne l
        · have := b1 x hx
          unfold pltP at l this
          intro z
          rw [z] at this
          omega
    have hi : ¬ pltP d.1 e.1 := fun l => by
      have := h d.1
      rw [g0_eq (e := d), g0_zero] at this
      · exact nb d List.mem_cons_self this.symm
      · intro x hx
        rcases List.mem_cons.mp hx with z | hx
        · rw [z]
          exact ltP_ne l
        · have := a1 x hx
          unfold pltP at l this
          intro z
          rw [z] at this
          omega
    have k : e.1 = d.1 := by
      unfold pltP at lo hi
      exact Prod.ext (by omega) (by omega)
    have v : e.2 = d.2 := by
      have := h e.1
      rw [g0_eq, k, g0_eq] at this
      exact this
    have t : r = q := srt_ext a2 b2 (fun x hx => na x (List.mem_cons_of_mem _ hx)) (fun x hx => nb x (List.mem_cons_of_mem _ hx)) fun p => by
      by_cases z : e.1 = p
      · rw [g0_zero fun x hx => by rw [← z]; exact ltP_ne (a1 x hx), g0_zero fun x hx => by rw [← z, k]; exact ltP_ne (b1 x hx)]
      · have := h p
        rw [g0_ne z, g0_ne (by rw [← k]; exact z)] at this
        exact this
    rw [t, Prod.ext k v]
theorem canon_eq {rs : List (Int × Int)} (hs : ∀ j, j < rs.length → 1 ≤ sAt rs j) {A B : Dl} (a : Canon rs A) (b : Canon rs B) (h : ∀ f, Nl rs f → Sf f A = Sf f B) : A = B :=
  srt_ext a.srt b.srt a.nz b.nz fun p => by
    rw [← g0_fpt p (nk_srt a.srt) a.own, ← g0_fpt p (nk_srt b.srt) b.own]
    exact h _ (nl_fpt hs p)
theorem told_srt {ds : Dl} {ks : List Pl} (h : ks.Pairwise pltP) : (told ds ks).Pairwise fun a b => pltP a.1 b.1 := by
  unfold told
  refine List.Pairwise.sublist List.filter_sublist ?_
  exact List.pairwise_map.mpr h
theorem told_nz {ds : Dl} {ks : List Pl} : ∀ e ∈ told ds ks, e.2 ≠ 0 := fun e he z => by
  have := (List.mem_filter.mp he).2
  rw [decide_eq_true z] at this
  cases this
end DM

/-! own walk: a dict comprehension with tuple keys over anything that is walked -/
namespace DR
open PySem PySem.Spec PyProof.Rows L2
theorem dcT_it {J : It} {n : Nat} {G : Hp → Prop} {Y : Nat → Hp → V → Hp → Prop} (w : Walk J n G Y) {g : TG} {tt : TT} {tk tv : TE} {vs : List Nat} {σ : L2.St} {H1 : Hp} {D : Addr} {Qd : Hp → Prop} (Pv : Nat → Hp → Prop) (h0 : Pv 0 (upd H1 D (.dT []))) (hG : ∀ i H, i ≤ n → Pv i H → G H)
    (hs : ∀ i x H H', i < n → Pv i H → Y i H x H' → g x (wipe σ vs) H' fun σ2 H2 => wipe σ2 vs = wipe σ vs ∧ tt σ2 H2 fun b H3 =>
      if b = true then tk σ2 H3 fun y H4 => tv σ2 H4 fun z H5 => ∃ kvs k c, y = .ref c ∧ H5 c = some (.tup (k.map kV)) ∧ H5 D = some (.dT kvs) ∧ kvs.length < sizeLine ∧ Pv (i + 1) (upd H5 D (.dT (putK kvs k z))) else Pv (i + 1) H3) (hd : ∀ H, Pv n H → Qd H) :
    ∃ W : Nat → Nat → Hp → Prop, (∃ m, W 0 m (upd H1 D (.dT []))) ∧ ∀ i m H, W i m H →
      (J.stop i H ∧ Qd H) ∨ (J.go i H ∧ ∃ Nx : Hp → Prop, (∀ H', Nx H' → ∃ m', m' < m ∧ W (i + 1) m' H') ∧ ∀ x H', J.yld i H x H' → g x (wipe σ vs) H' fun σ2 H2 => wipe σ2 vs = wipe σ vs ∧ tt σ2 H2 fun b H3 =>
        if b = true then tk σ2 H3 fun y H4 => tv σ2 H4 fun z H5 => ∃ kvs k c, y = .ref c ∧ H5 c = some (.tup (k.map kV)) ∧ H5 D = some (.dT kvs) ∧ kvs.length < sizeLine ∧ Nx (upd H5 D (.dT (putK kvs k z))) else Nx H3) := by
  refine ⟨fun i m H => m = n - i ∧ i ≤ n ∧ Pv i H, ⟨n, (Nat.sub_zero n).symm, Nat.zero_le _, h0⟩, ?_⟩
  rintro i m H ⟨rfl, hi, p⟩
  by_cases c : i < n
  · exact .inr ⟨w.goes i H c (hG i H hi p), Pv (i + 1), fun H' p' => ⟨n - (i + 1), by omega, rfl, c, p'⟩, fun x H' y => hs i x H H' c p (w.yields i H x H' c (hG i H hi p) y)⟩
  · have e : i = n := by omega
    subst e
    exact .inl ⟨w.stops H (hG i H hi p), hd H p⟩
end DR

namespace K1
open PySem PySem.Spec PyProof.Rows L2 Evl LX ZW ZM DM DR
/-! ### sums of deals -/
abbrev Part := Int × Dl
def Ps (f : Pl → Int) : List Part → Int
  | [] => 0
  | p :: r => p.1 * Sf f p.2 + Ps f r
def Pb : List Part → Int
  | [] => 0
  | p :: r => (p.1.natAbs : Int) * Ab p.2 + Pb r
def Pn : List Part → Nat
  | [] => 0
  | p :: r => p.2.length + Pn r
theorem Ps_snoc (f : Pl → Int) (p : Part) : ∀ l : List Part, Ps f (l ++ [p]) = Ps f l + p.1 * Sf f p.2
  | [] => by
    show p.1 * Sf f p.2 + 0 = 0 + p.1 * Sf f p.2
    omega
  | q :: l => by
    show q.1 * Sf f q.2 + Ps f (l ++ [p]) = q.1 * Sf f q.2 + Ps f l + _
    rw [Ps_snoc f p l]
    omega
theorem Pb_snoc (p : Part) : ∀ l : List Part, Pb (l ++ [p]) = Pb l + (p.1.natAbs : Int) * Ab p.2
  | [] => by
    show (p.1.natAbs : Int) * Ab p.2 + 0 = 0 + (p.1.natAbs : Int) * Ab p.2
    omega
  | q :: l => by
    show (q.1.natAbs : Int) * Ab q.2 + Pb (l ++ [p]) = (q.1.natAbs : Int) * Ab q.2 + Pb l + _
    rw [Pb_snoc p l]
    omega
theorem Pn_snoc (p : Part) : ∀ l : List Part, Pn (l ++ [p]) = Pn l + p.2.length
  | [] => by
    show p.2.length + 0 = 0 + p.2.length
    omega
  | q :: l => by
    show q.2.length + Pn (l ++ [p]) = q.2.length + Pn l + _
    rw [Pn_snoc p l]
    omega
theorem Pn_take (l : List Part) : ∀ i, Pn (l.take i) ≤ Pn l := fun i => by
  induction l generalizing i with
  | nil => simp
  | cons p l ih =>
    cases i with
    | zero => exact Nat.zero_le _
    | succ i =>
      have := ih i
      show p.2.length + Pn (l.take i) ≤ p.2.length + Pn l
      omega
theorem mulb_nonneg (p : Part) : 0 ≤ (p.1.natAbs : Int) * Ab p.2 := Int.mul_nonneg (Int.natCast_nonneg _) (Ab_nonneg _)
theorem Pb_nonneg : ∀ l : List Part, 0 ≤ Pb l
  | [] => Int.le_refl 0
  | p :: l => by
    have := Pb_nonneg l
    have := mulb_nonneg p
    show 0 ≤ (p.1.natAbs : Int) * Ab p.2 + Pb l
    omega
/-- a pair of a count and a deal -/
def PartAt (H : Hp) (x : V) (p : Part) : Prop := ∃ t a, x = .ref t ∧ H t = some (.tup [.int p.1, .ref a]) ∧ DealAt H a p.2
theorem PartAt.ex {H H' : Hp} {x : V} {p : Part} (e : Ex H H') (h : PartAt H x p) : PartAt H' x p := by
  obtain ⟨t, a, rfl, h1, h2⟩ := h
  exact ⟨t, a, rfl, e _ _ h1, e _ _ h2⟩
theorem wn_in {rs : List (Int × Int)} (hn : ∀ j, j < rs.length → 0 < K1N.nAt rs j) {p : Pl} (h : PlIn rs p) : PlIn rs (wname rs p) := by
  unfold wname
  by_cases o : K1N.own rs p = true
  · rw [if_pos o]
    exact h
  · rw [if_neg o]
    have o2 : 0 < p.1 := by
      unfold K1N.own at o
      have : 0 < p.1 ∧ p.2 = K1N.sAt rs p.1.toNat := by simpa using o
      exact this.1
    obtain ⟨⟨a, b⟩, _⟩ := h
    have := hn (p.1 - 1).toNat (by omega)
    exact ⟨⟨by show 0 ≤ p.1 - 1; omega, by show p.1 - 1 < _; omega⟩, Int.le_refl 0, by show (0 : Int) < (K1N.nAt rs (p.1 - 1).toNat : Int); omega⟩
theorem rings_pos {H : Hp} {xs : List V} {rs : List (Int × Int)} (h : RingsAt H 60 xs rs) (j : Nat) (hj : j < rs.length) : 0 < K1N.nAt rs j := by
  obtain ⟨x, _, t, _, _, b1, _⟩ := rings_nth h hj
  omega
theorem take_snoc {α : Type} {l : List α} {i : Nat} {x : α} (h : l[i]? = some x) : l.take (i + 1) = l.take i ++ [x] := by
  rw [List.take_add_one, h]
  rfl
theorem abs_mul (c v : Int) : ((c * v).natAbs : Int) = (c.natAbs : Int) * (v.natAbs : Int) := by
  rw [Int.natAbs_mul]
  omega
theorem getD_g0 (ds : Dl) (p : Pl) : ((getE ds p).map V.int).getD (.int 0) = .int (g0 ds p) := by
  unfold g0
  cases getE ds p <;> rfl
theorem put_new {ds : Dl} {p : Pl} {v : Int} (h : ∀ e ∈ ds, e.1 ≠ p) : putE ds p v = ds ++ [(p, v)] := by
  unfold putE
  rw [if_neg]
  intro t
  obtain ⟨e, he, z⟩ := List.any_eq_true.mp t
  exact h e he (of_decide_eq_true z)
theorem keys_ent {H : Hp} : ∀ {ds : Dl} {bs : List Addr}, IsKeys H (ds.map ent) bs → bs.map (fun b => keyP H (.ref b)) = ds.map (·.1) ∧ ∀ b ∈ bs, ∃ p ∈ ds.map (·.1), H b = some (.tup [.int p.1, .int p.2]) ∧ keyP H (.ref b) = p
  | [], _, .nil => ⟨rfl, fun b hb => absurd hb (by simp)⟩
  | e :: ds, b :: bs, .cons r t => by
    obtain ⟨h1, h2⟩ := keys_ent (ds := ds) (bs := bs) t
    have hb : H b = some (.tup [.int e.1.1, .int e.1.2]) := r
    have kb : keyP H (.ref b) = e.1 := keyP_of hb
    refine ⟨by rw [List.map_cons, List.map_cons, kb, h1], fun c hc => ?_⟩
    rcases List.mem_cons.mp hc with q | q
    · subst q
      exact ⟨e.1, List.mem_cons_self, hb, kb⟩
    · obtain ⟨p, hp, z⟩ := h2 c q
      exact ⟨p, List.mem_cons_of_mem _ hp, z⟩
theorem rings_keepD {H H' : Hp} {a : Addr} {kvs : List (List Key × V)} {xs : List V} {rs : List (Int × Int)} (ha : H a = some (.dT kvs)) (k : Keep a H H') (h : RingsAt H 60 xs rs) : RingsAt H' 60 xs rs :=
  paired_imp (fun _ _ ⟨t, e, ht, z⟩ => ⟨t, e, k _ _ (ne_of ht ha (by intro y; cases y)) ht, z⟩) h
section
variable {P : Program} {w : World} {K : PySem.W.Frag} {mg : Str → Option Value} {base : Heap}
def spCombined : Sp := fun vs H Q _ => ∃ c l xs rs zs, ∃ parts : List Part, vs = [.ref c, .ref l] ∧ H c = some (.tup xs) ∧ RingsAt H 60 xs rs ∧ H l = some (.lst zs) ∧ Paired (PartAt H) zs parts ∧ (∀ p ∈ parts, NK p.2 ∧ KIn rs p.2 ∧ p.1.natAbs < 2 ^ 300 ∧ Ab p.2 < 2 ^ 300) ∧ Pn parts ≤ 1000 ∧
  ∀ r H' res, Ex H H' → DealAt H' r res → NK res → KIn rs res → Ab res ≤ Pb parts → res.length ≤ Pn parts → (∀ f, Nl rs f → Sf f res = Ps f parts) → Canon rs res → Q (.ref r) H'
theorem ok_combined (T : Txt K mg) {f : Addr} {fd : FuncData} (D : DefAt K mg "combined" sCombined ["chain", "parts"] f fd) : FnOk P w K mg base CX0 2 f fd ["chain", "parts"] spCombined := by
  refine D.F.ok scCombined (fun vs H Q E h => ?_) (fun cdv A outer s₀ H vs Q E hr h => ?_)
  · obtain ⟨c, l, xs, rs, zs, parts, rfl, _⟩ := h
    rfl
  · obtain ⟨c, l, xs, rs, zs, parts, rfl, hc, hR, hl, hP, hok, hpn, k⟩ := h
    obtain ⟨f1, fd1, D1⟩ := T.d_written_name
    have hu1 := Nat.lt_of_le_of_lt (Nat.add_le_add_left (show 1 ≤ 64 by decide) _) hr.units
    refine ⟨_, pss_cons (ps_set (i := 2) scCombined.nd rfl (.inr rfl) pe_dnewT)
      (pss_cons (ps_for PassesOwn.never rfl (pi_list (pv 1)) (pg_tup (by rfl) (pgs_cons (pg_name (i := 3) scCombined.nd rfl (.inl rfl)) (pgs_cons (pg_name (i := 4) scCombined.nd rfl (.inl rfl)) pgs_nil)))
        (pss_one (ps_lock (ps_for PassesOwn.never rfl (pi_keys (pv 4)) (pg_name (i := 5) scCombined.nd rfl (.inl rfl))
          (pss_cons (ps_set (i := 6) scCombined.nd rfl (.inl rfl) (pe_call (ok_written_name T D1) hr (by rfl) D1.g D1.F.kp D1.b .nil pass0 (pa_cons (pv 0) (pa_cons (pv 5) pa_nil))))
          (pss_one (ps_dput hu1 (pv 2) (pv 6) (pe_op op_add (pe_dget2 hu1 (pv 2) (pv 6) pe_int ⟨rfl, rfl, rfl, rfl⟩) (pe_op op_mulW (pv 3) (pe_dget hu1 (pv 4) (pv 5) (fun _ _ => rfl)))) rfl)))))))
      (pss_one (ps_ret (pe_dcT (own := [("name", 6)]) (g := gName 6) rfl hr.units0 scCombined.nd (pi_list (pe_callB (cr_sortedDT rfl) (by rfl) T.z_sorted (by decide +kernel) (pa_cons (pv 2) pa_nil)))
        (blkOk_by (N := nCombined) (sc := defScope sCombined) (by decide +kernel)) (fun _ _ _ _ _ => pg_name (i := 6) scCombined.nd rfl (Or.inl rfl))
        (fun _ _ _ _ _ => pts_one (pt_cmpR op_ne (pe_dget hu1 (pv 2) (pv 6) (fun _ _ => rfl)) pe_int (nomark _)))
        (fun _ _ _ _ _ => pv 6) (fun _ _ _ _ _ => pe_dget hu1 (pv 2) (pv 6) (fun _ _ => rfl)))))), ?_⟩
    intro sd hsd
    have e0 := Ex.new (o := .dT []) hsd
    refine ⟨_, rfl, l, rfl, ⟨_, SqL.of (e0 _ _ hl)⟩, for_list (K := K) (a := l) (xs := zs) (fun i σ' H' => ∃ (y3 y4 y5 y6 : Option V) (cur : Dl), σ' = [some (.ref c), some (.ref l), some (.ref sd), y3, y4, y5, y6] ∧ DealAt H' sd cur ∧ NK cur ∧ KO rs cur ∧ Ab cur ≤ Pb (parts.take i) ∧ cur.length ≤ Pn (parts.take i) ∧ (∀ f, Nl rs f → Sf f cur = Ps f (parts.take i)) ∧ Ex H H')
      ⟨none, none, none, none, [], rfl, upd_same, List.nodup_nil, ⟨fun e he => absurd he (by simp), fun e he => absurd he (by simp)⟩, Int.le_refl 0, Nat.le_refl 0, fun f _ => rfl, e0⟩ (fun i σ' H' _ hW => ?_) (fun i x σ' H' hx hW => ?_) (fun σ' H' hW => ?_)⟩
    · obtain ⟨_, _, _, _, _, _, _, _, _, _, _, _, e⟩ := hW
      exact SqL.of (e _ _ hl)
    · obtain ⟨y3, y4, y5, y6, cur, rfl, w1, w2, w3, w4, w5, w6, w7⟩ := hW
      obtain ⟨⟨cnt, ds⟩, hpi, t, a, rfl, ht, ha⟩ := paired_get hP hx
      obtain ⟨nk, kin, cb, ab⟩ := hok _ (List.mem_of_getElem? hpi)
      replace ha : DealAt H a ds := ha
      replace nk : NK ds := nk
      replace kin : KIn rs ds := kin
      replace cb : cnt.natAbs < 2 ^ 300 := cb
      replace ab : Ab ds < 2 ^ 300 := ab
      have htk := take_snoc hpi
      have nsa : sd ≠ a := fun z => by
        rw [z, ha] at hsd
        cases hsd
      refine ⟨t, _, rfl, SqT.of (w7 _ _ ht), rfl, .int cnt, [_], rfl, .ref a, [], rfl, rfl, ?_⟩
      refine ⟨a, _, w7 _ _ ha, trivial, fun od => ?_⟩
      have k0 : Keep a H (upd H' a (.frz od (.dT (ds.map ent)))) := (Keep.ex w7).trans keep_lock
      have s0 : DealAt (upd H' a (.frz od (.dT (ds.map ent)))) sd cur := by
        show upd H' a _ sd = _
        rw [upd_ne nsa]
        exact w1
      refine ⟨_, rfl, a, od, rfl, .inr ⟨_, upd_same, for_it walk_keysT (fun k σ2 H2 => ∃ (z5 z6 : Option V) (cur2 : Dl), σ2 = [some (.ref c), some (.ref l), some (.ref sd), some (.int cnt), some (.ref a), z5, z6] ∧ DealAt H2 sd cur2 ∧ NK cur2 ∧ KO rs cur2 ∧ Ab cur2 ≤ Ab cur + (cnt.natAbs : Int) * Ab (ds.take k) ∧ cur2.length ≤ cur.length + k ∧
          (∀ f, Nl rs f → Sf f cur2 = Sf f cur + cnt * Sf f (ds.take k)) ∧ H2 a = some (.frz od (.dT (ds.map ent))) ∧ Keep a H H2)
        ⟨y5, y6, cur, rfl, s0, w2, w3, by show Ab cur ≤ Ab cur + (cnt.natAbs : Int) * 0; omega, Nat.le_refl _, fun f _ => by show _ = Sf f cur + cnt * 0; omega, upd_same, k0⟩ (fun k σ2 H2 _ hW => ?_) (fun k x σ2 H2 H3 hk hW hy => ?_) (fun σ2 H2 hW => ?_)⟩⟩
      · obtain ⟨_, _, _, _, _, _, _, _, _, _, fz, _⟩ := hW
        exact fz
      · obtain ⟨z5, z6, cur2, rfl, v1, v2, v3, v4, v5, v6, v7, v8⟩ := hW
        obtain ⟨rfl, ky, v, q, hkv, rfl, hq⟩ := hy
        rw [List.getElem?_map] at hkv
        obtain ⟨e, he, hek⟩ := Option.map_eq_some_iff.mp hkv
        cases hek
        have hem := List.mem_of_getElem? he
        have hin := kin e hem
        have hpl : PlaceAt H3 (.ref q) e.1 := ⟨q, rfl, hq⟩
        have hc3 : H3 c = some (.tup xs) := v8 _ _ (ne_of hc ha (by intro y; cases y)) hc
        have hR3 := rings_keepD ha v8 hR
        have gv : getE ds e.1 = some e.2 := getE_of nk hem
        have hdk := take_snoc he
        refine ⟨_, rfl, _, rfl, c, xs, rs, .ref q, e.1, rfl, hc3, hR3, hpl, hin.1.1, hin.1.2, fun y H4 e4 hy4 => ?_⟩
        obtain ⟨t4, rfl, ht4⟩ := hy4
        replace ht4 : H4 t4 = some (.tup ((dk (wname rs e.1)).map kV)) := ht4
        have s4 : DealAt H4 sd cur2 := e4 _ _ v1
        have f4 := e4 _ _ v7
        have vb : e.2.natAbs < 2 ^ 300 := by
          have := Ab_mem hem
          have := Ab_nonneg ds
          omega
        have hl4 : (cur2.map ent).length < sizeLine := by
          rw [List.length_map]
          have hlen := Pn_take parts i
          have hlen2 := Pn_take parts (i + 1)
          rw [htk, Pn_snoc] at hlen2
          have : k < ds.length := by
            rw [List.length_map] at hk
            exact hk
          replace hlen2 : Pn (parts.take i) + ds.length ≤ Pn parts := hlen2
          exact small1000 (by omega)
        refine ⟨_, rfl, sd, rfl, .inr ⟨_, .inl s4⟩, _, rfl, _, DGet.t s4 ht4, _, rfl, _, rfl, _, rfl, a, .int e.2, rfl, .inr ⟨_, dk e.1, q, .inr ⟨od, f4⟩, rfl, e4 _ _ hq, by rw [valV_ent, gv]; rfl⟩, cnt, e.2, rfl, rfl, wide_mul (a := 300) (b := 300) cb vb (by decide) (by decide) (by decide), g0 cur2 (wname rs e.1), cnt * e.2, by rw [valV_ent]; exact getD_g0 _ _, rfl, _, rfl, _, rfl, sd, _, rfl, DPut.t (k := dk (wname rs e.1)) s4 ht4 hl4, ?_⟩
        obtain ⟨_, pa⟩ := put_sum (f := one) (p := wname rs e.1) (x := cnt * e.2) v2
        refine ⟨_, _, putE cur2 (wname rs e.1) (g0 cur2 (wname rs e.1) + cnt * e.2), rfl, ?_, put_nk v2, ?_, ?_, ?_, ?_, ?_, ?_⟩
        · show upd H4 sd _ sd = _
          rw [upd_same]
          dsimp only
          rw [putK_ent]
        · refine ⟨fun d hd => ?_, fun d hd => ?_⟩
          · rcases put_keys d hd with h1 | ⟨d2, h1, h2⟩
            · rw [h1]
              exact wn_in (fun j hj => rings_pos hR j hj) hin
            · rw [← h2]
              exact v3.1 d2 h1
          · rcases put_keys d hd with h1 | ⟨d2, h1, h2⟩
            · rw [h1]
              exact own_wname (fun j hj => (rings_ok hR j hj).1) hin.1.1 hin.1.2
            · rw [← h2]
              exact v3.2 d2 h1
        · rw [hdk, Ab_append, Int.mul_add]
          have a1 := abs_mul cnt e.2
          have a2 : Ab [e] = (e.2.natAbs : Int) + 0 := rfl
          rw [a2, Int.add_zero]
          omega
        · have := put_len cur2 (wname rs e.1) (g0 cur2 (wname rs e.1) + cnt * e.2)
          omega
        · intro f hf
          obtain ⟨ps, _⟩ := put_sum (f := f) (p := wname rs e.1) (x := cnt * e.2) v2
          rw [ps, v6 f hf, hf e.1 hin.1.1 hin.1.2, hdk, Sf_append, Int.mul_add]
          have a2 : Sf f [e] = f e.1 * e.2 + 0 := rfl
          rw [a2, Int.add_zero, Int.mul_left_comm]
          omega
        · rw [upd_ne nsa.symm]
          exact f4
        · exact (v8.trans (Keep.ex e4)).mut hsd
      · obtain ⟨z5, z6, cur2, rfl, v1, v2, v3, v4, v5, v6, v7, v8⟩ := hW
        rw [List.length_map] at v4 v5 v6
        rw [List.take_length] at v4 v6
        refine ⟨v7, _, _, _, _, cur2, rfl, ?_, v2, v3, ?_, ?_, fun f hf => ?_, Ex.of_keep ha v8⟩
        · show upd H2 a _ sd = _
          rw [upd_ne nsa]
          exact v1
        · rw [htk, Pb_snoc]
          show _ ≤ _ + (cnt.natAbs : Int) * Ab ds
          omega
        · rw [htk, Pn_snoc]
          show _ ≤ _ + ds.length
          omega
        · rw [htk, Ps_snoc, v6 f hf, w6 f hf]
    · obtain ⟨y3, y4, y5, y6, cur, rfl, w1, w2, w3, w4, w5, w6, w7⟩ := hW
      have hzp := paired_len hP
      rw [hzp, List.take_length] at w4 w5 w6
      refine ⟨_, rfl, sd, cur.map ent, rfl, .inl w1, fun kv hkv => ?_, fun bs ys p hik hperm hpw hp => ?_⟩
      · obtain ⟨e, _, rfl⟩ := List.mem_map.mp hkv
        exact ⟨e.1.1, e.1.2, rfl⟩
      · obtain ⟨kb, hbs⟩ := keys_ent hik
        have hks : (ys.map (keyP H')).Perm (cur.map (·.1)) := by
          have := hperm.map (keyP H')
          rw [List.map_map] at this
          rw [← kb]
          exact this
        have hnd : (ys.map (keyP H')).Nodup := hks.nodup_iff.mpr w2
        have hsrt : (ys.map (keyP H')).Pairwise pltP := by
          have a1 : (ys.map (keyP H')).Pairwise fun p q => SrtO.lexB q p = false := List.pairwise_map.mpr hpw
          have a2 : (ys.map (keyP H')).Pairwise fun p q => p ≠ q := hnd
          refine (a1.and a2).imp fun {p q} ⟨z1, z2⟩ => ?_
          have z3 := SrtO.lexB_no.mp z1
          have z4 : ¬ (p.1 = q.1 ∧ p.2 = q.2) := fun z => z2 (Prod.ext z.1 z.2)
          unfold pltP
          omega
        have e6 := Ex.new (o := .lst ys) hp
        have s6 := e6 _ _ w1
        have g6 : (upd H' p (.lst ys)) p = some (.lst ys) := upd_same
        have hyk : ∀ y ∈ ys, ∃ b, y = .ref b ∧ H' b = some (.tup ((dk (keyP H' y)).map kV)) ∧ keyP H' y ∈ cur.map (·.1) := fun y hy => by
          obtain ⟨b, hb, rfl⟩ := List.mem_map.mp (hperm.mem_iff.mp hy)
          obtain ⟨pp, h1, h2, h3⟩ := hbs b hb
          rw [h3]
          exact ⟨b, rfl, h2, h1⟩
        generalize upd H' p (.lst ys) = H6 at e6 s6 g6 ⊢
        refine ⟨p, rfl, ⟨_, SqL.of g6⟩, fun Dl hD => ?_⟩
        have nDs : sd ≠ Dl := ne_of_none s6 hD
        refine dcT_it (walk_list (K := K) (a := p) (xs := ys)) (fun i H2 => DealAt H2 Dl (told cur ((ys.map (keyP H')).take i)) ∧ Ex H6 H2) ⟨upd_same, Ex.new hD⟩ (fun i H2 _ hp2 => SqL.of (hp2.2 _ _ g6)) (fun i x H2 H3 hi hp2 hy => ?_) (fun H2 hp2 => ?_)
        · obtain ⟨v1, v2⟩ := hp2
          obtain ⟨rfl, hx⟩ := hy
          obtain ⟨b, rfl, hb, hin⟩ := hyk x (List.mem_of_getElem? hx)
          have hkx : (ys.map (keyP H'))[i]? = some (keyP H' (.ref b)) := by
            rw [List.getElem?_map, hx]
            rfl
          have htk := take_snoc hkx
          generalize keyP H' (.ref b) = kp at hb hin hkx htk
          have hb3 := (e6.trans v2) _ _ hb
          have s3 := v2 _ _ s6
          obtain ⟨e, hem, hek⟩ := List.mem_map.mp hin
          have gk : getE cur kp = some (g0 cur kp) := by
            rw [← hek]
            unfold g0
            rw [getE_of w2 (p := e.1) (v := e.2) hem]
            rfl
          have gv : valV (cur.map ent) (dk kp) = some (V.int (g0 cur kp)) := by
            rw [valV_ent, gk]
            rfl
          refine ⟨rfl, _, rfl, _, rfl, sd, .int (g0 cur kp), rfl, by have := DGet.t s3 hb3; rw [gv] at this; exact this, rfl, _, rfl, ite2 (fun cc => ?_) (fun cc => ?_)⟩
          · have nz : ¬ g0 cur kp = 0 := fun z => by
              rw [z] at cc
              exact absurd cc (by decide)
            have tl : (told cur ((ys.map (keyP H')).take i)).length ≤ 1000 := by
              unfold told
              have a1 := List.length_filter_le (fun e : Pl × Int => !decide (e.2 = 0)) ((((ys.map (keyP H')).take i)).map fun k => (k, g0 cur k))
              have a2 := hks.length_eq
              simp only [List.length_map, List.length_take] at a1 a2
              omega
            refine ⟨_, rfl, _, rfl, _, rfl, sd, .int (g0 cur kp), rfl, by have := DGet.t s3 hb3; rw [gv] at this; exact this, _, dk kp, b, rfl, hb3, v1, by rw [List.length_map]; exact small1000 tl, ?_, Ex.mut v2 hD⟩
            show upd H3 Dl _ Dl = _
            rw [upd_same, putK_ent, htk, told_snoc, if_neg nz, put_new]
            intro d hd z
            have h1 := told_keys d hd
            rw [z] at h1
            have h2 := hnd.sublist (List.take_sublist (i + 1) _)
            rw [htk] at h2
            exact (List.nodup_append.mp h2).2.2 _ h1 _ (List.mem_singleton.mpr rfl) rfl
          · have zz : g0 cur kp = 0 := by
              by_cases z : g0 cur kp = 0
              · exact z
              · exfalso
                apply cc
                rw [decide_eq_false (fun y => z (V.int.inj y))]
                rfl
            refine ⟨?_, v2⟩
            rw [htk, told_snoc, if_pos zz, List.append_nil]
            exact v1
        · obtain ⟨v1, v2⟩ := hp2
          rw [List.take_of_length_le (by rw [List.length_map]; exact Nat.le_refl _)] at v1
          refine k Dl H2 _ (w7.trans (e6.trans v2)) v1 (told_nk hnd) (fun e he => ?_) (Int.le_trans (told_abs w2 hks) w4) ?_ (fun f hf => (told_sum w2 hks).trans (w6 f hf)) ⟨told_srt hsrt, told_nz, fun e he => ?_⟩
          · obtain ⟨d, hd, z⟩ := List.mem_map.mp (hks.mem_iff.mp (told_keys e he))
            rw [← z]
            exact w3.1 d hd
          · unfold told
            have a1 := List.length_filter_le (fun e : Pl × Int => !decide (e.2 = 0)) ((ys.map (keyP H')).map fun k => (k, g0 cur k))
            rw [List.length_map] at a1
            have a2 := hks.length_eq
            rw [List.length_map] at a2
            rw [List.length_map] at a1
            rw [List.length_map] at a2
            omega
          · obtain ⟨d, hd, z⟩ := List.mem_map.mp (hks.mem_iff.mp (told_keys e he))
            rw [← z]
            exact w3.2 d hd
end
end K1

/-! own rule: {k: v}, one pair, the key a tuple -/
namespace DR
open PySem PySem.Spec PyProof.Rows L2
def tDisp1T (tk tv : TE) : TE := fun σ H Q => ∀ p, H p = none → tk σ (upd H p (.dT [])) fun x H1 => tv σ H1 fun y H2 => ∃ b ky, x = .ref b ∧ H2 b = some (.tup (ky.map kV)) ∧ H2 p = some (.dT []) ∧ Q (.ref p) (upd H2 p (.dT [(ky, y)]))
theorem pe_disp1T {X : Cx} {pos : Pos} {k v : Expr} {tk tv : TE} (hu : X.A.units < cLine) (hk : PE X k tk) (hv : PE X v tv) : PE X (.Dict [some k] [v] pos) (tDisp1T tk tv) := by
  refine ⟨fun pins s σ H Q I q => ?_⟩
  have hn := I.hok.fresh (Nat.le_refl s.heap.objs.size)
  have I1 := I.laid (a := s.heap.objs.size) (o := .dT []) (h' := s.heap.push { cls := .type "dict", data := .dict #[] }) (t' := s.toks) (fun _ _ q => Heap.get?_push_of_some _ q) (Nat.le_refl _) (dt_empty s.heap I.big)
  have sh : (evalEachOpt [some k] X.env).zip ((evalEach [v] X.env).map fun u => do let x ← u; standAt pos; pure x) = [(eval k X.env, do let x ← eval v X.env; standAt pos; pure x)].map fun p => (some p.1, p.2) := rfl
  rw [arm_eval_Dict, sh, dictDisplay_pairs _ (by simp) (by show (1 : Nat) < 17; decide)]
  refine wpAny_bind (wpAny_standAt (wpAny_bind (wpAny_subDictH (knd := tupleKind (mixKind X.prog X.w)) (Q := fun d s' => wpAny (model X.prog X.w) X.A (pure (Value.ref d)) (EP X pins σ Q) X.xe s') hu (by show (1 : Nat) ≤ 15; decide) ?_)))
  have run := (pps_cons (pos := pos) hk hv pps_nil).run pins { s with heap := s.heap.push { cls := .type "dict", data := .dict #[] } } σ (upd H s.heap.objs.size (.dT [])) (fun ps H2 => match ps with
    | [(x, y)] => ∃ b ky, x = .ref b ∧ H2 b = some (.tup (ky.map kV)) ∧ H2 s.heap.objs.size = some (.dT []) ∧ Q (.ref s.heap.objs.size) (upd H2 s.heap.objs.size (.dT [(ky, y)]))
    | _ => False) I1 (q s.heap.objs.size hn)
  refine thn run fun ws s2 ⟨ps, H2, I2, rel, z⟩ => ?_
  cases rel with
  | nil => exact z.elim
  | @cons a w0 as ws' h t =>
    obtain ⟨x, y⟩ := a
    cases t with
    | cons h' t' => exact z.elim
    | nil =>
      obtain ⟨b, ky, ex, hb, hD, q2⟩ := z
      subst ex
      obtain ⟨w1, w2⟩ := w0
      obtain ⟨h1, h2⟩ := h
      cases (show w1 = Value.ref b from h1)
      obtain ⟨_, lo, xs, rel0, dd⟩ := dt_of I2.hok hD
      cases rel0
      refine ⟨[(ky, b, w2)], ⟨rfl, rfl, key_of I2.hok hb, trivial⟩, dd, fun h' tk dd' hs => wpAny_pure ?_⟩
      obtain ⟨qo, es, ep, hq, g2, g3, g4, _, g5⟩ := dd'
      have kt : KT (upd H2 s.heap.objs.size (.dT [(ky, y)])) [(ky, y)] (storedAllH [] [(ky, b, w2)]) := by
        refine .cons ⟨rfl, ?_, h2⟩ .nil
        rw [upd_ne (ne_of hb hD (fun z => nomatch z))]
        exact hb
      have ok : ObjOk X.prog X.w (upd H2 s.heap.objs.size (.dT [(ky, y)])) h' s.heap.objs.size (.dT [(ky, y)]) := ⟨by show 1 ≤ sizeLine; decide, lo, _, kt, qo, es, ep, hq, g2, g3, g4, g5⟩
      exact ⟨.ref s.heap.objs.size, _, d_write I2 (by rw [hD]; exact True.intro) hs ⟨qo, hq⟩ ok, rfl, q2⟩
end DR

set_option exponentiation.threshold 400
namespace K1
open PySem PySem.Spec PyProof.Rows L2 Evl LX ZW ZM DM DR
theorem DOk.mono {rs : List (Int × Int)} {ds : Dl} {B B' : Int} (h : DOk rs ds B) (hb : B ≤ B') : DOk rs ds B' := ⟨h.nk, h.keys, Int.le_trans h.abs hb, h.len⟩
section
variable {P : Program} {w : World} {K : PySem.W.Frag} {mg : Str → Option Value} {base : Heap}
def spToldSum : Sp := fun vs H Q _ => ∃ c l xs rs zs, ∃ parts : List Part, vs = [.ref c, .ref l] ∧ H c = some (.tup xs) ∧ RingsAt H 60 xs rs ∧ H l = some (.lst zs) ∧ Paired (PartAt H) zs parts ∧ (∀ p ∈ parts, NK p.2 ∧ KIn rs p.2 ∧ p.1.natAbs < 2 ^ 300 ∧ Ab p.2 < 2 ^ 300) ∧ Pn parts ≤ 1000 ∧ Pb parts ≤ 10 ^ 50 ∧
  ∀ r H' res, Ex H H' → DealAt H' r res → DOk rs res (Pb parts) → res.length ≤ Pn parts → (∀ f, Nl rs f → Sf f res = Ps f parts) → Canon rs res → Q (.ref r) H'
theorem ok_told_sum (T : Txt K mg) {f : Addr} {fd : FuncData} (D : DefAt K mg "told_sum" sToldSum ["chain", "parts"] f fd) : FnOk P w K mg base CX0 3 f fd ["chain", "parts"] spToldSum := by
  refine D.F.ok scToldSum (fun vs H Q E h => ?_) (fun cdv A outer s₀ H vs Q E hr h => ?_)
  · obtain ⟨c, l, xs, rs, zs, parts, rfl, _⟩ := h
    rfl
  · obtain ⟨c, l, xs, rs, zs, parts, rfl, hc, hR, hl, hP, hok, hpn, hpb, k⟩ := h
    obtain ⟨f1, fd1, D1⟩ := T.d_combined
    obtain ⟨f2, fd2, D2⟩ := T.d_check_digits
    refine ⟨_, pss_cons (ps_set (i := 2) scToldSum.nd rfl (.inl rfl) (pe_call (ok_combined T D1) hr (by rfl) D1.g D1.F.kp D1.b .nil pass0 (pa_cons (pv 0) (pa_cons (pv 1) pa_nil))))
      (pss_cons (ps_expr (pe_call (ok_check_digits T D2) hr (by rfl) D2.g D2.F.kp D2.b .nil pass0 (pa_cons (pe_callTy (cr_listVals rfl) (by rfl) T.z_list (by decide +kernel) (pa_cons (pe_bm0 PySem.F.plainAttrs_dict PySem.F.slot_dict_values PySem.F.type_dict_values mt_valsT (pv 2)) pa_nil)) pa_nil)))
      (pss_one (ps_ret (pv 2)))), ?_⟩
    refine ⟨_, rfl, _, rfl, c, l, xs, rs, zs, parts, rfl, hc, hR, hl, hP, hok, hpn, fun r H1 res e1 hr1 nk kin hab hln hf cn => ?_⟩
    refine ⟨_, rfl, .inr (.inr (.inl ⟨rfl, .inr ⟨_, hr1⟩⟩)), r, _, rfl, rfl, hr1, fun p hp => ?_⟩
    have e2 := Ex.new (o := valsO p r) hp
    refine ⟨p, r, _, rfl, upd_same, e2 _ _ hr1, fun l2 hl2 => ?_⟩
    have e3 := e2.trans (Ex.new (o := .lst ((res.map ent).map (·.2))) hl2)
    have gv : (upd (upd H1 p (valsO p r)) l2 (.lst ((res.map ent).map (·.2)))) l2 = some (.lst ((res.map (·.2)).map V.int)) := by
      rw [upd_same, List.map_map, List.map_map]
      rfl
    refine ⟨l2, res.map (·.2), rfl, gv, by rw [List.length_map]; omega, fun z hz => ?_, fun H2 e4 => ?_⟩
    · obtain ⟨e, he, rfl⟩ := List.mem_map.mp hz
      have := Ab_mem he
      constructor <;> omega
    · exact ⟨_, rfl, k r H2 res ((e1.trans e3).trans e4) ((e3.trans e4) _ _ hr1) ⟨nk, kin, hab, by omega⟩ hln hf cn⟩
def spCheckDeals (K : PySem.W.Frag) : Sp := fun vs H Q _ => ∃ c a b xs rs ds es, vs = [.ref c, .ref a, .ref b] ∧ H c = some (.tup xs) ∧ RingsAt H 60 xs rs ∧ (1 ≤ xs.length ∧ xs.length ≤ 12) ∧ DealAt H a ds ∧ DealAt H b es ∧ DOk rs ds (10 ^ 50) ∧ DOk rs es (10 ^ 50) ∧ ∀ H', Ex H H' → Q .non H'
/-- two deals put together, the other one so many times -/
def spTwo (sg : Int) : Sp := fun vs H Q _ => ∃ c a b xs rs ds es B, vs = [.ref c, .ref a, .ref b] ∧ H c = some (.tup xs) ∧ RingsAt H 60 xs rs ∧ (1 ≤ xs.length ∧ xs.length ≤ 12) ∧ DealAt H a ds ∧ DealAt H b es ∧ DOk rs ds B ∧ DOk rs es B ∧ 2 * B ≤ 10 ^ 50 ∧ ds.length + es.length ≤ 1000 ∧
  ∀ r H' res, Ex H H' → DealAt H' r res → DOk rs res (2 * B) → res.length ≤ ds.length + es.length → (∀ f, Nl rs f → Sf f res = Sf f ds + sg * Sf f es) → Q (.ref r) H'
theorem DOk.raw {rs : List (Int × Int)} {ds : Dl} {B : Int} (h : DOk rs ds B) (hb : B ≤ 10 ^ 50) : NK ds ∧ KIn rs ds ∧ Ab ds < 2 ^ 300 := by
  refine ⟨h.nk, h.keys, ?_⟩
  have := h.abs
  have : (10 : Int) ^ 50 < 2 ^ 300 := by decide
  omega
def spMultiplied : Sp := fun vs H Q _ => ∃ c a xs rs ds B, ∃ n : Int, vs = [.ref c, .int n, .ref a] ∧ H c = some (.tup xs) ∧ RingsAt H 60 xs rs ∧ (1 ≤ xs.length ∧ xs.length ≤ 12) ∧ DealAt H a ds ∧ DOk rs ds B ∧ 0 ≤ n ∧ n ≤ 100 ∧ 100 * B ≤ 10 ^ 50 ∧
  ∀ r H' res, Ex H H' → DealAt H' r res → DOk rs res (100 * B) → res.length ≤ ds.length → (∀ f, Nl rs f → Sf f res = n * Sf f ds) → Q (.ref r) H'
def spLeftName : Sp := fun vs H Q _ => ∃ c xs rs, vs = [.ref c] ∧ H c = some (.tup xs) ∧ RingsAt H 60 xs rs ∧ 1 ≤ xs.length ∧ ∀ y H', Ex H H' → PlaceAt H' y (0, K1N.sAt rs 0) → Q y H'
def spRightName : Sp := fun vs H Q _ => ∃ c xs, vs = [.ref c] ∧ H c = some (.tup xs) ∧ ∀ y H', Ex H H' → PlaceAt H' y ((xs.length : Int) - 1, 0) → Q y H'
def spAtEnds : Sp := fun vs H Q _ => ∃ c xs rs, ∃ a b : Int, vs = [.ref c, .int a, .int b] ∧ H c = some (.tup xs) ∧ RingsAt H 60 xs rs ∧ (1 ≤ xs.length ∧ xs.length ≤ 12) ∧ (a.natAbs : Int) ≤ 10 ^ 40 ∧ (b.natAbs : Int) ≤ 10 ^ 40 ∧
  ∀ r H' res, Ex H H' → DealAt H' r res → DOk rs res (2 * 10 ^ 40) → res.length ≤ 2 → (∀ f, Nl rs f → Sf f res = a * f (0, K1N.sAt rs 0) + b * f ((xs.length : Int) - 1, 0)) → Q (.ref r) H'
end
end K1

set_option exponentiation.threshold 400
namespace K1
open PySem PySem.Spec PyProof.Rows L2 Evl LX ZW ZM DM DR
/-- a class -/
def ClassAt (H : Hp) (v : V) (deg : Int) (ps : List Int) : Prop := ∃ t a, v = .ref t ∧ H t = some (.tup [.int deg, .ref a]) ∧ PlacesT H a ps
theorem ClassAt.ex {H H' : Hp} {v : V} {deg : Int} {ps : List Int} (e : Ex H H') (h : ClassAt H v deg ps) : ClassAt H' v deg ps := by
  obtain ⟨t, a, rfl, h1, h2⟩ := h
  exact ⟨t, a, rfl, e _ _ h1, e _ _ h2⟩
/-- a class by its readings -/
abbrev CL (H : Hp) (v : V) (rs : List (Int × Int)) (deg : Int) (t : Nat → Int) : Prop := ClassAt H v deg (cx rs t)
theorem cx_ok {H : Hp} {xs : List V} {rs : List (Int × Int)} (h : RingsAt H 60 xs rs) (t : Nat → Int) : PlOk rs (cx rs t) := fun j hj => by
  rw [cx_len] at hj
  rw [cx_get hj]
  have := rings_pos h j hj
  exact ⟨Int.emod_nonneg _ (by omega), Int.emod_lt_of_pos _ (by omega)⟩
theorem range_zero (n : Nat) (f : Nat → V) : ∀ i, (List.range i).map f ++ [f i] = (List.range (i + 1)).map f := fun i => by
  rw [List.range_succ, List.map_append]
  rfl
theorem rf_get {n i : Nat} (f : Nat → Int) (h : i < n) : ((List.range n).map fun j => V.int (f j))[i]? = some (V.int (f i)) := by
  rw [List.getElem?_map, List.getElem?_range h]
  rfl
theorem rf_set {n i : Nat} {z : Int} {f g : Nat → Int} (h : i < n) (hi : g i = z) (ho : ∀ j, j ≠ i → g j = f j) : ((List.range n).map fun j => V.int (f j)).set i (V.int z) = (List.range n).map fun j => V.int (g j) := by
  refine List.ext_getElem? fun j => ?_
  rw [List.getElem?_set]
  by_cases e : i = j
  · subst e
    rw [if_pos rfl, if_pos (by rw [List.length_map, List.length_range]; exact h), rf_get g h, hi]
  · rw [if_neg e]
    by_cases hj : j < n
    · rw [rf_get f hj, rf_get g hj, ho j (fun z => e z.symm)]
    · rw [List.getElem?_eq_none (by rw [List.length_map, List.length_range]; omega), List.getElem?_eq_none (by rw [List.length_map, List.length_range]; omega)]
theorem Sf_snoc (f : Pl → Int) (ds : Dl) (e : Pl × Int) : Sf f (ds ++ [e]) = Sf f ds + f e.1 * e.2 := by
  rw [Sf_append]
  show _ + (f e.1 * e.2 + 0) = _
  omega
section
variable {P : Program} {w : World} {K : PySem.W.Frag} {mg : Str → Option Value} {base : Heap}
def spCheckClass : Sp := fun vs H Q _ => ∃ c v xs rs deg ps, vs = [.ref c, v] ∧ H c = some (.tup xs) ∧ RingsAt H 60 xs rs ∧ xs.length ≤ 12 ∧ ClassAt H v deg ps ∧ -(10 ^ 60) < deg ∧ deg < 10 ^ 60 ∧ ps.length = xs.length ∧ PlOk rs ps ∧ ∀ H', Ex H H' → Q .non H'
/-- rests taken modulo the places -/
def modp (rs : List (Int × Int)) (ns : List Int) : List Int := (List.range ns.length).map fun j => ns.getD j 0 % (K1N.nAt rs j : Int)
def spToldClass : Sp := fun vs H Q _ => ∃ c l xs rs deg, ∃ ns : List Int, vs = [.ref c, .int deg, .ref l] ∧ H c = some (.tup xs) ∧ RingsAt H 60 xs rs ∧ xs.length ≤ 12 ∧ H l = some (.lst (ns.map V.int)) ∧ ns.length = xs.length ∧ -(10 ^ 60) < deg ∧ deg < 10 ^ 60 ∧
  ∀ r H', Ex H H' → ClassAt H' (.ref r) deg (modp rs ns) → Q (.ref r) H'
def spClassAt : Sp := fun vs H Q _ => ∃ c a xs rs ds B, vs = [.ref c, .ref a] ∧ H c = some (.tup xs) ∧ RingsAt H 60 xs rs ∧ xs.length ≤ 12 ∧ DealAt H a ds ∧ DOk rs ds B ∧ ∀ r H', Ex H H' → CL H' (.ref r) rs (Sf one ds) (fun i => Sf (tau rs i) ds) → Q (.ref r) H'
theorem ok_class_at (T : Txt K mg) {f : Addr} {fd : FuncData} (D : DefAt K mg "class_at" sClassAt ["chain", "deal"] f fd) : FnOk P w K mg base CX0 1 f fd ["chain", "deal"] spClassAt := by
  refine D.F.ok scClassAt (fun vs H Q E h => ?_) (fun cdv A outer s₀ H vs Q E hr h => ?_)
  · obtain ⟨c, a, xs, rs, ds, B, rfl, _⟩ := h
    rfl
  · obtain ⟨c, a, xs, rs, ds, B, rfl, hc, hR, hl, ha, hd, k⟩ := h
    have hu1 := Nat.lt_of_le_of_lt (Nat.add_le_add_left (show 1 ≤ 64 by decide) _) hr.units
    refine ⟨_, pss_cons (ps_setLc (i := 2) (own := [("_", 10)]) (g := gName 10) (tt := tYes) (by rfl) scClassAt.nd rfl rfl (sw_true rfl rfl rfl (by decide +kernel)) (pi_tup (pv 0)) (blkOk_by (N := nClassAt) (sc := defScope sClassAt) (by decide +kernel)) (fun _ _ _ _ _ => pg_name (i := 10) scClassAt.nd rfl (.inl rfl)) (fun _ _ _ _ _ => pts_nil) (fun _ _ _ _ _ => pe_int))
      (pss_cons (ps_setLc (i := 3) (own := [("_", 10)]) (g := gName 10) (tt := tYes) (by rfl) scClassAt.nd rfl rfl (sw_true rfl rfl rfl (by decide +kernel)) (pi_tup (pv 0)) (blkOk_by (N := nClassAt) (sc := defScope sClassAt) (by decide +kernel)) (fun _ _ _ _ _ => pg_name (i := 10) scClassAt.nd rfl (.inl rfl)) (fun _ _ _ _ _ => pts_nil) (fun _ _ _ _ _ => pe_int))
      (pss_cons (ps_lock (ps_for PassesOwn.never rfl (pi_keys (pv 1)) (pg_name (i := 4) scClassAt.nd rfl (.inl rfl))
        (pss_cons (ps_asg (pv 4) (pg_tup (by rfl) (pgs_cons (pg_name (i := 5) scClassAt.nd rfl (.inl rfl)) (pgs_cons (pg_name (i := 6) scClassAt.nd rfl (.inl rfl)) pgs_nil))))
        (pss_cons (ps_augS (pv 2) (pv 5) get_list (pe_dget hu1 (pv 1) (pv 4) (fun _ _ => rfl)) ip_add set_list)
        (pss_one (ps_augS (pv 3) (pv 5) get_list (pe_op op_mul (pv 6) (pe_dget hu1 (pv 1) (pv 4) (fun _ _ => rfl))) ip_add set_list))))))
      (pss_cons (ps_set (i := 7) scClassAt.nd rfl (.inl rfl) (pe_lst pa_nil))
      (pss_cons (ps_set (i := 8) scClassAt.nd rfl (.inl rfl) pe_int)
      (pss_cons (ps_for PassesOwn.never rfl (EnT.pi_enumT (by rfl) T.z_enumerate (pa_cons (pv 0) pa_nil)) (pg_tup rfl (pgs_cons (pg_name (i := 5) scClassAt.nd rfl (.inl rfl)) (pgs_cons (pg_name (i := 9) scClassAt.nd rfl (.inl rfl)) pgs_nil)))
        (pss_cons (ps_expr (pe_bm PySem.F.plainAttrs_list PySem.F.slot_list_append PySem.F.type_list_append mt_append (pv 7) (pa_cons (pe_op op_mod (pe_op op_add (pe_ix ix_list (pv 3) (pv 5) (fun _ _ => rfl)) (pe_op op_mul (pe_ix ix_tup (pv 9) pe_int (fun _ _ => rfl)) (pe_op op_sub (pv 8) (pv 5)))) (pe_ix ix_tup (pv 9) pe_int (fun _ _ => rfl))) pa_nil)))
        (pss_one (ps_aug (i := 8) scClassAt.nd rfl (.inl rfl) (pe_ix ix_list (pv 2) (pv 5) (fun _ _ => rfl)) ip_add))))
      (pss_one (ps_ret (pe_tup (pa_cons (pv 8) (pa_cons (pe_callTy call_tuple_of (by rfl) T.z_tuple (by decide +kernel) (pa_cons (pv 7) pa_nil)) pa_nil)))))))))), ?_⟩
    have hlen : xs.length = rs.length := paired_len hR
    refine ⟨_, rfl, c, rfl, ⟨_, SqT.of hc⟩, fun l1 hl1 => ?_⟩
    refine lc_tup (K := K) (a := c) (xs := xs) (fun i H' => H' l1 = some (.lst ((List.range i).map fun _ => V.int 0)) ∧ Ex H H') ⟨upd_same, Ex.new hl1⟩ (fun i H' _ hp => SqT.of (hp.2 _ _ hc)) (fun i x H' hx hp => ?_) (fun H1 hp => ?_)
    · obtain ⟨w1, w2⟩ := hp
      have hi := (List.getElem?_eq_some_iff.mp hx).1
      refine ⟨rfl, ?_⟩
      dsimp only [tYes]
      rw [if_pos rfl]
      refine ⟨_, w1, ?_, ?_, Ex.mut w2 hl1⟩
      · rw [List.length_map, List.length_range]
        exact small1000 (by omega)
      · rw [upd_same, List.range_succ, List.map_append]
        rfl
    obtain ⟨p1, e1⟩ := hp
    refine ⟨_, rfl, c, rfl, ⟨_, SqT.of (e1 _ _ hc)⟩, fun l2 hl2 => ?_⟩
    refine lc_tup (K := K) (a := c) (xs := xs) (fun i H' => H' l2 = some (.lst ((List.range i).map fun _ => V.int 0)) ∧ Ex H1 H') ⟨upd_same, Ex.new hl2⟩ (fun i H' _ hp => SqT.of ((e1.trans hp.2) _ _ hc)) (fun i x H' hx hp => ?_) (fun H2 hp => ?_)
    · obtain ⟨w1, w2⟩ := hp
      have hi := (List.getElem?_eq_some_iff.mp hx).1
      refine ⟨rfl, ?_⟩
      dsimp only [tYes]
      rw [if_pos rfl]
      refine ⟨_, w1, ?_, ?_, Ex.mut w2 hl2⟩
      · rw [List.length_map, List.length_range]
        exact small1000 (by omega)
      · rw [upd_same, List.range_succ, List.map_append]
        rfl
    obtain ⟨p2, e2⟩ := hp
    have n12 : l1 ≠ l2 := ne_of_none p1 hl2
    have f2 : H l2 = none := fresh_back e1 hl2
    replace p1 := e2 _ _ p1
    have e12 := e1.trans e2
    rw [hlen] at p1 p2
    have na1 : l1 ≠ a := fun z => by
      rw [z, ha] at hl1
      cases hl1
    have na2 : l2 ≠ a := fun z => by
      rw [z, ha] at f2
      cases f2
    refine ⟨a, _, e12 _ _ ha, trivial, fun od => ?_⟩
    have k0 : Keep a H (upd H2 a (.frz od (.dT (ds.map ent)))) := (Keep.ex e12).trans keep_lock
    have q1 : (upd H2 a (.frz od (.dT (ds.map ent)))) l1 = some (.lst ((List.range rs.length).map fun j => V.int (Sf (ind j) (ds.take 0)))) := by
      rw [upd_ne na1]
      exact p1
    have q2 : (upd H2 a (.frz od (.dT (ds.map ent)))) l2 = some (.lst ((List.range rs.length).map fun j => V.int (Sf (spt j) (ds.take 0)))) := by
      rw [upd_ne na2]
      exact p2
    refine ⟨_, rfl, a, od, rfl, .inr ⟨_, upd_same, for_it walk_keysT (fun k σ2 H3 => ∃ (y4 y5 y6 : Option V), σ2 = [some (.ref c), some (.ref a), some (.ref l1), some (.ref l2), y4, y5, y6, none, none, none, none] ∧
        H3 l1 = some (.lst ((List.range rs.length).map fun j => V.int (Sf (ind j) (ds.take k)))) ∧ H3 l2 = some (.lst ((List.range rs.length).map fun j => V.int (Sf (spt j) (ds.take k)))) ∧ H3 a = some (.frz od (.dT (ds.map ent))) ∧ Keep a H H3)
      ⟨none, none, none, rfl, q1, q2, upd_same, k0⟩ (fun k σ2 H3 _ hW => ?_) (fun k x σ2 H3 H4 hk hW hy => ?_) (fun σ2 H3 hW => ?_)⟩⟩
    · obtain ⟨_, _, _, _, _, _, fz, _⟩ := hW
      exact fz
    · obtain ⟨y4, y5, y6, rfl, v1, v2, v3, v4⟩ := hW
      obtain ⟨rfl, ky, v, q, hkv, rfl, hq⟩ := hy
      rw [List.getElem?_map] at hkv
      obtain ⟨e, he, hek⟩ := Option.map_eq_some_iff.mp hkv
      cases hek
      have hem := List.mem_of_getElem? he
      obtain ⟨⟨b0, b1⟩, b2, b3⟩ := hd.keys e hem
      obtain ⟨⟨ej, eq⟩, ev⟩ := e
      replace b0 : 0 ≤ ej := b0
      replace b1 : ej < (rs.length : Int) := b1
      replace b2 : 0 ≤ eq := b2
      replace b3 : eq < (K1N.nAt rs ej.toNat : Int) := b3
      have n60 := rings_n hR ej.toNat
      have hq2 : H4 q = some (.tup [.int ej, .int eq]) := hq
      have gv : getE ds (ej, eq) = some ev := getE_of hd.nk hem
      have hdk := take_snoc he
      have hj : ej.toNat < rs.length := by omega
      have ej2 : ej = ((ej.toNat : Nat) : Int) := by omega
      have gd : ∀ H5, H5 a = some (.frz od (.dT (ds.map ent))) → H5 q = some (.tup [.int ej, .int eq]) → DGet H5 a (.ref q) (some (V.int ev)) := fun H5 h1 h2 => .inr ⟨_, dk (ej, eq), q, .inr ⟨od, h1⟩, rfl, h2, by rw [valV_ent, gv]; rfl⟩
      have nq1 : q ≠ l1 := ne_of hq2 v1 (by intro z; cases z)
      have nq2 : q ≠ l2 := ne_of hq2 v2 (by intro z; cases z)
      refine ⟨_, rfl, q, _, rfl, SqT.of hq2, rfl, .int ej, [_], rfl, .int eq, [], rfl, rfl, ?_⟩
      refine ⟨_, rfl, _, rfl, l1, _, ej.toNat, _, rfl, by rw [← ej2], SqL.of v1, rf_get _ hj, _, rfl, _, rfl, a, _, rfl, gd _ v3 hq2, _, _, rfl, rfl, l1, _, ej, ej.toNat, rfl, rfl, v1, ?_, ?_⟩
      · rw [ej2]
        refine ixN_nat ?_
        rw [List.length_map, List.length_range]
        exact hj
      rw [rf_set (g := fun j => Sf (ind j) (ds.take (k + 1))) hj (by
          show Sf (ind ej.toNat) (ds.take (k + 1)) = _
          rw [hdk, Sf_snoc]
          unfold ind
          rw [if_pos ej2, Int.one_mul]) (fun j hne => by
          show Sf (ind j) (ds.take (k + 1)) = _
          rw [hdk, Sf_snoc]
          unfold ind
          rw [if_neg (by show ¬ ej = (j : Int); omega), Int.zero_mul, Int.add_zero])]
      have u1 : (upd H4 l1 (.lst ((List.range rs.length).map fun j => V.int (Sf (ind j) (ds.take (k + 1)))))) l1 = _ := upd_same
      have u2 : (upd H4 l1 (.lst ((List.range rs.length).map fun j => V.int (Sf (ind j) (ds.take (k + 1)))))) l2 = _ := (upd_ne n12.symm).trans v2
      have u3 : (upd H4 l1 (.lst ((List.range rs.length).map fun j => V.int (Sf (ind j) (ds.take (k + 1)))))) a = _ := (upd_ne na1.symm).trans v3
      have u4 : (upd H4 l1 (.lst ((List.range rs.length).map fun j => V.int (Sf (ind j) (ds.take (k + 1)))))) q = _ := (upd_ne nq1).trans hq2
      have u5 : Keep a H (upd H4 l1 (.lst ((List.range rs.length).map fun j => V.int (Sf (ind j) (ds.take (k + 1)))))) := v4.mut hl1
      generalize upd H4 l1 (.lst ((List.range rs.length).map fun j => V.int (Sf (ind j) (ds.take (k + 1))))) = H5 at u1 u2 u3 u4 u5 ⊢
      refine ⟨_, rfl, _, rfl, l2, _, ej.toNat, _, rfl, by rw [← ej2], SqL.of u2, rf_get _ hj, _, rfl, _, rfl, _, rfl, a, _, rfl, gd _ u3 u4, _, _, rfl, rfl, .inl (by constructor <;> omega), _, _, rfl, rfl, l2, _, ej, ej.toNat, rfl, rfl, u2, ?_, ?_⟩
      · rw [ej2]
        refine ixN_nat ?_
        rw [List.length_map, List.length_range]
        exact hj
      rw [rf_set (g := fun j => Sf (spt j) (ds.take (k + 1))) hj (by
          show Sf (spt ej.toNat) (ds.take (k + 1)) = _
          rw [hdk, Sf_snoc]
          unfold spt
          rw [if_pos ej2]) (fun j hne => by
          show Sf (spt j) (ds.take (k + 1)) = _
          rw [hdk, Sf_snoc]
          unfold spt
          rw [if_neg (by show ¬ ej = (j : Int); omega), Int.zero_mul, Int.add_zero])]
      exact ⟨_, _, _, rfl, (upd_ne n12).trans u1, upd_same, (upd_ne na2.symm).trans u3, u5.mut f2⟩
    obtain ⟨y4, y5, y6, rfl, v1, v2, v3, v4⟩ := hW
    rw [List.length_map, List.take_length] at v1 v2
    refine ⟨v3, ?_⟩
    have e3 := Ex.of_keep ha v4
    have w1 : (upd H3 a (.dT (ds.map ent))) l1 = _ := (upd_ne na1).trans v1
    have w2 : (upd H3 a (.dT (ds.map ent))) l2 = _ := (upd_ne na2).trans v2
    generalize upd H3 a (.dT (ds.map ent)) = H4 at e3 w1 w2 ⊢
    refine ⟨by show 0 ≤ sizeLine; decide, fun l3 hl3 => ?_⟩
    have e4 := Ex.new (o := .lst []) hl3
    have f3 : H l3 = none := fresh_back e3 hl3
    have w1' := e4 _ _ w1
    have w2' := e4 _ _ w2
    have n13 : l1 ≠ l3 := ne_of_none w1 hl3
    have n23 : l2 ≠ l3 := ne_of_none w2 hl3
    have e34 := e3.trans e4
    have w3 : (upd H4 l3 (.lst [])) l3 = some (.lst ((List.range 0).map fun j => V.int ((Sf (tau rs j) ds - (j : Int) * K1N.sAt rs j) % (K1N.nAt rs j : Int)))) := upd_same
    generalize upd H4 l3 (.lst []) = H5 at e34 w1' w2' w3 ⊢
    refine ⟨_, rfl, c, xs, rfl, SqT.of (e34 _ _ hc), for_enumT (K := K) (a := c) (xs := xs) (fun i σ' H' => ∃ (y4 y5 y6 y9 : Option V), σ' = [some (.ref c), some (.ref a), some (.ref l1), some (.ref l2), y4, y5, y6, some (.ref l3), some (.int (Sf (bef i) ds)), y9, none] ∧
        H' l1 = some (.lst ((List.range rs.length).map fun j => V.int (Sf (ind j) ds))) ∧ H' l2 = some (.lst ((List.range rs.length).map fun j => V.int (Sf (spt j) ds))) ∧ H' l3 = some (.lst ((List.range i).map fun j => V.int ((Sf (tau rs j) ds - (j : Int) * K1N.sAt rs j) % (K1N.nAt rs j : Int)))) ∧ Ex H H')
      ⟨y4, y5, y6, none, by rw [bef_zero hd.keys]; rfl, w1', w2', w3, e34⟩ (fun i σ' H' hp => ?_) (fun i x Tp σ' H' hx hp nT => ?_) (fun σ' H' hp => ?_)⟩
    · obtain ⟨_, _, _, _, _, _, _, _, e⟩ := hp
      exact SqT.of (e _ _ hc)
    · obtain ⟨z4, z5, z6, z9, rfl, x1, x2, x3, x4⟩ := hp
      have eT := Ex.new (o := .tup [.int (i : Nat), x]) nT
      have hi : i < xs.length := (List.getElem?_eq_some_iff.mp hx).1
      obtain ⟨t, rfl, ht, b1, b2, b3, b4⟩ := rings_nth4 (rings_ex4 (x4.trans eT) hR) hx
      have s1 := eT _ _ x1
      have s2 := eT _ _ x2
      have s3 := eT _ _ x3
      refine ⟨Tp, _, rfl, SqT.of upd_same, rfl, .int (i : Nat), [_], rfl, _, [], rfl, rfl, ?_⟩
      refine ⟨_, rfl, .inl ⟨rfl, _, SqL.of s3⟩, _, rfl, _, rfl, l2, _, _, _, rfl, rfl, SqL.of s2, atI_nat (rf_get _ (by omega)), _, rfl, t, _, 1, _, rfl, rfl, SqT.of ht, rfl, _, rfl, _, rfl, _, _, rfl, rfl, _, _, rfl, rfl, .inl (by constructor <;> omega), _, _, rfl, rfl, _, rfl, t, _, 0, _, rfl, rfl, SqT.of ht, rfl, _, _, rfl, rfl, by omega, ?_⟩
      refine ⟨l3, _, _, rfl, rfl, s3, ?_, ?_⟩
      · rw [List.length_map, List.length_range]
        exact small1000 (by omega)
      have n3T : ∀ {b : Addr} {o : HO}, b ≠ l3 → (upd H' Tp (.tup [.int (i : Nat), .ref t])) b = some o → (upd (upd H' Tp (.tup [.int (i : Nat), .ref t])) l3 (.lst (((List.range i).map fun j => V.int ((Sf (tau rs j) ds - (j : Int) * K1N.sAt rs j) % (K1N.nAt rs j : Int))) ++ [V.int ((Sf (spt i) ds + K1N.sAt rs i * (Sf (bef i) ds - (i : Int))) % (K1N.nAt rs i : Int))]))) b = some o := fun n h => (upd_ne n).trans h
      have r1 := n3T n13 s1
      have r2 := n3T n23 s2
      have r4 : Ex H (upd (upd H' Tp (.tup [.int (i : Nat), .ref t])) l3 (.lst (((List.range i).map fun j => V.int ((Sf (tau rs j) ds - (j : Int) * K1N.sAt rs j) % (K1N.nAt rs j : Int))) ++ [V.int ((Sf (spt i) ds + K1N.sAt rs i * (Sf (bef i) ds - (i : Int))) % (K1N.nAt rs i : Int))]))) := Ex.mut (x4.trans eT) f3
      have r3 : (upd (upd H' Tp (.tup [.int (i : Nat), .ref t])) l3 (.lst (((List.range i).map fun j => V.int ((Sf (tau rs j) ds - (j : Int) * K1N.sAt rs j) % (K1N.nAt rs j : Int))) ++ [V.int ((Sf (spt i) ds + K1N.sAt rs i * (Sf (bef i) ds - (i : Int))) % (K1N.nAt rs i : Int))]))) l3 = some (.lst ((List.range (i + 1)).map fun j => V.int ((Sf (tau rs j) ds - (j : Int) * K1N.sAt rs j) % (K1N.nAt rs j : Int)))) := by
        rw [upd_same, List.range_succ, List.map_append]
        have ee : Sf (spt i) ds + K1N.sAt rs i * (Sf (bef i) ds - (i : Int)) = Sf (tau rs i) ds - (i : Int) * K1N.sAt rs i := by
          rw [← tau_parts, Int.mul_sub, Int.mul_comm (K1N.sAt rs i) (i : Int)]
          omega
        rw [ee]
        rfl
      refine ⟨_, rfl, _, rfl, _, rfl, l1, _, _, _, rfl, rfl, SqL.of r1, atI_nat (rf_get _ (by omega)), _, _, rfl, rfl, ?_⟩
      exact ⟨_, _, _, _, by rw [bef_succ]; rfl, r1, r2, r3, r4⟩
    · obtain ⟨z4, z5, z6, z9, rfl, x1, x2, x3, x4⟩ := hp
      rw [hlen, bef_all hd.keys]
      refine ⟨_, rfl, _, rfl, l3, _, rfl, .inl ⟨SqL.of x3, fun r1 hr1 => ⟨by show 2 ≤ sizeLine; decide, fun r2 hr2 => k r2 _ ((x4.trans (Ex.new hr1)).trans (Ex.new hr2)) ⟨r2, r1, rfl, upd_same, ?_⟩⟩⟩⟩
      show (upd _ r2 _) r1 = _
      rw [Ex.new hr2 _ _ upd_same, hlen]
      unfold cx
      rw [List.map_map]
      rfl
end
end K1

set_option exponentiation.threshold 400
namespace K1
open PySem PySem.Spec PyProof.Rows L2 Evl LX ZW ZM DM DR
theorem one_ok (p : Pl) : one p = 1 ∨ one p = 0 := .inl rfl
theorem sf_one_le {rs : List (Int × Int)} {ds : Dl} {B : Int} (h : DOk rs ds B) : ((Sf one ds).natAbs : Int) ≤ B := by
  have a := Sf_le one_ok ds
  have b := Ab_nonneg ds
  have c := h.abs
  omega
/-- rests of the places as readings -/
theorem modp_cx {rs : List (Int × Int)} {g t : Nat → Int} (h : ∀ i, i < rs.length → g i % (K1N.nAt rs i : Int) = (t i - (i : Int) * K1N.sAt rs i) % (K1N.nAt rs i : Int)) : modp rs ((List.range rs.length).map g) = cx rs t := by
  unfold modp cx
  rw [List.length_map, List.length_range]
  refine List.map_congr_left fun j hj => ?_
  have hj' := List.mem_range.mp hj
  show ((List.range rs.length).map g).getD j 0 % _ = _
  rw [mapr_get g hj']
  exact h j hj'
section
variable {P : Program} {w : World} {K : PySem.W.Frag} {mg : Str → Option Value} {base : Heap}
def spClassOf : Sp := fun vs H Q _ => ∃ c a xs rs ds B, vs = [.ref c, .ref a] ∧ H c = some (.tup xs) ∧ RingsAt H 60 xs rs ∧ (1 ≤ xs.length ∧ xs.length ≤ 12) ∧ DealAt H a ds ∧ DOk rs ds B ∧ B ≤ 10 ^ 50 ∧ ∀ r H', Ex H H' → CL H' (.ref r) rs (Sf one ds) (fun i => Sf (tau rs i) ds) → Q (.ref r) H'
theorem ok_class_of (T : Txt K mg) {f : Addr} {fd : FuncData} (D : DefAt K mg "class_of" sClassOf ["chain", "deal"] f fd) : FnOk P w K mg base CX0 6 f fd ["chain", "deal"] spClassOf := by
  refine D.F.ok scClassOf (fun vs H Q E h => ?_) (fun cdv A outer s₀ H vs Q E hr h => ?_)
  · obtain ⟨c, a, xs, rs, ds, B, rfl, _⟩ := h
    rfl
  · obtain ⟨c, a, xs, rs, ds, B, rfl, hc, hR, hl, ha, hd, hB, k⟩ := h
    obtain ⟨f1, fd1, D1⟩ := T.d_check_chain
    obtain ⟨f2, fd2, D2⟩ := T.d_check_deal
    obtain ⟨f3, fd3, D3⟩ := T.d_class_at
    obtain ⟨f4, fd4, D4⟩ := T.d_check_digits
    have hr1 : Room 1 _ := hr.mono (by decide)
    have hr2 : Room 2 _ := hr.mono (by decide)
    refine ⟨_, pss_cons (ps_expr (pe_call (ok_check_chain T D1) hr (by rfl) D1.g D1.F.kp D1.b .nil pass0 (pa_cons (pv 0) pa_nil)))
      (pss_cons (ps_expr (pe_call (ok_check_deal T D2) hr (by rfl) D2.g D2.F.kp D2.b .nil pass0 (pa_cons (pv 0) (pa_cons (pv 1) pa_nil))))
      (pss_cons (ps_set (i := 2) scClassOf.nd rfl (.inl rfl) (pe_call (ok_class_at T D3) hr1 (by rfl) D3.g D3.F.kp D3.b .nil pass0 (pa_cons (pv 0) (pa_cons (pv 1) pa_nil))))
      (pss_cons (ps_expr (pe_call (ok_check_digits T D4) hr2 (by rfl) D4.g D4.F.kp D4.b .nil pass0 (pa_cons (pe_lst (pa_cons (pe_ix ix_tup (pv 2) pe_int (fun _ _ => rfl)) pa_nil)) pa_nil)))
      (pss_one (ps_ret (pv 2)))))), ?_⟩
    refine ⟨_, rfl, .ref c, rfl, rings_chain4 hR hc hl.1 hl.2, fun H1 e1 => ?_⟩
    refine ⟨_, rfl, _, rfl, c, a, xs, rs, ds, rfl, e1 _ _ hc, rings_ex4 e1 hR, hl.2, e1 _ _ ha, hd.mono hB, fun H2 e2' => ?_⟩
    have e2 := e1.trans e2'
    refine ⟨_, rfl, _, rfl, c, a, xs, rs, ds, B, rfl, e2 _ _ hc, rings_ex4 e2 hR, hl.2, e2 _ _ ha, hd, fun r H3 e3' hr3 => ?_⟩
    have e3 := e2.trans e3'
    obtain ⟨t, p, hrt, ht, hp⟩ := id hr3
    cases hrt
    refine ⟨_, rfl, r, _, 0, .int (Sf one ds), rfl, rfl, SqT.of ht, rfl, by show 1 ≤ sizeLine; decide, fun l hl0 => ?_⟩
    have e4 := Ex.new (o := .lst [V.int (Sf one ds)]) hl0
    have sb := sf_one_le hd
    refine ⟨l, [Sf one ds], rfl, upd_same, by show 1 ≤ 1000; decide, fun z hz => ?_, fun H5 e5 => ?_⟩
    · rw [List.mem_singleton.mp hz]
      constructor <;> omega
    · exact ⟨_, rfl, k r H5 ((e3.trans e4).trans e5) (hr3.ex (e4.trans e5))⟩
def spCheckClasses : Sp := fun vs H Q _ => ∃ c v1 v2 xs rs d1 d2 t u, vs = [.ref c, v1, v2] ∧ H c = some (.tup xs) ∧ RingsAt H 60 xs rs ∧ (1 ≤ xs.length ∧ xs.length ≤ 12) ∧ CL H v1 rs d1 t ∧ CL H v2 rs d2 u ∧ (d1.natAbs : Int) ≤ 10 ^ 55 ∧ (d2.natAbs : Int) ≤ 10 ^ 55 ∧ ∀ H', Ex H H' → Q .non H'
/-- two classes put together by sums or differences -/
def spClassTwo (op : Int → Int → Int) : Sp := fun vs H Q _ => ∃ c v1 v2 xs rs d1 d2 t u, vs = [.ref c, v1, v2] ∧ H c = some (.tup xs) ∧ RingsAt H 60 xs rs ∧ (1 ≤ xs.length ∧ xs.length ≤ 12) ∧ CL H v1 rs d1 t ∧ CL H v2 rs d2 u ∧ (d1.natAbs : Int) ≤ 10 ^ 55 ∧ (d2.natAbs : Int) ≤ 10 ^ 55 ∧
  ∀ r H', Ex H H' → CL H' (.ref r) rs (op d1 d2) (fun i => op (t i) (u i)) → Q (.ref r) H'
def spWithEnds : Sp := fun vs H Q _ => ∃ c v xs rs deg t, ∃ a b : Int, vs = [.ref c, v, .int a, .int b] ∧ H c = some (.tup xs) ∧ RingsAt H 60 xs rs ∧ (1 ≤ xs.length ∧ xs.length ≤ 12) ∧ CL H v rs deg t ∧ (deg.natAbs : Int) ≤ 10 ^ 55 ∧ (a.natAbs : Int) ≤ 10 ^ 55 ∧ (b.natAbs : Int) ≤ 10 ^ 55 ∧
  ∀ r H', Ex H H' → CL H' (.ref r) rs (deg + a + b) (fun i => t i + a * K1N.sAt rs i) → Q (.ref r) H'
end
end K1

set_option exponentiation.threshold 400
namespace K1
open PySem PySem.Spec PyProof.Rows L2 Evl LX ZW ZM DM DR
theorem put_abs {p : Pl} {v : Int} {ds : Dl} (n : NK ds) : Ab (putE ds p v) ≤ Ab ds + (v.natAbs : Int) := by
  unfold putE
  have a := getE_any p ds
  cases h : getE ds p with
  | none =>
    rw [h] at a
    rw [if_neg (by rw [a]; decide), Ab_append]
    show Ab ds + ((v.natAbs : Int) + 0) ≤ _
    omega
  | some o =>
    rw [h] at a
    rw [if_pos (by rw [a]; rfl)]
    obtain ⟨_, c⟩ := put_map (f := one) (v := v) n h
    omega
theorem joined_rest {sg : Int} (h : sg = 1 ∨ sg = -1) (t u s n i : Int) : ((t - i * s) % n + sg * ((u - i * s) % n) + sg * i * s) % n = (t + sg * u - i * s) % n := by
  rcases h with rfl | rfl
  · rw [Int.one_mul, Int.one_mul, Int.one_mul]
    exact sum_rest _ _ _ _ _
  · have e1 : -1 * i * s = -(i * s) := by rw [Int.neg_mul, Int.one_mul, Int.neg_mul]
    rw [e1]
    have := less_rest t u s n i
    rw [show (t - i * s) % n + -1 * ((u - i * s) % n) + -(i * s) = (t - i * s) % n - (u - i * s) % n - i * s by omega, show t + -1 * u - i * s = t - u - i * s by omega]
    exact this
theorem dp_intsC {K : PySem.W.Frag} {H : Hp} : ∀ ns : List Int, DpAll K H (ns.map V.int) (ns.map PyData.int)
  | [] => .nil
  | n :: ns => .cons (.int n) (dp_intsC ns)
theorem DealAt.ex {H H' : Hp} {a : Addr} {ds : Dl} (e : Ex H H') (h : DealAt H a ds) : DealAt H' a ds := e _ _ h
theorem RingsAt.keep {d : Addr} {H H' : Hp} {most : Int} {xs : List V} {rs : List (Int × Int)} (k : Keep d H H') (h : Dice H d) (r : RingsAt H most xs rs) : RingsAt H' most xs rs := paired_imp (fun _ _ z => RingAt.keep k h z) r
section
variable {P : Program} {w : World} {K : PySem.W.Frag} {mg : Str → Option Value} {base : Heap}
def spDeal : Sp := fun vs H Q _ => ∃ d c xs rs, ∃ most : Int, vs = [.ref d, .ref c, .int most] ∧ Dice H d ∧ H c = some (.tup xs) ∧ RingsAt H 60 xs rs ∧ xs.length ≤ 12 ∧ 1 ≤ most ∧ most ≤ 10 ^ 41 ∧
  ∀ r H' ds, DealAt H' r ds → DOk rs ds (36 * (most + 1)) → ds.length ≤ 36 → r ≠ d → Dice H' d → Keep d H H' → Q (.ref r) H'
theorem ok_deal (T : Txt K mg) {f : Addr} {fd : FuncData} (D : DefAt K mg "_law_deal" sLDeal ["_law_dice_here", "_law_chain_here", "_law_most"] f fd) : FnOk P w K mg base CX0 2 f fd ["_law_dice_here", "_law_chain_here", "_law_most"] spDeal := by
  refine D.F.ok scLDeal (fun vs H Q E h => ?_) (fun cdv A outer s₀ H vs Q E hr h => ?_)
  · obtain ⟨d, c, xs, rs, most, rfl, _⟩ := h
    rfl
  · obtain ⟨d, c, xs, rs, most, rfl, hd, hc, hR, hl, m1, m2, k⟩ := h
    obtain ⟨f1, fd1, D1⟩ := T.d_l_roll
    have hu1 := Nat.lt_of_le_of_lt (Nat.add_le_add_left (show 1 ≤ 64 by decide) _) hr.units
    have hlen : xs.length = rs.length := paired_len hR
    refine ⟨_, pss_cons (ps_set (i := 3) scLDeal.nd rfl (.inl rfl) pe_dnewT)
      (pss_cons (ps_for PassesOwn.never rfl (pi_range1 (by rfl) T.z_range (pa_cons (pe_callB call_len_seq (by rfl) T.z_len PySem.boot_len (pa_cons (pv 1) pa_nil)) pa_nil)) (pg_name (i := 4) scLDeal.nd rfl (.inl rfl))
        (pss_one (ps_for PassesOwn.never rfl (pi_range1 (by rfl) T.z_range (pa_cons (pe_call (ok_roll T D1) hr (by rfl) D1.g D1.F.kp D1.b .nil pass0 (pa_cons (pv 0) (pa_cons pe_int pa_nil))) pa_nil)) (pg_name (i := 5) scLDeal.nd rfl (.inl rfl))
          (pss_one (ps_dput hu1 (pv 3) (pe_tup (pa_cons (pv 4) (pa_cons (pe_call (ok_roll T D1) hr (by rfl) D1.g D1.F.kp D1.b .nil pass0 (pa_cons (pv 0) (pa_cons (pe_ix ix_tup (pe_ix ix_tup (pv 1) (pv 4) (fun _ _ => rfl)) pe_int (fun _ _ => rfl)) pa_nil))) pa_nil)))
            (pe_op op_add (pe_op op_sub (pe_call (ok_roll T D1) hr (by rfl) D1.g D1.F.kp D1.b .nil pass0 (pa_cons (pv 0) (pa_cons (pe_op op_add (pe_op op_mul pe_int (pv 2)) pe_int) pa_nil))) (pv 2)) (pe_call (ok_roll T D1) hr (by rfl) D1.g D1.F.kp D1.b .nil pass0 (pa_cons (pv 0) (pa_cons pe_int pa_nil)))) rfl)))))
      (pss_one (ps_ret (pv 3)))), ?_⟩
    intro sd hsd
    have nsd : sd ≠ d := fun z => hd.ne_new hsd z.symm
    have e0 := Ex.new (o := .dT []) hsd
    refine ⟨_, rfl, c, _, rfl, .inr (SqT.of (e0 _ _ hc)), _, rfl, by omega, by omega, ?_⟩
    refine for_range (lo := 0) (n := Int.toNat _) (fun i σ' H' => ∃ (y4 y5 : Option V) (cur : Dl), σ' = [some (.ref d), some (.ref c), some (.int most), some (.ref sd), y4, y5] ∧ DealAt H' sd cur ∧ NK cur ∧ KIn rs cur ∧ Ab cur ≤ 3 * (i : Int) * (most + 1) ∧ cur.length ≤ 3 * i ∧ Dice H' d ∧ Keep d H H')
      ⟨none, none, [], rfl, upd_same, List.nodup_nil, fun e he => absurd he (by simp), by show (0 : Int) ≤ 3 * 0 * (most + 1); omega, Nat.le_refl _, hd.upd nsd.symm, Keep.new hsd⟩ (fun i σ' H' hi hW => ?_) (fun σ' H' hW => ?_)
    · obtain ⟨y4, y5, cur, rfl, w1, w2, w3, w4, w5, w6, w7⟩ := hW
      have hi' : i < rs.length := by omega
      refine ⟨_, rfl, d, 4, rfl, w6, by decide, by decide, fun r0 H1 r00 r01 hd1 k1 => ⟨_, rfl, by omega, by omega, ?_⟩⟩
      have k01 := w7.trans k1
      have s1 : DealAt H1 sd cur := k1 _ _ nsd w1
      refine for_range (lo := 0) (n := Int.toNat _) (fun j σ2 H2 => ∃ (z5 : Option V) (cur2 : Dl), σ2 = [some (.ref d), some (.ref c), some (.int most), some (.ref sd), some (.int (0 + (i : Int))), z5] ∧ DealAt H2 sd cur2 ∧ NK cur2 ∧ KIn rs cur2 ∧ Ab cur2 ≤ Ab cur + (j : Int) * (most + 1) ∧ cur2.length ≤ cur.length + j ∧ Dice H2 d ∧ Keep d H H2)
        ⟨y5, cur, rfl, s1, w2, w3, by show Ab cur ≤ Ab cur + 0 * (most + 1); omega, Nat.le_refl _, hd1, k01⟩ (fun j σ2 H2 hj hW2 => ?_) (fun σ2 H2 hW2 => ?_)
      · obtain ⟨z5, cur2, rfl, v1, v2, v3, v4, v5, v6, v7⟩ := hW2
        refine ⟨_, rfl, _, rfl, _, _, rfl, rfl, .inl (by decide), _, _, rfl, rfl, d, _, rfl, v6, by omega, by omega, fun r1 H3 r10 r11 hd3 k3 => ?_⟩
        refine ⟨_, rfl, _, _, rfl, rfl, _, rfl, d, 2, rfl, hd3, by decide, by decide, fun r2 H4 r20 r21 hd4 k4 => ⟨_, _, rfl, rfl, ?_⟩⟩
        have k04 := (v7.trans k3).trans k4
        have hR4 := hR.keep k04 hd
        obtain ⟨x, hx, t, rfl, ht, n1, n2, n3, n4⟩ := rings_nth hR4 hi'
        refine ⟨_, rfl, _, rfl, _, rfl, _, rfl, _, rfl, c, xs, _, _, rfl, rfl, SqT.of (k04.tup hd hc), at_of (show (0 : Int) + (i : Int) = ((i : Nat) : Int) by omega) hx, t, _, 0, _, rfl, rfl, SqT.of ht, rfl, d, _, rfl, hd4, by omega, by omega, fun r3 H5 r30 r31 hd5 k5 => ?_⟩
        refine ⟨by show 2 ≤ sizeLine; decide, fun p hp => ?_⟩
        have k05 := (k04.trans k5).trans (Keep.new (o := .tup [.int (0 + (i : Int)), .int r3]) hp)
        have s5 : DealAt (upd H5 p (.tup [.int (0 + (i : Int)), .int r3])) sd cur2 := ((k3.trans k4).trans (k5.trans (Keep.new hp))) _ _ nsd v1
        have g5 : (upd H5 p (.tup [.int (0 + (i : Int)), .int r3])) p = some (.tup ((dk (0 + (i : Int), r3)).map kV)) := upd_same
        have hd6 : Dice (upd H5 p (.tup [.int (0 + (i : Int)), .int r3])) d := hd5.upd (hd5.ne_new hp)
        generalize upd H5 p (.tup [.int (0 + (i : Int)), .int r3]) = H6 at k05 s5 g5 hd6 ⊢
        have hl6 : (cur2.map ent).length < sizeLine := by
          rw [List.length_map]
          exact small1000 (by omega)
        refine ⟨sd, _, rfl, DPut.t (k := dk (0 + (i : Int), r3)) s5 g5 hl6, ?_⟩
        refine ⟨_, putE cur2 (0 + (i : Int), r3) (r1 - most + r2), rfl, ?_, put_nk v2, ?_, ?_, ?_, hd6.upd nsd.symm, k05.mut hsd⟩
        · show upd H6 sd _ sd = _
          rw [upd_same]
          dsimp only
          rw [putK_ent]
        · intro e he
          rcases put_keys e he with h1 | ⟨d2, h1, h2⟩
          · rw [h1]
            refine ⟨⟨by show (0 : Int) ≤ 0 + (i : Int); omega, by show (0 : Int) + (i : Int) < _; omega⟩, r30, ?_⟩
            show r3 < (K1N.nAt rs (0 + (i : Int)).toNat : Int)
            rw [show ((0 : Int) + (i : Int)).toNat = i by omega]
            exact r31
          · rw [← h2]
            exact v3 d2 h1
        · have a1 := put_abs (p := (0 + (i : Int), r3)) (v := r1 - most + r2) v2
          have a2 : ((j + 1 : Nat) : Int) * (most + 1) = (j : Int) * (most + 1) + (most + 1) := by
            rw [Int.natCast_add, Int.add_mul]
            omega
          rw [a2]
          omega
        · have := put_len cur2 (0 + (i : Int), r3) (r1 - most + r2)
          omega
      · obtain ⟨z5, cur2, rfl, v1, v2, v3, v4, v5, v6, v7⟩ := hW2
        refine ⟨_, _, cur2, rfl, v1, v2, v3, ?_, ?_, v6, v7⟩
        · have a1 : ((Int.toNat r0 : Nat) : Int) * (most + 1) ≤ 3 * (most + 1) := Int.mul_le_mul_of_nonneg_right (by omega) (by omega)
          have a2 : 3 * ((i + 1 : Nat) : Int) * (most + 1) = 3 * (i : Int) * (most + 1) + 3 * (most + 1) := by
            rw [show (3 : Int) * ((i + 1 : Nat) : Int) = 3 * (i : Int) + 3 by omega, Int.add_mul]
          rw [a2]
          omega
        · omega
    · obtain ⟨y4, y5, cur, rfl, w1, w2, w3, w4, w5, w6, w7⟩ := hW
      have a1 : 3 * ((Int.toNat (xs.length : Int) : Nat) : Int) * (most + 1) ≤ 36 * (most + 1) := Int.mul_le_mul_of_nonneg_right (by omega) (by omega)
      exact ⟨_, rfl, k sd H' cur w1 ⟨w2, w3, by omega, by omega⟩ (by omega) nsd w6 w7⟩
def spJoined : Sp := fun vs H Q _ => ∃ c v1 v2 xs rs d1 d2 t u, ∃ sg : Int, vs = [.ref c, v1, v2, .int sg] ∧ (sg = 1 ∨ sg = -1) ∧ H c = some (.tup xs) ∧ RingsAt H 60 xs rs ∧ xs.length ≤ 12 ∧ CL H v1 rs d1 t ∧ CL H v2 rs d2 u ∧
  ∀ r H', Ex H H' → CL H' (.ref r) rs (d1 + sg * d2) (fun i => t i + sg * u i) → Q (.ref r) H'
end
end K1

set_option exponentiation.threshold 400
namespace K1
open PySem PySem.Spec PyProof.Rows L2 Evl LX ZW ZM DM DR
def clD (deg : Int) (ps : List Int) : PyData := .tuple [.int deg, .tuple (ps.map PyData.int)]
theorem dp_class {K : PySem.W.Frag} {H : Hp} {v : V} {deg : Int} {ps : List Int} (h : ClassAt H v deg ps) : Dp K H v (clD deg ps) := by
  obtain ⟨t, a, rfl, h1, h2⟩ := h
  exact .tup (SqT.of h1) (.cons (.int deg) (.cons (.tup (SqT.of h2) (dp_intsC ps)) .nil))
theorem can_intsC : ∀ l : List Int, PyData.canLayAll0 (l.map PyData.int) = true
  | [] => rfl
  | b :: r => by simp [PyData.canLayAll0, PyData.canLay0, can_intsC r]
theorem depth_intsC : ∀ l : List Int, PyData.depthAll (l.map PyData.int) ≤ 60
  | [] => by decide
  | b :: r => by
    have := depth_intsC r
    simp only [List.map_cons, PyData.depthAll, PyData.depth]
    omega
theorem can_class (deg : Int) (ps : List Int) : (clD deg ps).canLay0 = true := by simp [clD, PyData.canLay0, PyData.canLayAll0, can_intsC ps]
theorem shaped_class (deg : Int) (ps : List Int) : SeqAt.shaped (clD deg ps) = true := by
  unfold SeqAt.shaped
  have h2 : (clD deg ps).depth ≤ 64 := by
    have := depth_intsC ps
    simp only [clD, PyData.depth, PyData.depthAll]
    omega
  rw [can_class, decide_eq_true h2]
  rfl
theorem eqv_class (deg : Int) (ps : List Int) : PyData.eqv (clD deg ps) (clD deg ps) = true := SeqAt.eqv_refl _ (can_class deg ps)
theorem ne_class {K : PySem.W.Frag} {H : Hp} {v1 v2 : V} {d1 d2 : Int} {ps qs : List Int} {Q : VK} (h1 : ClassAt H v1 d1 ps) (h2 : ClassAt H v2 d2 qs) (hd : d1 = d2) (hp : ps = qs) (q : Q (.bl false) H) : rNeD K v1 v2 H Q := by
  subst hd hp
  refine ⟨_, _, dp_class h1, dp_class h2, shaped_class _ _, shaped_class _ _, ?_⟩
  rw [eqv_class]
  exact q
theorem eq_class {K : PySem.W.Frag} {H : Hp} {v1 v2 : V} {d1 d2 : Int} {ps qs : List Int} {Q : VK} (h1 : ClassAt H v1 d1 ps) (h2 : ClassAt H v2 d2 qs) (hd : d1 = d2) (hp : ps = qs) (q : Q (.bl true) H) : rEqD K v1 v2 H Q := by
  subst hd hp
  refine ⟨_, _, dp_class h1, dp_class h2, shaped_class _ _, shaped_class _ _, ?_⟩
  rw [eqv_class]
  exact q
theorem ClassAt.updL {H : Hp} {v : V} {deg : Int} {ps : List Int} {D : Addr} {ys zs : List V} (hD : H D = some (.lst ys)) (h : ClassAt H v deg ps) : ClassAt (upd H D (.lst zs)) v deg ps := by
  obtain ⟨t, a, rfl, h1, h2⟩ := h
  exact ⟨t, a, rfl, by rw [upd_ne (ne_of h1 hD (by intro z; cases z))]; exact h1, by show upd H D _ a = _; rw [upd_ne (ne_of h2 hD (by intro z; cases z))]; exact h2⟩
theorem nl_one (rs : List (Int × Int)) : Nl rs one := fun _ _ _ => rfl
theorem nl_tau (rs : List (Int × Int)) (i : Nat) : Nl rs (tau rs i) := fun _ hp _ => tau_wname hp i
section
variable {P : Program} {w : World} {K : PySem.W.Frag} {mg : Str → Option Value} {base : Heap}
def spSumsRight : Sp := fun vs H Q _ => ∃ c a b l xs rs ds es fs B, vs = [.ref c, .ref a, .ref b, .ref l] ∧ H c = some (.tup xs) ∧ RingsAt H 60 xs rs ∧ (1 ≤ xs.length ∧ xs.length ≤ 12) ∧ DealAt H a ds ∧ DealAt H b es ∧ DealAt H l fs ∧ DOk rs ds B ∧ DOk rs es B ∧ DOk rs fs B ∧ B ≤ 10 ^ 45 ∧ ds.length ≤ 36 ∧ es.length ≤ 36 ∧ ∀ H', Ex H H' → Q (.bl true) H'
end
end K1

set_option exponentiation.threshold 400
namespace K1
open PySem PySem.Spec PyProof.Rows L2 Evl LX ZW ZM DM DR
theorem ClassAt.conv {H : Hp} {v : V} {d d' : Int} {ps ps' : List Int} (h : ClassAt H v d ps) (hd : d = d') (hp : ps = ps') : ClassAt H v d' ps' := hd ▸ hp ▸ h
theorem Keep.deal {d a : Addr} {H H' : Hp} {ds : Dl} (k : Keep d H H') (hd : Dice H d) (h : DealAt H a ds) : DealAt H' a ds := by
  obtain ⟨_, _, _, z⟩ := hd
  exact k _ _ (ne_of h z (by intro y; cases y)) h
theorem Keep.cls {d : Addr} {H H' : Hp} {v : V} {deg : Int} {ps : List Int} (k : Keep d H H') (hd : Dice H d) (h : ClassAt H v deg ps) : ClassAt H' v deg ps := by
  obtain ⟨t, a, rfl, h1, h2⟩ := h
  exact ⟨t, a, rfl, k.tup hd h1, k.tup hd h2⟩
theorem tau_left {rs : List (Int × Int)} (i : Nat) : tau rs i (0, K1N.sAt rs 0) = K1N.sAt rs i := by
  unfold tau
  by_cases z : (0 : Int) = (i : Int)
  · rw [if_pos z, show i = 0 by omega]
  · rw [if_neg z, if_pos (show (0 : Int) < (i : Int) by omega)]
theorem tau_right {rs : List (Int × Int)} {i : Nat} {n : Nat} (hn : n = rs.length) (h : i < rs.length) : tau rs i ((n : Int) - 1, 0) = 0 := by
  unfold tau
  by_cases z : (n : Int) - 1 = (i : Int)
  · rw [if_pos z]
  · rw [if_neg z, if_neg (show ¬ (n : Int) - 1 < (i : Int) by omega)]
section
variable {P : Program} {w : World} {K : PySem.W.Frag} {mg : Str → Option Value} {base : Heap}
def spEndsRight : Sp := fun vs H Q _ => ∃ d c a xs rs ds B, vs = [.ref d, .ref c, .ref a] ∧ Dice H d ∧ H c = some (.tup xs) ∧ RingsAt H 60 xs rs ∧ (1 ≤ xs.length ∧ xs.length ≤ 12) ∧ DealAt H a ds ∧ DOk rs ds B ∧ B ≤ 10 ^ 45 ∧ ds.length ≤ 36 ∧ ∀ H', Dice H' d → Keep d H H' → Q (.bl true) H'
end
end K1

/-! own rules: dict(d), dict(pairs), d == e of dicts whose keys are tuples -/
namespace DR
open PySem PySem.Spec PyProof.Rows L2
section
variable {prog : Program} {w : World} {K : Type} [DecidableEq K] {knd : HeapKind prog w K} {A : Around} {E : Value → Shared → Prop} {s : Shared}
/-- dict(d): keys that are tuples, told apart by their hashes -/
theorem call_dictH {o : Addr} {more : List (K × Addr × Value)} {Q : Value → Shared → Prop} (hu : knd.room A.in1.in1) (hoS : (o == sysModules) = false) (ho : s.heap.DictOfH knd o more) (hsz : more.length ≤ sizeLine)
    (hty : ∀ x ∈ more, s.TypeIs (.ref x.2.1) "tuple") (hap : (more.map fun x => knd.hash x.1).Nodup)
    (hst : ∀ h' : Heap, (∀ b u, s.heap.get? b = some u → h'.get? b = some u) → ∀ x ∈ more, knd.is h' x.1 x.2.1)
    (h : ∀ h', h'.DictOfH knd s.heap.objs.size more → (∀ b u, s.heap.get? b = some u → h'.get? b = some u) → Q (.ref s.heap.objs.size) { s with heap := h' }) :
    wpAny (model prog w) A (call (.type "dict") [.ref o]) Q E s := by
  refine callType_codes (Q₁ := fun obj s₁ => obj = .ref s.heap.objs.size ∧ s₁ = { s with heap := s.heap.push { cls := .type "dict", data := .dict #[] } }) F.kt_called_dict (F.kt_typeCall_dict_1 _) F.entry_dict_init (kt_code_dict_new _ ⟨rfl, rfl⟩) ?_
  rintro obj s₁ ⟨rfl, rfl⟩
  have hnew : (s.heap.push { cls := .type "dict", data := .dict #[] }).DictOfH knd s.heap.objs.size [] := Heap.DictOfH.new s.heap
  have kp : ∀ b u, s.heap.get? b = some u → (s.heap.push { cls := .type "dict", data := .dict #[] }).get? b = some u := fun b u e => Heap.get?_push_of_some _ e
  have ho' : (s.heap.push { cls := .type "dict", data := .dict #[] }).DictOfH knd o more := ho.at' (fun u e => kp o u e) (hst _ kp)
  have hn := ho.nodup
  have hdo : s.heap.objs.size ≠ o := fun e => absurd ho.lt_size (by rw [e]; exact Nat.lt_irrefl _)
  refine ⟨hnew.typeIs, F.args_dict_init_2 _ _, ?_⟩
  unfold Builtin.«dict.__init__»
  refine wpAny_bind ?_
  unfold Builtin.Dict.selfAndRest
  refine wpAny_bind (wpAny_notOrdered_dict hnew.typeIs ?_)
  show wpAny _ _ (pure (s.heap.objs.size, [Value.ref o])) _ _ _
  refine wpAny_pure ?_
  show wpAny _ _ (Builtin.Dict.updateFrom "dict.__init__" s.heap.objs.size (.ref o) [] .none) _ _ _
  refine updateFrom_dictH (A := A.in1) .none hu hdo hoS hnew ho' (.inr ⟨fun x hx => ?_, hap⟩) (by simpa using hsz) fun h' hd' _ hs' => ?_
  · obtain ⟨u, hu', hc⟩ := hty x hx
    exact ⟨u, kp _ _ hu', hc⟩
  · rw [storedAllH_nil_of_nodup more hn] at hd'
    exact ⟨rfl, h h' hd' fun b u e => (hs'.2 b (Nat.ne_of_lt (Heap.lt_size e))).trans (kp b u e)⟩
/-- the entries of one dict, all ints, beside the other's -/
def sameB (ka kb : List (K × Addr × Value)) : Bool := ka.all fun x => match atKey kb x.1 with
  | some p => (match x.2.2, p.2 with
    | .int i _, .int j _ => decide (i = j)
    | _, _ => false)
  | none => false
theorem sameB_cons (x : K × Addr × Value) (ka kb : List (K × Addr × Value)) : sameB (x :: ka) kb = (sameB [x] kb && sameB ka kb) := by
  unfold sameB
  rw [List.all_cons, List.all_cons, List.all_nil, Bool.and_true]
theorem sameB_nil (kb : List (K × Addr × Value)) : sameB [] kb = true := rfl
theorem samePairsH {nm : String} {a b : Addr} {ka kb : List (K × Addr × Value)} {Q : Bool → Shared → Prop} (hu : knd.room A) (ha : (a == sysModules) = false) (hb : (b == sysModules) = false)
    (da : s.heap.DictOfH knd a ka) (db : s.heap.DictOfH knd b kb) (ia : ∀ x ∈ ka, ∃ i t, x.2.2 = .int i t) (ib : ∀ x ∈ kb, ∃ i t, x.2.2 = .int i t) (h : Q (decide (ka.length = kb.length) && sameB ka kb) s) :
    wpAny (model prog w) A (Builtin.Dict.samePairs nm a b) Q E s := by
  obtain ⟨oa, es, ep, hoa, _, hda, hea, hisa, hna⟩ := da
  obtain ⟨ob, es', ep', hob, _, hdb, heb, hisb, hnb⟩ := db
  have hla : es.size = ka.length := size_of_entries hea
  have hlb : es'.size = kb.length := size_of_entries heb
  unfold Builtin.Dict.samePairs Builtin.Dict.showsAll
  rw [if_neg (show ¬ (a == sysModules) = true by rw [ha]; exact Bool.false_ne_true), if_neg (show ¬ (b == sysModules) = true by rw [hb]; exact Bool.false_ne_true)]
  refine wpAny_bind (wpAny_pure (wpAny_bind (wpAny_pure ?_)))
  refine wpAny_bind (wpAny_dictEntries hoa hda ?_)
  dsimp only
  refine wpAny_bind (wpAny_dictEntries hob hdb ?_)
  by_cases hsz : es.size = es'.size
  case neg =>
    rw [if_pos (by simpa using hsz)]
    rw [decide_eq_false (show ¬ ka.length = kb.length by omega), Bool.false_and] at h
    exact wpAny_bind (wpAny_rule (wpAny_pure h))
  case pos =>
    rw [decide_eq_true (show ka.length = kb.length by omega), Bool.true_and] at h
    rw [if_neg (by rw [hsz]; simp)]
    refine wpAny_bind (wpAny_dictEpoch hoa hda ?_)
    refine wpAny_bind ?_
    rw [Std.Legacy.Range.forIn_eq_forIn_range']
    simp only [Std.Legacy.Range.size, Nat.sub_zero, Nat.add_sub_cancel, Nat.div_one]
    refine wpAny_forIn_list _
      (fun rest q s' => s' = s ∧ q = (none, ()) ∧ ∃ i, rest = List.range' i (es.size - i) ∧ i ≤ es.size ∧ sameB ka kb = sameB (ka.drop i) kb)
      _ ?_ ?_ _ _ ⟨rfl, rfl, 0, by simp, Nat.zero_le _, rfl⟩
    · rintro x rest q s' ⟨rfl, rfl, i, hr, hi, hpre⟩
      have hlt : i < es.size := by
        rcases Nat.lt_or_ge i es.size with h | h
        · exact h
        · rw [Nat.sub_eq_zero_of_le h] at hr; simp at hr
      obtain ⟨rfl, hrest⟩ : x = i ∧ rest = List.range' (i + 1) (es.size - (i + 1)) := by
        have e : es.size - i = (es.size - (i + 1)) + 1 := by omega
        rw [e, List.range'_succ] at hr
        injection hr with h1 h2
        exact ⟨h1, h2⟩
      refine wpAny_bind (wpAny_dictEntries hoa hda ?_)
      have hlt' : x < ka.length := by omega
      obtain ⟨⟨k, c, v⟩, hkv⟩ : ∃ kv, ka[x]? = some kv := ⟨ka[x], List.getElem?_eq_getElem _⟩
      have hdrop : ka.drop x = (k, c, v) :: ka.drop (x + 1) := by
        rw [List.drop_eq_getElem_cons hlt']
        rw [List.getElem?_eq_getElem hlt'] at hkv
        rw [Option.some.inj hkv]
      have hmem := List.mem_of_getElem? hkv
      obtain ⟨i1, t1, hv1⟩ := ia _ hmem
      have hv1' : v = .int i1 t1 := hv1
      rw [hdrop, sameB_cons] at hpre
      rw [entry_at hea x, hkv]
      show wpAny _ _ (holding [.ref c, v] _ >>= _) _ _ _
      refine wpAny_bind (wpAny_holding (wpAny_bind (wpAny_dictFind_heap hu (hisa _ hmem) hob hdb heb hisb hnb (fun hno => ?_) (fun j p hj => ?_))))
      · have hn : sameB [(k, c, v)] kb = false := by
          unfold sameB
          rw [List.all_cons, atKey_none_of_get hno]
          rfl
        rw [hn, Bool.false_and] at hpre
        rw [hpre] at h
        refine wpAny_pure ?_
        show wpAny _ _ (if (!false) = true then _ else _) _ _ _
        rw [if_pos (by decide)]
        exact wpAny_pure (wpAny_pure h)
      · obtain ⟨i2, t2, hv2⟩ := ib _ (List.mem_of_getElem? hj)
        obtain ⟨pa, pv⟩ := p
        have hv2' : pv = .int i2 t2 := hv2
        refine wpAny_bind (wpAny_dictEntries hob hdb ?_)
        rw [entry_at heb j, hj]
        have hs1 : sameB [(k, c, v)] kb = (i1 == i2) := by
          unfold sameB
          rw [List.all_cons, List.all_nil, Bool.and_true, atKey_of_get hnb hj]
          subst hv1' hv2'
          rfl
        subst hv1' hv2'
        refine wpAny_holding (SeqAt.EqAt.int_int i1 t1 i2 t2 prog w _ _ ?_)
        rw [hs1] at hpre
        generalize (i1 == i2) = bb at hpre ⊢
        cases bb with
        | false =>
          rw [Bool.false_and] at hpre
          rw [hpre] at h
          show wpAny _ _ (if (!false) = true then _ else _) _ _ _
          rw [if_pos (by decide)]
          exact wpAny_pure (wpAny_pure h)
        | true =>
          rw [Bool.true_and] at hpre
          show wpAny _ _ (if (!true) = true then _ else _) _ _ _
          rw [if_neg (by decide)]
          refine wpAny_bind (wpAny_dictEpoch hoa hda ?_)
          rw [if_neg (by simp)]
          exact wpAny_pure ⟨rfl, rfl, x + 1, hrest, hlt, hpre⟩
    · rintro q s' ⟨rfl, rfl, i, hr, hi, hpre⟩
      have hin : i = es.size := by
        rcases Nat.lt_or_ge i es.size with h | h
        · have e : es.size - i = (es.size - (i + 1)) + 1 := by omega
          rw [e, List.range'_succ] at hr; exact nomatch hr
        · exact Nat.le_antisymm hi h
      refine wpAny_pure ?_
      rw [hin, hla, List.drop_length, sameB_nil] at hpre
      rw [hpre] at h
      exact h
end
end DR

namespace DR
open PySem PySem.Spec PyProof.Rows L2
/-! ### pairs of small ints have unlike hashes -/
def hh (i j : Int) : Int := reduceHash (Builtin.Tuple.tupleHashOf [hashInt i, hashInt j])
theorem hh_is (w : World) (P : Program) (i j : Int) : (tupleKind (mixKind P w)).hash [.inl i, .inl j] = hh i j := rfl
def rr (n : Nat) : Nat := (hh ((n / 60 : Nat) : Int) ((n % 60 : Nat) : Int) % 4187).toNat
def chk : List Nat → Nat → Bool
  | [], _ => true
  | x :: r, acc => !(acc.testBit x) && chk r (acc ||| (1 <<< x))
theorem chk_mem : ∀ (l : List Nat) (acc : Nat), chk l acc = true → l.Nodup ∧ ∀ x ∈ l, acc.testBit x = false
  | [], _, _ => ⟨List.nodup_nil, fun x h => absurd h (by simp)⟩
  | x :: r, acc, h => by
    unfold chk at h
    obtain ⟨h1, h2⟩ := Bool.and_eq_true_iff.mp h
    have h1' : acc.testBit x = false := by
      cases hb : acc.testBit x
      · rfl
      · rw [hb] at h1
        cases h1
    obtain ⟨n, hm⟩ := chk_mem r _ h2
    have bit : ∀ y ∈ r, acc.testBit y = false ∧ y ≠ x := fun y hy => by
      have t := hm y hy
      rw [Nat.testBit_or, Bool.or_eq_false_iff] at t
      refine ⟨t.1, fun e => ?_⟩
      have t2 := t.2
      rw [e, Nat.testBit_shiftLeft] at t2
      simp at t2
    refine ⟨List.nodup_cons.mpr ⟨fun hx => (bit x hx).2 rfl, n⟩, fun y hy => ?_⟩
    rcases List.mem_cons.mp hy with e | hy
    · rw [e]
      exact h1'
    · exact (bit y hy).1
theorem rr_chk : chk ((List.range 780).map rr) 0 = true := by decide +kernel
theorem rr_inj {a b : Nat} (ha : a < 780) (hb : b < 780) (h : rr a = rr b) : a = b := by
  have n := (chk_mem _ _ rr_chk).1
  have p := List.pairwise_iff_getElem.mp n
  rcases Nat.lt_trichotomy a b with l | e | l
  · exact absurd h (by
      have := p a b (by rw [List.length_map, List.length_range]; exact ha) (by rw [List.length_map, List.length_range]; exact hb) l
      simpa using this)
  · exact e
  · exact absurd h.symm (by
      have := p b a (by rw [List.length_map, List.length_range]; exact hb) (by rw [List.length_map, List.length_range]; exact ha) l
      simpa using this)
theorem hh_inj {i j i' j' : Nat} (h1 : i < 13) (h2 : j < 60) (h3 : i' < 13) (h4 : j' < 60) (h : hh i j = hh i' j') : i = i' ∧ j = j' := by
  have e : rr (60 * i + j) = rr (60 * i' + j') := by
    unfold rr
    rw [show (60 * i + j) / 60 = i by omega, show (60 * i + j) % 60 = j by omega, show (60 * i' + j') / 60 = i' by omega, show (60 * i' + j') % 60 = j' by omega, h]
  have := rr_inj (by omega) (by omega) e
  omega
/-- keys that are places -/
def SmallK (kvs : List (List Key × V)) : Prop := ∀ p ∈ kvs, ∃ i j : Nat, p.1 = [.inl (i : Int), .inl (j : Int)] ∧ i < 13 ∧ j < 60
theorem kt_keys {H : Hp} : ∀ {kvs : List (List Key × V)} {xs : List (List Key × Addr × Value)}, KT H kvs xs → xs.map (·.1) = kvs.map (·.1)
  | _, _, .nil => rfl
  | _ :: _, _ :: _, .cons r t => by rw [List.map_cons, List.map_cons, kt_keys t, r.1]
theorem kt_mem {H : Hp} : ∀ {kvs : List (List Key × V)} {xs : List (List Key × Addr × Value)}, KT H kvs xs → ∀ x ∈ xs, ∃ p ∈ kvs, p.1 = x.1 ∧ H x.2.1 = some (.tup (p.1.map kV)) ∧ RelV p.2 x.2.2
  | _, _, .nil, x, hx => absurd hx (by simp)
  | p :: _, y :: _, .cons r t, x, hx => by
    rcases List.mem_cons.mp hx with e | hx
    · subst e
      exact ⟨p, List.mem_cons_self, r⟩
    · obtain ⟨q, h1, h2⟩ := kt_mem t x hx
      exact ⟨q, List.mem_cons_of_mem _ h1, h2⟩
theorem hash_nodup {P : Program} {w : World} {H : Hp} {kvs : List (List Key × V)} {xs : List (List Key × Addr × Value)} (r : KT H kvs xs) (sm : SmallK kvs) (n : (xs.map (·.1)).Nodup) : (xs.map fun x => (tupleKind (mixKind P w)).hash x.1).Nodup := by
  have n' : xs.Pairwise fun a b => a.1 ≠ b.1 := List.pairwise_map.mp n
  refine List.pairwise_map.mpr (List.Pairwise.imp_of_mem (fun {a b} ha hb hne => ?_) n')
  obtain ⟨p, hp, ep, _⟩ := kt_mem r a ha
  obtain ⟨q, hq, eq, _⟩ := kt_mem r b hb
  obtain ⟨i, j, e1, i1, j1⟩ := sm p hp
  obtain ⟨i', j', e2, i2, j2⟩ := sm q hq
  intro e
  rw [← ep, ← eq, e1, e2, hh_is, hh_is] at e
  obtain ⟨z1, z2⟩ := hh_inj i1 j1 i2 j2 e
  apply hne
  rw [← ep, ← eq, e1, e2, z1, z2]
theorem is_keeps {P : Program} {w : World} {h h' : Heap} {k : List Key} {a : Addr} (x : (tupleKind (mixKind P w)).is h k a) (e : ∀ b u, h.get? b = some u → h'.get? b = some u) : (tupleKind (mixKind P w)).is h' k a := by
  obtain ⟨o, items, n, ho, r⟩ := (show IsTupleKey (mixKind P w) h k a from x)
  exact ⟨o, items, n, e _ _ ho, r⟩
section
variable {X : Cx}
/-- dict(d), a new dict with d's entries -/
def rDictCopyT : List V → Hp → VK → Prop := fun vs H Q => ∃ (d : Addr) (kvs : List (List Key × V)), vs = [V.ref d] ∧ Rd H d (.dT kvs) ∧ SmallK kvs ∧ ∀ p, H p = none → Q (.ref p) (upd H p (.dT kvs))
theorem kt_new {H : Hp} {p : Addr} {o : HO} {kvs : List (List Key × V)} {xs : List (List Key × Addr × Value)} (r : KT H kvs xs) (hn : H p = none) : KT (upd H p o) kvs xs := r.keeps fun c ys ec => by
  rw [upd_ne (ne_of_none ec hn)]
  exact ec
theorem cr_dictCopyT (hu : X.A.units + 64 < cLine) : CallR X (.type "dict") rDictCopyT := by
  intro pins s σ H vs us Q I r h
  obtain ⟨d, kvs, rfl, hd, sm, q⟩ := h
  obtain ⟨u, rfl, rx⟩ := r.one
  cases rx
  obtain ⟨z, lo, xs, rel, dd⟩ := dt_rd I.hok hd
  have l2 : kvs.length = xs.length := Paired.length rel
  have his := (id dd : s.heap.DictOfH (tupleKind (mixKind X.prog X.w)) d xs)
  obtain ⟨_, _, _, _, _, _, _, his, _⟩ := his
  have fr := I.hok.fresh (Nat.le_refl s.heap.objs.size)
  refine call_dictH (knd := tupleKind (mixKind X.prog X.w)) (show X.A.in1.in1.units < cLine by show X.A.units + 1 + 1 < cLine; omega) lo dd (by omega) (fun x hx => (show IsTupleKey (mixKind X.prog X.w) s.heap x.1 x.2.1 from his x hx).typeIs) (hash_nodup rel sm dd.nodup) (fun h' e x hx => is_keeps (his x hx) e) fun h' d' k => ?_
  obtain ⟨o', es', ep', ho', hc', hdt', he', _, hn'⟩ := d'
  refine ⟨.ref s.heap.objs.size, upd H s.heap.objs.size (.dT kvs), I.laid (t' := s.toks) k (Nat.le_refl _) ?_, rfl, q _ fr⟩
  exact ⟨z, beq_eq_false_iff_ne.mpr (Nat.ne_of_gt I.big), xs, kt_new rel fr, o', es', ep', ho', hc', hdt', he', hn'⟩
/-- what a dict's entries, all ints, say beside another's -/
def sameT (ks ls : List (List Key × V)) : Bool := decide (ks.length = ls.length) && ks.all fun p => decide (valV ls p.1 = some p.2)
def IntsT (ks : List (List Key × V)) : Prop := ∀ p ∈ ks, ∃ i : Int, p.2 = .int i
theorem sameB_is {H : Hp} {ks ls : List (List Key × V)} {xs ys : List (List Key × Addr × Value)} (ra : KT H ks xs) (rb : KT H ls ys) (ia : IntsT ks) (ib : IntsT ls) : sameB xs ys = ks.all fun p => decide (valV ls p.1 = some p.2) := by
  induction ra with
  | nil => rfl
  | @cons p x ks xs h t ih =>
    rw [sameB_cons, List.all_cons, ih fun q hq => ia q (List.mem_cons_of_mem _ hq)]
    congr 1
    obtain ⟨h1, h2, h3⟩ := h
    obtain ⟨i, hi⟩ := ia p List.mem_cons_self
    rw [hi] at h3
    obtain ⟨t1, h3⟩ := h3
    have rel := rb.val p.1
    unfold sameB
    rw [List.all_cons, List.all_nil, Bool.and_true, ← h1]
    cases hv : valV ls p.1 with
    | none =>
      rw [hv] at rel
      have hn := Option.map_eq_none_iff.mp (RelO.none_of rel)
      rw [hn]
      exact (decide_eq_false (fun z => nomatch z)).symm
    | some v =>
      rw [hv] at rel
      have hm : ∃ q ∈ ls, q.2 = v := by
        unfold valV at hv
        obtain ⟨q, hq, e⟩ := Option.map_eq_some_iff.mp hv
        exact ⟨q, List.mem_of_find?_eq_some hq, e⟩
      obtain ⟨q, hq, rfl⟩ := hm
      obtain ⟨j, hj⟩ := ib q hq
      rw [hj] at rel ⊢
      cases ha : atKey ys p.1 with
      | none =>
        rw [ha] at rel
        exact rel.elim
      | some y =>
        rw [ha] at rel
        obtain ⟨t2, e2⟩ := (show RelV (.int j) y.2 from rel)
        rw [hi]
        simp only [h3, e2]
        refine decide_eq_decide.mpr ⟨fun e => by rw [e], fun e => (V.int.inj (Option.some.inj e)).symm⟩
def rEqDT : R2 := fun x y H Q => ∃ a b ks ls, x = .ref a ∧ y = .ref b ∧ H a = some (.dT ks) ∧ H b = some (.dT ls) ∧ IntsT ks ∧ IntsT ls ∧ Q (.bl (sameT ks ls)) H
def rNeDT : R2 := fun x y H Q => ∃ a b ks ls, x = .ref a ∧ y = .ref b ∧ H a = some (.dT ks) ∧ H b = some (.dT ls) ∧ IntsT ks ∧ IntsT ls ∧ Q (.bl (!sameT ks ls)) H
theorem ints_kt {H : Hp} {ks : List (List Key × V)} {xs : List (List Key × Addr × Value)} (r : KT H ks xs) (i : IntsT ks) : ∀ x ∈ xs, ∃ i t, x.2.2 = Value.int i t := fun x hx => by
  obtain ⟨p, hp, _, _, h⟩ := kt_mem r x hx
  obtain ⟨j, hj⟩ := i p hp
  rw [hj] at h
  obtain ⟨t, e⟩ := h
  exact ⟨j, t, e⟩
theorem op_eqDT (hu : X.A.units + 64 < cLine) : OpR X (compareOp .Eq) rEqDT := by
  intro pins s σ H x y v u Q I rx ry h
  obtain ⟨a, b, ks, ls, rfl, rfl, ea, eb, ia, ib, q⟩ := h
  obtain rfl : v = Value.ref a := rx
  obtain rfl : u = Value.ref b := ry
  obtain ⟨_, la, xs, ra, da⟩ := dt_of I.hok ea
  obtain ⟨_, lb, ys, rb, db⟩ := dt_of I.hok eb
  have ta : s.TypeIs (.ref a) "dict" := by
    obtain ⟨o, _, _, ho, hc, _⟩ := da
    exact ⟨o, ho, hc.1⟩
  have tb : s.TypeIs (.ref b) "dict" := by
    obtain ⟨o, _, _, ho, hc, _⟩ := db
    exact ⟨o, ho, hc.1⟩
  refine wpAny_richCompare_same_room (op := .Eq) ta tb PySem.F.slot_dict_eq (wpAny_call_entry PySem.F.slot_dict_eq ta PySem.F.entry_dict_eq ?_ (PySem.F.args_dict_eq_2 _ _)) (by omega)
  show wpAny _ _ (Builtin.Dict.dictSlotArgs "__eq__" ⟨[.ref a, .ref b], []⟩ >>= _) _ _ s
  refine wpAny_bind ?_
  unfold Builtin.Dict.dictSlotArgs
  refine wpAny_bind (wpAny_notOrdered_dict ta ?_)
  show wpAny _ _ (pure (Value.ref a, Value.ref b)) _ _ s
  refine wpAny_pure ?_
  refine wpAny_bind (wpAny_isInstance (T := "dict") tb PySem.F.sub_dict_dict ?_)
  simp only [Bool.not_true, Bool.false_eq_true, if_false]
  refine wpAny_bind (wpAny_pure (wpAny_bind (wpAny_pure ?_)))
  refine wpAny_bind (samePairsH (knd := tupleKind (mixKind X.prog X.w)) (show X.A.in1.units < cLine by show X.A.units + 1 < cLine; omega) la lb da db (ints_kt ra ia) (ints_kt rb ib) ?_)
  refine wpAny_pure ⟨_, rfl, ?_, ?_⟩
  · exact fun x => nomatch x
  · refine fin_bl I q ?_
    unfold sameT
    rw [sameB_is ra rb ia ib, Paired.length ra, Paired.length rb]
    simp
theorem op_neDT (hu : X.A.units + 64 < cLine) : OpR X (compareOp .NotEq) rNeDT := by
  intro pins s σ H x y v u Q I rx ry h
  obtain ⟨a, b, ks, ls, rfl, rfl, ea, eb, ia, ib, q⟩ := h
  obtain rfl : v = Value.ref a := rx
  obtain rfl : u = Value.ref b := ry
  obtain ⟨_, la, xs, ra, da⟩ := dt_of I.hok ea
  obtain ⟨_, lb, ys, rb, db⟩ := dt_of I.hok eb
  have ta : s.TypeIs (.ref a) "dict" := by
    obtain ⟨o, _, _, ho, hc, _⟩ := da
    exact ⟨o, ho, hc.1⟩
  have tb : s.TypeIs (.ref b) "dict" := by
    obtain ⟨o, _, _, ho, hc, _⟩ := db
    exact ⟨o, ho, hc.1⟩
  refine wpAny_richCompare_same_room (op := .NotEq) ta tb PySem.F.slot_dict_ne (wpAny_call_entry PySem.F.slot_dict_ne ta PySem.F.entry_dict_ne ?_ (PySem.F.args_dict_ne_2 _ _)) (by omega)
  show wpAny _ _ (Builtin.Dict.dictSlotArgs "__ne__" ⟨[.ref a, .ref b], []⟩ >>= _) _ _ s
  refine wpAny_bind ?_
  unfold Builtin.Dict.dictSlotArgs
  refine wpAny_bind (wpAny_notOrdered_dict ta ?_)
  show wpAny _ _ (pure (Value.ref a, Value.ref b)) _ _ s
  refine wpAny_pure ?_
  refine wpAny_bind (wpAny_isInstance (T := "dict") tb PySem.F.sub_dict_dict ?_)
  simp only [Bool.not_true, Bool.false_eq_true, if_false]
  refine wpAny_bind (wpAny_pure (wpAny_bind (wpAny_pure ?_)))
  refine wpAny_bind (samePairsH (knd := tupleKind (mixKind X.prog X.w)) (show X.A.in1.units < cLine by show X.A.units + 1 < cLine; omega) la lb da db (ints_kt ra ia) (ints_kt rb ib) ?_)
  refine wpAny_pure ⟨_, rfl, ?_, ?_⟩
  · exact fun x => nomatch x
  · refine fin_bl I q ?_
    unfold sameT
    rw [sameB_is ra rb ia ib, Paired.length ra, Paired.length rb]
    simp
end
end DR

/-! own rule: dict(xs) of a list of pairs whose keys are tuples, told apart -/
namespace DR
open PySem PySem.Spec PyProof.Rows L2
/-- one pair of the list: its address, the key, the key's address, the value -/
structure Pr where
  p : Addr
  k : List Key
  b : Addr
  v : V
def Pr.ok (H : Hp) (z : Pr) : Prop := H z.p = some (.tup [.ref z.b, z.v]) ∧ H z.b = some (.tup (z.k.map kV))
theorem is_keeps' {P : Program} {w : World} {h h' : Heap} {k : List Key} {a : Addr} (x : (tupleKind (mixKind P w)).is h k a) (e : ∀ u, h.get? a = some u → h'.get? a = some u) : (tupleKind (mixKind P w)).is h' k a := by
  obtain ⟨o, items, n, ho, r⟩ := (show IsTupleKey (mixKind P w) h k a from x)
  exact ⟨o, items, n, e _ ho, r⟩
def kvsOf (zs : List Pr) : List (List Key × V) := zs.map fun z => (z.k, z.v)
section
variable {X : Cx}
theorem prs_of {pins : List (Addr × Obj)} {σ : L2.St} {H : Hp} {s : Shared} (I : Inv X pins σ H s) : ∀ zs : List Pr, (∀ z ∈ zs, z.ok H) →
    ∃ ys : List (List Key × Addr × Value), KT H (kvsOf zs) ys ∧ ∀ (j : Nat) (z : Pr) (y : List Key × Addr × Value), zs[j]? = some z → ys[j]? = some y → y.2.1 = z.b ∧ IsTup s.heap z.p #[.ref z.b, y.2.2]
  | [], _ => ⟨[], .nil, fun j z y h => by simp at h⟩
  | z :: zs, h => by
    obtain ⟨ys, r, hp⟩ := prs_of I zs fun q hq => h q (List.mem_cons_of_mem _ hq)
    obtain ⟨h1, h2⟩ := h z List.mem_cons_self
    obtain ⟨its, rv, ht, _⟩ := I.tuple (SqT.of h1)
    obtain ⟨u, y, ei, ru, ry⟩ := vals2 rv
    subst ei
    cases (show u = Value.ref z.b from ru)
    refine ⟨(z.k, z.b, y) :: ys, .cons ⟨rfl, h2, ry⟩ r, fun j q w hq hw => ?_⟩
    cases j with
    | zero =>
      obtain rfl := Option.some.inj hq
      obtain rfl := Option.some.inj hw
      exact ⟨rfl, ht⟩
    | succ j => exact hp j q w (by simpa using hq) (by simpa using hw)
def rDictPairsT (K : PySem.W.Frag) : List V → Hp → VK → Prop := fun vs H Q => ∃ (a : Addr) (zs : List Pr), vs = [V.ref a] ∧ SqL K H a (zs.map fun z => V.ref z.p) ∧ (∀ z ∈ zs, z.ok H) ∧ ((kvsOf zs).map (·.1)).Nodup ∧ ∀ p, H p = none → Q (.ref p) (upd H p (.dT (kvsOf zs)))
theorem cr_dictPairsT (hc : X.calm = true) (hu : X.A.units + 64 < cLine) : CallR X (.type "dict") (rDictPairsT X.K) := by
  intro pins s σ H xs us Q I r h
  obtain ⟨a, zs, rfl, hq, hok, nd, q⟩ := h
  obtain ⟨u, rfl, rx⟩ := r.one
  cases rx
  obtain ⟨its, rv, pl, hz⟩ := I.list hq
  rw [show (zs.map fun z => V.ref z.p) = (zs.map (·.p)).map V.ref by rw [List.map_map]; rfl] at rv hz
  have ei := refs_at rv
  subst ei
  rw [List.length_map, List.length_map] at hz
  obtain ⟨ys, rel, hp⟩ := prs_of I zs hok
  have l0 : (kvsOf zs).length = zs.length := by unfold kvsOf; rw [List.length_map]
  have l1 : ys.length = zs.length := by rw [← Paired.length rel, l0]
  obtain ⟨o, n, ho, hcl, hd, hdat⟩ := pl
  have fr := I.hok.fresh (Nat.le_refl s.heap.objs.size)
  let Ts : Nat → Addr := fun j => (zs.map (·.p)).getD j 0
  let pv : List (Value × Value) := ys.map fun y => (Value.ref y.2.1, y.2.2)
  have lpv : pv.length = ys.length := List.length_map ..
  have nk : (ys.map (·.1)).Nodup := by
    rw [kt_keys rel]
    exact nd
  have isk : ∀ x ∈ ys, (tupleKind (mixKind X.prog X.w)).is s.heap x.1 x.2.1 := fun x hx => by
    obtain ⟨p, hp1, e1, e2, _⟩ := kt_mem rel x hx
    rw [← e1]
    exact key_of I.hok e2
  refine PySem.call_dict_pairsH (knd := tupleKind (mixKind X.prog X.w)) (ps := ys) (PairArg.list a (((zs.map (·.p)).map Value.ref).toArray) Ts pv) (I.ok.hd hc) (show X.A.in1.in1.units < cLine by show X.A.units + 1 + 1 < cLine; omega) ⟨⟨o, n, ho, hcl, hd, hdat⟩, ?_⟩ ⟨lpv.symm, ?_⟩ ?_ (by omega) ?_
  · refine ⟨by simp [pv, l1], fun j k v e => ?_⟩
    obtain ⟨y, hy, e2⟩ := Option.map_eq_some_iff.mp (by rw [← List.getElem?_map]; exact e : (ys[j]?).map (fun y => (Value.ref y.2.1, y.2.2)) = some (k, v))
    obtain ⟨rfl, rfl⟩ := Prod.mk.inj e2
    have hj : j < zs.length := by
      have := (List.getElem?_eq_some_iff.mp hy).1
      omega
    obtain ⟨h1, h2⟩ := hp j (zs[j]) y (List.getElem?_eq_getElem hj) hy
    have hT : Ts j = (zs[j]).p := by
      show (zs.map (·.p)).getD j 0 = _
      rw [List.getD_eq_getElem?_getD, List.getElem?_map, List.getElem?_eq_getElem hj]
      rfl
    rw [hT, h1]
    exact ⟨by simp [hj], .inl h2⟩
  · intro i key v e
    obtain ⟨y, hy, e2⟩ := Option.map_eq_some_iff.mp (by rw [← List.getElem?_map]; exact e : (ys[i]?).map (fun y => (Value.ref y.2.1, y.2.2)) = some (key, v))
    obtain ⟨rfl, rfl⟩ := Prod.mk.inj e2
    exact ⟨y.1, y.2.1, hy, rfl⟩
  · intro h' e x hx
    refine is_keeps' (isk x hx) fun o eo => e _ o (fun z => ?_) (by simp) eo
    rw [z] at eo
    exact absurd (Heap.lt_size eo) (Nat.lt_irrefl _)
  · intro h' tk d' k
    rw [storedAllH_nil_of_nodup ys nk] at d'
    obtain ⟨o', es', ep', ho', hc', hdt', he', _, hn'⟩ := d'
    refine ⟨.ref s.heap.objs.size, upd H s.heap.objs.size (.dT (kvsOf zs)), I.laid (t' := tk) (fun b o e => k b o (by simp) e) (Nat.le_refl _) ?_, rfl, q _ fr⟩
    exact ⟨by rw [l0]; exact hz, beq_eq_false_iff_ne.mpr (Nat.ne_of_gt I.big), ys, kt_new rel fr, o', es', ep', ho', hc', hdt', he', hn'⟩
end
end DR

/-! own rule: name = {k: v for ..}, keys tuples -/
namespace DR
open PySem PySem.Spec PyProof.Rows L2
theorem dc_core {X : Cx} {pins : List (Addr × Obj)} {s : Shared} {σ : L2.St} {H : Hp} {Q : VK} {kx vx tg iter : Expr} {ifs : List Expr} {scope : Scope} {own : List (Str × Nat)} {pos pos' : Pos} {wi : TI} {g : TG} {tt : TT} {tk tv : TE} {use : Option (Value → Sem Unit)} {Qf : Value → Shared → Prop} (hc : X.calm = true) (hu : X.A.units < cLine) (hN : X.N.Nodup) (I : Inv X pins σ H s) (hi : PI X tg iter wi) (ok : BlkOk X.N X.env.scope scope own)
    (hg : ∀ (s : Shared) (H : Hp) (C : Addr) (cl : List (Str × Addr)) (fp : List Addr), PG (X.blk s H scope (compEnvC scope cl C X.env) fp) tg g) (ht : ∀ (s : Shared) (H : Hp) (C : Addr) (cl : List (Str × Addr)) (fp : List Addr), PTs (X.blk s H scope (compEnvC scope cl C X.env) fp) ifs tt)
    (hk : ∀ (s : Shared) (H : Hp) (C : Addr) (cl : List (Str × Addr)) (fp : List Addr), PE (X.blk s H scope (compEnvC scope cl C X.env) fp) kx tk)
    (he : ∀ (s : Shared) (H : Hp) (C : Addr) (cl : List (Str × Addr)) (fp : List Addr), PE (X.blk s H scope (compEnvC scope cl C X.env) fp) vx tv) (hs : ∀ x, foldedSetIterable iter X.env x = pure x) (h : tDcT wi g tt tk tv (own.map (·.2)) σ H Q)
    (hRR : ∀ D C s' m H', Inv X pins σ H' s' → Q (.ref D) H' → s'.heap.Ns C m → FpOk X pins H' C → compPost (model X.prog X.w) X.A X.xe use Qf (.ref D) C (.ok .next) s') :
    wpAny (model X.prog X.w) X.A (comprehension (.DictComp kx vx [⟨tg, iter, ifs, 0⟩] scope pos) scope X.env pos' newDict false (eval iter X.env) use) Qf X.xe s := by
  have cap : ∀ y ∈ scope.names, y.2 = .free → ∃ c, X.env.cells.lookup y.1 = some c := fun y hy e => (ok.free y hy e).elim (fun k => I.ok.has _ (.inl k)) fun k => I.ok.has _ (.inr k)
  refine wpAny_comprehension_free (use := use) rfl hs (closure_ok cap) ok.kind (fun y hy e => by rw [ok.uniq y hy, e])
    (thn (hi.run pins s σ H _ I h) fun xv s1 hx => thn hx fun itv s2 h2 => ?_)
  obtain ⟨it, fp, tn, J, H2, e, I2, T, st2, f2, q⟩ := h2
  subst e
  refine wpAny_newObj_type (newEnv_comp ?_)
  generalize hD : s2.heap.objs.size = D
  have nD : H2 D = none := I2.hok.fresh (Nat.le_of_eq hD)
  obtain ⟨W, ⟨m0, w0⟩, turn⟩ := q D nD
  have J3 : ∃ s3 : Shared, s3 = { s2 with heap := s2.heap.push { cls := .type "dict", data := .dict #[] } } := ⟨_, rfl⟩
  obtain ⟨s3, hs3⟩ := J3
  have h3 : s3.heap = s2.heap.push { cls := .type "dict", data := .dict #[] } := by rw [hs3]
  have I3 : Inv X pins σ (upd H2 D (.dT [])) s3 := by
    rw [hs3]
    refine I2.laid (t' := s2.toks) (fun b o e => Heap.get?_push_of_some _ e) (Nat.le_of_eq hD) ?_
    rw [← hD]
    exact dt_empty s2.heap I2.big
  have low : ∀ b ∈ fp, b < s2.heap.objs.size := fun b hb => by
    obtain ⟨o, e, _⟩ := T.obj _ _ st2 b hb
    exact Heap.lt_size e
  have f3 : ∀ b ∈ fp, FpOk X pins (upd H2 D (.dT [])) b ∧ b < s3.heap.objs.size := fun b hb => by
    have lt := low b hb
    refine ⟨⟨?_, (f2 b hb).2⟩, by rw [h3, Heap.size_push]; exact Nat.lt_succ_of_lt lt⟩
    rw [upd_ne (by rw [← hD]; exact Nat.ne_of_lt lt)]
    exact (f2 b hb).1
  have st3 : tn 0 s3.heap := T.keep _ _ _ st2 fun b _ o e => by rw [h3]; exact Heap.get?_push_of_some _ e
  have I4 := block_start I3 ok hN f3
  have pg := hg s3 (upd H2 D (.dT [])) s3.heap.objs.size (cellsFrom (s3.heap.objs.size + 1) scope.names (cloFrom X.env.cells scope.names [])) fp
  have pt := ht s3 (upd H2 D (.dT [])) s3.heap.objs.size (cellsFrom (s3.heap.objs.size + 1) scope.names (cloFrom X.env.cells scope.names [])) fp
  have pk := hk s3 (upd H2 D (.dT [])) s3.heap.objs.size (cellsFrom (s3.heap.objs.size + 1) scope.names (cloFrom X.env.cells scope.names [])) fp
  have pe := he s3 (upd H2 D (.dT [])) s3.heap.objs.size (cellsFrom (s3.heap.objs.size + 1) scope.names (cloFrom X.env.cells scope.names [])) fp
  rw [← hs3]
  show codeAny _ _ (.compStart (.DictComp kx vx [⟨tg, iter, ifs, 0⟩] scope pos) 0 (.ref it) (.ref D) (compEnvC scope (cellsFrom (s3.heap.objs.size + 1) scope.names (cloFrom X.env.cells scope.names [])) s3.heap.objs.size X.env)) (compPost (model X.prog X.w) X.A X.xe use Qf (.ref D) s3.heap.objs.size) { s3 with heap := pushCells (s3.heap.push { cls := .type "dict", data := .dict #[] }) scope.names }
  have clear : ∀ b ∈ fp, (upd H2 D (.dT [])) b = none := fun b hb => (f3 b hb).1.1
  generalize hce : compEnvC scope (cellsFrom (s3.heap.objs.size + 1) scope.names (cloFrom X.env.cells scope.names [])) s3.heap.objs.size X.env = ce at I4 pg pt pk pe ⊢
  have cL : ce.locals = s3.heap.objs.size := by subst hce; rfl
  generalize upd H2 D (.dT []) = H3 at I3 I4 pg pt pk pe w0 clear f3
  generalize hs4 : ({ s3 with heap := pushCells (s3.heap.push { cls := .type "dict", data := .dict #[] }) scope.names } : Shared) = s4 at I4 ⊢
  have st4 : tn 0 s4.heap := T.keep _ _ _ st3 fun b _ o e => by rw [← hs4]; exact pushCells_keeps _ _ _ _ (Heap.get?_push_of_some _ e)
  have stat : ∀ {σ' : L2.St} {H' : Hp} {s' : Shared}, Inv (X.blk s3 H3 scope ce fp) [] σ' H' s' → (∀ b ∈ fp, H' b = none) → ∀ b ∈ fp, FpOk (X.blk s3 H3 scope ce fp) [] H' b := fun {σ' H' s'} I' hn b hb =>
    ⟨hn b hb, (I'.ok.exf b hb).1, I'.ok.exfs b hb, .inl hb, fun x c e => (I'.ok.exf b hb).2 x c e, fun p hp => absurd (show p ∈ ([] : List (Addr × Obj)) ++ [] from hp) (by simp)⟩
  have loop : codeAny (model X.prog X.w) X.A (.compLoop (.DictComp kx vx [⟨tg, iter, ifs, 0⟩] scope pos) 0 (.ref it) (.ref D) ce) (compPost (model X.prog X.w) X.A X.xe use Qf (.ref D) s3.heap.objs.size) s4 := by
    refine compLoop_anyD (fun n s' => ∃ i H', Inv (X.blk s3 H3 scope ce fp) [] (wipe σ (own.map (·.2))) H' s' ∧ tn i s'.heap ∧ (∀ b ∈ fp, H' b = none) ∧ W i n H') ?_ m0 ⟨0, H3, I4, st4, clear, w0⟩
    rintro n s5 ⟨i, H5, I5, st5, n5, w5⟩
    rcases turn i n H5 w5 with ⟨stop, qq⟩ | ⟨go, Nx, hNx, step⟩
    · refine thnF (T.done (X.blk s3 H3 scope ce fp) rfl rfl rfl hc i [] s5 _ H5 (fun _ _ => False) I5 (stat I5 n5) st5 stop) fun r s6 ⟨hr, I6⟩ => ?_
      subst hr
      have I7 : Inv X pins σ H5 s6 := I3.call' (ch := fp) I6.os I6.base I6.hok I6.bare fun b hb => ⟨(f3 b hb).1.2.2.2.1, (f3 b hb).1.2.1, (f3 b hb).1.2.2.2.2.1, (f3 b hb).1.2.2.2.2.2⟩
      have nC : H5 s3.heap.objs.size = none := cL ▸ (show H5 ce.locals = none from I6.free)
      obtain ⟨m, hn, _⟩ := I6.loc
      have hn' : s6.heap.Ns s3.heap.objs.size m := cL ▸ (show s6.heap.Ns ce.locals m from hn)
      exact hRR D s3.heap.objs.size s6 m H5 I7 qq hn' (I3.fpOk (Nat.le_refl _) nC)
    · refine thnF (T.item (X.blk s3 H3 scope ce fp) rfl rfl rfl hc i [] s5 _ H5 (fun _ _ => False) I5 (stat I5 n5) st5 go) fun r s6 ⟨u, hr, h6⟩ => ?_
      subst hr
      refine thnF h6 fun _ s7 ⟨x, H7, I7, r7, y7, st7, n7⟩ => ?_
      have P7 := I7.pinned (stat I7 n7) (T.obj _ _ st7)
      refine thnF (pg.run _ s7 _ H7 x u _ P7 r7 (step x H7 y7)) fun _ s8 ⟨σ8, H8, I8, hw8, q8⟩ => ?_
      refine thnF (pt.run _ s8 σ8 H8 _ I8 q8) fun b s9 ⟨H9, I9, q9⟩ => ?_
      have over : ∀ {s' : Shared} {H' : Hp}, Inv (X.blk s3 H3 scope ce fp) ([] ++ pinsAt fp s7.heap) σ8 H' s' → Nx H' → ∃ m, m < n ∧ ∃ i H', Inv (X.blk s3 H3 scope ce fp) [] (wipe σ (own.map (·.2))) H' s' ∧ tn i s'.heap ∧ (∀ b ∈ fp, H' b = none) ∧ W i m H' := fun {s' H'} I' nx => by
        obtain ⟨m', hm, w'⟩ := hNx H' nx
        have pin' : ∀ b ∈ fp, ∀ o, s7.heap.get? b = some o → s'.heap.get? b = some o ∧ H' b = none := fun b hb o e =>
          let z := I'.pin (b, o) (List.mem_append_right _ (List.mem_append_right _ (mem_pinsAt hb e)))
          ⟨z.1, z.2.1⟩
        refine ⟨m', hm, i + 1, H', (I'.unpinned (pins := [])).weak (by rw [← hw8, wipe_length]) (fun j v e => ?_), T.keep _ _ _ st7 fun b hb o e => (pin' b hb o e).1, fun b hb => ?_, w'⟩
        · rw [← hw8] at e
          exact (wipe_some e).1
        · obtain ⟨o, e, _⟩ := T.obj _ _ st7 b hb
          exact (pin' b hb o e).2
      cases b with
      | false => exact over I9 (by simpa using q9)
      | true =>
        simp only [if_true] at q9 ⊢
        refine thnF (pk.run _ s9 σ8 H9 _ I9 q9) fun z s10 ⟨yk, H10, I10, r10, q10⟩ => ?_
        refine thnF (pe.run _ s10 σ8 H10 _ I10 q10) fun z2 s11 ⟨yv, H11, I11, r11, kvs, k, c, ek, hc11, hD11, hz11, nx⟩ => ?_
        subst ek
        cases (show z = Value.ref c from r10)
        exact put_tup (X := X.blk s3 H3 scope ce fp) hu I11 hD11 hz11 hc11 r11 fun s12 I12 => over I12 nx
  exact codeAny_compStart_dict loop (T.self X.A 0 _ _ _ st4 loop)
/-- name = {k: v for ..} on one line, the name a local -/
theorem ps_setDcT {X : Cx} {i : Nat} {y : Str} {py : Pos} {kx vx tg iter : Expr} {ifs : List Expr} {scope : Scope} {own : List (Str × Nat)} {pos spos : Pos} {wi : TI} {g : TG} {tt : TT} {tk tv : TE} (hc : X.calm = true) (hu : X.A.units < cLine) (hN : X.N.Nodup) (hy : X.N[i]? = some y) (hyl : X.env.scope.names.lookup y = some .local)
    (hsw : swapsWith (.DictComp kx vx [⟨tg, iter, ifs, 0⟩] scope pos) (some (.Name y py)) spos.line X.env = pure true) (hi : PI X tg iter wi) (ok : BlkOk X.N X.env.scope scope own)
    (hg : ∀ (s : Shared) (H : Hp) (C : Addr) (cl : List (Str × Addr)) (fp : List Addr), PG (X.blk s H scope (compEnvC scope cl C X.env) fp) tg g) (ht : ∀ (s : Shared) (H : Hp) (C : Addr) (cl : List (Str × Addr)) (fp : List Addr), PTs (X.blk s H scope (compEnvC scope cl C X.env) fp) ifs tt)
    (hk : ∀ (s : Shared) (H : Hp) (C : Addr) (cl : List (Str × Addr)) (fp : List Addr), PE (X.blk s H scope (compEnvC scope cl C X.env) fp) kx tk)
    (he : ∀ (s : Shared) (H : Hp) (C : Addr) (cl : List (Str × Addr)) (fp : List Addr), PE (X.blk s H scope (compEnvC scope cl C X.env) fp) vx tv) (hs : ∀ x, foldedSetIterable iter X.env x = pure x := by intro _; rfl) :
    PS X (.Assign [.Name y py] (.DictComp kx vx [⟨tg, iter, ifs, 0⟩] scope pos) spos) (tAsg (tDcT wi g tt tk tv (own.map (·.2))) (gName i)) := by
  refine ⟨fun pins s σ H D I h => ?_⟩
  rw [exec_Assign_Name_used _ _ _ _ hsw]
  refine wpAny_bind (wpAny_standAt (wpAny_bind ?_))
  show wpAny _ X.A (do let _ ← comprehension (.DictComp kx vx [⟨tg, iter, ifs, 0⟩] scope pos) scope X.env (firstIterPos [⟨tg, iter, ifs, 0⟩] pos) newDict false (eval iter X.env) (some (assign (.Name y py) X.env))) _ _ s
  have h : tDcT wi g tt tk tv (own.map (·.2)) σ H (fun x H1 => gName i x σ H1 D.nx) := h
  refine wpAny_bind (thn (dc_core (Qf := fun _ s' => SP X pins D .next s') hc hu hN I hi ok hg ht hk he hs h fun L C s' m H' I' q hn f => ?_) fun _ s' hq => wpAny_pure (wpAny_pure hq))
  show wpAny _ _ (assign (.Name y py) X.env (.ref L)) _ _ _
  refine wpAny_assign_Name (store_ok2 (v := V.ref L) I' hN hy (.inl hyl) rfl (fun s2 I2 ⟨a, sb, ha⟩ => ?_) (.inr hyl))
  obtain ⟨f0, f1, f2, f3, f4, f5⟩ := f
  have haC : C ≠ a := by
    rcases ha with z | z
    · rw [z]; exact f1
    · exact fun e => f4 y a z e.symm
  refine ⟨m, hn.sameBut sb haC, fun h3 sb3 => ?_⟩
  exact ⟨_, H', I2.turned (t' := s2.toks) (fun b o hb e => (sb3.2 b hb).trans e) f0 f1 f3 f4 f5, q⟩
theorem swd_true {kx vx : Expr} {gs : List Comprehension} {scope : Scope} {pos py : Pos} {y : Str} {l : Nat} {env : Env} (hk : env.scope.kind = .function) (hy : env.scope.names.lookup y = some .local) (hl : (py.line == pos.line) = true)
    (ha : (scope.names.any fun (n, k) => n == y && (k == .local || k == .cell)) = false) : swapsWith (.DictComp kx vx gs scope pos) (some (.Name y py)) l env = pure true := by
  have ky : env.kindOf y = some .local := hy
  have hb : env.blockKind = .function := by unfold Env.blockKind; rw [hk]; rfl
  unfold swapsWith
  simp only [hb, ky, ha, Expr.pos, hl]
  rfl
end DR

/-! own rules: slices of a tuple and sums of tuples, whole or empty ones too, by what stands afterwards -/
namespace TE
open PySem PySem.Spec PyProof.Rows L2 Evl
section
variable {X : Cx}
def rSlE : V → Option Int → Option Int → Hp → VK → Prop := fun x lo hi H Q => ∃ a xs, x = .ref a ∧ H a = some (.tup xs) ∧ ∀ p H', Ex H H' → H' p = some (.tup (cutV xs lo hi)) → Q (.ref p) H'
theorem sl_tupE : SlR X rSlE := by
  intro pins s σ H x v vl vu lo hi sl Q I rx hs pl pu h
  obtain ⟨a, xs, rfl, hx, q⟩ := h
  refine sl_tupA pins s σ H _ v vl vu lo hi sl Q I rx hs pl pu ⟨a, xs, rfl, SqT.of hx, fun w => q a H (Ex.refl _) ?_, fun _ p hp => q p _ (Ex.new hp) upd_same⟩
  obtain ⟨w1, w2⟩ := w
  have e : cutV xs lo hi = xs := by
    unfold cutV
    rw [w1, w2, List.drop_zero, Nat.sub_zero, List.take_length]
  rw [e]
  exact hx
def rCatE : R2 := fun x y H Q => ∃ a b xs ys, x = .ref a ∧ y = .ref b ∧ H a = some (.tup xs) ∧ H b = some (.tup ys) ∧ xs.length + ys.length ≤ sizeLine ∧ ∀ p H', Ex H H' → H' p = some (.tup (xs ++ ys)) → Q (.ref p) H'
theorem op_catE : OpR X (binaryOp .Add) rCatE := by
  intro pins s σ H x y v u Q I rx ry h
  obtain ⟨a, b, xs, ys, rfl, rfl, ha, hb, hz, q⟩ := h
  refine op_catA pins s σ H _ _ v u Q I rx ry ⟨a, b, xs, ys, rfl, rfl, SqT.of ha, SqT.of hb, hz, fun e => q b H (Ex.refl _) ?_, fun _ e => q a H (Ex.refl _) ?_, fun _ _ p hp => q p _ (Ex.new hp) upd_same⟩
  · rw [e, List.nil_append]
    exact hb
  · rw [e, List.append_nil]
    exact ha
end
end TE

set_option exponentiation.threshold 400
namespace K1
open PySem PySem.Spec PyProof.Rows L2 Evl LX ZW ZM DM DR TE
def inR (rs : List (Int × Int)) (ps : List Int) (j : Nat) : Bool := decide (0 ≤ ps.getD j 0) && decide (ps.getD j 0 ≤ (K1N.nAt rs j : Int) - 1)
def toldB (rs : List (Int × Int)) (ps : List Int) : Bool := decide (ps.length = rs.length) && ((List.range rs.length).map (inR rs ps)).all id
theorem toldB_ok {rs : List (Int × Int)} {ps : List Int} (hl : ps.length = rs.length) (h : PlOk rs ps) : toldB rs ps = true := by
  unfold toldB
  rw [decide_eq_true hl, Bool.true_and, List.all_eq_true]
  intro b hb
  obtain ⟨j, hj, rfl⟩ := List.mem_map.mp hb
  have := h j (by rw [hl]; exact List.mem_range.mp hj)
  unfold inR
  rw [decide_eq_true this.1, decide_eq_true (by omega)]
  rfl
theorem toldB_len {rs : List (Int × Int)} {ps : List Int} (hl : ¬ ps.length = rs.length) : toldB rs ps = false := by
  unfold toldB
  rw [decide_eq_false hl, Bool.false_and]
theorem toldB_out {rs : List (Int × Int)} {ps : List Int} {j : Nat} (hj : j < rs.length) (h : (K1N.nAt rs j : Int) ≤ ps.getD j 0) : toldB rs ps = false := by
  unfold toldB
  have : ((List.range rs.length).map (inR rs ps)).all id = false := by
    rw [List.all_eq_false]
    refine ⟨inR rs ps j, List.mem_map.mpr ⟨j, List.mem_range.mpr hj, rfl⟩, ?_⟩
    unfold inR
    rw [decide_eq_false (show ¬ ps.getD j 0 ≤ (K1N.nAt rs j : Int) - 1 by omega), Bool.and_false]
    decide
  rw [this, Bool.and_false]
inductive TupB (H : Hp) (rs : List (Int × Int)) : V → Bool → Prop where
  | lst {a : Addr} {xs : List V} (e : H a = some (.lst xs)) : TupB H rs (.ref a) false
  | tup {a : Addr} {ps : List Int} (e : PlacesT H a ps) (hb : ∀ j : Nat, -(10 ^ 60) < ps.getD j 0 ∧ ps.getD j 0 < 10 ^ 60) : TupB H rs (.ref a) (toldB rs ps)
theorem TupB.ex {H H' : Hp} {rs : List (Int × Int)} {v : V} {b : Bool} (e : Ex H H') (h : TupB H rs v b) : TupB H' rs v b := by
  cases h with
  | lst h => exact .lst (e _ _ h)
  | tup h hb => exact .tup (e _ _ h) hb
theorem eqvAll_ints : ∀ a b : List Int, PyData.eqvAll (a.map PyData.int) (b.map PyData.int) = decide (a = b)
  | [], [] => by simp [PyData.eqvAll]
  | [], _ :: _ => by simp [PyData.eqvAll]
  | _ :: _, [] => by simp [PyData.eqvAll]
  | x :: a, y :: b => by
    have := eqvAll_ints a b
    simp only [List.map_cons, PyData.eqvAll, PyData.eqv, this]
    by_cases e : x = y
    · subst e
      simp
    · simp [e]
theorem eqv_class2 (d e : Int) (ps qs : List Int) : PyData.eqv (clD d ps) (clD e qs) = decide (d = e ∧ ps = qs) := by
  have := eqvAll_ints ps qs
  simp only [clD, PyData.eqv, PyData.eqvAll, this]
  by_cases h1 : d = e
  · by_cases h2 : ps = qs
    · simp [h1, h2]
    · simp [h1, h2]
  · simp [h1]
theorem eq_class2 {K : PySem.W.Frag} {H : Hp} {v1 v2 : V} {d1 d2 : Int} {ps qs : List Int} {Q : VK} (h1 : ClassAt H v1 d1 ps) (h2 : ClassAt H v2 d2 qs) (q : Q (.bl (decide (d1 = d2 ∧ ps = qs))) H) : rEqD K v1 v2 H Q := by
  refine ⟨_, _, dp_class h1, dp_class h2, shaped_class _ _, shaped_class _ _, ?_⟩
  rw [eqv_class2]
  exact q
theorem walk_enumT {K : PySem.W.Frag} {a : Addr} {xs : List V} : Walk (EnT.IteT K a) xs.length (fun H => SqT K H a xs) (YPair (fun i => some (.int (i : Nat))) (fun i => xs[i]?)) :=
  ⟨fun i _ hi q => ⟨xs, xs[i], q, by simp [hi]⟩, fun _ q => ⟨xs, q, rfl⟩, fun i H v H' _ q y => by
    obtain ⟨T, x, h1, h2, h3, h4⟩ := y
    exact ⟨T, .int (i : Nat), x, h1, h2, h3, rfl, h4 xs q⟩⟩
/-- a chip on each ring -/
def chipsOf (ps : List Int) (n : Nat) : Dl := (List.range n).map fun (j : Nat) => (((j : Int), ps.getD j 0), 1)
theorem chips_succ (ps : List Int) (n : Nat) : chipsOf ps (n + 1) = chipsOf ps n ++ [(((n : Int), ps.getD n 0), 1)] := by
  unfold chipsOf
  rw [List.range_succ, List.map_append]
  rfl
theorem chips_key (ps : List Int) (n : Nat) : ∀ e ∈ chipsOf ps n, ∃ j : Nat, j < n ∧ e = (((j : Int), ps.getD j 0), 1) := fun e he => by
  obtain ⟨j, hj, rfl⟩ := List.mem_map.mp he
  exact ⟨j, List.mem_range.mp hj, rfl⟩
theorem chips_nk (ps : List Int) : ∀ n, NK (chipsOf ps n)
  | 0 => List.nodup_nil
  | n + 1 => by
    unfold NK
    rw [chips_succ, List.map_append]
    refine List.nodup_append.mpr ⟨chips_nk ps n, by simp, fun x hx y hy z => ?_⟩
    obtain ⟨e, he, rfl⟩ := List.mem_map.mp hx
    obtain ⟨j, hj, rfl⟩ := chips_key ps n e he
    rw [List.mem_singleton.mp hy] at z
    have := congrArg Prod.fst z
    simp at this
    omega
theorem chips_len (ps : List Int) (n : Nat) : (chipsOf ps n).length = n := by
  unfold chipsOf
  rw [List.length_map, List.length_range]
theorem chips_ab (ps : List Int) : ∀ n : Nat, Ab (chipsOf ps n) = (n : Int)
  | 0 => rfl
  | n + 1 => by
    rw [chips_succ, Ab_append, chips_ab ps n]
    show (n : Int) + (((1 : Int).natAbs : Int) + 0) = _
    omega
theorem chips_one (ps : List Int) : ∀ n : Nat, Sf one (chipsOf ps n) = (n : Int)
  | 0 => rfl
  | n + 1 => by
    rw [chips_succ, Sf_snoc, chips_one ps n]
    show (n : Int) + 1 * 1 = _
    omega
theorem chips_tau (rs : List (Int × Int)) (ps : List Int) (i : Nat) : ∀ n : Nat, Sf (tau rs i) (chipsOf ps n) = if i < n then ps.getD i 0 + (i : Int) * K1N.sAt rs i else (n : Int) * K1N.sAt rs i
  | 0 => by
    rw [if_neg (Nat.not_lt_zero i)]
    show (0 : Int) = 0 * _
    rw [Int.zero_mul]
  | n + 1 => by
    rw [chips_succ, Sf_snoc, chips_tau rs ps i n]
    unfold tau
    dsimp only
    by_cases h1 : i < n
    · rw [if_pos h1, if_pos (show i < n + 1 by omega), if_neg (show ¬ (n : Int) = (i : Int) by omega), if_neg (show ¬ (n : Int) < (i : Int) by omega)]
      omega
    · rw [if_neg h1]
      by_cases h2 : i = n
      · subst h2
        rw [if_pos (show i < i + 1 by omega), if_pos rfl]
        omega
      · rw [if_neg (show ¬ i < n + 1 by omega), if_neg (show ¬ (n : Int) = (i : Int) by omega), if_pos (show (n : Int) < (i : Int) by omega), Int.natCast_add, Int.add_mul]
        show _ + _ * 1 = _ + 1 * _
        omega
theorem chips_in {rs : List (Int × Int)} {ps : List Int} (h : PlOk rs ps) (hl : ps.length = rs.length) {n : Nat} (hn : n ≤ rs.length) : KIn rs (chipsOf ps n) := fun e he => by
  obtain ⟨j, hj, rfl⟩ := chips_key ps n e he
  have := h j (by omega)
  exact ⟨⟨by show (0 : Int) ≤ (j : Int); omega, by show (j : Int) < _; omega⟩, this.1, by show _ < (K1N.nAt rs ((j : Int)).toNat : Int); rw [Int.toNat_natCast]; exact this.2⟩
section
variable {P : Program} {w : World} {K : PySem.W.Frag} {mg : Str → Option Value} {base : Heap}
def spLiesTold2 : Sp := fun vs H Q _ => ∃ c v xs rs b, vs = [.ref c, v] ∧ H c = some (.tup xs) ∧ RingsAt H 60 xs rs ∧ xs.length ≤ 12 ∧ TupB H rs v b ∧ ∀ H', Ex H H' → Q (.bl b) H'
theorem ok_lies_told2 (T : Txt K mg) {f : Addr} {fd : FuncData} (D : DefAt K mg "lies_told" sLiesTold ["chain", "value"] f fd) : FnOk P w K mg base CX0 3 f fd ["chain", "value"] spLiesTold2 := by
  refine D.F.ok scLiesTold (fun vs H Q E h => ?_) (fun cdv A outer s₀ H vs Q E hr h => ?_)
  · obtain ⟨c, v, xs, rs, b, rfl, _⟩ := h
    rfl
  · obtain ⟨c, v, xs, rs, b, rfl, hc, hR, hl, hb, q⟩ := h
    obtain ⟨f1, fd1, D1⟩ := T.d_is_between
    have hr2 : Room 2 _ := hr.mono (by decide)
    refine ⟨_, pss_cons (ps_if (PW.pt (pw_or (pt_not (pt_val (pe_callB call_isi (by rfl) T.z_isinstance (by decide +kernel) (pa_cons (pv 1) (pa_cons (pe_bltn (v := .ty "tuple") (by rfl) T.z_tuple (by decide +kernel) rfl) pa_nil)))))
          (pw_or1 (pt_cmpR op_ne (pe_callB call_len_seq (by rfl) T.z_len PySem.boot_len (pa_cons (pv 1) pa_nil)) (pe_callB call_len_seq (by rfl) T.z_len PySem.boot_len (pa_cons (pv 0) pa_nil)) (nomark _))))) (pss_one (ps_ret pe_bl)) pss_nil)
      (pss_one (ps_ret (pe_callB (cr_all rfl) (by rfl) T.z_all (by decide +kernel) (pa_cons (pe_lc (own := [("place", 2), ("ring", 3)]) (g := gTup K 2 (gCons (gName 2) (gCons (gName 3) gNil))) (tt := tYes) rfl scLiesTold.nd (RZ.pi_zipA (by rfl) T.z_zip (pa_cons (pv 1) (pa_cons (pv 0) pa_nil)))
        (blkOk_by (N := nLiesTold) (sc := defScope sLiesTold) (by decide +kernel)) (fun _ _ _ _ _ => (pg_tup (by rfl) (pgs_cons (pg_name (i := 2) scLiesTold.nd rfl (.inl rfl)) (pgs_cons (pg_name (i := 3) scLiesTold.nd rfl (.inl rfl)) pgs_nil)))) (fun _ _ _ _ _ => pts_nil)
        (fun _ _ _ _ _ => (pe_call (ok_is_between T D1) hr2 (by rfl) D1.g D1.F.kp D1.b .nil pass0 (pa_cons (pv 2) (pa_cons pe_int (pa_cons (pe_op op_sub (pe_ix (show IxR _ (rIxT K) from ix_tup) (pv 3) pe_int (fun _ _ => rfl)) pe_int) pa_nil)))))) pa_nil)))), ?_⟩
    have hlen : xs.length = rs.length := paired_len hR
    cases hb with
    | @lst a ys e => exact ⟨_, rfl, .ref a, .ty "tuple", .type "list", .type "tuple", false, rfl, .ty _, .base (.lst e), kit_ty (by decide +kernel), false, rfl, iteT (iteT (q _ (Ex.refl _)))⟩
    | @tup a ps ha hb =>
      refine ⟨_, rfl, .ref a, .ty "tuple", .type "tuple", .type "tuple", true, rfl, .ty _, .base (.tup ha), kit_ty (by decide +kernel), true, rfl, iteF ?_⟩
      refine ⟨_, rfl, a, _, rfl, .inr (SqT.of ha), _, rfl, c, _, rfl, .inr (SqT.of hc), rfl, _, rfl, ?_⟩
      rw [List.length_map]
      by_cases he : ps.length = rs.length
      · rw [he, hlen, decide_eq_true (rfl : V.int (rs.length : Int) = V.int (rs.length : Int))]
        refine iteF ?_
        refine ⟨_, rfl, _, rfl, a, c, _, _, rfl, .inr ⟨SqT.of ha, SqT.of hc, fun Dl hD => ?_⟩⟩
        refine lc_zipT (K := K) (a := a) (b := c) (xs := ps.map V.int) (ys := xs) (n := xs.length) (by rw [List.length_map]; omega) (Nat.le_refl _) (.inr (Nat.le_refl _)) (fun i H' => H' Dl = some (.lst (((List.range i).map (inR rs ps)).map V.bl)) ∧ Ex H H') ⟨upd_same, Ex.new hD⟩ (fun i H' hp => ⟨SqT.of (hp.2 _ _ ha), SqT.of (hp.2 _ _ hc)⟩) (fun i x y Tp H' hi hx hy hp nT => ?_) (fun H' hp => ?_)
        · obtain rfl := pl_get hx
          have eT := Ex.new (o := .tup [.int (ps.getD i 0), y]) nT
          have hy1 := rings_nth4 (rings_ex4 (hp.2.trans eT) hR) hy
          obtain ⟨t, rfl, ht, b1, b2, b3, b4⟩ := hy1
          obtain ⟨c0, c1⟩ := hb i
          refine ⟨Tp, _, rfl, SqT.of upd_same, rfl, .int _, [.ref t], rfl, .ref t, [], rfl, rfl, rfl, ?_⟩
          dsimp only [tYes]
          rw [if_pos rfl]
          refine ⟨_, rfl, _, rfl, t, _, 0, _, rfl, rfl, SqT.of ht, rfl, _, _, rfl, rfl, .int _, 0, _, inR rs ps i, rfl, ?_, fun H3 e3 => ?_⟩
          · have := BtwB.int (K := K) (H := upd H' Tp (.tup [.int (ps.getD i 0), .ref t])) (lo := 0) (hi := (K1N.nAt rs i : Int) - 1) (ps.getD i 0)
            rw [decide_eq_true c0, decide_eq_true c1, Bool.true_and, Bool.true_and] at this
            exact this
          · refine ⟨_, e3 _ _ (eT _ _ hp.1), ?_, ?_, Ex.mut ((hp.2.trans eT).trans e3) hD⟩
            · rw [List.length_map, List.length_map, List.length_range]
              exact small1000 (by omega)
            · rw [upd_same, List.range_succ, List.map_append, List.map_append]
              rfl
        · refine ⟨Dl, (List.range xs.length).map (inR rs ps), rfl, SqL.of hp.1, ?_⟩
          rw [hlen]
          have : toldB rs ps = ((List.range rs.length).map (inR rs ps)).all id := by
            unfold toldB
            rw [decide_eq_true he, Bool.true_and]
          rw [← this]
          exact q _ hp.2
      · rw [decide_eq_false (show ¬ V.int (ps.length : Int) = V.int (xs.length : Int) from fun z => he (by have := V.int.inj z; omega))]
        rw [toldB_len he] at q
        exact iteT (q _ (Ex.refl _))
def spIsTuple : Sp := fun vs H Q _ => ∃ c v xs rs b, vs = [.ref c, v] ∧ H c = some (.tup xs) ∧ RingsAt H 60 xs rs ∧ (1 ≤ xs.length ∧ xs.length ≤ 12) ∧ TupB H rs v b ∧ ∀ H', Ex H H' → Q (.bl b) H'
def spPlainDeal : Sp := fun vs H Q _ => ∃ c x xs rs ps, ∃ deg : Int, vs = [.ref c, .int deg, .ref x] ∧ H c = some (.tup xs) ∧ RingsAt H 60 xs rs ∧ (1 ≤ xs.length ∧ xs.length ≤ 12) ∧ PlacesT H x ps ∧ ps.length = xs.length ∧ PlOk rs ps ∧ (deg.natAbs : Int) ≤ 10 ^ 45 ∧
  ∀ r H' res, Ex H H' → DealAt H' r res → DOk rs res (10 ^ 46) → res.length ≤ 13 → (∀ f, Nl rs f → Sf f res = Sf f (chipsOf ps xs.length) + (deg - xs.length) * f ((xs.length : Int) - 1, 0)) → Canon rs res → Q (.ref r) H'
def sameCl (rs : List (Int × Int)) (ds es : Dl) : Bool := decide (Sf one ds = Sf one es ∧ (cx rs fun i => Sf (tau rs i) ds) = cx rs fun i => Sf (tau rs i) es)
def spAreAlike : Sp := fun vs H Q _ => ∃ c a b xs rs ds es, vs = [.ref c, .ref a, .ref b] ∧ H c = some (.tup xs) ∧ RingsAt H 60 xs rs ∧ (1 ≤ xs.length ∧ xs.length ≤ 12) ∧ DealAt H a ds ∧ DealAt H b es ∧ DOk rs ds (10 ^ 50) ∧ DOk rs es (10 ^ 50) ∧ ∀ H', Ex H H' → Q (.bl (sameCl rs ds es)) H'
end
end K1

set_option exponentiation.threshold 400
namespace K1
open PySem PySem.Spec PyProof.Rows L2 Evl LX ZW ZM DM DR TE
/-- the places and chips on one ring -/
def mineOf (ds : Dl) (j : Nat) : List (Int × Int) := (ds.filter fun e => decide (e.1.1 = (j : Int))).map fun e => (e.1.2, e.2)
theorem mine_snoc (ds : Dl) (e : Pl × Int) (j : Nat) : mineOf (ds ++ [e]) j = mineOf ds j ++ (if e.1.1 = (j : Int) then [(e.1.2, e.2)] else []) := by
  unfold mineOf
  rw [List.filter_append, List.map_append]
  by_cases h : e.1.1 = (j : Int)
  · rw [if_pos h, List.filter_cons, if_pos (decide_eq_true h)]
    rfl
  · rw [if_neg h, List.filter_cons, if_neg (by rw [decide_eq_false h]; decide)]
    rfl
theorem mine_spt (j : Nat) : ∀ ds : Dl, ((mineOf ds j).map fun q => q.1 * q.2).sum = Sf (spt j) ds
  | [] => rfl
  | e :: r => by
    have ih := mine_spt j r
    show _ = spt j e.1 * e.2 + Sf (spt j) r
    rw [← ih]
    unfold mineOf spt
    by_cases h : e.1.1 = (j : Int)
    · rw [if_pos h, List.filter_cons, if_pos (decide_eq_true h)]
      rfl
    · rw [if_neg h, List.filter_cons, if_neg (by rw [decide_eq_false h]; decide)]
      omega
theorem mine_ind (j : Nat) : ∀ ds : Dl, ((mineOf ds j).map fun q => q.2).sum = Sf (ind j) ds
  | [] => rfl
  | e :: r => by
    have ih := mine_ind j r
    show _ = ind j e.1 * e.2 + Sf (ind j) r
    rw [← ih]
    unfold mineOf ind
    by_cases h : e.1.1 = (j : Int)
    · rw [if_pos h, List.filter_cons, if_pos (decide_eq_true h), Int.one_mul]
      rfl
    · rw [if_neg h, List.filter_cons, if_neg (by rw [decide_eq_false h]; decide)]
      omega
theorem mine_len (ds : Dl) (j : Nat) : (mineOf ds j).length ≤ ds.length := by
  unfold mineOf
  rw [List.length_map]
  exact List.length_filter_le _ _
theorem mine_in {rs : List (Int × Int)} {ds : Dl} (h : KIn rs ds) (j : Nat) : ∀ q ∈ mineOf ds j, 0 ≤ q.1 ∧ q.1 < (K1N.nAt rs j : Int) := fun q hq => by
  obtain ⟨e, he, rfl⟩ := List.mem_map.mp hq
  obtain ⟨h1, h2⟩ := List.mem_filter.mp he
  have h3 : e.1.1 = (j : Int) := of_decide_eq_true h2
  have h4 := h e h1
  refine ⟨h4.2.1, ?_⟩
  have := h4.2.2
  rw [h3, Int.toNat_natCast] at this
  exact this
theorem Places.nth {H : Hp} {acc : List V} {ps : List (Int × Int)} (h : Places H acc ps) {i : Nat} {x : V} (hx : acc[i]? = some x) : ∃ q, ps[i]? = some q ∧ PlaceAt H x q := paired_get h hx
theorem PlaceAt.keep {a : Addr} {H H' : Hp} {kvs : List (List Key × V)} {x : V} {p : Int × Int} (ha : H a = some (.dT kvs)) (k : Keep a H H') (h : PlaceAt H x p) : PlaceAt H' x p := by
  obtain ⟨t, rfl, ht⟩ := h
  exact ⟨t, rfl, k _ _ (ne_of ht ha (by intro z; cases z)) ht⟩
section
variable {P : Program} {w : World} {K : PySem.W.Frag} {mg : Str → Option Value} {base : Heap}
theorem ok_lclass (T : Txt K mg) {f : Addr} {fd : FuncData} (D : DefAt K mg "_law_class" sLClass ["_law_chain_here", "_law_deal_here"] f fd) : FnOk P w K mg base CX0 1 f fd ["_law_chain_here", "_law_deal_here"] spClassAt := by
  refine D.F.ok scLClass (fun vs H Q E h => ?_) (fun cdv A outer s₀ H vs Q E hr h => ?_)
  · obtain ⟨c, a, xs, rs, ds, B, rfl, _⟩ := h
    rfl
  · obtain ⟨c, a, xs, rs, ds, B, rfl, hc, hR, hl, ha, hd, k⟩ := h
    have hlen : xs.length = rs.length := paired_len hR
    have hu1 := Nat.lt_of_le_of_lt (Nat.add_le_add_left (show 1 ≤ 64 by decide) _) hr.units
    refine ⟨_, pss_cons (ps_par (i := 2) (j := 3) (by rfl) scLClass.nd rfl rfl (by decide) rfl rfl (pa_cons (pe_lst pa_nil) (pa_cons pe_int pa_nil)) (by rfl))
      (pss_cons (ps_for PassesOwn.never rfl (pi_range1 (by rfl) T.z_range (pa_cons (pe_callB call_len_seq (by rfl) T.z_len PySem.boot_len (pa_cons (pv 0) pa_nil)) pa_nil)) (pg_name (i := 4) scLClass.nd rfl (.inr rfl))
        (pss_cons (ps_asg (pe_ix ix_tup (pv 0) (pv 4) (fun _ _ => rfl)) (pg_tup (by rfl) (pgs_cons (pg_name (i := 5) scLClass.nd rfl (.inl rfl)) (pgs_cons (pg_name (i := 6) scLClass.nd rfl (.inl rfl)) pgs_nil))))
      (pss_cons (ps_lock (ps_setLc (i := 7) (own := [("_law_i", 8), ("_law_p", 9)]) (g := gTup K 2 (gCons (gName 8) (gCons (gName 9) gNil))) (by rfl) scLClass.nd rfl rfl (sw_true rfl rfl rfl (by decide +kernel)) (pi_keys (pv 1))
        (blkOk_by (N := nLClass) (sc := defScope sLClass) (by decide +kernel)) (fun _ _ _ _ _ => (pg_tup (by rfl) (pgs_cons (pg_name (i := 8) scLClass.nd rfl (.inl rfl)) (pgs_cons (pg_name (i := 9) scLClass.nd rfl (.inl rfl)) pgs_nil)))) (fun _ _ _ _ _ => pts_one (pt_cmpR op_eq (pv 8) (pv 4) (nomark _)))
        (fun _ _ _ _ _ => (pe_tup (pa_cons (pv 9) (pa_cons (pe_dget hu1 (pv 1) (pe_tup (pa_cons (pv 8) (pa_cons (pv 9) pa_nil))) (fun _ _ => rfl)) pa_nil))))))
      (pss_cons (ps_expr (pe_bm PySem.F.plainAttrs_list PySem.F.slot_list_append PySem.F.type_list_append mt_append (pv 2) (pa_cons (pe_op op_mod (pe_op op_add (pe_callB (cr_sum rfl) (by rfl) T.z_sum (by decide +kernel) (pa_cons (pe_lc (own := [("_law_p", 9), ("_law_chips", 10)]) (g := gTup K 2 (gCons (gName 9) (gCons (gName 10) gNil))) (tt := tYes) rfl scLClass.nd (pi_list (pv 7))
        (blkOk_by (N := nLClass) (sc := defScope sLClass) (by decide +kernel)) (fun _ _ _ _ _ => (pg_tup (by rfl) (pgs_cons (pg_name (i := 9) scLClass.nd rfl (.inl rfl)) (pgs_cons (pg_name (i := 10) scLClass.nd rfl (.inl rfl)) pgs_nil)))) (fun _ _ _ _ _ => pts_nil)
        (fun _ _ _ _ _ => (pe_op op_mul (pv 9) (pv 10)))) pa_nil)) (pe_op op_mul (pv 6) (pe_op op_sub (pv 3) (pv 4)))) (pv 5)) pa_nil)))
      (pss_one (ps_set (i := 3) scLClass.nd rfl (.inl rfl) (pe_op op_add (pv 3) (pe_callB (cr_sum rfl) (by rfl) T.z_sum (by decide +kernel) (pa_cons (pe_lc (own := [("_law_p", 9), ("_law_chips", 10)]) (g := gTup K 2 (gCons (gName 9) (gCons (gName 10) gNil))) (tt := tYes) rfl scLClass.nd (pi_list (pv 7))
        (blkOk_by (N := nLClass) (sc := defScope sLClass) (by decide +kernel)) (fun _ _ _ _ _ => (pg_tup (by rfl) (pgs_cons (pg_name (i := 9) scLClass.nd rfl (.inl rfl)) (pgs_cons (pg_name (i := 10) scLClass.nd rfl (.inl rfl)) pgs_nil)))) (fun _ _ _ _ _ => pts_nil)
        (fun _ _ _ _ _ => (pv 10))) pa_nil)))))))))
      (pss_one (ps_ret (pe_tup (pa_cons (pv 3) (pa_cons (pe_callTy call_tuple_of (by rfl) T.z_tuple (by decide +kernel) (pa_cons (pv 2) pa_nil)) pa_nil)))))), ?_⟩
    refine ⟨by show 0 ≤ sizeLine; decide, fun l hl0 => ⟨_, _, rfl, ?_⟩⟩
    have nla : l ≠ a := fun z => by
      rw [z, ha] at hl0
      cases hl0
    have e0 := Ex.new (o := .lst []) hl0
    refine ⟨_, rfl, c, _, rfl, .inr (SqT.of (e0 _ _ hc)), _, rfl, by omega, by omega, ?_⟩
    refine for_range (lo := 0) (n := Int.toNat _) (fun i σ' H' => ∃ (y4 y5 y6 y7 : Option V), σ' = [some (.ref c), some (.ref a), some (.ref l), some (.int (Sf (bef i) ds)), y4, y5, y6, y7, none, none, none] ∧ H' l = some (.lst ((List.range i).map fun j => V.int ((Sf (tau rs j) ds - (j : Int) * K1N.sAt rs j) % (K1N.nAt rs j : Int)))) ∧ Ex H H')
      ⟨none, none, none, none, by rw [bef_zero hd.keys]; rfl, upd_same, e0⟩ (fun i σ' H' hi hW => ?_) (fun σ' H' hW => ?_)
    · obtain ⟨y4, y5, y6, y7, rfl, w1, w2⟩ := hW
      have hi' : i < rs.length := by omega
      have e0i : (0 : Int) + (i : Int) = ((i : Nat) : Int) := by omega
      rw [e0i]
      obtain ⟨x, hx, tt, rfl, ht, n1, n2, n3, n4⟩ := rings_nth (rings_ex4 w2 hR) hi'
      refine ⟨_, rfl, _, rfl, c, xs, _, _, rfl, rfl, SqT.of (w2 _ _ hc), at_of rfl hx, tt, _, rfl, SqT.of ht, rfl, .int _, [_], rfl, .int _, [], rfl, rfl, ?_⟩
      have ha' := w2 _ _ ha
      refine ⟨a, _, ha', trivial, fun od => ?_⟩
      have k0 : Keep a H' (upd H' a (.frz od (.dT (ds.map ent)))) := keep_lock
      have g0 : (upd H' a (.frz od (.dT (ds.map ent)))) a = some (.frz od (.dT (ds.map ent))) := upd_same
      generalize upd H' a (.frz od (.dT (ds.map ent))) = H1 at k0 g0 ⊢
      refine ⟨_, rfl, a, od, rfl, .inr ⟨_, g0, fun Lq hLq => ?_⟩⟩
      have nLa : a ≠ Lq := ne_of_none g0 hLq
      have fLq : H' Lq = none := k0.free nLa.symm hLq
      refine lc_it walk_keysT (fun k H2 => ∃ acc, H2 Lq = some (.lst acc) ∧ Places H2 acc (mineOf (ds.take k) i) ∧ H2 a = some (.frz od (.dT (ds.map ent))) ∧ Keep a H' H2) ⟨[], upd_same, .nil, (upd_ne nLa).trans g0, k0.trans (Keep.ex (Ex.new hLq))⟩ (fun k H2 _ hp => hp.choose_spec.2.2.1) (fun k x H2 H3 hk hp hy => ?_) (fun H2 hp => ?_)
      · obtain ⟨acc, v1, v2, v3, v4⟩ := hp
        obtain ⟨rfl, ky, v, q, hkv, rfl, hq⟩ := hy
        rw [List.getElem?_map] at hkv
        obtain ⟨e, he, hek⟩ := Option.map_eq_some_iff.mp hkv
        cases hek
        have hem := List.mem_of_getElem? he
        have hdk := take_snoc he
        obtain ⟨⟨ej, eq⟩, ev⟩ := e
        have hq2 : H3 q = some (.tup [.int ej, .int eq]) := hq
        have gv : getE ds (ej, eq) = some ev := getE_of hd.nk hem
        refine ⟨q, _, rfl, SqT.of hq2, rfl, .int ej, [_], rfl, .int eq, [], rfl, rfl, rfl, ?_⟩
        refine ⟨_, rfl, _, rfl, rfl, _, rfl, ite2 (fun cc => ?_) (fun cc => ?_)⟩
        · have cj : ej = (i : Int) := V.int.inj (of_decide_eq_true cc)
          refine ⟨_, rfl, _, rfl, _, rfl, _, rfl, by show 2 ≤ sizeLine; decide, fun kk hkk => ⟨a, .int ev, rfl, .inr ⟨_, dk (ej, eq), kk, .inr ⟨od, Ex.new hkk _ _ v3⟩, rfl, upd_same, by rw [valV_ent, gv]; rfl⟩, ?_⟩⟩
          have x1 := Ex.new (o := .tup [.int ej, .int eq]) hkk
          refine ⟨by show 2 ≤ sizeLine; decide, fun t2 ht2 => ?_⟩
          have x2 := x1.trans (Ex.new (o := .tup [.int eq, .int ev]) ht2)
          have g2 : (upd (upd H3 kk (.tup [.int ej, .int eq])) t2 (.tup [.int eq, .int ev])) t2 = some (.tup [.int eq, .int ev]) := upd_same
          generalize upd (upd H3 kk (.tup [.int ej, .int eq])) t2 (.tup [.int eq, .int ev]) = H5 at x2 g2 ⊢
          refine ⟨acc, x2 _ _ v1, ?_, acc ++ [.ref t2], upd_same, ?_, (upd_ne nLa).trans (x2 _ _ v3), (v4.trans (Keep.ex x2)).mut fLq⟩
          · have l1 := paired_len v2
            have l2 := mine_len (ds.take k) i
            have l3 := hd.len
            have l4 : (ds.take k).length ≤ ds.length := by
              rw [List.length_take]
              omega
            exact small1000 (by omega)
          · rw [hdk, mine_snoc, if_pos cj]
            exact paired_snoc (R := PlaceAt (upd H5 Lq (.lst (acc ++ [.ref t2])))) (y := (eq, ev)) ⟨t2, rfl, (upd_ne (ne_of g2 (x2 _ _ v1) (by intro z; cases z))).trans g2⟩ (Places.updL (x2 _ _ v1) (Places.ex x2 v2))
        · have cj : ¬ ej = (i : Int) := fun z => cc (decide_eq_true (congrArg V.int z))
          refine ⟨acc, v1, ?_, v3, v4⟩
          rw [hdk, mine_snoc, if_neg cj, List.append_nil]
          exact v2
      obtain ⟨acc, v1, v2, v3, v4⟩ := hp
      rw [List.length_map, List.take_length] at v2
      refine ⟨v3, ?_⟩
      have e3 := w2.trans (Ex.of_keep ha' v4)
      have m1 : (upd H2 a (.dT (ds.map ent))) Lq = some (.lst acc) := (upd_ne nLa.symm).trans v1
      have m2 : Places (upd H2 a (.dT (ds.map ent))) acc (mineOf ds i) := paired_imp (fun x p z => by
        obtain ⟨t, rfl, ht⟩ := z
        exact ⟨t, rfl, (upd_ne (ne_of ht v3 (by intro z; cases z))).trans ht⟩) v2
      have m3 : (upd H2 a (.dT (ds.map ent))) l = _ := (upd_ne nla).trans (v4 _ _ nla w1)
      generalize upd H2 a (.dT (ds.map ent)) = H4 at e3 m1 m2 m3 ⊢
      have al : acc.length ≤ 1000 := by
        have l1 := paired_len m2
        have l2 := mine_len ds i
        have l3 := hd.len
        omega
      refine ⟨_, rfl, .inl ⟨rfl, _, SqL.of m3⟩, _, rfl, Lq, rfl, ⟨_, SqL.of m1⟩, fun L2 hL2 => ?_⟩
      refine lc_list (K := K) (a := Lq) (xs := acc) (fun k H5 => H5 L2 = some (.lst ((((mineOf ds i).take k).map fun q => q.1 * q.2).map V.int)) ∧ Ex H4 H5) ⟨upd_same, Ex.new hL2⟩ (fun k H5 _ hp => SqL.of (hp.2 _ _ m1)) (fun k x H5 hx hp => ?_) (fun H5 hp => ?_)
      · obtain ⟨u1, u2⟩ := hp
        obtain ⟨⟨qp, qc⟩, hqi, t, rfl, ht⟩ := Places.nth (Places.ex u2 m2) hx
        have hb := mine_in hd.keys i _ (List.mem_of_getElem? hqi)
        replace hb : 0 ≤ qp ∧ qp < (K1N.nAt rs i : Int) := hb
        refine ⟨t, _, rfl, SqT.of ht, rfl, .int qp, [_], rfl, .int qc, [], rfl, rfl, rfl, ?_⟩
        dsimp only [tYes]
        rw [if_pos rfl]
        refine ⟨_, rfl, _, rfl, _, _, rfl, rfl, .inl (by constructor <;> omega), _, u1, ?_, ?_, Ex.mut u2 hL2⟩
        · rw [List.length_map, List.length_map, List.length_take]
          have := paired_len m2
          exact small1000 (by omega)
        · rw [upd_same, take_snoc hqi, List.map_append, List.map_append]
          rfl
      obtain ⟨u1, u2⟩ := hp
      rw [paired_len m2, List.take_length] at u1
      refine ⟨L2, _, rfl, SqL.of u1, ?_⟩
      rw [mine_spt]
      refine ⟨_, rfl, _, rfl, _, rfl, _, _, rfl, rfl, _, _, rfl, rfl, .inl (by constructor <;> omega), _, _, rfl, rfl, _, rfl, _, _, rfl, rfl, by omega, ?_⟩
      have m3' := u2 _ _ m3
      have e5 := e3.trans u2
      refine ⟨l, _, _, rfl, rfl, m3', ?_, ?_⟩
      · rw [List.length_map, List.length_range]
        exact small1000 (by omega)
      have z1 : (upd H5 l (.lst (((List.range i).map fun j => V.int ((Sf (tau rs j) ds - (j : Int) * K1N.sAt rs j) % (K1N.nAt rs j : Int))) ++ [V.int ((Sf (spt i) ds + K1N.sAt rs i * (Sf (bef i) ds - (i : Int))) % (K1N.nAt rs i : Int))]))) l = some (.lst ((List.range (i + 1)).map fun j => V.int ((Sf (tau rs j) ds - (j : Int) * K1N.sAt rs j) % (K1N.nAt rs j : Int)))) := by
        rw [upd_same, List.range_succ, List.map_append]
        have ee : Sf (spt i) ds + K1N.sAt rs i * (Sf (bef i) ds - (i : Int)) = Sf (tau rs i) ds - (i : Int) * K1N.sAt rs i := by
          rw [← tau_parts, Int.mul_sub, Int.mul_comm (K1N.sAt rs i) (i : Int)]
          omega
        rw [ee]
        rfl
      have nlL : l ≠ Lq := fun z => by
        rw [z, fLq] at w1
        cases w1
      have z2 : Ex H (upd H5 l (.lst (((List.range i).map fun j => V.int ((Sf (tau rs j) ds - (j : Int) * K1N.sAt rs j) % (K1N.nAt rs j : Int))) ++ [V.int ((Sf (spt i) ds + K1N.sAt rs i * (Sf (bef i) ds - (i : Int))) % (K1N.nAt rs i : Int))]))) := Ex.mut e5 hl0
      have z3 : (upd H5 l (.lst (((List.range i).map fun j => V.int ((Sf (tau rs j) ds - (j : Int) * K1N.sAt rs j) % (K1N.nAt rs j : Int))) ++ [V.int ((Sf (spt i) ds + K1N.sAt rs i * (Sf (bef i) ds - (i : Int))) % (K1N.nAt rs i : Int))]))) Lq = some (.lst acc) := (upd_ne nlL.symm).trans (u2 _ _ m1)
      have z4 : Places (upd H5 l (.lst (((List.range i).map fun j => V.int ((Sf (tau rs j) ds - (j : Int) * K1N.sAt rs j) % (K1N.nAt rs j : Int))) ++ [V.int ((Sf (spt i) ds + K1N.sAt rs i * (Sf (bef i) ds - (i : Int))) % (K1N.nAt rs i : Int))]))) acc (mineOf ds i) := Places.updL m3' (Places.ex u2 m2)
      dsimp only
      generalize upd H5 l (.lst (((List.range i).map fun j => V.int ((Sf (tau rs j) ds - (j : Int) * K1N.sAt rs j) % (K1N.nAt rs j : Int))) ++ [V.int ((Sf (spt i) ds + K1N.sAt rs i * (Sf (bef i) ds - (i : Int))) % (K1N.nAt rs i : Int))])) = H6 at z1 z2 z3 z4 ⊢
      refine ⟨_, rfl, _, rfl, Lq, rfl, ⟨_, SqL.of z3⟩, fun L3 hL3 => ?_⟩
      refine lc_list (K := K) (a := Lq) (xs := acc) (fun k H7 => H7 L3 = some (.lst ((((mineOf ds i).take k).map fun q => q.2).map V.int)) ∧ Ex H6 H7) ⟨upd_same, Ex.new hL3⟩ (fun k H7 _ hp => SqL.of (hp.2 _ _ z3)) (fun k x H7 hx hp => ?_) (fun H7 hp => ?_)
      · obtain ⟨u3, u4⟩ := hp
        obtain ⟨⟨qp, qc⟩, hqi, t, rfl, ht⟩ := Places.nth (Places.ex u4 z4) hx
        refine ⟨t, _, rfl, SqT.of ht, rfl, .int qp, [_], rfl, .int qc, [], rfl, rfl, rfl, ?_⟩
        dsimp only [tYes]
        rw [if_pos rfl]
        refine ⟨_, rfl, _, u3, ?_, ?_, Ex.mut u4 hL3⟩
        · rw [List.length_map, List.length_map, List.length_take]
          have := paired_len m2
          exact small1000 (by omega)
        · rw [upd_same, take_snoc hqi, List.map_append, List.map_append]
          rfl
      obtain ⟨u3, u4⟩ := hp
      rw [paired_len m2, List.take_length] at u3
      refine ⟨L3, _, rfl, SqL.of u3, _, _, rfl, rfl, ?_⟩
      rw [mine_ind]
      exact ⟨_, _, _, _, by rw [bef_succ]; rfl, u4 _ _ z1, z2.trans u4⟩
    · obtain ⟨y4, y5, y6, y7, rfl, w1, w2⟩ := hW
      rw [show ((xs.length : Int)).toNat = rs.length by omega, bef_all hd.keys]
      rw [show ((xs.length : Int)).toNat = rs.length by omega] at w1
      refine ⟨_, rfl, _, rfl, l, _, rfl, .inl ⟨SqL.of w1, fun r1 hr1 => ⟨by show 2 ≤ sizeLine; decide, fun r2 hr2 => k r2 _ ((w2.trans (Ex.new hr1)).trans (Ex.new hr2)) ⟨r2, r1, rfl, upd_same, ?_⟩⟩⟩⟩
      show (upd _ r2 _) r1 = _
      rw [Ex.new hr2 _ _ upd_same]
      unfold cx
      rw [List.map_map]
      rfl
end
end K1

set_option exponentiation.threshold 400
namespace K1
open PySem PySem.Spec PyProof.Rows L2 Evl LX ZW ZM DM DR TE
theorem put_sum2 {f : Pl → Int} {p : Pl} {v : Int} {ds : Dl} (n : NK ds) : Sf f (putE ds p v) = Sf f ds + f p * (v - g0 ds p) := by
  have := (put_sum (f := f) (p := p) (x := v - g0 ds p) n).1
  rw [show g0 ds p + (v - g0 ds p) = v by omega] at this
  exact this
section
variable {P : Program} {w : World} {K : PySem.W.Frag} {mg : Str → Option Value} {base : Heap}
def spPlain : Sp := fun vs H Q _ => ∃ c x xs rs ps, ∃ tot : Int, vs = [.ref c, .int tot, .ref x] ∧ H c = some (.tup xs) ∧ RingsAt H 60 xs rs ∧ (1 ≤ xs.length ∧ xs.length ≤ 12) ∧ PlacesT H x ps ∧ ps.length = xs.length ∧ PlOk rs ps ∧ (tot.natAbs : Int) ≤ 10 ^ 45 ∧
  ∀ r H' res, Ex H H' → H r = none → DealAt H' r res → DOk rs res (10 ^ 46) → res.length ≤ 13 → (∀ f, Sf f res = Sf f (chipsOf ps xs.length) + (tot - xs.length) * f ((xs.length : Int) - 1, 0)) → Q (.ref r) H'
def spWritten : Sp := fun vs H Q _ => ∃ c a xs rs ds B, vs = [.ref c, .ref a] ∧ H c = some (.tup xs) ∧ RingsAt H 60 xs rs ∧ (1 ≤ xs.length ∧ xs.length ≤ 12) ∧ DealAt H a ds ∧ DOk rs ds B ∧
  ∀ r H' res, Ex H H' → DealAt H' r res → DOk rs res B → res.length ≤ ds.length → (∀ f, Nl rs f → Sf f res = Sf f ds) → Canon rs res → Q (.ref r) H'
end
end K1

/-! plain mathematics of heaps: how many columns reach to a diagonal; heaps of two rules that are one but moved -/
namespace HM
/-- just k columns end at or below the diagonal t -/
def IsF (h : List Nat) (t : Int) (k : Nat) : Prop := (∀ c, c < k → dg h c ≤ t) ∧ t < dg h k
open Classical in
noncomputable def F (h : List Nat) (t : Int) : Nat := if e : ∃ k, IsF h t k then Classical.choose e else 0
theorem dg_ge {h : List Nat} (H : IsHeap h) (c : Nat) : (c : Int) - (hAt h 0 : Int) ≤ dg h c := by
  have := H.le (Nat.zero_le c)
  unfold dg
  omega
theorem dg_le (h : List Nat) (c : Nat) : dg h c ≤ (c : Int) := by
  unfold dg
  omega
theorem exF {h : List Nat} (H : IsHeap h) (t : Int) : ∃ k, IsF h t k := by
  have key : ∀ n : Nat, (∃ k, IsF h t k) ∨ ∀ c, c < n → dg h c ≤ t := by
    intro n
    induction n with
    | zero => exact .inr fun c hc => absurd hc (Nat.not_lt_zero c)
    | succ n ih =>
      rcases ih with e | a
      · exact .inl e
      · by_cases q : dg h n ≤ t
        · refine .inr fun c hc => ?_
          rcases Nat.lt_or_ge c n with z | z
          · exact a c z
          · have : c = n := by omega
            subst this
            exact q
        · exact .inl ⟨n, a, by omega⟩
  rcases key ((t + hAt h 0 + 1).toNat + 1) with e | a
  · exact e
  · have h1 := a _ (Nat.lt_succ_self _)
    have h2 := dg_ge H (t + hAt h 0 + 1).toNat
    omega
theorem F_spec {h : List Nat} (H : IsHeap h) (t : Int) : IsF h t (F h t) := by
  unfold F
  rw [dif_pos (exF H t)]
  exact Classical.choose_spec (exF H t)
theorem IsF.uniq {h : List Nat} {t : Int} {j k : Nat} (a : IsF h t j) (b : IsF h t k) : j = k := by
  rcases Nat.lt_trichotomy j k with q | q | q
  · have := b.1 j q
    have := a.2
    omega
  · exact q
  · have := a.1 k q
    have := b.2
    omega
theorem F_eq {h : List Nat} (H : IsHeap h) {t : Int} {k : Nat} (a : IsF h t k) : F h t = k := (F_spec H t).uniq a
theorem F_mono {h : List Nat} (H : IsHeap h) (t : Int) : F h t ≤ F h (t + 1) ∧ F h (t + 1) ≤ F h t + 1 := by
  have a := F_spec H t
  have b := F_spec H (t + 1)
  constructor
  · refine Nat.le_of_not_lt fun q => ?_
    have := a.1 _ q
    have := b.2
    omega
  · refine Nat.le_of_not_lt fun q => ?_
    have h1 := b.1 _ q
    have h3 := a.2
    have h2 := dg_lt H (Nat.lt_succ_self (F h t))
    show False
    have : dg h (F h t + 1) = dg h (F h t).succ := rfl
    omega
/-- the rule of growth in these numbers -/
theorem F_grow {h : List Nat} (H : IsHeap h) {L : Int → Prop} [DecidablePred L] {g : Nat → Bool} (hg : ∀ c, g c = (opn h c && decide (L (dg h c)))) (t : Int) :
    F (grow h g) t = F h t + if L (t + 1) ∧ F h (t + 1) = F h t + 1 ∧ F h (t - 1) = F h t then 1 else 0 := by
  have ho : ∀ c, g c = true → opn h c = true := fun c z => by
    rw [hg, Bool.and_eq_true] at z
    exact z.1
  have hd : ∀ c, dg (grow h g) c = dg h c - (b2n (g c) : Int) := fun c => by
    unfold dg
    rw [hAt_grow ho]
    omega
  have G := grow_heap H ho
  have a := F_spec H t
  have ap := F_spec H (t + 1)
  have am := F_spec H (t - 1)
  have m1 := F_mono H t
  have m2 := F_mono H (t - 1)
  rw [show t - 1 + 1 = t by omega] at m2
  refine F_eq G ?_
  generalize hk : F h t = k at *
  by_cases c : L (t + 1) ∧ F h (t + 1) = k + 1 ∧ F h (t - 1) = k
  · rw [if_pos c]
    obtain ⟨c1, c2, c3⟩ := c
    rw [c2] at ap
    rw [c3] at am
    have e1 := ap.1 k (Nat.lt_succ_self k)
    have e2 := a.2
    have e : dg h k = t + 1 := by omega
    have op : opn h k = true := by
      cases k with
      | zero => rfl
      | succ j =>
        unfold opn
        rw [Bool.or_eq_true]
        refine .inr (decide_eq_true ?_)
        show hAt h (j + 1) < hAt h j
        have e3 := am.1 j (Nat.lt_succ_self j)
        unfold dg at e e3
        omega
    have gk : g k = true := by
      rw [hg, op, e, decide_eq_true c1]
      rfl
    refine ⟨fun x hx => ?_, ?_⟩
    · rw [hd]
      by_cases z : x = k
      · rw [z, gk]
        show _ - ((1 : Nat) : Int) ≤ _
        omega
      · have := a.1 x (by omega)
        omega
    · rw [hd]
      have h1 := dg_lt H (Nat.lt_succ_self k)
      have h2 := b2n_le (g (k + 1))
      have : dg h (k + 1) = dg h k.succ := rfl
      have h3 : g (k + 1) = true → False ∨ True := fun _ => .inr trivial
      by_cases z : dg h (k + 1) = t + 2
      · have : g (k + 1) = false ∨ g (k + 1) = true := by cases g (k + 1) <;> simp
        rcases this with q | q
        · rw [q]
          show _ < _ - ((0 : Nat) : Int)
          omega
        · have q2 := ho _ q
          have := opn_lt q2
          unfold dg at z e
          omega
      · omega
  · rw [if_neg c, Nat.add_zero]
    refine ⟨fun x hx => ?_, ?_⟩
    · rw [hd]
      have := a.1 x hx
      omega
    · rw [hd]
      have a2 := a.2
      cases q : g k with
      | false =>
        show _ < _ - ((0 : Nat) : Int)
        omega
      | true =>
        show _ < _ - ((1 : Nat) : Int)
        refine Int.lt_of_not_ge fun z => c ?_
        have e : dg h k = t + 1 := by omega
        have q1 := q
        rw [hg, Bool.and_eq_true] at q1
        refine ⟨by have := of_decide_eq_true q1.2; rwa [e] at this, ?_, ?_⟩
        · have : F h (t + 1) ≠ k := fun y => by
            have := ap.2
            rw [y] at this
            omega
          omega
        · refine Nat.le_antisymm m2.1 (Nat.le_of_not_lt fun y => ?_)
          have hj : k = F h (t - 1) + 1 := by omega
          have e1 := am.2
          have e2 := a.1 _ y
          have op := q1.1
          rw [hj] at op
          have := opn_lt op
          rw [hj] at e
          unfold dg at e e1 e2
          omega
/-- two heaps, the second with one column more that reaches, all diagonals moved by one -/
def Rl (h m : List Nat) : Prop := ∀ t : Int, F h t ≤ F m (t + 1) ∧ F m (t + 1) ≤ F h t + 1 ∧ F m (t + 1) + F h (t + 1) ≤ F m (t + 2) + F h t
theorem Rl.grow {h m : List Nat} (R : Rl h m) (H : IsHeap h) (M : IsHeap m) {L : Int → Prop} [DecidablePred L] (nL : ∀ d, L d → ¬ L (d + 1)) {g g' : Nat → Bool} (hg : ∀ c, g c = (opn h c && decide (L (dg h c)))) (hg' : ∀ c, g' c = (opn m c && decide (L (dg m c - 1)))) : Rl (grow h g) (grow m g') := by
  intro t
  have s := fun u => F_grow H hg u
  have s' := fun u => F_grow (L := fun d => L (d - 1)) M hg' u
  rw [s t, s (t + 1), s' (t + 1), s' (t + 2)]
  have r1 := R (t - 1)
  have r2 := R t
  have r3 := R (t + 1)
  have r4 := R (t + 2)
  have a1 := F_mono H (t - 1)
  have a2 := F_mono H t
  have a3 := F_mono H (t + 1)
  have b1 := F_mono M t
  have b2 := F_mono M (t + 1)
  have b3 := F_mono M (t + 2)
  have n1 := nL (t + 1)
  simp only [show t - 1 + 1 = t by omega, show t - 1 + 2 = t + 1 by omega, show t + 1 + 1 = t + 2 by omega, show t + 1 - 1 = t by omega, show t + 2 + 1 = t + 3 by omega, show t + 2 - 1 = t + 1 by omega, show t + 1 + 2 = t + 3 by omega, show t + 2 + 2 = t + 4 by omega, show t + 3 - 1 = t + 2 by omega] at *
  generalize F h (t - 1) = x0 at *
  generalize F h t = x1 at *
  generalize F h (t + 1) = x2 at *
  generalize F h (t + 2) = x3 at *
  generalize F h (t + 3) = x4 at *
  generalize F m t = y0 at *
  generalize F m (t + 1) = y1 at *
  generalize F m (t + 2) = y2 at *
  generalize F m (t + 3) = y3 at *
  generalize F m (t + 4) = y4 at *
  clear s s' R hg hg' nL
  by_cases p1 : L (t + 1)
  · have p2 := n1 p1
    simp only [p1, p2, true_and, false_and, if_false]
    split <;> split <;> omega
  · by_cases p2 : L (t + 2)
    · simp only [p1, p2, true_and, false_and, if_false]
      split <;> split <;> omega
    · simp only [p1, p2, false_and, if_false]
      omega
theorem F_nil (t : Int) : F [] t = (t + 1).toNat := by
  refine F_eq IsHeap.nil ⟨fun c hc => ?_, ?_⟩
  · have := dg_le [] c
    omega
  · unfold dg
    rw [hAt_ge (Nat.zero_le _)]
    omega
theorem Rl.nil : Rl [] [] := fun t => by
  rw [F_nil, F_nil, F_nil]
  omega
theorem F_low {h : List Nat} (H : IsHeap h) (t : Int) : (t + 1).toNat ≤ F h t := by
  refine Nat.le_of_not_lt fun q => ?_
  have := (F_spec H t).2
  have := dg_le h (F h t)
  omega
theorem F_high {h : List Nat} (H : IsHeap h) {t : Int} (q : (h.length : Int) ≤ t + 1) : F h t = (t + 1).toNat := by
  refine F_eq H ⟨fun c hc => ?_, ?_⟩
  · have := dg_le h c
    omega
  · unfold dg
    rw [hAt_ge (by omega)]
    omega
theorem F_zero {h : List Nat} (H : IsHeap h) {t : Int} (q : t < -(hAt h 0 : Int)) : F h t = 0 :=
  F_eq H ⟨fun c hc => absurd hc (Nat.not_lt_zero c), by unfold dg; omega⟩
theorem F_up {h : List Nat} (H : IsHeap h) {t : Int} {d : Nat} (q : t < (d : Int) - (hAt h 0 : Int)) : F h t ≤ d := by
  refine Nat.le_of_not_lt fun z => ?_
  have := (F_spec H t).1 d z
  have := dg_ge H d
  omega
theorem F_step {h : List Nat} (H : IsHeap h) (t : Int) : ∀ b : Nat, F h t ≤ F h (t + b) ∧ F h (t + b) ≤ F h t + b
  | 0 => by
    rw [show t + ((0 : Nat) : Int) = t by omega]
    omega
  | b + 1 => by
    have a := F_step H t b
    have := F_mono H (t + b)
    rw [show t + ((b + 1 : Nat) : Int) = t + b + 1 by omega]
    omega
end HM

namespace K1
open PySem PySem.Spec PyProof.Rows L2 Evl HM LX
/-- places with chips more at the left end -/
def mvp (rs : List (Int × Int)) (a : Int) (ps : List Int) : List Int := (List.range ps.length).map fun j => (ps.getD j 0 + a * K1N.sAt rs j) % (K1N.nAt rs j : Int)
theorem mvp_len (rs : List (Int × Int)) (a : Int) (ps : List Int) : (mvp rs a ps).length = ps.length := by
  unfold mvp
  rw [List.length_map, List.length_range]
theorem mvp_get (rs : List (Int × Int)) (a : Int) {ps : List Int} {j : Nat} (hj : j < ps.length) : (mvp rs a ps).getD j 0 = (ps.getD j 0 + a * K1N.sAt rs j) % (K1N.nAt rs j : Int) := by
  unfold mvp
  rw [mapr_get _ hj]
theorem mvp_zero {rs : List (Int × Int)} {ps : List Int} (h : PlOk rs ps) : mvp rs 0 ps = ps := by
  refine List.ext_getElem (mvp_len _ _ _) fun i h1 h2 => ?_
  have e := mvp_get rs 0 h2
  have q := h i h2
  rw [Int.zero_mul, Int.add_zero, Int.emod_eq_of_lt q.1 q.2] at e
  rw [List.getD_eq_getElem?_getD, List.getElem?_eq_getElem h1, List.getD_eq_getElem?_getD, List.getElem?_eq_getElem h2] at e
  exact e
theorem rule_mv (d s p a n : Int) : (d * s - (p + a * s) % n) % n = 0 ↔ ((d - a) * s - p) % n = 0 := by
  have e : ((d - a) * s - p) % n = (d * s - (p + a * s) % n) % n := by
    have := Int.mul_ediv_add_emod (p + a * s) n
    rw [show (d - a) * s - p = (d * s - (p + a * s) % n) + n * (-((p + a * s) / n)) by rw [Int.sub_mul, Int.mul_neg]; omega, Int.add_mul_emod_self_left]
  rw [e]
theorem mv_rel {rs : List (Int × Int)} {ps : List Int} (ok : ∀ j, j < ps.length → 1 ≤ K1N.sAt rs j ∧ K1N.sAt rs j < (K1N.nAt rs j : Int)) (a : Int) : ∀ i, i ≤ ps.length → Rl (hseq rs (mvp rs a ps) i) (hseq rs (mvp rs (a + 1) ps) i)
  | 0, _ => Rl.nil
  | i + 1, hi => by
    have R := mv_rel ok a i (by omega)
    obtain ⟨o1, o2⟩ := ok i hi
    have e1 := mvp_get rs a (show i < ps.length from hi)
    have e2 := mvp_get rs (a + 1) (show i < ps.length from hi)
    show Rl (grow _ (gl _ _ _ ((mvp rs a ps).getD i 0))) (grow _ (gl _ _ _ ((mvp rs (a + 1) ps).getD i 0)))
    rw [e1, e2]
    generalize (K1N.nAt rs i : Int) = n at *
    generalize K1N.sAt rs i = s at *
    generalize ps.getD i 0 = p at *
    refine R.grow (hseq_ok rs _ i).1 (hseq_ok rs _ i).1 (L := fun d => ((d - a) * s - p) % n = 0) (fun d h1 h2 => ?_) (fun c => ?_) (fun c => ?_)
    · have h3 : ((d + 1 - a) * s - p) % n = 0 := h2
      rw [show (d + 1 - a) * s - p = ((d - a) * s - p) + s by rw [show d + 1 - a = (d - a) + 1 by omega, Int.add_mul]; omega] at h3
      have h4 := Int.emod_emod_of_dvd s (Int.dvd_refl n)
      have h5 : s % n = 0 := by
        have h1' : ((d - a) * s - p) % n = 0 := h1
        have := Int.emod_eq_emod_iff_emod_sub_eq_zero (m := ((d - a) * s - p) + s) (n := n) (k := ((d - a) * s - p))
        have h6 := this.mp (by rw [h3, h1'])
        rw [show ((d - a) * s - p) + s - ((d - a) * s - p) = s by omega] at h6
        exact h6
      rw [Int.emod_eq_of_lt (by omega) o2] at h5
      omega
    · unfold gl
      rw [decide_eq_decide.mpr (rule_mv (dg _ c) s p a n)]
    · unfold gl
      rw [decide_eq_decide.mpr ((rule_mv (dg _ c) s p (a + 1) n).trans (by rw [show dg (hseq rs (mvp rs (a + 1) ps) i) c - (a + 1) = dg (hseq rs (mvp rs (a + 1) ps) i) c - 1 - a by omega]))]
theorem mv_steps {rs : List (Int × Int)} {ps : List Int} (ok : ∀ j, j < ps.length → 1 ≤ K1N.sAt rs j ∧ K1N.sAt rs j < (K1N.nAt rs j : Int)) (a t : Int) : ∀ k : Nat,
    F (hseq rs (mvp rs a ps) ps.length) t ≤ F (hseq rs (mvp rs (a + k) ps) ps.length) (t + k) ∧ F (hseq rs (mvp rs (a + k) ps) ps.length) (t + k) ≤ F (hseq rs (mvp rs a ps) ps.length) t + k
  | 0 => by
    rw [show a + ((0 : Nat) : Int) = a by omega, show t + ((0 : Nat) : Int) = t by omega]
    omega
  | k + 1 => by
    have h := mv_steps ok a t k
    have r := mv_rel ok (a + k) ps.length (Nat.le_refl _) (t + k)
    rw [show a + ((k + 1 : Nat) : Int) = a + k + 1 by omega, show t + ((k + 1 : Nat) : Int) = t + k + 1 by omega]
    omega
/-- richness and 1, by columns -/
noncomputable def rich1 (rs : List (Int × Int)) (ps : List Int) (tot : Int) : Nat := F (hseq rs ps ps.length) (tot - ps.length)
theorem rich_ends {rs : List (Int × Int)} {ps : List Int} (ok : ∀ j, j < ps.length → 1 ≤ K1N.sAt rs j ∧ K1N.sAt rs j < (K1N.nAt rs j : Int)) (hp : PlOk rs ps) (tot a b : Int) :
    (((rich1 rs (mvp rs a ps) (tot + a + b) : Int) - (rich1 rs ps tot : Int)).natAbs) ≤ a.natAbs + b.natAbs := by
  unfold rich1
  rw [mvp_len]
  have H0 := (hseq_ok rs ps ps.length).1
  have Ha := (hseq_ok rs (mvp rs a ps) ps.length).1
  have e0 := mvp_zero hp
  rw [show tot + a + b - (ps.length : Int) = tot - (ps.length : Int) + a + b by omega]
  generalize tot - (ps.length : Int) = t
  have h1 : ((F (hseq rs (mvp rs a ps) ps.length) (t + a) : Int) - (F (hseq rs ps ps.length) t : Int)).natAbs ≤ a.natAbs := by
    by_cases ha : 0 ≤ a
    · have := mv_steps ok 0 t a.toNat
      rw [e0, show (0 : Int) + (a.toNat : Int) = a by omega, show t + (a.toNat : Int) = t + a by omega] at this
      omega
    · have := mv_steps ok a (t + a) (-a).toNat
      rw [show a + ((-a).toNat : Int) = 0 by omega, e0, show t + a + ((-a).toNat : Int) = t by omega] at this
      omega
  have h2 : ((F (hseq rs (mvp rs a ps) ps.length) (t + a + b) : Int) - (F (hseq rs (mvp rs a ps) ps.length) (t + a) : Int)).natAbs ≤ b.natAbs := by
    by_cases hb : 0 ≤ b
    · have := F_step Ha (t + a) b.toNat
      rw [show t + a + (b.toNat : Int) = t + a + b by omega] at this
      omega
    · have := F_step Ha (t + a + b) (-b).toNat
      rw [show t + a + b + ((-b).toNat : Int) = t + a by omega] at this
      omega
  omega
/-- what bounds richness -/
theorem rich_low (rs : List (Int × Int)) (ps : List Int) (tot : Int) : tot - ps.length + 1 ≤ (rich1 rs ps tot : Int) := by
  have := F_low (hseq_ok rs ps ps.length).1 (tot - ps.length)
  unfold rich1
  omega
theorem rich_neg (rs : List (Int × Int)) (ps : List Int) {tot : Int} (h : tot < 0) : rich1 rs ps tot = 0 := by
  have q := (hseq_ok rs ps ps.length)
  exact F_zero q.1 (by have := q.2.2; omega)
theorem rich_up (rs : List (Int × Int)) (ps : List Int) {tot : Int} (h : 0 ≤ tot) : (rich1 rs ps tot : Int) ≤ tot + 1 := by
  have q := (hseq_ok rs ps ps.length)
  have := F_up q.1 (t := tot - ps.length) (d := (tot + 1).toNat) (by have := q.2.2; omega)
  unfold rich1
  omega
theorem rich_great (rs : List (Int × Int)) (ps : List Int) {tot : Int} (h : 2 * (ps.length : Int) - 2 < tot) : rich1 rs ps tot = (tot - ps.length + 1).toNat := by
  have q := (hseq_ok rs ps ps.length)
  exact F_high q.1 (by have := q.2.1; omega)
end K1

set_option exponentiation.threshold 400
namespace K1
open PySem PySem.Spec PyProof.Rows L2 Evl HM LX ZW ZM DM DR TE
theorem F_next {h : List Nat} (H : IsHeap h) {t : Int} {m : Nat} (hm : m ≤ F h t) (q : dg h m ≤ t) : m + 1 ≤ F h t := by
  have := (F_spec H t).2
  rcases Nat.lt_or_ge m (F h t) with z | z
  · exact z
  · have e : m = F h t := by omega
    rw [← e] at this
    omega
theorem F_stop {h : List Nat} (H : IsHeap h) {t : Int} {m : Nat} (hm : m ≤ F h t) (q : t < dg h m) : F h t = m := by
  rcases Nat.lt_or_ge m (F h t) with z | z
  · have := (F_spec H t).1 m z
    omega
  · omega
section
variable {P : Program} {w : World} {K : PySem.W.Frag} {mg : Str → Option Value} {base : Heap}
def spHasBox : Sp := fun vs H Q _ => ∃ p h, ∃ (k : Nat) (r : Int), vs = [.ref p, .int ((k : Int) + 1), .int r] ∧ HeapAt H p h ∧ 1 ≤ r ∧ ∀ H', Ex H H' → Q (.bl (decide (r ≤ (hAt h k : Int)))) H'
theorem ok_has_box (T : Txt K mg) {f : Addr} {fd : FuncData} (D : DefAt K mg "has_box" sHasBox ["heap", "columns", "rows"] f fd) : FnOk P w K mg base CX0 2 f fd ["heap", "columns", "rows"] spHasBox := by
  refine D.F.ok scHasBox (fun vs H Q E h => ?_) (fun cdv A outer s₀ H vs Q E hr h => ?_)
  · obtain ⟨p, h, k, r, rfl, _⟩ := h
    rfl
  · obtain ⟨p, h, k, r, rfl, hp, h1, q⟩ := h
    obtain ⟨f1, fd1, D1⟩ := T.d_height_at
    have hr1 : Room 1 _ := hr.mono (by decide)
    refine ⟨_, pss_one (ps_ret (pe_or (pe_cmpR op_lt (pv 1) pe_int (nomark _)) (pe_or (pe_cmpR op_lt (pv 2) pe_int (nomark _)) (pe_one (pe_cmpR op_ge (pe_call (ok_height_at T D1) hr1 (by rfl) D1.g D1.F.kp D1.b .nil pass0 (pa_cons (pv 0) (pa_cons (pe_op op_sub (pv 1) pe_int) pa_nil))) (pv 2) (nomark _)))))), ?_⟩
    refine ⟨_, rfl, _, _, rfl, rfl, _, rfl, ?_⟩
    rw [decide_eq_false (show ¬ ((k : Int) + 1 < 1) by omega)]
    refine iteF ⟨_, rfl, _, _, rfl, rfl, _, rfl, ?_⟩
    rw [decide_eq_false (show ¬ (r < 1) by omega)]
    refine iteF ⟨_, rfl, _, rfl, _, _, rfl, rfl, p, h, k, ?_, hp, fun H1 e1 => ⟨_, rfl, _, _, rfl, rfl, q _ e1⟩⟩
    dsimp only
    rw [show (k : Int) + 1 - 1 = (k : Int) by omega]
    rfl
end
end K1

set_option exponentiation.threshold 400
namespace K1
open PySem PySem.Spec PyProof.Rows L2 Evl HM LX ZW ZM DM DR TE
section
variable {P : Program} {w : World} {K : PySem.W.Frag} {mg : Str → Option Value} {base : Heap}
def spRichnessAt : Sp := fun vs H Q _ => ∃ c a xs rs ps, ∃ deg : Int, vs = [.ref c, .int deg, .ref a] ∧ H c = some (.tup xs) ∧ RingsAt H 60 xs rs ∧ xs.length ≤ 12 ∧ PlacesT H a ps ∧ ps.length = xs.length ∧ ∀ H', Ex H H' → Q (.int ((rich1 rs ps deg : Int) - 1)) H'
theorem ok_richness_at (T : Txt K mg) {f : Addr} {fd : FuncData} (D : DefAt K mg "richness_at" sRichnessAt ["chain", "degree", "places"] f fd) : FnOk P w K mg base CX0 5 f fd ["chain", "degree", "places"] spRichnessAt := by
  refine D.F.ok scRichnessAt (fun vs H Q E h => ?_) (fun cdv A outer s₀ H vs Q E hr h => ?_)
  · obtain ⟨c, a, xs, rs, ps, deg, rfl, _⟩ := h
    rfl
  · obtain ⟨c, a, xs, rs, ps, deg, rfl, hc, hR, hl, ha, hlen, q⟩ := h
    obtain ⟨f1, fd1, D1⟩ := T.d_has_box
    obtain ⟨f2, fd2, D2⟩ := T.d_heaps_of
    have hr2 : Room 2 _ := hr.mono (by decide)
    have hr4 : Room 4 _ := hr.mono (by decide)
    refine ⟨_, pss_cons (ps_set (i := 3) scRichnessAt.nd rfl (.inl rfl) (pe_ix ix_list (pe_call (ok_heaps_of T D2) hr4 (by rfl) D2.g D2.F.kp D2.b .nil pass0 (pa_cons (pv 0) (pa_cons (pv 2) pa_nil))) (pe_un un_neg pe_int) (fun _ _ => rfl)))
      (pss_cons (ps_set (i := 4) scRichnessAt.nd rfl (.inl rfl) (pe_op op_sub (pe_callB call_len_seq (by rfl) T.z_len PySem.boot_len (pa_cons (pv 0) pa_nil)) (pv 1)))
      (pss_cons (ps_set (i := 5) scRichnessAt.nd rfl (.inl rfl) (pe_callB (call_max2 rfl) (by rfl) T.z_max (by decide +kernel) (pa_cons pe_int (pa_cons (pe_op op_sub pe_int (pv 4)) pa_nil))))
      (pss_cons (ps_while PassesOwn.never (pt_val (pe_call (ok_has_box T D1) hr2 (by rfl) D1.g D1.F.kp D1.b .nil pass0 (pa_cons (pv 3) (pa_cons (pe_op op_add (pv 5) pe_int) (pa_cons (pe_op op_add (pv 4) (pv 5)) pa_nil))))) (pss_one (ps_aug (i := 5) scRichnessAt.nd rfl (.inl rfl) pe_int ip_add)))
      (pss_one (ps_ret (pe_op op_sub (pv 5) pe_int)))))), ?_⟩
    refine ⟨_, rfl, _, rfl, c, a, xs, rs, ps, rfl, hc, hR, hl, ha, hlen, fun p as H1 e1 hp0 hp hal hh => ?_⟩
    have IH := (hseq_ok rs ps xs.length).1
    have hb := hh _ _ (List.getElem?_eq_getElem (show xs.length < as.length by omega))
    refine ⟨1, rfl, p, _, -1, _, rfl, rfl, SqL.of hp, at_end hal, ?_⟩
    generalize as[xs.length]'(by omega) = b at hb ⊢
    refine ⟨_, rfl, c, _, rfl, .inr (SqT.of (e1 _ _ hc)), _, rfl, _, _, rfl, rfl, ?_⟩
    have low := F_low IH (deg - xs.length)
    have er : rich1 rs ps deg = F (hseq rs ps xs.length) (deg - xs.length) := by
      unfold rich1
      rw [hlen]
    generalize hseq rs ps xs.length = h at IH hb low er
    generalize htt : deg - (xs.length : Int) = t at low er
    refine ⟨_, rfl, _, _, rfl, rfl, 0, _, rfl, ?_⟩
    have hm : (if 1 - ((xs.length : Int) - deg) > 0 then 1 - ((xs.length : Int) - deg) else 0) = (((t + 1).toNat : Nat) : Int) := by
      split <;> omega
    rw [hm]
    refine ⟨fun n σ' H' => ∃ m : Nat, n = F h t - m ∧ m ≤ F h t ∧ (t + 1).toNat ≤ m ∧ σ' = [some (.ref c), some (.int deg), some (.ref a), some (.ref b), some (.int ((xs.length : Int) - deg)), some (.int (m : Int))] ∧ Ex H1 H', ⟨_, _, rfl, low, Nat.le_refl _, rfl, Ex.refl _⟩, fun n σ' H' hW => ?_⟩
    obtain ⟨m, rfl, w1, w2, rfl, e⟩ := hW
    have hd : dg h m = (m : Int) - (hAt h m : Int) := rfl
    refine ⟨_, rfl, _, rfl, _, _, rfl, rfl, _, rfl, _, rfl, _, _, rfl, rfl, b, h, m, _, rfl, e _ _ hb, ?_, fun H2 e2 => ⟨_, rfl, ?_⟩⟩
    · omega
    dsimp only
    by_cases z : (xs.length : Int) - deg + (m : Int) ≤ (hAt h m : Int)
    · rw [decide_eq_true z]
      have nx := F_next IH (t := t) w1 (by omega)
      refine iteT ⟨fun σ2 H3 => σ2 = [some (.ref c), some (.int deg), some (.ref a), some (.ref b), some (.int ((xs.length : Int) - deg)), some (.int ((m + 1 : Nat) : Int))] ∧ H3 = H2, fun σ2 H3 hN => ?_, ?_⟩
      · obtain ⟨rfl, rfl⟩ := hN
        exact ⟨F h t - (m + 1), by omega, m + 1, rfl, nx, by omega, rfl, e.trans e2⟩
      · exact ⟨_, rfl, _, _, rfl, rfl, rfl, rfl⟩
    · rw [decide_eq_false z]
      have st := F_stop IH (t := t) w1 (by omega)
      refine iteF ⟨_, rfl, _, _, rfl, rfl, ?_⟩
      have := q _ ((e1.trans e).trans e2)
      rw [er, st] at this
      exact this
end
end K1

set_option exponentiation.threshold 400
namespace K1
open PySem PySem.Spec PyProof.Rows L2 Evl HM LX ZW ZM DM DR TE
section
variable {P : Program} {w : World} {K : PySem.W.Frag} {mg : Str → Option Value} {base : Heap}
def spRichnessOf : Sp := fun vs H Q _ => ∃ c a xs rs ds B, vs = [.ref c, .ref a] ∧ H c = some (.tup xs) ∧ RingsAt H 60 xs rs ∧ xs.length ≤ 12 ∧ DealAt H a ds ∧ DOk rs ds B ∧ ∀ H', Ex H H' → Q (.int ((rich1 rs (cx rs fun i => Sf (tau rs i) ds) (Sf one ds) : Int) - 1)) H'
theorem ok_richness_of (T : Txt K mg) {f : Addr} {fd : FuncData} (D : DefAt K mg "richness_of" sRichnessOf ["chain", "deal"] f fd) : FnOk P w K mg base CX0 6 f fd ["chain", "deal"] spRichnessOf := by
  refine D.F.ok scRichnessOf (fun vs H Q E h => ?_) (fun cdv A outer s₀ H vs Q E hr h => ?_)
  · obtain ⟨c, a, xs, rs, ds, B, rfl, _⟩ := h
    rfl
  · obtain ⟨c, a, xs, rs, ds, B, rfl, hc, hR, hl, ha, da, q⟩ := h
    obtain ⟨f1, fd1, D1⟩ := T.d_richness_at
    obtain ⟨f2, fd2, D2⟩ := T.d_class_at
    have hr1 : Room 1 _ := hr.mono (by decide)
    have hr5 : Room 5 _ := hr.mono (by decide)
    refine ⟨_, pss_cons (ps_asg (pe_call (ok_class_at T D2) hr1 (by rfl) D2.g D2.F.kp D2.b .nil pass0 (pa_cons (pv 0) (pa_cons (pv 1) pa_nil))) (pg_tup (by rfl) (pgs_cons (pg_name (i := 2) scRichnessOf.nd rfl (.inl rfl)) (pgs_cons (pg_name (i := 3) scRichnessOf.nd rfl (.inl rfl)) pgs_nil))))
      (pss_one (ps_ret (pe_call (ok_richness_at T D1) hr5 (by rfl) D1.g D1.F.kp D1.b .nil pass0 (pa_cons (pv 0) (pa_cons (pv 2) (pa_cons (pv 3) pa_nil)))))), ?_⟩
    refine ⟨_, rfl, _, rfl, c, a, xs, rs, ds, B, rfl, hc, hR, hl, ha, da, fun r1 H1 e1 q1 => ?_⟩
    obtain ⟨t1, x, er, ht1, hx⟩ := id q1
    cases er
    have hlen : xs.length = rs.length := paired_len hR
    refine ⟨r1, _, rfl, SqT.of ht1, rfl, .int _, [_], rfl, .ref x, [], rfl, rfl, ?_⟩
    refine ⟨_, rfl, _, rfl, _, rfl, c, x, xs, rs, _, _, rfl, e1 _ _ hc, rings_ex4 e1 hR, hl, hx, by rw [cx_len, hlen], fun H2 e2 => ?_⟩
    exact q _ (e1.trans e2)
end
end K1

set_option exponentiation.threshold 400
namespace K1
open PySem PySem.Spec PyProof.Rows L2 Evl HM LX ZW ZM DM DR TE
theorem iteT' {b : Bool} {A B : Prop} (h : b = true) (a : A) : if b = true then A else B := by
  rw [if_pos h]
  exact a
section
variable {P : Program} {w : World} {K : PySem.W.Frag} {mg : Str → Option Value} {base : Heap}
def spRichness : Sp := fun vs H Q _ => ∃ c a xs rs ds, vs = [.ref c, .ref a] ∧ H c = some (.tup xs) ∧ RingsAt H 60 xs rs ∧ (1 ≤ xs.length ∧ xs.length ≤ 12) ∧ DealAt H a ds ∧ DOk rs ds (10 ^ 50) ∧ ∀ H', Ex H H' → Q (.int ((rich1 rs (cx rs fun i => Sf (tau rs i) ds) (Sf one ds) : Int) - 1)) H'
theorem ok_richness (T : Txt K mg) {f : Addr} {fd : FuncData} (D : DefAt K mg "richness" sRichness ["chain", "deal"] f fd) : FnOk P w K mg base CX0 7 f fd ["chain", "deal"] spRichness := by
  refine D.F.ok scRichness (fun vs H Q E h => ?_) (fun cdv A outer s₀ H vs Q E hr h => ?_)
  · obtain ⟨c, a, xs, rs, ds, rfl, _⟩ := h
    rfl
  · obtain ⟨c, a, xs, rs, ds, rfl, hc, hR, hl, ha, da, q⟩ := h
    obtain ⟨f1, fd1, D1⟩ := T.d_richness_of
    obtain ⟨f2, fd2, D2⟩ := T.d_check_deal
    obtain ⟨f3, fd3, D3⟩ := T.d_check_chain
    have hr5 : Room 5 _ := hr.mono (by decide)
    have hr6 : Room 6 _ := hr.mono (by decide)
    refine ⟨_, pss_cons (ps_expr (pe_call (ok_check_chain T D3) hr5 (by rfl) D3.g D3.F.kp D3.b .nil pass0 (pa_cons (pv 0) pa_nil)))
      (pss_cons (ps_expr (pe_call (ok_check_deal T D2) hr5 (by rfl) D2.g D2.F.kp D2.b .nil pass0 (pa_cons (pv 0) (pa_cons (pv 1) pa_nil))))
      (pss_one (ps_ret (pe_call (ok_richness_of T D1) hr6 (by rfl) D1.g D1.F.kp D1.b .nil pass0 (pa_cons (pv 0) (pa_cons (pv 1) pa_nil)))))), ?_⟩
    refine ⟨_, rfl, .ref c, rfl, rings_chain4 hR hc hl.1 hl.2, fun H1 e1 => ?_⟩
    refine ⟨_, rfl, _, rfl, c, a, xs, rs, ds, rfl, e1 _ _ hc, rings_ex4 e1 hR, hl.2, e1 _ _ ha, da, fun H2 e2 => ?_⟩
    have e12 := e1.trans e2
    exact ⟨_, rfl, _, rfl, c, a, xs, rs, ds, _, rfl, e12 _ _ hc, rings_ex4 e12 hR, hl.2, e12 _ _ ha, da, fun H3 e3 => q _ (e12.trans e3)⟩
def spRich : Sp := fun vs H Q _ => ∃ p rs ps, ∃ tot : Int, vs = [.ref p, .int (ps.length : Int), .int tot] ∧ ps.length ≤ 12 ∧ HeapAt H p (hseq rs ps ps.length) ∧ ∀ H', Ex H H' → Q (.int ((rich1 rs ps tot : Int) - 1)) H'
end
end K1

/-! the map of a chain: exchanges of neighbours, ring by ring; what it counts; plain mathematics -/
namespace MP
/-- exchanged where they rise -/
def stepP (M : Int → Bool) (f : Int → Int) (i : Int) : Int := if M i = true then max (f i) (f (i + 1)) else if M (i - 1) = true then min (f (i - 1)) (f i) else f i
/-- no two neighbours -/
def Sparse (M : Int → Bool) : Prop := ∀ i, M i = true → M (i + 1) = false
theorem Sparse.ahead {M : Int → Bool} (S : Sparse M) {i : Int} (h : M i = true) : M (i - 1) = false := by
  cases q : M (i - 1) with
  | false => rfl
  | true =>
    have := S _ q
    rw [show i - 1 + 1 = i by omega, h] at this
    cases this
theorem stepP_at {M : Int → Bool} {f : Int → Int} {i : Int} (h : M i = true) : stepP M f i = max (f i) (f (i + 1)) := if_pos h
theorem stepP_next {M : Int → Bool} (S : Sparse M) {f : Int → Int} {i : Int} (h : M i = true) : stepP M f (i + 1) = min (f i) (f (i + 1)) := by
  unfold stepP
  rw [if_neg (by rw [S i h]; decide), show i + 1 - 1 = i by omega, if_pos h]
theorem stepP_none {M : Int → Bool} {f : Int → Int} (h : ∀ i, M i = false) : stepP M f = f := by
  funext i
  unfold stepP
  rw [if_neg (by rw [h]; decide), if_neg (by rw [h]; decide)]
/-- the map, the last ring first -/
def pmap : List (Int → Bool) → (Int → Int) → Int → Int
  | [], f => f
  | M :: Ms, f => stepP M (pmap Ms f)
theorem pmap_bound {e : Int} : ∀ (Ms : List (Int → Bool)) (i : Int), i + e - Ms.length ≤ pmap Ms (fun i => i + e) i ∧ pmap Ms (fun i => i + e) i ≤ i + e + Ms.length
  | [], i => by
    show i + e - 0 ≤ i + e ∧ i + e ≤ i + e + 0
    omega
  | M :: Ms, i => by
    have h0 := pmap_bound (e := e) Ms i
    have h1 := pmap_bound (e := e) Ms (i + 1)
    have h2 := pmap_bound (e := e) Ms (i - 1)
    rw [List.length_cons]
    show i + e - ((Ms.length + 1 : Nat) : Int) ≤ stepP M _ i ∧ stepP M _ i ≤ i + e + ((Ms.length + 1 : Nat) : Int)
    unfold stepP
    split
    · omega
    · split
      · omega
      · omega
/-- each value once -/
def Bij (f : Int → Int) : Prop := ∀ t, ∃ i, f i = t ∧ ∀ j, f j = t → j = i
theorem Bij.inj {f : Int → Int} (B : Bij f) {i j : Int} (h : f i = f j) : i = j := by
  obtain ⟨k, _, h2⟩ := B (f i)
  rw [h2 i rfl, h2 j h.symm]
/-- where the value comes from -/
def sw (M : Int → Bool) (f : Int → Int) (i : Int) : Int := if M i = true then (if f i < f (i + 1) then i + 1 else i) else if M (i - 1) = true then (if f (i - 1) < f i then i - 1 else i) else i
theorem step_sw (M : Int → Bool) (f : Int → Int) (i : Int) : stepP M f i = f (sw M f i) := by
  unfold stepP sw
  by_cases m : M i = true
  · rw [if_pos m, if_pos m]
    split <;> omega
  · rw [if_neg m, if_neg m]
    by_cases m2 : M (i - 1) = true
    · rw [if_pos m2, if_pos m2]
      split <;> omega
    · rw [if_neg m2, if_neg m2]
theorem sw_sw {M : Int → Bool} (S : Sparse M) (f : Int → Int) (i : Int) : sw M f (sw M f i) = i := by
  by_cases m : M i = true
  · by_cases c : f i < f (i + 1)
    · have e : sw M f i = i + 1 := by
        unfold sw
        rw [if_pos m, if_pos c]
      rw [e]
      unfold sw
      rw [if_neg (by rw [S i m]; decide), show i + 1 - 1 = i by omega, if_pos m, if_pos c]
    · have e : sw M f i = i := by
        unfold sw
        rw [if_pos m, if_neg c]
      rw [e, e]
  · by_cases m2 : M (i - 1) = true
    · by_cases c : f (i - 1) < f i
      · have e : sw M f i = i - 1 := by
          unfold sw
          rw [if_neg m, if_pos m2, if_pos c]
        rw [e]
        unfold sw
        rw [if_pos m2, show i - 1 + 1 = i by omega, if_pos c]
      · have e : sw M f i = i := by
          unfold sw
          rw [if_neg m, if_pos m2, if_neg c]
        rw [e, e]
    · have e : sw M f i = i := by
        unfold sw
        rw [if_neg m, if_neg m2]
      rw [e, e]
theorem bij_step {M : Int → Bool} (S : Sparse M) {f : Int → Int} (B : Bij f) : Bij (stepP M f) := by
  intro t
  obtain ⟨i, hi, u⟩ := B t
  refine ⟨sw M f i, by rw [step_sw, sw_sw S, hi], fun j hj => ?_⟩
  rw [step_sw] at hj
  have := u _ hj
  rw [← this, sw_sw S]
theorem bij_pmap {e : Int} : ∀ Ms : List (Int → Bool), (∀ M ∈ Ms, Sparse M) → Bij (pmap Ms fun i => i + e)
  | [], _ => fun t => ⟨t - e, by show t - e + e = t; omega, fun j hj => by have : j + e = t := hj; omega⟩
  | M :: Ms, h => bij_step (h M (List.mem_cons_self ..)) (bij_pmap Ms fun N hN => h N (List.mem_cons_of_mem _ hN))
/-! ### what is counted -/
def opN (M : Int → Bool) (F : Int → Int) (v : Int) : Int := if M v = true then min (F (v - 1) + 1) (F (v + 1)) else F v
def opE (M : Int → Bool) (E : Int → Int) (v : Int) : Int := if M v = true then min (E (v + 1) + 1) (E (v - 1)) else E v
def Up (F : Int → Int) : Prop := ∀ v, F (v - 1) ≤ F v ∧ F v ≤ F (v - 1) + 1
def Down (E : Int → Int) : Prop := ∀ v, E v ≤ E (v - 1) ∧ E (v - 1) ≤ E v + 1
def ind (b : Int) (f : Int → Int) (v : Int) : Int := if -b ≤ f v then 1 else 0
/-- F counts the values of f from -b on -/
def Counts (b : Int) (f F : Int → Int) : Prop := ∀ v, F v - F (v - 1) = ind b f v
theorem Counts.up {b : Int} {f F : Int → Int} (C : Counts b f F) : Up F := fun v => by
  have := C v
  unfold ind at this
  split at this <;> omega
theorem counts_step {M : Int → Bool} (S : Sparse M) {b : Int} {f F : Int → Int} (C : Counts b f F) : Counts b (stepP M f) (opN M F) := fun v => by
  have c0 : F v - F (v - 1) = if -b ≤ f v then 1 else 0 := C v
  have c1 : F (v + 1) - F (v + 1 - 1) = if -b ≤ f (v + 1) then 1 else 0 := C (v + 1)
  have c2 : F (v - 1) - F (v - 1 - 1) = if -b ≤ f (v - 1) then 1 else 0 := C (v - 1)
  rw [show v + 1 - 1 = v by omega] at c1
  rw [show v - 1 - 1 = v - 2 by omega] at c2
  show opN M F v - opN M F (v - 1) = if -b ≤ stepP M f v then 1 else 0
  by_cases m : M v = true
  · have e1 : opN M F v = min (F (v - 1) + 1) (F (v + 1)) := if_pos m
    have e2 : opN M F (v - 1) = F (v - 1) := if_neg (by rw [S.ahead m]; decide)
    rw [e1, e2, stepP_at m]
    split at c0 <;> split at c1 <;> split <;> omega
  · have e1 : opN M F v = F v := if_neg m
    rw [e1]
    by_cases m2 : M (v - 1) = true
    · have e2 : opN M F (v - 1) = min (F (v - 1 - 1) + 1) (F (v - 1 + 1)) := if_pos m2
      have e3 := stepP_next S (f := f) m2
      rw [show v - 1 + 1 = v by omega] at e3
      rw [e2, show v - 1 - 1 = v - 2 by omega, show v - 1 + 1 = v by omega, e3]
      split at c0 <;> split at c2 <;> split <;> omega
    · have e2 : opN M F (v - 1) = F (v - 1) := if_neg m2
      have e3 : stepP M f v = f v := by
        unfold stepP
        rw [if_neg m, if_neg m2]
      rw [e2, e3]
      exact c0
def napp : List (Int → Bool) → (Int → Int) → Int → Int
  | [], F => F
  | M :: Ms, F => opN M (napp Ms F)
theorem counts_pmap {b : Int} {f F : Int → Int} (C : Counts b f F) : ∀ Ms : List (Int → Bool), (∀ M ∈ Ms, Sparse M) → Counts b (pmap Ms f) (napp Ms F)
  | [], _ => C
  | M :: Ms, h => counts_step (h M (List.mem_cons_self ..)) (counts_pmap C Ms fun N hN => h N (List.mem_cons_of_mem _ hN))
/-- the beginning: all from V + 1 on -/
def base (V v : Int) : Int := max 0 (v - V)
theorem counts_base {b e : Int} : Counts b (fun i => i + e) (base (-b - e - 1)) := fun v => by
  show max 0 (v - (-b - e - 1)) - max 0 (v - 1 - (-b - e - 1)) = if -b ≤ v + e then 1 else 0
  split <;> omega
theorem napp_low {V : Int} : ∀ (Ms : List (Int → Bool)) (v : Int), 0 ≤ napp Ms (base V) v ∧ (v ≤ V - Ms.length → napp Ms (base V) v = 0)
  | [], v => by
    show 0 ≤ base V v ∧ (v ≤ V - 0 → base V v = 0)
    unfold base
    omega
  | M :: Ms, v => by
    have h0 := napp_low (V := V) Ms v
    have h1 := napp_low (V := V) Ms (v + 1)
    have h2 := napp_low (V := V) Ms (v - 1)
    rw [List.length_cons]
    show 0 ≤ opN M _ v ∧ (v ≤ V - ((Ms.length + 1 : Nat) : Int) → opN M _ v = 0)
    unfold opN
    split
    · constructor
      · omega
      · intro h
        have := h1.2 (by omega)
        omega
    · exact ⟨h0.1, fun h => h0.2 (by omega)⟩
theorem opE_down {M : Int → Bool} (S : Sparse M) {E : Int → Int} (D : Down E) : Down (opE M E) := fun v => by
  have d0 := D v
  have d1 := D (v + 1)
  have d2 := D (v - 1)
  rw [show v + 1 - 1 = v by omega] at d1
  rw [show v - 1 - 1 = v - 2 by omega] at d2
  unfold opE
  rw [show v - 1 - 1 = v - 2 by omega, show v - 1 + 1 = v by omega]
  by_cases m : M v = true
  · rw [if_pos m, if_neg (by rw [S.ahead m]; decide)]
    omega
  · rw [if_neg m]
    split <;> omega
/-- one ring may be counted at either side -/
theorem pair {M : Int → Bool} (S : Sparse M) {E F : Int → Int} (D : Down E) (U : Up F) (B : Int) : (∀ v, B ≤ opE M E v + F v) ↔ ∀ v, B ≤ E v + opN M F v := by
  constructor
  · intro h v
    by_cases m : M v = true
    · have h1 := h (v - 1)
      have h2 := h (v + 1)
      have mp : ¬ M (v - 1) = true := by rw [S.ahead m]; decide
      have mn : ¬ M (v + 1) = true := by rw [S v m]; decide
      unfold opE at h1 h2
      rw [if_neg mp] at h1
      rw [if_neg mn] at h2
      unfold opN
      rw [if_pos m]
      have d0 := D v
      have d1 := D (v + 1)
      rw [show v + 1 - 1 = v by omega] at d1
      omega
    · have h1 := h v
      unfold opE at h1
      rw [if_neg m] at h1
      unfold opN
      rw [if_neg m]
      exact h1
  · intro h v
    by_cases m : M v = true
    · have h1 := h (v - 1)
      have h2 := h (v + 1)
      have mp : ¬ M (v - 1) = true := by rw [S.ahead m]; decide
      have mn : ¬ M (v + 1) = true := by rw [S v m]; decide
      unfold opN at h1 h2
      rw [if_neg mp] at h1
      rw [if_neg mn] at h2
      unfold opE
      rw [if_pos m]
      have d0 := U v
      have d1 := U (v + 1)
      rw [show v + 1 - 1 = v by omega] at d1
      omega
    · have h1 := h v
      unfold opN at h1
      rw [if_neg m] at h1
      unfold opE
      rw [if_neg m]
      exact h1
theorem opN_up {M : Int → Bool} (S : Sparse M) {F : Int → Int} (U : Up F) : Up (opN M F) := fun v => by
  have d0 := U v
  have d1 := U (v + 1)
  have d2 := U (v - 1)
  rw [show v + 1 - 1 = v by omega] at d1
  rw [show v - 1 - 1 = v - 2 by omega] at d2
  unfold opN
  rw [show v - 1 - 1 = v - 2 by omega, show v - 1 + 1 = v by omega]
  by_cases m : M v = true
  · rw [if_pos m, if_neg (by rw [S.ahead m]; decide)]
    omega
  · rw [if_neg m]
    split <;> omega
theorem napp_up {F : Int → Int} (U : Up F) : ∀ Ms : List (Int → Bool), (∀ M ∈ Ms, Sparse M) → Up (napp Ms F)
  | [], _ => U
  | M :: Ms, h => opN_up (h M (List.mem_cons_self ..)) (napp_up U Ms fun N hN => h N (List.mem_cons_of_mem _ hN))
def eapp : List (Int → Bool) → (Int → Int) → Int → Int
  | [], E => E
  | M :: Ms, E => eapp Ms (opE M E)
theorem pairs {F : Int → Int} (U : Up F) (B : Int) : ∀ (Ms : List (Int → Bool)) (E : Int → Int), (∀ M ∈ Ms, Sparse M) → Down E → ((∀ v, B ≤ E v + napp Ms F v) ↔ ∀ v, B ≤ eapp Ms E v + F v)
  | [], _, _, _ => Iff.rfl
  | M :: Ms, E, h, D => by
    have S := h M (List.mem_cons_self ..)
    have h' : ∀ N ∈ Ms, Sparse N := fun N hN => h N (List.mem_cons_of_mem _ hN)
    exact (pair S D (napp_up U Ms h') B).symm.trans (pairs U B Ms (opE M E) h' (opE_down S D))
theorem up_far {F : Int → Int} (U : Up F) : ∀ (n : Nat) (v : Int), F (v - n) ≤ F v ∧ F v ≤ F (v - n) + n
  | 0, v => by
    rw [show v - ((0 : Nat) : Int) = v by omega]
    omega
  | n + 1, v => by
    have h := up_far U n v
    have q := U (v - n)
    rw [show v - ((n + 1 : Nat) : Int) = v - n - 1 by omega]
    omega
theorem down_far {E : Int → Int} (D : Down E) : ∀ (n : Nat) (v : Int), E v ≤ E (v - n) ∧ E (v - n) ≤ E v + n
  | 0, v => by
    rw [show v - ((0 : Nat) : Int) = v by omega]
    omega
  | n + 1, v => by
    have h := down_far D n v
    have q := D (v - n)
    rw [show v - ((n + 1 : Nat) : Int) = v - n - 1 by omega]
    omega
theorem end_left {F : Int → Int} (U : Up F) (a B : Int) : (∀ v, B ≤ max 0 (a - v) + F v) ↔ B ≤ F a := by
  constructor
  · intro h
    have := h a
    omega
  · intro h v
    by_cases c : v ≤ a
    · have := up_far U (a - v).toNat a
      rw [show a - ((a - v).toNat : Int) = v by omega] at this
      omega
    · have := up_far U (v - a).toNat v
      rw [show v - ((v - a).toNat : Int) = a by omega] at this
      omega
theorem end_right {E : Int → Int} (D : Down E) (V B : Int) : (∀ v, B ≤ E v + base V v) ↔ B ≤ E V := by
  unfold base
  constructor
  · intro h
    have := h V
    omega
  · intro h v
    by_cases c : v ≤ V
    · have := down_far D (V - v).toNat V
      rw [show V - ((V - v).toNat : Int) = v by omega] at this
      omega
    · have := down_far D (v - V).toNat v
      rw [show v - ((v - V).toNat : Int) = V by omega] at this
      omega
theorem eapp_down : ∀ (Ms : List (Int → Bool)) (E : Int → Int), (∀ M ∈ Ms, Sparse M) → Down E → Down (eapp Ms E)
  | [], _, _, D => D
  | M :: Ms, E, h, D => eapp_down Ms (opE M E) (fun N hN => h N (List.mem_cons_of_mem _ hN)) (opE_down (h M (List.mem_cons_self ..)) D)
theorem up_base (V : Int) : Up (base V) := fun v => by
  unfold base
  omega
def start (a v : Int) : Int := max 0 (a - v)
theorem down_start (a : Int) : Down (start a) := fun v => by
  unfold start
  omega
/-- by the map, and from the other end -/
theorem both_ends (Ms : List (Int → Bool)) (h : ∀ M ∈ Ms, Sparse M) (a V : Int) : napp Ms (base V) a = eapp Ms (start a) V := by
  have U := napp_up (up_base V) Ms h
  have D := eapp_down Ms (start a) h (down_start a)
  have k : ∀ B, B ≤ napp Ms (base V) a ↔ B ≤ eapp Ms (start a) V := fun B =>
    (end_left U a B).symm.trans ((pairs (up_base V) B Ms (start a) h (down_start a)).trans (end_right D V B))
  have h1 := (k (napp Ms (base V) a)).mp (Int.le_refl _)
  have h2 := (k (eapp Ms (start a) V)).mpr (Int.le_refl _)
  omega
theorem eapp_snoc (M : Int → Bool) : ∀ (Ms : List (Int → Bool)) (E : Int → Int), eapp (Ms ++ [M]) E = opE M (eapp Ms E)
  | [], _ => rfl
  | N :: Ms, E => eapp_snoc M Ms (opE N E)
/-! ### windows -/
/-- a row of values from low on -/
def win (f : Int → Int) (low : Int) (n : Nat) : List Int := (List.range n).map fun (k : Nat) => f (low + k)
theorem win_len (f : Int → Int) (low : Int) (n : Nat) : (win f low n).length = n := by simp [win]
theorem win_get {f : Int → Int} {low : Int} {n k : Nat} (h : k < n) : (win f low n)[k]? = some (f (low + k)) := by
  unfold win
  rw [List.getElem?_map, List.getElem?_range h]
  rfl
/-- the row is that of f, but for e places at both ends -/
def Near (vs : List Int) (f : Int → Int) (low : Int) (n e : Nat) : Prop := vs.length = n ∧ ∀ k : Nat, e ≤ k → k + e < n → vs[k]? = some (f (low + k))
/-- exchanged at the places of M ahead of B -/
def part (M : Int → Bool) (low : Int) (vs : List Int) (B : Nat) : List Int := (List.range vs.length).map fun (k : Nat) =>
  if M (low + k) = true ∧ k + 1 < vs.length ∧ k < B then max (vs.getD k 0) (vs.getD (k + 1) 0)
  else if 1 ≤ k ∧ M (low + k - 1) = true ∧ k - 1 < B then min (vs.getD (k - 1) 0) (vs.getD k 0) else vs.getD k 0
theorem part_len (M : Int → Bool) (low : Int) (vs : List Int) (B : Nat) : (part M low vs B).length = vs.length := by simp [part]
theorem part_get {M : Int → Bool} {low : Int} {vs : List Int} {B k : Nat} (h : k < vs.length) : (part M low vs B).getD k 0 =
    if M (low + k) = true ∧ k + 1 < vs.length ∧ k < B then max (vs.getD k 0) (vs.getD (k + 1) 0)
    else if 1 ≤ k ∧ M (low + k - 1) = true ∧ k - 1 < B then min (vs.getD (k - 1) 0) (vs.getD k 0) else vs.getD k 0 := by
  unfold part
  rw [List.getD_eq_getElem?_getD, List.getElem?_map, List.getElem?_range h]
  rfl
theorem list_ext {a b : List Int} (h : a.length = b.length) (e : ∀ k, k < a.length → a.getD k 0 = b.getD k 0) : a = b := by
  refine List.ext_getElem h fun k h1 h2 => ?_
  have := e k h1
  rw [List.getD_eq_getElem?_getD, List.getD_eq_getElem?_getD, List.getElem?_eq_getElem h1, List.getElem?_eq_getElem h2] at this
  exact this
theorem part_zero {M : Int → Bool} {low : Int} {vs : List Int} : part M low vs 0 = vs := list_ext (part_len ..) fun k hk => by
  rw [part_len] at hk
  rw [part_get hk, if_neg (by omega), if_neg (by omega)]
/-- no place of M from B to B2 -/
theorem part_skip {M : Int → Bool} {low : Int} {vs : List Int} {B B2 : Nat} (hB : B ≤ B2) (no : ∀ k : Nat, B ≤ k → k < B2 → k + 1 < vs.length → M (low + k) = false) : part M low vs B2 = part M low vs B := list_ext (by rw [part_len, part_len]) fun k hk => by
  rw [part_len] at hk
  rw [part_get hk, part_get hk]
  have e1 : (M (low + k) = true ∧ k + 1 < vs.length ∧ k < B2) ↔ (M (low + k) = true ∧ k + 1 < vs.length ∧ k < B) := by
    constructor
    · intro c
      refine ⟨c.1, c.2.1, Nat.lt_of_not_le fun q => ?_⟩
      have := no k q c.2.2 c.2.1
      rw [c.1] at this
      cases this
    · intro c
      exact ⟨c.1, c.2.1, by omega⟩
  have e2 : (1 ≤ k ∧ M (low + k - 1) = true ∧ k - 1 < B2) ↔ (1 ≤ k ∧ M (low + k - 1) = true ∧ k - 1 < B) := by
    constructor
    · intro c
      refine ⟨c.1, c.2.1, Nat.lt_of_not_le fun q => ?_⟩
      have h1 := c.1
      have := no (k - 1) q c.2.2 (by omega)
      rw [show low + ((k - 1 : Nat) : Int) = low + k - 1 by omega, c.2.1] at this
      cases this
    · intro c
      exact ⟨c.1, c.2.1, by omega⟩
  simp only [e1, e2]
theorem getD_set {l : List Int} {i k : Nat} {v : Int} (hi : i < l.length) : (l.set i v).getD k 0 = if k = i then v else l.getD k 0 := by
  rw [List.getD_eq_getElem?_getD, List.getElem?_set]
  by_cases c : i = k
  · subst c
    rw [if_pos rfl, if_pos rfl, if_pos hi]
    rfl
  · rw [if_neg c, if_neg (Ne.symm c), List.getD_eq_getElem?_getD]
/-- one exchange, at a place of M -/
theorem part_next {M : Int → Bool} (S : Sparse M) {low : Int} {vs : List Int} {B : Nat} (hB : B + 1 < vs.length) (m : M (low + B) = true) :
    (part M low vs B).getD B 0 = vs.getD B 0 ∧ (part M low vs B).getD (B + 1) 0 = vs.getD (B + 1) 0 ∧
    part M low vs (B + 1) = ((part M low vs B).set B (max (vs.getD B 0) (vs.getD (B + 1) 0))).set (B + 1) (min (vs.getD B 0) (vs.getD (B + 1) 0)) := by
  have mp : ¬ M (low + B - 1) = true := by rw [S.ahead m]; decide
  have mn : ¬ M (low + B + 1) = true := by rw [S _ m]; decide
  refine ⟨?_, ?_, list_ext (by rw [part_len, List.length_set, List.length_set, part_len]) fun k hk => ?_⟩
  · rw [part_get (by omega), if_neg (by omega), if_neg (fun q => mp q.2.1)]
  · rw [part_get hB, if_neg (by omega), if_neg (by omega)]
  · rw [part_len] at hk
    rw [getD_set (by rw [List.length_set, part_len]; exact hB), getD_set (by rw [part_len]; omega), part_get hk]
    by_cases k1 : k = B + 1
    · subst k1
      rw [if_pos rfl, if_neg (fun q => by omega), if_pos ⟨by omega, by rw [show low + ((B + 1 : Nat) : Int) - 1 = low + B by omega]; exact m, by omega⟩]
      rfl
    · rw [if_neg k1]
      by_cases k2 : k = B
      · subst k2
        rw [if_pos rfl, if_pos ⟨m, hB, by omega⟩]
      · rw [if_neg k2, part_get hk]
        have e1 : (M (low + k) = true ∧ k + 1 < vs.length ∧ k < B + 1) ↔ (M (low + k) = true ∧ k + 1 < vs.length ∧ k < B) := by
          constructor
          · intro c
            exact ⟨c.1, c.2.1, by omega⟩
          · intro c
            exact ⟨c.1, c.2.1, by omega⟩
        have e2 : (1 ≤ k ∧ M (low + k - 1) = true ∧ k - 1 < B + 1) ↔ (1 ≤ k ∧ M (low + k - 1) = true ∧ k - 1 < B) := by
          constructor
          · intro c
            exact ⟨c.1, c.2.1, by omega⟩
          · intro c
            exact ⟨c.1, c.2.1, by omega⟩
        simp only [e1, e2]
/-- a whole ring -/
theorem near_step {M : Int → Bool} {vs : List Int} {f : Int → Int} {low : Int} {n e : Nat} (h : Near vs f low n e) {B : Nat} (hB : n ≤ B + 1) : Near (part M low vs B) (stepP M f) low n (e + 1) := by
  obtain ⟨h1, h2⟩ := h
  refine ⟨by rw [part_len, h1], fun k k1 k2 => ?_⟩
  have gd : ∀ j : Nat, e ≤ j → j + e < n → vs.getD j 0 = f (low + j) := fun j a b => by
    rw [List.getD_eq_getElem?_getD, h2 j a b]
    rfl
  have hk : k < (part M low vs B).length := by rw [part_len]; omega
  have e1 : (part M low vs B)[k]? = some ((part M low vs B).getD k 0) := by
    rw [List.getD_eq_getElem?_getD, List.getElem?_eq_getElem hk]
    rfl
  rw [e1, part_get (by omega)]
  congr 1
  rw [gd k (by omega) (by omega), gd (k + 1) (by omega) (by omega), gd (k - 1) (by omega) (by omega)]
  unfold stepP
  rw [show low + ((k + 1 : Nat) : Int) = low + k + 1 by omega, show low + ((k - 1 : Nat) : Int) = low + k - 1 by omega]
  by_cases m : M (low + k) = true
  · rw [if_pos ⟨m, by omega, by omega⟩, if_pos m]
  · rw [if_neg (fun q => m q.1), if_neg m]
    by_cases m2 : M (low + k - 1) = true
    · rw [if_pos ⟨by omega, m2, by omega⟩, if_pos m2]
    · rw [if_neg (fun q => m2 q.2.1), if_neg m2]
theorem near_more {vs : List Int} {f : Int → Int} {low : Int} {n e e2 : Nat} (h : Near vs f low n e) (he : e ≤ e2) : Near vs f low n e2 := ⟨h.1, fun k a b => h.2 k (by omega) (by omega)⟩
theorem near_win (f : Int → Int) (low : Int) (n : Nat) : Near (win f low n) f low n 0 := ⟨win_len .., fun k _ h => win_get (by omega)⟩
/-- the inner part -/
theorem near_cut {vs : List Int} {f : Int → Int} {low : Int} {n e : Nat} (h : Near vs f low n e) (hn : 2 * e ≤ n) : (vs.drop e).take (n - 2 * e) = win f (low + e) (n - 2 * e) := by
  refine List.ext_getElem? fun k => ?_
  by_cases c : k < n - 2 * e
  · rw [List.getElem?_take_of_lt c, List.getElem?_drop, h.2 (e + k) (by omega) (by omega), win_get c]
    congr 2
    omega
  · rw [List.getElem?_eq_none (by rw [List.length_take]; omega), List.getElem?_eq_none (by rw [win_len]; omega)]
/-- how many of a row are from -b on -/
theorem count_win {b : Int} {f F : Int → Int} (C : Counts b f F) (low : Int) : ∀ n : Nat, (((win f low n).filter fun x => decide (x ≥ -b)).length : Int) = F (low + n - 1) - F (low - 1)
  | 0 => by
    rw [show low + ((0 : Nat) : Int) - 1 = low - 1 by omega]
    show ((0 : Nat) : Int) = _
    omega
  | n + 1 => by
    have ih := count_win C low n
    have c := C (low + n)
    have e : win f low (n + 1) = win f low n ++ [f (low + n)] := by
      unfold win
      rw [List.range_succ, List.map_append]
      rfl
    rw [e, List.filter_append, List.length_append, show low + ((n + 1 : Nat) : Int) - 1 = low + n by omega]
    unfold ind at c
    by_cases q : -b ≤ f (low + n)
    · rw [if_pos q] at c
      rw [List.filter_cons_of_pos (by simpa using q), List.filter_nil, List.length_singleton]
      omega
    · rw [if_neg q] at c
      rw [List.filter_cons_of_neg (by simpa using q), List.filter_nil, List.length_nil]
      omega
/-- two ascending rows with the same members -/
theorem asc_ext : ∀ {a b : List Int}, a.Pairwise (· < ·) → b.Pairwise (· < ·) → (∀ x, x ∈ a ↔ x ∈ b) → a = b
  | [], [], _, _, _ => rfl
  | [], y :: _, _, _, h => absurd ((h y).mpr (List.mem_cons_self ..)) (by simp)
  | x :: _, [], _, _, h => absurd ((h x).mp (List.mem_cons_self ..)) (by simp)
  | x :: a, y :: b, ha, hb, h => by
    obtain ⟨ha1, ha2⟩ := List.pairwise_cons.mp ha
    obtain ⟨hb1, hb2⟩ := List.pairwise_cons.mp hb
    have e : x = y := by
      have h1 := (h x).mp (List.mem_cons_self ..)
      have h2 := (h y).mpr (List.mem_cons_self ..)
      rcases List.mem_cons.mp h1 with e | h1
      · exact e
      · rcases List.mem_cons.mp h2 with e | h2
        · exact e.symm
        · have := hb1 x h1
          have := ha1 y h2
          omega
    subst e
    refine congrArg (x :: ·) (asc_ext ha2 hb2 fun z => ⟨fun q => ?_, fun q => ?_⟩)
    · rcases List.mem_cons.mp ((h z).mp (List.mem_cons_of_mem _ q)) with e | q2
      · subst e
        have := ha1 z q
        omega
      · exact q2
    · rcases List.mem_cons.mp ((h z).mpr (List.mem_cons_of_mem _ q)) with e | q2
      · subst e
        have := hb1 z q
        omega
      · exact q2
theorem asc_of_sorted {a : List Int} (h : a.Pairwise (· ≤ ·)) (n : a.Nodup) : a.Pairwise (· < ·) := by
  refine List.Pairwise.imp₂ (fun x y (h1 : x ≤ y) (h2 : x ≠ y) => by omega) h n
end MP

namespace K1
open PySem PySem.Spec PyProof.Rows L2 Evl HM LX MP
/-! ### the map of a class and its richness at both ends -/
/-- the exchanges of a ring -/
def mL (rs : List (Int × Int)) (ps : List Int) (j : Nat) (i : Int) : Bool := decide ((i * K1N.sAt rs j + ps.getD j 0) % (K1N.nAt rs j : Int) = 0)
def RsOk (rs : List (Int × Int)) (m : Nat) : Prop := ∀ j, j < m → 1 ≤ K1N.sAt rs j ∧ K1N.sAt rs j < (K1N.nAt rs j : Int)
theorem mL_sparse {rs : List (Int × Int)} {ps : List Int} {j : Nat} (o1 : 1 ≤ K1N.sAt rs j) (o2 : K1N.sAt rs j < (K1N.nAt rs j : Int)) : Sparse (mL rs ps j) := fun i h => by
  unfold mL at h ⊢
  generalize (K1N.nAt rs j : Int) = n at *
  generalize K1N.sAt rs j = s at *
  generalize ps.getD j 0 = p at *
  have h1 := of_decide_eq_true h
  refine decide_eq_false fun h2 => ?_
  have d := Int.emod_eq_emod_iff_emod_sub_eq_zero (m := (i + 1) * s + p) (n := n) (k := i * s + p)
  have h3 := d.mp (by rw [h1, h2])
  rw [show (i + 1) * s + p - (i * s + p) = s by rw [Int.add_mul]; omega, Int.emod_eq_of_lt (by omega) o2] at h3
  omega
def mls (rs : List (Int × Int)) (ps : List Int) : Nat → Nat → List (Int → Bool)
  | 0, _ => []
  | k + 1, i => mL rs ps i :: mls rs ps k (i + 1)
theorem mls_len (rs : List (Int × Int)) (ps : List Int) : ∀ k i, (mls rs ps k i).length = k
  | 0, _ => rfl
  | k + 1, i => by
    show (mls rs ps k (i + 1)).length + 1 = k + 1
    rw [mls_len rs ps k]
theorem mls_sparse {rs : List (Int × Int)} {ps : List Int} {m : Nat} (ok : RsOk rs m) : ∀ k i, i + k ≤ m → ∀ M ∈ mls rs ps k i, Sparse M
  | 0, _, _, M, h => absurd h (by simp [mls])
  | k + 1, i, hi, M, h => by
    rcases List.mem_cons.mp h with e | h2
    · subst e
      exact mL_sparse (ok i (by omega)).1 (ok i (by omega)).2
    · exact mls_sparse ok k (i + 1) (by omega) M h2
/-- columns from the other end -/
noncomputable def ecol (rs : List (Int × Int)) (ps : List Int) (a : Int) (j : Nat) (v : Int) : Int := (F (hseq rs (mvp rs a ps) j) (a - 1 - v) : Int)
theorem ecol_zero (rs : List (Int × Int)) (ps : List Int) (a : Int) : ecol rs ps a 0 = start a := by
  funext v
  show ((F [] (a - 1 - v) : Nat) : Int) = max 0 (a - v)
  rw [F_nil]
  omega
theorem neg_rule (v s p n : Int) : ((-v) * s - p) % n = 0 ↔ (v * s + p) % n = 0 := by
  rw [show (-v) * s - p = -(v * s + p) by rw [Int.neg_mul]; omega]
  rw [← Int.dvd_iff_emod_eq_zero, ← Int.dvd_iff_emod_eq_zero]
  exact Int.dvd_neg
theorem ecol_step (rs : List (Int × Int)) {ps : List Int} (a : Int) {j : Nat} (hj : j < ps.length) : opE (mL rs ps j) (ecol rs ps a j) = ecol rs ps a (j + 1) := by
  funext v
  have H := (hseq_ok rs (mvp rs a ps) j).1
  have g := F_grow H (L := fun d => (d * K1N.sAt rs j - (mvp rs a ps).getD j 0) % (K1N.nAt rs j : Int) = 0) (g := gl (hseq rs (mvp rs a ps) j) (K1N.nAt rs j : Int) (K1N.sAt rs j) ((mvp rs a ps).getD j 0)) (fun c => rfl) (a - 1 - v)
  have e : ecol rs ps a (j + 1) v = ((F (grow (hseq rs (mvp rs a ps) j) (gl (hseq rs (mvp rs a ps) j) (K1N.nAt rs j : Int) (K1N.sAt rs j) ((mvp rs a ps).getD j 0))) (a - 1 - v) : Nat) : Int) := rfl
  rw [e, g]
  have m1 := F_mono H (a - 1 - v)
  have m2 := F_mono H (a - 1 - v - 1)
  rw [show a - 1 - v - 1 + 1 = a - 1 - v by omega] at m2
  have hL : ((a - 1 - v + 1) * K1N.sAt rs j - (mvp rs a ps).getD j 0) % (K1N.nAt rs j : Int) = 0 ↔ mL rs ps j v = true := by
    rw [mvp_get rs a hj, rule_mv, show a - 1 - v + 1 - a = -v by omega, neg_rule]
    unfold mL
    rw [decide_eq_true_iff]
  unfold opE ecol
  rw [show a - 1 - (v + 1) = a - 1 - v - 1 by omega, show a - 1 - (v - 1) = a - 1 - v + 1 by omega]
  generalize F (hseq rs (mvp rs a ps) j) (a - 1 - v) = x1 at *
  generalize F (hseq rs (mvp rs a ps) j) (a - 1 - v - 1) = x0 at *
  generalize F (hseq rs (mvp rs a ps) j) (a - 1 - v + 1) = x2 at *
  by_cases m : mL rs ps j v = true
  · rw [if_pos m]
    by_cases c : x2 = x1 + 1 ∧ x0 = x1
    · rw [if_pos ⟨hL.mpr m, c.1, c.2⟩]
      omega
    · rw [if_neg (fun q => c ⟨q.2.1, q.2.2⟩)]
      omega
  · rw [if_neg m, if_neg (fun q => m (hL.mp q.1))]
    rfl
theorem ecol_all (rs : List (Int × Int)) {ps : List Int} (a : Int) : ∀ k i, i + k ≤ ps.length → eapp (mls rs ps k i) (ecol rs ps a i) = ecol rs ps a (i + k)
  | 0, _, _ => rfl
  | k + 1, i, h => by
    show eapp (mls rs ps k (i + 1)) (opE (mL rs ps i) (ecol rs ps a i)) = _
    rw [ecol_step rs a (by omega), ecol_all rs a k (i + 1) (by omega), show i + 1 + k = i + (k + 1) by omega]
/-- richness and 1 with chips at both ends -/
noncomputable def hh (rs : List (Int × Int)) (ps : List Int) (tot a b : Int) : Int := (rich1 rs (mvp rs a ps) (tot + a + b) : Int)
/-- the map -/
def fm (rs : List (Int × Int)) (ps : List Int) (tot : Int) : Int → Int := pmap (mls rs ps ps.length 0) fun i => i + (tot - ps.length)
theorem hh_napp {rs : List (Int × Int)} {ps : List Int} (ok : RsOk rs ps.length) (tot a b : Int) : napp (mls rs ps ps.length 0) (base (-b - (tot - ps.length) - 1)) a = hh rs ps tot a b := by
  rw [both_ends _ (mls_sparse ok _ _ (by omega)), ← ecol_zero rs ps a, ecol_all rs a ps.length 0 (by omega)]
  unfold ecol hh rich1
  rw [mvp_len, Nat.zero_add, show a - 1 - (-b - (tot - (ps.length : Int)) - 1) = tot + a + b - (ps.length : Int) by omega]
theorem hh_counts {rs : List (Int × Int)} {ps : List Int} (ok : RsOk rs ps.length) (tot b : Int) : Counts b (fm rs ps tot) fun a => hh rs ps tot a b := by
  have c := counts_pmap (counts_base (b := b) (e := tot - ps.length)) (mls rs ps ps.length 0) (mls_sparse ok _ _ (by omega))
  have e : (fun a => hh rs ps tot a b) = napp (mls rs ps ps.length 0) (base (-b - (tot - ps.length) - 1)) := funext fun a => (hh_napp ok tot a b).symm
  rw [e]
  exact c
theorem fm_bij {rs : List (Int × Int)} {ps : List Int} (ok : RsOk rs ps.length) (tot : Int) : Bij (fm rs ps tot) := bij_pmap _ (mls_sparse ok _ _ (by omega))
theorem fm_bound (rs : List (Int × Int)) (ps : List Int) (tot i : Int) : i + tot - 2 * (ps.length : Int) ≤ fm rs ps tot i ∧ fm rs ps tot i ≤ i + tot := by
  have := pmap_bound (e := tot - ps.length) (mls rs ps ps.length 0) i
  rw [mls_len] at this
  unfold fm
  omega
theorem hh_nonneg (rs : List (Int × Int)) (ps : List Int) (tot a b : Int) : 0 ≤ hh rs ps tot a b := Int.natCast_nonneg _
theorem hh_low {rs : List (Int × Int)} {ps : List Int} {tot a b : Int} (h : a < -tot - b) : hh rs ps tot a b = 0 := by
  unfold hh
  rw [rich_neg _ _ (by omega)]
  rfl
theorem hh_step {rs : List (Int × Int)} {ps : List Int} (ok : RsOk rs ps.length) (tot a b : Int) : hh rs ps tot a b - hh rs ps tot (a - 1) b = if -b ≤ fm rs ps tot a then 1 else 0 := hh_counts ok tot b a
theorem hh_right {rs : List (Int × Int)} {ps : List Int} (ok : RsOk rs ps.length) {tot a b i : Int} (hi : fm rs ps tot i = -b) : hh rs ps tot a b - hh rs ps tot a (b - 1) = if i ≤ a then 1 else 0 := by
  have hb := (fm_bound rs ps tot i).2
  have key : ∀ n : Nat, hh rs ps tot (-tot - b - 1 + n) b - hh rs ps tot (-tot - b - 1 + n) (b - 1) = if i ≤ -tot - b - 1 + n then 1 else 0 := by
    intro n
    induction n with
    | zero =>
      rw [hh_low (by omega), hh_low (by omega), if_neg (by omega)]
      rfl
    | succ n ih =>
      have s1 := hh_step ok tot (-tot - b - 1 + ((n + 1 : Nat) : Int)) b
      have s2 := hh_step ok tot (-tot - b - 1 + ((n + 1 : Nat) : Int)) (b - 1)
      rw [show -tot - b - 1 + ((n + 1 : Nat) : Int) - 1 = -tot - b - 1 + n by omega] at s1 s2
      have u : fm rs ps tot (-tot - b - 1 + ((n + 1 : Nat) : Int)) = -b ↔ i = -tot - b - 1 + ((n + 1 : Nat) : Int) := ⟨fun z => (fm_bij ok tot).inj (by rw [hi, z]), fun z => by rw [← z, hi]⟩
      generalize fm rs ps tot (-tot - b - 1 + ((n + 1 : Nat) : Int)) = y at *
      split at ih <;> split at s1 <;> split at s2 <;> split <;> omega
  by_cases c : -tot - b - 1 ≤ a
  · have := key (a - (-tot - b - 1)).toNat
    rw [show -tot - b - 1 + ((a - (-tot - b - 1)).toNat : Int) = a by omega] at this
    exact this
  · rw [hh_low (by omega), hh_low (by omega), if_neg (by omega)]
    rfl
/-- counted from a place on at which nothing is counted -/
theorem hh_sum {rs : List (Int × Int)} {ps : List Int} (ok : RsOk rs ps.length) {tot b low : Int} (hl : low - 1 < -tot - b) (n : Nat) : (((win (fm rs ps tot) low n).filter fun x => decide (x ≥ -b)).length : Int) = hh rs ps tot (low + n - 1) b := by
  have := count_win (hh_counts ok tot b) low n
  rw [this]
  show hh rs ps tot (low + n - 1) b - hh rs ps tot (low - 1) b = _
  rw [hh_low hl]
  omega
/-- far on, each one more counts -/
theorem hh_far {rs : List (Int × Int)} {ps : List Int} (ok : RsOk rs ps.length) {tot b sure : Int} (hs : sure + tot - 2 * (ps.length : Int) ≥ -b) : ∀ n : Nat, hh rs ps tot (sure - 1 + n) b = hh rs ps tot (sure - 1) b + n
  | 0 => by
    rw [show sure - 1 + ((0 : Nat) : Int) = sure - 1 by omega]
    omega
  | n + 1 => by
    have ih := hh_far ok hs n
    have s := hh_step ok tot (sure - 1 + ((n + 1 : Nat) : Int)) b
    rw [show sure - 1 + ((n + 1 : Nat) : Int) - 1 = sure - 1 + n by omega] at s
    have := (fm_bound rs ps tot (sure - 1 + ((n + 1 : Nat) : Int))).1
    rw [if_pos (by omega)] at s
    omega
/-- the rings' letters -/
theorem mL_per {rs : List (Int × Int)} {ps : List Int} {j : Nat} (hn : 1 ≤ K1N.nAt rs j) (hs : 0 ≤ K1N.sAt rs j) {c : Int} (hc : mL rs ps j c = true) (i : Int) : mL rs ps j i = true ↔ (i - c) % (K1M.ord (K1N.nAt rs j) (K1N.sAt rs j).natAbs : Int) = 0 := by
  unfold mL at hc ⊢
  have h1 := of_decide_eq_true hc
  rw [decide_eq_true_iff]
  obtain ⟨s, hs'⟩ : ∃ s : Nat, K1N.sAt rs j = (s : Int) := ⟨(K1N.sAt rs j).toNat, by omega⟩
  rw [hs'] at h1 ⊢
  generalize K1N.nAt rs j = n at *
  generalize ps.getD j 0 = p at *
  rw [Int.natAbs_natCast]
  have d := Int.emod_eq_emod_iff_emod_sub_eq_zero (m := i * (s : Int) + p) (n := (n : Int)) (k := c * (s : Int) + p)
  rw [h1, show i * (s : Int) + p - (c * (s : Int) + p) = (i - c) * (s : Int) by rw [Int.sub_mul]; omega] at d
  rw [d]
  have q := K1M.istp (s := s) hn (i - c)
  rw [q]
  have hm := K1M.ord_pos (s := s) hn
  have z := K1M.stp_zero_iff (s := s) (i := ((i - c) % (K1M.ord n s : Int)).toNat) hn
  have r0 := Int.emod_nonneg (i - c) (show (K1M.ord n s : Int) ≠ 0 by omega)
  have r1 := Int.emod_lt_of_pos (i - c) (show (0 : Int) < (K1M.ord n s : Int) by omega)
  constructor
  · intro h
    have h2 : K1M.stp n s ((i - c) % (K1M.ord n s : Int)).toNat = 0 := by omega
    have h3 := Nat.eq_zero_of_dvd_of_lt (z.mp h2) (by omega)
    omega
  · intro h
    have h2 := z.mpr (by rw [h]; exact Nat.dvd_zero _)
    omega
/-- a mute ring -/
theorem mL_mute {rs : List (Int × Int)} {ps : List Int} {j : Nat} (hn : 1 ≤ K1N.nAt rs j) (hs : 0 ≤ K1N.sAt rs j) (h : ∀ c : Nat, c < K1M.ord (K1N.nAt rs j) (K1N.sAt rs j).natAbs → mL rs ps j c = false) (i : Int) : mL rs ps j i = false := by
  cases q : mL rs ps j i with
  | false => rfl
  | true =>
    have hm := K1M.ord_pos (s := (K1N.sAt rs j).natAbs) hn
    have r0 := Int.emod_nonneg i (show (K1M.ord (K1N.nAt rs j) (K1N.sAt rs j).natAbs : Int) ≠ 0 by omega)
    have r1 := Int.emod_lt_of_pos i (show (0 : Int) < (K1M.ord (K1N.nAt rs j) (K1N.sAt rs j).natAbs : Int) by omega)
    have p := (mL_per hn hs q (i % (K1M.ord (K1N.nAt rs j) (K1N.sAt rs j).natAbs : Int))).mpr (by
      have := Int.emod_add_mul_ediv i (K1M.ord (K1N.nAt rs j) (K1N.sAt rs j).natAbs : Int)
      rw [show i % (K1M.ord (K1N.nAt rs j) (K1N.sAt rs j).natAbs : Int) - i = (K1M.ord (K1N.nAt rs j) (K1N.sAt rs j).natAbs : Int) * (-(i / (K1M.ord (K1N.nAt rs j) (K1N.sAt rs j).natAbs : Int))) by rw [Int.mul_neg]; omega]
      exact Int.mul_emod_right _ _)
    have e := h (i % (K1M.ord (K1N.nAt rs j) (K1N.sAt rs j).natAbs : Int)).toNat (by omega)
    rw [show (((i % (K1M.ord (K1N.nAt rs j) (K1N.sAt rs j).natAbs : Int)).toNat : Nat) : Int) = i % (K1M.ord (K1N.nAt rs j) (K1N.sAt rs j).natAbs : Int) by omega, p] at e
    cases e
end K1

set_option exponentiation.threshold 400
namespace K1
open PySem PySem.Spec PyProof.Rows L2 Evl HM LX ZW ZM
theorem iteF' {b : Bool} {A B : Prop} (h : b = false) (a : B) : if b = true then A else B := by
  rw [if_neg (by rw [h]; decide)]
  exact a
/-! ### letters and maps -/
section
variable {P : Program} {w : World} {K : PySem.W.Frag} {mg : Str → Option Value} {base : Heap}
def spLetterOf : Sp := fun vs H Q _ => ∃ x n s p, vs = [x, .int p] ∧ RingAt H 60 x n s ∧ 
  (∀ (t : Addr) (c : Nat) (H' : Hp), Ex H H' → H' t = some (.tup [.int (K1M.ord n.natAbs s.natAbs : Nat), .int (c : Int)]) → c < K1M.ord n.natAbs s.natAbs → ((c : Int) * s + p) % n = 0 → Q (.ref t) H') ∧
  ((∀ c : Nat, c < K1M.ord n.natAbs s.natAbs → ¬ ((c : Int) * s + p) % n = 0) → ∀ H', Ex H H' → Q .non H')
theorem ok_letter_of (T : Txt K mg) {f : Addr} {fd : FuncData} (D : DefAt K mg "letter_of" sLetterOf ["ring", "place"] f fd) : FnOk P w K mg base CX0 6 f fd ["ring", "place"] spLetterOf := by
  refine D.F.ok scLetterOf (fun vs H Q E h => ?_) (fun cdv A outer s₀ H vs Q E hr h => ?_)
  · obtain ⟨x, n, s, p, rfl, _⟩ := h
    rfl
  · obtain ⟨x, n, s, p, rfl, hx, q1, q2⟩ := h
    obtain ⟨f1, fd1, D1⟩ := T.d_order_of
    have hr5 : Room 5 _ := hr.mono (by decide)
    refine ⟨_, pss_cons (ps_set (i := 2) scLetterOf.nd rfl (.inl rfl) (pe_call (ok_order_of T D1) hr5 (by rfl) D1.g D1.F.kp D1.b .nil pass0 (pa_cons (pv 0) pa_nil)))
      (pss_cons (ps_for PassesOwn.never rfl (pi_range1 (by rfl) T.z_range (pa_cons (pv 2) pa_nil)) (pg_name (i := 3) scLetterOf.nd rfl (.inl rfl))
        (pss_one (ps_if (pt_cmpR op_eq (pe_op op_mod (pe_op op_add (pe_op op_mul (pv 3) (pe_ix ix_tup (pv 0) pe_int (fun _ _ => rfl))) (pv 1)) (pe_ix ix_tup (pv 0) pe_int (fun _ _ => rfl))) pe_int (nomark _)) (pss_one (ps_ret (pe_tup (pa_cons (pv 2) (pa_cons (pv 3) pa_nil))))) pss_nil)))
      (pss_one (ps_ret pe_non))), ?_⟩
    refine ⟨_, rfl, x, n, s, rfl, hx, fun H1 e1 => ?_⟩
    have hx1 := hx.ex e1
    obtain ⟨t, rfl, ht, b1, b2, b3, b4⟩ := hx1
    have hle : K1M.ord n.natAbs s.natAbs ≤ n.natAbs := K1M.ord_le
    refine ⟨_, rfl, _, rfl, by omega, by omega, for_range (lo := 0) (n := Int.toNat _) (fun i σ' H' => ∃ y3 : Option V, σ' = [some (.ref t), some (.int p), some (.int (K1M.ord n.natAbs s.natAbs : Nat)), y3] ∧ Ex H1 H' ∧ ∀ c : Nat, c < i → ¬ ((c : Int) * s + p) % n = 0) ⟨none, rfl, Ex.refl _, fun c hc => absurd hc (Nat.not_lt_zero c)⟩ (fun i σ' H' hi hp => ?_) (fun σ' H' hp => ?_)⟩
    · obtain ⟨y3, rfl, e2, no⟩ := hp
      refine ⟨_, rfl, _, rfl, t, _, 1, .int s, rfl, rfl, SqT.of (e2 _ _ ht), rfl, _, _, rfl, rfl, .inr (by constructor <;> omega), _, rfl, _, _, rfl, rfl, _, rfl, t, _, 0, .int n, rfl, rfl, SqT.of (e2 _ _ ht), rfl, _, _, rfl, rfl, by omega, rfl, _, rfl, ?_⟩
      dsimp only
      rw [show (0 : Int) + (i : Int) = (i : Int) by omega]
      by_cases z : ((i : Int) * s + p) % n = 0
      · rw [decide_eq_true (show V.int (((i : Int) * s + p) % n) = V.int 0 by rw [z])]
        refine iteT ⟨_, rfl, _, rfl, (show 2 ≤ sizeLine by decide), fun p1 h1 => ?_⟩
        exact q1 p1 i _ ((e1.trans e2).trans (Ex.new h1)) upd_same (by omega) z
      · rw [decide_eq_false (show ¬ V.int (((i : Int) * s + p) % n) = V.int 0 from fun y => z (by injection y))]
        refine iteF ⟨_, rfl, e2, fun c hc => ?_⟩
        by_cases e : c = i
        · subst e
          exact z
        · exact no c (by omega)
    · obtain ⟨y3, rfl, e2, no⟩ := hp
      exact q2 (fun c hc => no c (by omega)) _ (e1.trans e2)
def spCheckClassAt : Sp := fun vs H Q _ => ∃ c x xs rs ps, ∃ tot : Int, vs = [.ref c, .int tot, .ref x] ∧ H c = some (.tup xs) ∧ RingsAt H 60 xs rs ∧ (1 ≤ xs.length ∧ xs.length ≤ 12) ∧ PlacesT H x ps ∧ ps.length = xs.length ∧ PlOk rs ps ∧ tot.natAbs < 10 ^ 60 ∧ ∀ H', Ex H H' → Q .non H'
theorem ok_check_class_at (T : Txt K mg) {f : Addr} {fd : FuncData} (D : DefAt K mg "check_class_at" sCheckClassAt ["chain", "degree", "places"] f fd) : FnOk P w K mg base CX0 6 f fd ["chain", "degree", "places"] spCheckClassAt := by
  refine D.F.ok scCheckClassAt (fun vs H Q E h => ?_) (fun cdv A outer s₀ H vs Q E hr h => ?_)
  · obtain ⟨c, x, xs, rs, ps, tot, rfl, _⟩ := h
    rfl
  · obtain ⟨c, x, xs, rs, ps, tot, rfl, hc, hR, hl, hx, hlen, hp, ht, q⟩ := h
    obtain ⟨f1, fd1, D1⟩ := T.d_check_places
    obtain ⟨f2, fd2, D2⟩ := T.d_check_integer
    obtain ⟨f3, fd3, D3⟩ := T.d_check_chain
    have hr2 : Room 2 _ := hr.mono (by decide)
    have hr4 : Room 4 _ := hr.mono (by decide)
    have hr5 : Room 5 _ := hr.mono (by decide)
    refine ⟨_, pss_cons (ps_expr (pe_call (ok_check_chain T D3) hr5 (by rfl) D3.g D3.F.kp D3.b .nil pass0 (pa_cons (pv 0) pa_nil)))
      (pss_cons (ps_expr (pe_call (ok_check_integer T D2) hr2 (by rfl) D2.g D2.F.kp D2.b .nil pass0 (pa_cons (pv 1) pa_nil)))
      (pss_one (ps_expr (pe_call (ok_check_places T D1) hr4 (by rfl) D1.g D1.F.kp D1.b .nil pass0 (pa_cons (pv 0) (pa_cons (pv 2) pa_nil)))))), ?_⟩
    refine ⟨_, rfl, .ref c, rfl, rings_chain4 hR hc hl.1 hl.2, fun H1 e1 => ?_⟩
    refine ⟨_, rfl, tot, rfl, by omega, by omega, fun H2 e2 => ?_⟩
    have e12 := e1.trans e2
    exact ⟨_, rfl, _, rfl, c, x, xs, rs, ps, rfl, e12 _ _ hc, rings_ex4 e12 hR, hl.2, e12 _ _ hx, hlen, hp, fun H3 e3 => q _ (e12.trans e3)⟩
end
end K1

/-! walks with steps over a row, cuts: mathematics -/
namespace MP
open PySem L2
theorem set_same {l : List Int} {i : Nat} {v : Int} (hi : i < l.length) (h : l.getD i 0 = v) : l.set i v = l := by
  refine list_ext (by rw [List.length_set]) fun k hk => ?_
  rw [getD_set hi]
  split
  · rename_i e
    rw [e, h]
  · rfl
/-- one exchange and on to the next -/
theorem part_turn {M : Int → Bool} (S : Sparse M) {low : Int} {vs : List Int} {B k : Nat} (hk : 1 ≤ k) (hB : B + 1 < vs.length) (m : M (low + B) = true) (no : ∀ j : Nat, B < j → j < B + k → M (low + j) = false) :
    (part M low vs B).getD B 0 = vs.getD B 0 ∧ (part M low vs B).getD (B + 1) 0 = vs.getD (B + 1) 0 ∧
    (vs.getD B 0 < vs.getD (B + 1) 0 → ((part M low vs B).set B (vs.getD (B + 1) 0)).set (B + 1) (vs.getD B 0) = part M low vs (B + k)) ∧
    (¬ vs.getD B 0 < vs.getD (B + 1) 0 → part M low vs B = part M low vs (B + k)) := by
  obtain ⟨h1, h2, h3⟩ := part_next S hB m
  have h4 : part M low vs (B + k) = part M low vs (B + 1) := part_skip (by omega) fun j a b c => no j (by omega) b
  refine ⟨h1, h2, fun c => ?_, fun c => ?_⟩
  · rw [h4, h3, show max (vs.getD B 0) (vs.getD (B + 1) 0) = vs.getD (B + 1) 0 by omega, show min (vs.getD B 0) (vs.getD (B + 1) 0) = vs.getD B 0 by omega]
  · rw [h4, h3, show max (vs.getD B 0) (vs.getD (B + 1) 0) = vs.getD B 0 by omega, show min (vs.getD B 0) (vs.getD (B + 1) 0) = vs.getD (B + 1) 0 by omega]
    rw [set_same (l := part M low vs B) (by rw [part_len]; omega) h1, set_same (l := part M low vs B) (by rw [part_len]; omega) h2]
theorem shiftm {low c k x : Int} : (low + x - c) % k = 0 ↔ (x - (c - low) % k) % k = 0 := by
  have := Int.mul_ediv_add_emod (c - low) k
  rw [show x - (c - low) % k = (low + x - c) + k * ((c - low) / k) by omega, Int.add_mul_emod_self_left]
/-- where the steps hit -/
theorem step_hit {M : Int → Bool} {low c k : Int} (hk : 1 ≤ k) (per : ∀ i, M i = true ↔ (i - c) % k = 0) (m : Nat) : M (low + ((c - low) % k + (m : Int) * k)) = true := by
  rw [per, shiftm, show (c - low) % k + (m : Int) * k - (c - low) % k = (m : Int) * k by omega]
  exact Int.mul_emod_left _ _
theorem step_miss {M : Int → Bool} {low c k : Int} (hk : 1 ≤ k) (per : ∀ i, M i = true ↔ (i - c) % k = 0) (m : Nat) {x : Int} (h1 : (c - low) % k + (m : Int) * k < x) (h2 : x < (c - low) % k + (m : Int) * k + k) : M (low + x) = false := by
  cases q : M (low + x) with
  | false => rfl
  | true =>
    rw [per, shiftm] at q
    rw [show x - (c - low) % k = (x - (c - low) % k - (m : Int) * k) + (m : Int) * k by omega, Int.add_mul_emod_self_right, Int.emod_eq_of_lt (by omega) (by omega)] at q
    omega
theorem step_first {M : Int → Bool} {low c k : Int} (hk : 1 ≤ k) (per : ∀ i, M i = true ↔ (i - c) % k = 0) {x : Int} (h1 : 0 ≤ x) (h2 : x < (c - low) % k) : M (low + x) = false := by
  cases q : M (low + x) with
  | false => rfl
  | true =>
    have r1 := Int.emod_lt_of_pos (c - low) (show 0 < k by omega)
    rw [per, shiftm] at q
    rw [show x - (c - low) % k = (x - (c - low) % k + k) + k * (-1) by omega, Int.add_mul_emod_self_left, Int.emod_eq_of_lt (by omega) (by omega)] at q
    omega
/-- how many steps -/
def stn (i j c : Int) : Nat := if i < j then ((j - i - 1) / c + 1).toNat else 0
theorem stn_lt {i j c : Int} (hc : 1 ≤ c) {m : Nat} (h : m < stn i j c) : i + (m : Int) * c < j := by
  unfold stn at h
  split at h
  · rename_i q
    have h1 : (m : Int) ≤ (j - i - 1) / c := by omega
    have h2 := Int.mul_le_mul_of_nonneg_right h1 (show 0 ≤ c by omega)
    have h3 := Int.ediv_mul_le (j - i - 1) (show c ≠ 0 by omega)
    omega
  · omega
theorem stn_end {i j c : Int} (hc : 1 ≤ c) : j ≤ i + (stn i j c : Int) * c := by
  unfold stn
  split
  · rename_i q
    have h0 := Int.ediv_nonneg (show 0 ≤ j - i - 1 by omega) (show 0 ≤ c by omega)
    have h3 := Int.lt_ediv_add_one_mul_self (j - i - 1) (show 0 < c by omega)
    rw [show ((((j - i - 1) / c + 1).toNat : Nat) : Int) = (j - i - 1) / c + 1 by omega]
    omega
  · rename_i q
    show j ≤ i + ((0 : Nat) : Int) * c
    omega
theorem rgc_pos {i j c : Int} (hi : 0 ≤ i) (hi' : i ≤ 1000000) (hj : -1000000 ≤ j) (hj' : j ≤ 1000000) (hc : 1 ≤ c) (hc' : c ≤ 1000) : RgC i j c (stn i j c) := by
  have hs : Builtin.Range.rangeSize i j c = (stn i j c : Int) := by
    unfold Builtin.Range.rangeSize stn
    rw [if_pos (show c > 0 by omega)]
    split
    · have h0 := Int.ediv_nonneg (show 0 ≤ j - i - 1 by omega) (show 0 ≤ c by omega)
      omega
    · rfl
  refine ⟨by omega, by omega, ?_, hs⟩
  have hb : (stn i j c : Int) ≤ 2000001 := by
    unfold stn
    split
    · have h0 := Int.ediv_le_self c (show 0 ≤ j - i - 1 by omega)
      omega
    · omega
  unfold Builtin.Range.small
  rw [hs]
  simp only [Builtin.Range.rangeFitsLong, Bool.and_eq_true, Bool.or_eq_true, decide_eq_true_eq, beq_iff_eq, show c > 0 by omega, if_true]
  omega
theorem cut_mid {xs : List V} {g : Nat} : cutV xs (some (g : Int)) (some ((xs.length : Int) - g)) = (xs.drop g).take (xs.length - 2 * g) := by
  unfold cutV
  rw [HT.sIx_nat]
  have e : HT.sIx xs.length xs.length (some ((xs.length : Int) - g)) - min g xs.length = xs.length - 2 * g := by
    show (if (xs.length : Int) - g < 0 then ((xs.length : Int) - g + (xs.length : Int)).toNat else min ((xs.length : Int) - g).toNat xs.length) - min g xs.length = _
    split <;> omega
  rw [e]
  by_cases c : 2 * g ≤ xs.length
  · rw [Nat.min_eq_left (by omega)]
  · rw [show xs.length - 2 * g = 0 by omega, List.take_zero, List.take_zero]
end MP

set_option exponentiation.threshold 400
namespace K1
open PySem PySem.Spec PyProof.Rows L2 Evl HM LX ZW ZM MP
theorem win_snoc (f : Int → Int) (low : Int) (n : Nat) : win f low (n + 1) = win f low n ++ [f (low + n)] := by
  unfold win
  rw [List.range_succ, List.map_append]
  rfl
theorem mls_cons {rs : List (Int × Int)} {ps : List Int} {g i : Nat} (h : i < g) : mls rs ps (i + 1) (g - 1 - i) = mL rs ps (g - 1 - i) :: mls rs ps i (g - i) := by
  show mL rs ps (g - 1 - i) :: mls rs ps i (g - 1 - i + 1) = _
  rw [show g - 1 - i + 1 = g - i by omega]
theorem ixN_at {n B : Nat} (h : B < n) : ixN n (B : Int) = some B := by
  unfold ixN
  rw [if_pos (by omega), if_pos (by omega), Int.toNat_natCast]
theorem int_at {vs : List Int} {j : Nat} (h : j < vs.length) : (vs.map V.int)[j]? = some (V.int (vs.getD j 0)) := int_get5 h
section
variable {P : Program} {w : World} {K : PySem.W.Frag} {mg : Str → Option Value} {base : Heap}
def spMapValues : Sp := fun vs H Q _ => ∃ c x xs rs ps, ∃ tot first last : Int, vs = [.ref c, .int tot, .ref x, .int first, .int last] ∧ H c = some (.tup xs) ∧ RingsAt H 60 xs rs ∧ (1 ≤ xs.length ∧ xs.length ≤ 12) ∧ PlacesT H x ps ∧ ps.length = xs.length ∧
  last - first ≤ 900 ∧ ∀ a H', Ex H H' → H a = none → H' a = some (.lst ((win (fm rs ps tot) first (last - first + 1).toNat).map V.int)) → Q (.ref a) H'
theorem ok_map_values (T : Txt K mg) {f : Addr} {fd : FuncData} (D : DefAt K mg "map_values" sMapValues ["chain", "degree", "places", "first", "last"] f fd) : FnOk P w K mg base CX0 7 f fd ["chain", "degree", "places", "first", "last"] spMapValues := by
  refine D.F.ok scMapValues (fun vs H Q E h => ?_) (fun cdv A outer s₀ H vs Q E hr h => ?_)
  · obtain ⟨c, x, xs, rs, ps, tot, first, last, rfl, _⟩ := h
    rfl
  · obtain ⟨c, x, xs, rs, ps, tot, first, last, rfl, hc, hR, hl, hx, hlen, b3, q⟩ := h
    obtain ⟨f1, fd1, D1⟩ := T.d_letter_of
    have hr6 : Room 6 _ := hr.mono (by decide)
    refine ⟨_, pss_cons (ps_set (i := 5) scMapValues.nd rfl (.inr rfl) (pe_callB call_len_seq (by rfl) T.z_len PySem.boot_len (pa_cons (pv 0) pa_nil)))
      (pss_cons (ps_set (i := 6) scMapValues.nd rfl (.inl rfl) (pe_op op_sub (pv 3) (pv 5)))
      (pss_cons (ps_setLc (i := 8) (own := [("at", 7)]) (g := gName 7) (tt := tYes) (by rfl) scMapValues.nd rfl rfl (sw_true rfl rfl rfl (by decide +kernel)) (LR.pi_range2L (by rfl) T.z_range (pa_cons (pv 6) (pa_cons (pe_op op_add (pe_op op_add (pv 4) (pv 5)) pe_int) pa_nil)))
        (blkOk_by (N := nMapValues) (sc := defScope sMapValues) (by decide +kernel)) (fun _ _ _ _ _ => (pg_name (i := 7) scMapValues.nd rfl (.inl rfl))) (fun _ _ _ _ _ => pts_nil)
        (fun _ _ _ _ _ => (pe_op op_sub (pe_op op_add (pv 7) (pv 1)) (pv 5))))
      (pss_cons (ps_for PassesOwn.never rfl (pi_revR (by rfl) T.z_reversed (prg_1 (by rfl) T.z_range (pv 5))) (pg_name (i := 9) scMapValues.nd rfl (.inl rfl))
        (pss_cons (ps_set (i := 10) scMapValues.nd rfl (.inl rfl) (pe_call (ok_letter_of T D1) hr6 (by rfl) D1.g D1.F.kp D1.b .nil pass0 (pa_cons (pe_ix ix_tup (pv 0) (pv 9) (fun _ _ => rfl)) (pa_cons (pe_ix ix_tup (pv 2) (pv 9) (fun _ _ => rfl)) pa_nil))))
      (pss_one (ps_if (pt_cmpR op_notN (pv 10) pe_non (nomark _)) (pss_one (ps_for PassesOwn.never rfl (pi_range3 (by rfl) T.z_range (pa_cons (pe_op op_mod (pe_op op_sub (pe_ix ix_tup (pv 10) pe_int (fun _ _ => rfl)) (pv 6)) (pe_ix ix_tup (pv 10) pe_int (fun _ _ => rfl))) (pa_cons (pe_op op_sub (pe_callB call_len_seq (by rfl) T.z_len PySem.boot_len (pa_cons (pv 8) pa_nil)) pe_int) (pa_cons (pe_ix ix_tup (pv 10) pe_int (fun _ _ => rfl)) pa_nil)))) (pg_name (i := 7) scMapValues.nd rfl (.inl rfl))
        (pss_one (ps_if (pt_cmpR op_lt (pe_ix ix_list (pv 8) (pv 7) (fun _ _ => rfl)) (pe_ix ix_list (pv 8) (pe_op op_add (pv 7) pe_int) (fun _ _ => rfl)) (nomark _)) (pss_one (ps_asg (pe_tup (pa_cons (pe_ix ix_list (pv 8) (pe_op op_add (pv 7) pe_int) (fun _ _ => rfl)) (pa_cons (pe_ix ix_list (pv 8) (pv 7) (fun _ _ => rfl)) pa_nil))) (pg_tup (by rfl) (pgs_cons (pg_sub (pv 8) (pv 7) set_list) (pgs_cons (pg_sub (pv 8) (pe_op op_add (pv 7) pe_int) set_list) pgs_nil))))) pss_nil)))) pss_nil))))
      (pss_one (ps_ret (pe_slice sl_list (pv 8) (po_some (pv 5)) (po_some (pe_op op_sub (pe_callB call_len_seq (by rfl) T.z_len PySem.boot_len (pa_cons (pv 8) pa_nil)) (pv 5))))))))), ?_⟩
    refine ⟨_, rfl, c, _, rfl, .inr (SqT.of hc), _, rfl, _, rfl, _, _, rfl, rfl, _, rfl, _, rfl, _, rfl, _, _, rfl, rfl, _, _, rfl, rfl, _, _, rfl, fun l hl0 => ?_⟩
    refine lc_range (fun i H' => H' l = some (.lst ((win (fun y => y + (tot - (ps.length : Int))) (first - (xs.length : Int)) i).map V.int)) ∧ Ex H H') ⟨upd_same, Ex.new hl0⟩ (fun i H' hi hp => ?_) (fun H' hp => ?_)
    · obtain ⟨w1, w2⟩ := hp
      refine ⟨rfl, ?_⟩
      dsimp only [tYes]
      rw [if_pos rfl]
      refine ⟨_, rfl, _, rfl, _, _, rfl, rfl, _, rfl, _, _, rfl, rfl, _, w1, ?_, ?_, Ex.mut w2 hl0⟩
      · rw [List.length_map, win_len]
        exact small1000 (by omega)
      · rw [upd_same, win_snoc, List.map_append, hlen]
        show some (HO.lst (_ ++ [V.int _])) = some (HO.lst (_ ++ [V.int _]))
        congr 5
        omega
    · obtain ⟨w1, w2⟩ := hp
      have ok : RsOk rs ps.length := fun j hj => by
        obtain ⟨y, hy⟩ : ∃ y, xs[j]? = some y := ⟨xs[j]'(by omega), List.getElem?_eq_getElem (by omega)⟩
        obtain ⟨_, _, _, b1, _, b2, b3⟩ := rings_nth4 hR hy
        exact ⟨by omega, by omega⟩
      generalize hN : (last + (xs.length : Int) + 1 - (first - (xs.length : Int))).toNat = N at *
      have hNe : N = (last - first + 1 + 2 * (xs.length : Int)).toNat := by omega
      generalize hlow : first - (xs.length : Int) = low at *
      refine ⟨_, rfl, _, rfl, by omega, by omega, by omega, by omega, ?_⟩
      refine for_rangeC (n := Int.toNat _) (fun i σ' H' => ∃ (y7 y9 y10 : Option V) (vs : List Int), σ' = [some (.ref c), some (.int tot), some (.ref x), some (.int first), some (.int last), some (.int (xs.length : Int)), some (.int low), y7, some (.ref l), y9, y10] ∧ H' l = some (.lst (vs.map V.int)) ∧
        Near vs (pmap (mls rs ps i (ps.length - i)) fun y => y + (tot - (ps.length : Int))) low N i ∧ Ex H H') ⟨none, none, none, win (fun y => y + (tot - (ps.length : Int))) low N, by rw [← hlow]; rfl, w1, ?_, w2⟩ (fun i σ' H2 hi hp => ?_) (fun σ' H2 hp => ?_)
      · exact near_win _ _ _
      · obtain ⟨y7, y9, y10, vs, rfl, v1, v2, v3⟩ := hp
        have hi' : i < xs.length := by omega
        have hidx : (0 : Int) + (((((xs.length : Int) - 0).toNat : Nat) : Int)) - 1 + (i : Nat) * (-1) = ((xs.length - 1 - i : Nat) : Int) := by omega
        rw [hidx]
        obtain ⟨y, hy⟩ : ∃ y, xs[xs.length - 1 - i]? = some y := ⟨xs[xs.length - 1 - i]'(by omega), List.getElem?_eq_getElem (by omega)⟩
        have ry := rings_nth4 (rings_ex4 v3 hR) hy
        have hj : ps.length - 1 - i = xs.length - 1 - i := by rw [hlen]
        have ms : mls rs ps (i + 1) (ps.length - (i + 1)) = mL rs ps (xs.length - 1 - i) :: mls rs ps i (ps.length - i) := by
          rw [show ps.length - (i + 1) = ps.length - 1 - i by omega, mls_cons (by omega), hj]
        refine ⟨_, rfl, _, rfl, c, xs, _, y, rfl, rfl, SqT.of (v3 _ _ hc), atI_nat hy, _, rfl, _, rfl, x, _, _, .int (ps.getD (xs.length - 1 - i) 0), rfl, rfl, SqT.of (v3 _ _ hx), atI_nat (int_at (by omega)), y, _, _, _, rfl, ry, ?_, ?_⟩
        · intro t cc H3 e3 ht hcc hz
          obtain ⟨o1, o2⟩ := ok (xs.length - 1 - i) (by omega)
          rw [Int.natAbs_natCast] at ht hcc
          have hn1 : 1 ≤ K1N.nAt rs (xs.length - 1 - i) := by omega
          have hn60 : K1N.nAt rs (xs.length - 1 - i) ≤ 60 := by
            obtain ⟨_, _, _, _, b2, _⟩ := ry
            omega
          have mc : mL rs ps (xs.length - 1 - i) (cc : Int) = true := by
            unfold mL
            exact decide_eq_true hz
          have per := mL_per (ps := ps) hn1 (by omega) mc
          have S := mL_sparse (ps := ps) o1 o2
          have hk1 : 1 ≤ K1M.ord (K1N.nAt rs (xs.length - 1 - i)) (K1N.sAt rs (xs.length - 1 - i)).natAbs := K1M.ord_pos (by omega)
          have hk2 : K1M.ord (K1N.nAt rs (xs.length - 1 - i)) (K1N.sAt rs (xs.length - 1 - i)).natAbs ≤ K1N.nAt rs (xs.length - 1 - i) := K1M.ord_le
          generalize K1M.ord (K1N.nAt rs (xs.length - 1 - i)) (K1N.sAt rs (xs.length - 1 - i)).natAbs = k at *
          generalize hM : mL rs ps (xs.length - 1 - i) = M at *
          have v1' := e3 _ _ v1
          have hNl : vs.length = N := v2.1
          refine ⟨_, rfl, rfl, _, rfl, iteT' (by rw [decide_eq_false (fun z => by cases z)]; rfl) ?_⟩
          refine ⟨_, rfl, t, _, 1, _, rfl, rfl, SqT.of ht, rfl, _, rfl, _, _, rfl, rfl, _, rfl, t, _, 0, _, rfl, rfl, SqT.of ht, rfl, _, _, rfl, rfl, by omega, _, rfl, l, _, rfl, .inl (SqL.of v1'), _, _, rfl, rfl, _, rfl, t, _, 0, _, rfl, rfl, SqT.of ht, rfl, _, _, _, stn (((cc : Int) - low) % (k : Int)) ((N : Int) - 1) (k : Int), rfl, ?_, ?_⟩
          · rw [List.length_map, hNl]
            have r0 := Int.emod_nonneg ((cc : Int) - low) (show (k : Int) ≠ 0 by omega)
            have r1 := Int.emod_lt_of_pos ((cc : Int) - low) (show (0 : Int) < (k : Int) by omega)
            exact rgc_pos r0 (by omega) (by omega) (by omega) (by omega) (by omega)
          · have r0 := Int.emod_nonneg ((cc : Int) - low) (show (k : Int) ≠ 0 by omega)
            have r1 := Int.emod_lt_of_pos ((cc : Int) - low) (show (0 : Int) < (k : Int) by omega)
            have hkI : (1 : Int) ≤ (k : Int) := by omega
            refine for_rangeC (fun m σ' H' => ∃ (y7 : Option V), σ' = [some (.ref c), some (.int tot), some (.ref x), some (.int first), some (.int last), some (.int (xs.length : Int)), some (.int low), y7, some (.ref l), some (.int ((xs.length - 1 - i : Nat) : Int)), some (.ref t)] ∧
              H' l = some (.lst ((part M low vs (((cc : Int) - low) % (k : Int) + (m : Int) * (k : Int)).toNat).map V.int)) ∧ Ex H H') ⟨y7, rfl, ?_, v3.trans e3⟩ (fun m σ' H4 hm hp => ?_) (fun σ' H4 hp => ?_)
            · rw [v1']
              congr 3
              have z : part M low vs 0 = vs := part_zero
              rw [part_skip (B := 0) (by omega) (fun j _ j2 _ => ?_), z]
              exact step_first hkI per (by omega) (by
                rw [show ((cc : Int) - low) % (k : Int) + ((0 : Nat) : Int) * (k : Int) = ((cc : Int) - low) % (k : Int) by omega] at j2
                omega)
            · obtain ⟨y7, rfl, w1, w2⟩ := hp
              have lt := stn_lt hkI hm
              have mk0 : 0 ≤ (m : Int) * (k : Int) := Int.mul_nonneg (by omega) (by omega)
              have hit := step_hit (low := low) hkI per m
              have miss := fun (y : Int) => step_miss (low := low) hkI per m (x := y)
              have esucc : ((cc : Int) - low) % (k : Int) + ((m + 1 : Nat) : Int) * (k : Int) = ((cc : Int) - low) % (k : Int) + (m : Int) * (k : Int) + k := by
                rw [show ((m + 1 : Nat) : Int) = (m : Int) + 1 by omega, Int.add_mul]
                omega
              obtain ⟨B, hB⟩ : ∃ B : Nat, ((cc : Int) - low) % (k : Int) + (m : Int) * (k : Int) = (B : Int) := ⟨(((cc : Int) - low) % (k : Int) + (m : Int) * (k : Int)).toNat, by omega⟩
              rw [hB] at lt hit miss esucc w1 ⊢
              rw [Int.toNat_natCast] at w1
              have hB1 : B + 1 < vs.length := by omega
              obtain ⟨p1, p2, p3, p4⟩ := part_turn S (k := k) hk1 hB1 hit (fun j j1 j2 => miss j (by omega) (by omega))
              have pl : (part M low vs B).length = vs.length := part_len ..
              have a1 : atI ((part M low vs B).map V.int) (B : Int) = some (V.int (vs.getD B 0)) := atI_nat (by rw [int_at (by omega), p1])
              have a2 : atI ((part M low vs B).map V.int) ((B : Int) + 1) = some (V.int (vs.getD (B + 1) 0)) := by
                rw [show (B : Int) + 1 = ((B + 1 : Nat) : Int) by omega]
                exact atI_nat (by rw [int_at (by omega), p2])
              refine ⟨_, rfl, _, rfl, l, _, _, _, rfl, rfl, SqL.of w1, a1, _, rfl, _, rfl, _, _, rfl, rfl, l, _, _, _, rfl, rfl, SqL.of w1, a2, _, _, rfl, rfl, _, rfl, ite2 (fun cl => ?_) (fun cl => ?_)⟩
              · have cl1 := of_decide_eq_true cl
                refine ⟨_, rfl, _, rfl, _, _, rfl, rfl, l, _, _, _, rfl, rfl, SqL.of w1, a2, _, rfl, _, rfl, l, _, _, _, rfl, rfl, SqL.of w1, a1, (show 2 ≤ sizeLine by decide), fun tp htp => ?_⟩
                have w5 := Ex.new (o := .tup [V.int (vs.getD (B + 1) 0), V.int (vs.getD B 0)]) htp _ _ w1
                have e5 := w2.trans (Ex.new (o := .tup [V.int (vs.getD (B + 1) 0), V.int (vs.getD B 0)]) htp)
                refine ⟨tp, _, rfl, SqT.of upd_same, rfl, _, _, rfl, _, rfl, _, rfl, l, _, _, B, rfl, rfl, w5, ixN_at (by rw [List.length_map, pl]; omega), ?_⟩
                refine ⟨_, _, rfl, _, rfl, _, rfl, _, _, rfl, rfl, l, _, _, B + 1, rfl, rfl, upd_same, ?_, ?_⟩
                · rw [show (B : Int) + 1 = ((B + 1 : Nat) : Int) by omega]
                  exact ixN_at (by rw [List.length_set, List.length_map, pl]; exact hB1)
                · refine ⟨rfl, _, rfl, ?_, ?_⟩
                  · rw [upd_same, esucc, show ((B : Int) + (k : Int)).toNat = B + k by omega, ← p3 cl1, List.map_set, List.map_set]
                  · exact Ex.mut (Ex.mut e5 hl0) hl0
              · have cl1 : ¬ vs.getD B 0 < vs.getD (B + 1) 0 := fun z => cl (decide_eq_true z)
                refine ⟨_, rfl, ?_, w2⟩
                rw [esucc, show ((B : Int) + (k : Int)).toNat = B + k by omega, ← p4 cl1]
                exact w1
            · obtain ⟨y7, rfl, w1, w2⟩ := hp
              refine ⟨_, _, _, _, rfl, w1, ?_, w2⟩
              rw [ms]
              have en := stn_end (i := ((cc : Int) - low) % (k : Int)) (j := (N : Int) - 1) hkI
              exact near_step v2 (by omega)
        · intro no H3 e3
          have e : stepP (mL rs ps (xs.length - 1 - i)) (pmap (mls rs ps i (ps.length - i)) fun y => y + (tot - (ps.length : Int))) = pmap (mls rs ps i (ps.length - i)) fun y => y + (tot - (ps.length : Int)) := by
            obtain ⟨o1, o2⟩ := ok (xs.length - 1 - i) (by omega)
            refine stepP_none fun y => mL_mute (by omega) (by omega) (fun cc hcc => ?_) y
            rw [Int.natAbs_natCast] at no
            unfold mL
            exact decide_eq_false (no cc hcc)
          refine ⟨_, rfl, rfl, _, rfl, iteF ?_⟩
          refine ⟨_, _, _, vs, rfl, e3 _ _ v1, ?_, v3.trans e3⟩
          rw [ms]
          show Near vs (stepP (mL rs ps (xs.length - 1 - i)) (pmap (mls rs ps i (ps.length - i)) fun y => y + (tot - (ps.length : Int)))) low N (i + 1)
          rw [e]
          exact near_more v2 (by omega)
      · obtain ⟨y7, y9, y10, vs, rfl, v1, v2, v3⟩ := hp
        refine ⟨_, rfl, _, rfl, _, rfl, _, rfl, l, _, rfl, .inl (SqL.of v1), _, rfl, _, _, rfl, rfl, _, rfl, l, _, rfl, SqL.of v1, fun p hp => ?_⟩
        have hNl : vs.length = N := v2.1
        refine q p _ (v3.trans (Ex.new hp)) ?_ ?_
        · cases z : H p with
          | none => rfl
          | some o =>
            rw [v3 _ _ z] at hp
            cases hp
        · rw [upd_same, cut_mid, List.length_map, hNl, ← List.map_drop, ← List.map_take]
          have e0 : pmap (mls rs ps ((xs.length : Int) - 0).toNat (ps.length - ((xs.length : Int) - 0).toNat)) (fun y => y + (tot - (ps.length : Int))) = fm rs ps tot := by
            unfold fm
            rw [show ((xs.length : Int) - 0).toNat = ps.length by omega, Nat.sub_self]
          rw [e0, show ((xs.length : Int) - 0).toNat = xs.length by omega] at v2
          by_cases z : 2 * xs.length ≤ N
          · rw [near_cut v2 z, show low + (xs.length : Int) = first by omega, show N - 2 * xs.length = (last - first + 1).toNat by omega]
          · rw [show N - 2 * xs.length = 0 by omega, show (last - first + 1).toNat = 0 by omega, List.take_zero]
            rfl
end
end K1

set_option exponentiation.threshold 400
namespace K1
open PySem PySem.Spec PyProof.Rows L2 Evl HM LX ZW ZM MP
theorem rs_ok {H : Hp} {xs : List V} {rs : List (Int × Int)} {ps : List Int} (hR : RingsAt H 60 xs rs) (hlen : ps.length = xs.length) : RsOk rs ps.length := fun j hj => by
  obtain ⟨y, hy⟩ : ∃ y, xs[j]? = some y := ⟨xs[j]'(by omega), List.getElem?_eq_getElem (by omega)⟩
  obtain ⟨_, _, _, b1, _, b2, b3⟩ := rings_nth4 hR hy
  exact ⟨by omega, by omega⟩
/-- what surely is a class of a chain -/
structure ClsAt (H : Hp) (c x : Addr) (xs : List V) (rs : List (Int × Int)) (ps : List Int) (tot : Int) : Prop where
  hc : H c = some (.tup xs)
  hR : RingsAt H 60 xs rs
  l1 : 1 ≤ xs.length
  l2 : xs.length ≤ 12
  hx : PlacesT H x ps
  len : ps.length = xs.length
  pl : PlOk rs ps
  ht : tot.natAbs < 10 ^ 58
theorem ClsAt.ex {H H' : Hp} {c x : Addr} {xs : List V} {rs : List (Int × Int)} {ps : List Int} {tot : Int} (h : ClsAt H c x xs rs ps tot) (e : Ex H H') : ClsAt H' c x xs rs ps tot :=
  ⟨e _ _ h.hc, rings_ex4 e h.hR, h.l1, h.l2, e _ _ h.hx, h.len, h.pl, h.ht⟩
theorem ClsAt.ok {H : Hp} {c x : Addr} {xs : List V} {rs : List (Int × Int)} {ps : List Int} {tot : Int} (h : ClsAt H c x xs rs ps tot) : RsOk rs ps.length := rs_ok h.hR h.len
theorem ints_flat (l : List Int) : (l.map V.int).all flatV = true := List.all_eq_true.mpr fun z hz => by
  obtain ⟨i, _, rfl⟩ := List.mem_map.mp hz
  rfl
theorem win_inv {f : Int → Int} {low : Int} {n m : Nat} {z : V} (h : ((win f low n).map V.int)[m]? = some z) : m < n ∧ z = .int (f (low + m)) := by
  have hm : m < n := by
    have := (List.getElem?_eq_some_iff.mp h).1
    rw [List.length_map, win_len] at this
    exact this
  rw [List.getElem?_map, win_get hm] at h
  exact ⟨hm, (Option.some.inj h).symm⟩
section
variable {P : Program} {w : World} {K : PySem.W.Frag} {mg : Str → Option Value} {base : Heap}
end
end K1

namespace HM
/-- a heap turned over, by columns up to diagonals -/
def Tp (h m : List Nat) : Prop := ∀ t : Int, (F h t : Int) - (F m (-2 - t) : Int) = t + 1
theorem Tp.nil : Tp [] [] := fun t => by
  rw [F_nil, F_nil]
  omega
theorem Tp.grow {h m : List Nat} (R : Tp h m) (H : IsHeap h) (M : IsHeap m) {L : Int → Prop} [DecidablePred L] {g g' : Nat → Bool} (hg : ∀ c, g c = (opn h c && decide (L (dg h c)))) (hg' : ∀ c, g' c = (opn m c && decide (L (-(dg m c))))) : Tp (grow h g) (grow m g') := by
  intro t
  have s := F_grow H hg t
  have s' := F_grow (L := fun d => L (-d)) M hg' (-2 - t)
  rw [s, s']
  have r1 := R (t - 1)
  have r2 := R t
  have r3 := R (t + 1)
  simp only [show -(-2 - (t - 1)) = t + 1 by omega, show -(-2 - t + 1) = t + 1 by omega, show -2 - t + 1 = -2 - (t - 1) by omega, show -2 - t - 1 = -2 - (t + 1) by omega] at *
  generalize F h (t - 1) = x0 at *
  generalize F h t = x1 at *
  generalize F h (t + 1) = x2 at *
  generalize F m (-2 - (t - 1)) = y0 at *
  generalize F m (-2 - t) = y1 at *
  generalize F m (-2 - (t + 1)) = y2 at *
  clear s s' R hg hg'
  by_cases p : L (t + 1)
  · simp only [p, true_and]
    split <;> split <;> omega
  · simp only [p, false_and, if_false]
    omega
/-- columns of two heaps and of the heap of their sum, behind i rings -/
def Sup (h1 h2 h3 : List Nat) (i : Int) : Prop := ∀ s t : Int, 1 ≤ F h1 s → 1 ≤ F h2 t → F h1 s + F h2 t ≤ F h3 (s + t + i) + 1
theorem Sup.nil : Sup [] [] [] 0 := fun s t => by
  rw [F_nil, F_nil, F_nil]
  omega
theorem Sup.grow {h1 h2 h3 : List Nat} {i : Int} (R : Sup h1 h2 h3 i) (H1 : IsHeap h1) (H2 : IsHeap h2) (H3 : IsHeap h3) {L1 L2 L3 : Int → Prop} [DecidablePred L1] [DecidablePred L2] [DecidablePred L3] (hL : ∀ d e, L1 d → L2 e → L3 (d + e + i))
    {g1 g2 g3 : Nat → Bool} (e1 : ∀ c, g1 c = (opn h1 c && decide (L1 (dg h1 c)))) (e2 : ∀ c, g2 c = (opn h2 c && decide (L2 (dg h2 c)))) (e3 : ∀ c, g3 c = (opn h3 c && decide (L3 (dg h3 c)))) : Sup (HM.grow h1 g1) (HM.grow h2 g2) (HM.grow h3 g3) (i + 1) := by
  intro s t
  have s1 := F_grow H1 e1 s
  have s2 := F_grow H2 e2 t
  have s3 := F_grow H3 e3 (s + t + (i + 1))
  rw [s1, s2, s3]
  have l := hL (s + 1) (t + 1)
  have r1 := R s t
  have r2 := R (s + 1) t
  have r3 := R s (t + 1)
  have r4 := R (s + 1) (t + 1)
  have r5 := R (s - 1) (t + 1)
  have r6 := R (s + 1) (t - 1)
  have a1 := F_mono H1 (s - 1)
  have a2 := F_mono H1 s
  have b1 := F_mono H2 (t - 1)
  have b2 := F_mono H2 t
  have c1 := F_mono H3 (s + t + i)
  have c2 := F_mono H3 (s + t + i + 1)
  simp only [show s - 1 + 1 = s by omega, show t - 1 + 1 = t by omega, show s + t + (i + 1) + 1 = s + t + i + 2 by omega, show s + t + (i + 1) - 1 = s + t + i by omega, show s + t + (i + 1) = s + t + i + 1 by omega, show s + t + i + 1 - 1 = s + t + i by omega, show s + t + i + 1 + 1 = s + t + i + 2 by omega, show s + 1 + t + i = s + t + i + 1 by omega, show s + (t + 1) + i = s + t + i + 1 by omega,
    show s + 1 + (t + 1) + i = s + t + i + 2 by omega, show s - 1 + (t + 1) + i = s + t + i by omega, show s + 1 + (t - 1) + i = s + t + i by omega] at *
  generalize F h1 (s - 1) = x0 at *
  generalize F h1 s = x1 at *
  generalize F h1 (s + 1) = x2 at *
  generalize F h2 (t - 1) = y0 at *
  generalize F h2 t = y1 at *
  generalize F h2 (t + 1) = y2 at *
  generalize F h3 (s + t + i) = z0 at *
  generalize F h3 (s + t + i + 1) = z1 at *
  generalize F h3 (s + t + i + 2) = z2 at *
  clear s1 s2 s3 R e1 e2 e3 hL
  by_cases p1 : L1 (s + 1)
  · by_cases p2 : L2 (t + 1)
    · have p3 := l p1 p2
      simp only [p1, p2, p3, true_and]
      split <;> split <;> split <;> omega
    · simp only [p1, p2, true_and, false_and, if_false]
      split <;> split <;> omega
  · by_cases p2 : L2 (t + 1)
    · simp only [p1, p2, true_and, false_and, if_false]
      split <;> split <;> omega
    · simp only [p1, p2, false_and, if_false]
      split <;> omega
end HM
namespace K1
open PySem PySem.Spec PyProof.Rows L2 Evl HM LX
theorem turn_rel {rs : List (Int × Int)} {ps qs : List Int} {n : Nat} (h : ∀ j, j < n → (K1N.nAt rs j : Int) ∣ ps.getD j 0 + qs.getD j 0) : ∀ i, i ≤ n → Tp (hseq rs ps i) (hseq rs qs i)
  | 0, _ => Tp.nil
  | i + 1, hi => by
    have R := turn_rel h i (by omega)
    have hd := h i hi
    show Tp (grow _ (gl _ _ _ (ps.getD i 0))) (grow _ (gl _ _ _ (qs.getD i 0)))
    generalize (K1N.nAt rs i : Int) = n at *
    generalize K1N.sAt rs i = s at *
    generalize ps.getD i 0 = p at *
    generalize qs.getD i 0 = q at *
    refine R.grow (hseq_ok rs _ i).1 (hseq_ok rs _ i).1 (L := fun d => (d * s - p) % n = 0) (fun c => rfl) (fun c => ?_)
    unfold gl
    refine congrArg (opn _ c && ·) (decide_eq_decide.mpr ?_)
    generalize dg (hseq rs qs i) c = d
    constructor
    · intro z
      obtain ⟨a, ha⟩ := Int.dvd_of_emod_eq_zero z
      obtain ⟨b, hb⟩ := hd
      exact Int.emod_eq_zero_of_dvd ⟨-(a + b), by rw [Int.mul_neg, Int.mul_add, Int.neg_mul]; omega⟩
    · intro z
      obtain ⟨a, ha⟩ := Int.dvd_of_emod_eq_zero z
      obtain ⟨b, hb⟩ := hd
      rw [Int.neg_mul] at ha
      exact Int.emod_eq_zero_of_dvd ⟨-(a + b), by rw [Int.mul_neg, Int.mul_add]; omega⟩
theorem rich_turn {rs : List (Int × Int)} {ps qs : List Int} (hl : qs.length = ps.length) (h : ∀ j, j < ps.length → (K1N.nAt rs j : Int) ∣ ps.getD j 0 + qs.getD j 0) (tot : Int) :
    (rich1 rs ps tot : Int) - (rich1 rs qs (2 * (ps.length : Int) - 2 - tot) : Int) = tot + 1 - ps.length := by
  have := turn_rel h ps.length (Nat.le_refl _) (tot - ps.length)
  unfold rich1
  rw [hl, show 2 * (ps.length : Int) - 2 - tot - (ps.length : Int) = -2 - (tot - (ps.length : Int)) by omega]
  omega
theorem sum_rel {rs : List (Int × Int)} {ps qs us : List Int} {n : Nat} (h : ∀ j : Nat, j < n → (K1N.nAt rs j : Int) ∣ us.getD j 0 - (ps.getD j 0 + qs.getD j 0 + (j : Int) * K1N.sAt rs j)) : ∀ i : Nat, i ≤ n → Sup (hseq rs ps i) (hseq rs qs i) (hseq rs us i) (i : Int)
  | 0, _ => Sup.nil
  | i + 1, hi => by
    have R := sum_rel h i (by omega)
    have hd := h i hi
    show Sup (grow _ (gl _ _ _ (ps.getD i 0))) (grow _ (gl _ _ _ (qs.getD i 0))) (grow _ (gl _ _ _ (us.getD i 0))) ((i : Int) + 1)
    generalize (K1N.nAt rs i : Int) = n at *
    generalize K1N.sAt rs i = s at *
    generalize ps.getD i 0 = p at *
    generalize qs.getD i 0 = q at *
    generalize us.getD i 0 = u at *
    refine R.grow (hseq_ok rs _ i).1 (hseq_ok rs _ i).1 (hseq_ok rs _ i).1 (L1 := fun d => (d * s - p) % n = 0) (L2 := fun d => (d * s - q) % n = 0) (L3 := fun d => (d * s - u) % n = 0) (fun d e z1 z2 => ?_) (fun c => rfl) (fun c => rfl) (fun c => rfl)
    obtain ⟨a, ha⟩ := Int.dvd_of_emod_eq_zero z1
    obtain ⟨b, hb⟩ := Int.dvd_of_emod_eq_zero z2
    obtain ⟨c, hc⟩ := hd
    exact Int.emod_eq_zero_of_dvd ⟨a + b - c, by rw [Int.mul_sub, Int.mul_add, Int.add_mul, Int.add_mul]; omega⟩
theorem rich_sum {rs : List (Int × Int)} {ps qs us : List Int} (h1 : qs.length = ps.length) (h2 : us.length = ps.length) (h : ∀ j : Nat, j < ps.length → (K1N.nAt rs j : Int) ∣ us.getD j 0 - (ps.getD j 0 + qs.getD j 0 + (j : Int) * K1N.sAt rs j)) {d e : Int} (a : 1 ≤ rich1 rs ps d) (b : 1 ≤ rich1 rs qs e) :
    rich1 rs ps d + rich1 rs qs e ≤ rich1 rs us (d + e) + 1 := by
  have := sum_rel h ps.length (Nat.le_refl _) (d - ps.length) (e - ps.length)
  unfold rich1 at *
  rw [h1] at *
  rw [h2]
  rw [show d - (ps.length : Int) + (e - (ps.length : Int)) + (ps.length : Int) = d + e - (ps.length : Int) by omega] at this
  exact this a b
theorem full_first {rs : List (Int × Int)} {ps : List Int} {n : Nat} (h : ∀ j : Nat, j < n → (K1N.nAt rs j : Int) ∣ ps.getD j 0 + (j : Int) * K1N.sAt rs j) : ∀ i : Nat, i ≤ n → hAt (hseq rs ps i) 0 = i
  | 0, _ => rfl
  | i + 1, hi => by
    have R := full_first h i (by omega)
    have hd := h i hi
    show hAt (grow _ (gl _ _ _ (ps.getD i 0))) 0 = i + 1
    rw [hAt_grow (fun c z => gl_opn c z), R]
    have : gl (hseq rs ps i) (K1N.nAt rs i) (K1N.sAt rs i) (ps.getD i 0) 0 = true := by
      unfold gl
      have e : dg (hseq rs ps i) 0 = -(i : Int) := by
        unfold dg
        rw [R]
        omega
      rw [e]
      obtain ⟨a, ha⟩ := hd
      have : (-(i : Int) * K1N.sAt rs i - ps.getD i 0) % (K1N.nAt rs i : Int) = 0 := Int.emod_eq_zero_of_dvd ⟨-a, by rw [Int.mul_neg, Int.neg_mul]; omega⟩
      rw [decide_eq_true this]
      rfl
    rw [this]
    rfl
theorem rich_none {rs : List (Int × Int)} {ps : List Int} (h : ∀ j : Nat, j < ps.length → (K1N.nAt rs j : Int) ∣ ps.getD j 0 + (j : Int) * K1N.sAt rs j) : rich1 rs ps 0 = 1 := by
  have e := full_first h ps.length (Nat.le_refl _)
  have up := rich_up rs ps (tot := 0) (Int.le_refl 0)
  have IH := (hseq_ok rs ps ps.length).1
  have : 0 < rich1 rs ps 0 := by
    refine Nat.pos_of_ne_zero fun z => ?_
    have s := (F_spec IH (0 - ps.length)).2
    have z2 : F (hseq rs ps ps.length) (0 - ps.length) = 0 := z
    rw [z2] at s
    unfold dg at s
    rw [e] at s
    omega
  omega
end K1

set_option exponentiation.threshold 400
namespace K1
open PySem PySem.Spec PyProof.Rows L2 Evl HM LX ZW ZM DM DR TE
/-- two chips at each joint -/
def canD (n : Nat) : Dl := (List.range n).map fun (j : Nat) => (((j : Int), 0), 2)
theorem can_succ (n : Nat) : canD (n + 1) = canD n ++ [(((n : Int), 0), 2)] := by
  unfold canD
  rw [List.range_succ, List.map_append]
  rfl
theorem can_key (n : Nat) : ∀ e ∈ canD n, ∃ j : Nat, j < n ∧ e = (((j : Int), 0), 2) := fun e he => by
  obtain ⟨j, hj, rfl⟩ := List.mem_map.mp he
  exact ⟨j, List.mem_range.mp hj, rfl⟩
theorem can_len (n : Nat) : (canD n).length = n := by
  unfold canD
  rw [List.length_map, List.length_range]
theorem can_nk : ∀ n, NK (canD n)
  | 0 => List.nodup_nil
  | n + 1 => by
    unfold NK
    rw [can_succ, List.map_append]
    refine List.nodup_append.mpr ⟨can_nk n, by simp, fun x hx y hy z => ?_⟩
    obtain ⟨e, he, rfl⟩ := List.mem_map.mp hx
    obtain ⟨j, hj, rfl⟩ := can_key n e he
    rw [List.mem_singleton.mp hy] at z
    have := congrArg Prod.fst z
    simp at this
    omega
theorem can_ab : ∀ n : Nat, Ab (canD n) = 2 * (n : Int)
  | 0 => rfl
  | n + 1 => by
    rw [can_succ, Ab_append, can_ab n]
    show 2 * (n : Int) + (((2 : Int).natAbs : Int) + 0) = _
    omega
theorem can_one : ∀ n : Nat, Sf one (canD n) = 2 * (n : Int)
  | 0 => rfl
  | n + 1 => by
    rw [can_succ, Sf_snoc, can_one n]
    show 2 * (n : Int) + 1 * 2 = _
    omega
theorem can_tau (rs : List (Int × Int)) (i : Nat) : ∀ n : Nat, n ≤ i → Sf (tau rs i) (canD n) = 2 * ((n : Int) * K1N.sAt rs i)
  | 0, _ => by
    show (0 : Int) = 2 * (0 * _)
    rw [Int.zero_mul]
    rfl
  | n + 1, h => by
    rw [can_succ, Sf_snoc, can_tau rs i n (by omega)]
    unfold tau
    dsimp only
    rw [if_neg (show ¬ (n : Int) = (i : Int) by omega), if_pos (show (n : Int) < (i : Int) by omega), Int.natCast_add, Int.add_mul]
    show _ + _ * 2 = 2 * (_ + 1 * _)
    omega
theorem can_tau2 (rs : List (Int × Int)) (i : Nat) : ∀ n : Nat, i ≤ n → Sf (tau rs i) (canD n) = 2 * ((i : Int) * K1N.sAt rs i)
  | 0, h => by
    have : i = 0 := by omega
    subst this
    show (0 : Int) = 2 * (0 * _)
    rw [Int.zero_mul]
    rfl
  | n + 1, h => by
    by_cases z : i = n + 1
    · rw [z]
      exact can_tau rs (n + 1) (n + 1) (Nat.le_refl _)
    · rw [can_succ, Sf_snoc, can_tau2 rs i n (by omega)]
      unfold tau
      dsimp only
      by_cases y : (n : Int) = (i : Int)
      · rw [if_pos y]
        omega
      · rw [if_neg y, if_neg (show ¬ (n : Int) < (i : Int) by omega)]
        omega
theorem can_in {rs : List (Int × Int)} {n : Nat} (h : n ≤ rs.length) (hr : ∀ j, j < rs.length → 1 ≤ K1N.sAt rs j ∧ K1N.sAt rs j < (K1N.nAt rs j : Int)) : KIn rs (canD n) := fun e he => by
  obtain ⟨j, hj, rfl⟩ := can_key n e he
  have := hr j (by omega)
  exact ⟨⟨by show (0 : Int) ≤ (j : Int); omega, by show (j : Int) < _; omega⟩, Int.le_refl 0, by show (0 : Int) < (K1N.nAt rs ((j : Int)).toNat : Int); rw [Int.toNat_natCast]; omega⟩
section
variable {P : Program} {w : World} {K : PySem.W.Frag} {mg : Str → Option Value} {base : Heap}
def spCanonical : Sp := fun vs H Q _ => ∃ c xs rs, vs = [.ref c] ∧ H c = some (.tup xs) ∧ RingsAt H 60 xs rs ∧ (1 ≤ xs.length ∧ xs.length ≤ 12) ∧ ∀ r H', Ex H H' → DealAt H' r (canD (xs.length - 1)) → Q (.ref r) H'
end
end K1

set_option exponentiation.threshold 400
namespace K1
open PySem PySem.Spec PyProof.Rows L2 Evl HM LX ZW ZM DM DR TE
theorem ints_ent (ds : Dl) : IntsT (ds.map ent) := fun p hp => by
  obtain ⟨e, _, rfl⟩ := List.mem_map.mp hp
  exact ⟨e.2, rfl⟩
theorem sameT_refl {ds : Dl} (n : NK ds) : sameT (ds.map ent) (ds.map ent) = true := by
  unfold sameT
  rw [decide_eq_true rfl, Bool.true_and, List.all_eq_true]
  intro p hp
  obtain ⟨e, he, rfl⟩ := List.mem_map.mp hp
  refine decide_eq_true ?_
  show valV (ds.map ent) (dk e.1) = some (V.int e.2)
  rw [valV_ent, getE_of n (p := e.1) (v := e.2) he]
  rfl
theorem emod_as (x n : Int) : x % n = x - n * (x / n) := by
  have := Int.mul_ediv_add_emod x n
  omega
theorem dvd_turn {n A B : Int} (h : A + B = 0) : n ∣ A % n + B % n := by
  rw [emod_as A n, emod_as B n]
  exact ⟨-(A / n + B / n), by rw [Int.mul_neg, Int.mul_add]; omega⟩
theorem dvd_sum {n A B C J : Int} (h : C = A + B + J) : n ∣ C % n - (A % n + B % n + J) := by
  rw [emod_as A n, emod_as B n, emod_as C n]
  exact ⟨A / n + B / n - C / n, by rw [Int.mul_sub, Int.mul_add]; omega⟩
theorem dvd_none {n A J : Int} (h : A + J = 0) : n ∣ A % n + J := by
  rw [emod_as A n]
  exact ⟨-(A / n), by rw [Int.mul_neg]; omega⟩
/-- richness and 1 of a deal -/
noncomputable def richD (rs : List (Int × Int)) (ds : Dl) : Nat := rich1 rs (cx rs fun i => Sf (tau rs i) ds) (Sf one ds)
theorem can_rich {rs : List (Int × Int)} {g : Nat} (hg : g = rs.length) (h1 : 1 ≤ g) : richD rs (canD (g - 1)) = g := by
  unfold richD
  have l0 : ∀ t, (cx rs t).length = g := fun t => by rw [cx_len, hg]
  have e := rich_turn (rs := rs) (ps := cx rs fun i => Sf (tau rs i) (canD (g - 1))) (qs := cx rs fun _ => 0) (by rw [l0, l0]) (fun j hj => by
    rw [l0] at hj
    rw [cx_get (by omega), cx_get (by omega)]
    refine dvd_turn ?_
    rw [can_tau2 rs j (g - 1) (by omega)]
    omega) (Sf one (canD (g - 1)))
  have z := rich_none (rs := rs) (ps := cx rs fun _ => 0) (fun j hj => by
    rw [l0] at hj
    rw [cx_get (by omega)]
    exact dvd_none (by omega))
  rw [l0, can_one, show 2 * (g : Int) - 2 - 2 * ((g - 1 : Nat) : Int) = 0 by omega, z] at e
  rw [can_one]
  omega
theorem rr_deal {rs : List (Int × Int)} {ds ls : Dl} {g : Nat} (hg : g = rs.length) (h1 : 1 ≤ g) (h : ∀ f, Nl rs f → Sf f ls = Sf f (canD (g - 1)) + (-1) * Sf f ds) :
    (richD rs ds : Int) - (richD rs ls : Int) = Sf one ds + 1 - g ∧ (1 ≤ richD rs ds → 1 ≤ richD rs ls → richD rs ds + richD rs ls ≤ g + 1) := by
  have l0 : ∀ t, (cx rs t).length = g := fun t => by rw [cx_len, hg]
  have ho := h _ (nl_one rs)
  rw [can_one] at ho
  constructor
  · have e := rich_turn (rs := rs) (ps := cx rs fun i => Sf (tau rs i) ds) (qs := cx rs fun i => Sf (tau rs i) ls) (by rw [l0, l0]) (fun j hj => by
      rw [l0] at hj
      rw [cx_get (by omega), cx_get (by omega)]
      refine dvd_turn ?_
      rw [h _ (nl_tau rs j), can_tau2 rs j (g - 1) (by omega)]
      omega) (Sf one ds)
    rw [l0, show 2 * (g : Int) - 2 - Sf one ds = Sf one ls by omega] at e
    exact e
  · intro a b
    have e := rich_sum (rs := rs) (ps := cx rs fun i => Sf (tau rs i) ds) (qs := cx rs fun i => Sf (tau rs i) ls) (us := cx rs fun i => Sf (tau rs i) (canD (g - 1))) (by rw [l0, l0]) (by rw [l0, l0]) (fun j hj => by
      rw [l0] at hj
      rw [cx_get (by omega), cx_get (by omega), cx_get (by omega)]
      refine dvd_sum ?_
      rw [h _ (nl_tau rs j)]
      omega) a b
    rw [show Sf one ds + Sf one ls = Sf one (canD (g - 1)) by rw [can_one]; omega] at e
    have c := can_rich hg h1
    unfold richD at c ⊢
    omega
theorem sum_deal {rs : List (Int × Int)} {ds es us : Dl} (h : ∀ f, Nl rs f → Sf f us = Sf f ds + 1 * Sf f es) (a : 1 ≤ richD rs ds) (b : 1 ≤ richD rs es) : richD rs ds + richD rs es ≤ richD rs us + 1 := by
  have l0 : ∀ t, (cx rs t).length = rs.length := fun t => cx_len _ _
  have ho := h _ (nl_one rs)
  have e := rich_sum (rs := rs) (ps := cx rs fun i => Sf (tau rs i) ds) (qs := cx rs fun i => Sf (tau rs i) es) (us := cx rs fun i => Sf (tau rs i) us) (by rw [l0, l0]) (by rw [l0, l0]) (fun j hj => by
    rw [l0] at hj
    rw [cx_get (by omega), cx_get (by omega), cx_get (by omega)]
    refine dvd_sum ?_
    rw [h _ (nl_tau rs j)]
    omega) a b
  rw [show Sf one ds + Sf one es = Sf one us by omega] at e
  exact e
end K1

set_option exponentiation.threshold 400
namespace K1
open PySem PySem.Spec PyProof.Rows L2 Evl HM LX ZW ZM MP DM DR TE
/-! deals with their places sent on -/
def mapD (g : Pl → Pl) (ds : Dl) : Dl := ds.map fun e => (g e.1, e.2)
theorem mapD_sf (f : Pl → Int) (g : Pl → Pl) : ∀ ds : Dl, Sf f (mapD g ds) = Sf (fun p => f (g p)) ds
  | [] => rfl
  | e :: r => by
    show f (g e.1) * e.2 + Sf f (mapD g r) = f (g e.1) * e.2 + Sf (fun p => f (g p)) r
    rw [mapD_sf f g r]
theorem mapD_ab (g : Pl → Pl) : ∀ ds : Dl, Ab (mapD g ds) = Ab ds
  | [] => rfl
  | e :: r => by
    show (e.2.natAbs : Int) + Ab (mapD g r) = _ + Ab r
    rw [mapD_ab g r]
theorem mapD_len (g : Pl → Pl) (ds : Dl) : (mapD g ds).length = ds.length := by
  unfold mapD
  rw [List.length_map]
theorem mapD_nk {g q : Pl → Pl} {ds : Dl} (n : NK ds) (h : ∀ e ∈ ds, q (g e.1) = e.1) : NK (mapD g ds) := by
  unfold NK mapD
  rw [List.map_map]
  have n2 : ds.Pairwise fun a b => a.1 ≠ b.1 := List.pairwise_map.mp n
  exact List.pairwise_map.mpr (n2.imp_of_mem fun {a b} ha hb c (e : g a.1 = g b.1) => c (by rw [← h a ha, ← h b hb, e]))
theorem mapD_in {g : Pl → Pl} {rs rs' : List (Int × Int)} {ds : Dl} (n : KIn rs ds) (h : ∀ p, PlIn rs p → PlIn rs' (g p)) : KIn rs' (mapD g ds) := fun e he => by
  obtain ⟨d, hd, rfl⟩ := List.mem_map.mp he
  exact h _ (n d hd)
theorem mapD_ok {g q : Pl → Pl} {rs rs' : List (Int × Int)} {ds : Dl} {B : Int} (d : DOk rs ds B) (hq : ∀ p, PlIn rs p → q (g p) = p) (h : ∀ p, PlIn rs p → PlIn rs' (g p)) : DOk rs' (mapD g ds) B :=
  ⟨mapD_nk (q := q) d.nk fun e he => hq _ (d.keys e he), mapD_in d.keys h, by rw [mapD_ab]; exact d.abs, by rw [mapD_len]; exact d.len⟩
theorem mapD_snoc (g : Pl → Pl) (ds : Dl) (e : Pl × Int) : mapD g (ds ++ [e]) = mapD g ds ++ [(g e.1, e.2)] := by
  unfold mapD
  rw [List.map_append]
  rfl
theorem sf_dvd {n s : Int} {f1 f2 : Pl → Int} : ∀ ds : Dl, (∀ e ∈ ds, n ∣ f1 e.1 + f2 e.1 - s) → n ∣ Sf f1 ds + Sf f2 ds - s * Sf one ds
  | [], _ => ⟨0, by show (0 : Int) + 0 - s * 0 = n * 0; omega⟩
  | e :: r, h => by
    obtain ⟨x, hx⟩ := h e (List.mem_cons_self ..)
    obtain ⟨y, hy⟩ := sf_dvd r fun d hd => h d (List.mem_cons_of_mem _ hd)
    refine ⟨x * e.2 + y, ?_⟩
    show f1 e.1 * e.2 + Sf f1 r + (f2 e.1 * e.2 + Sf f2 r) - s * (1 * e.2 + Sf one r) = _
    rw [Int.mul_add n, ← hy, ← Int.mul_assoc n, ← hx, Int.sub_mul, Int.add_mul, Int.mul_add s, Int.one_mul]
    omega
theorem mod_of_dvd {A B n : Int} (h : n ∣ A - B) : A % n = B % n := Int.emod_eq_emod_iff_emod_sub_eq_zero.mpr (Int.emod_eq_zero_of_dvd h)
/-! the chain from right to left -/
theorem rev_get {rs : List (Int × Int)} {i : Nat} (h : i < rs.length) : rs.reverse.getD i (0, 0) = rs.getD (rs.length - 1 - i) (0, 0) := by
  rw [List.getD_eq_getElem?_getD, List.getD_eq_getElem?_getD, List.getElem?_reverse h]
theorem nAt_rev {rs : List (Int × Int)} {i : Nat} (h : i < rs.length) : K1N.nAt rs.reverse i = K1N.nAt rs (rs.length - 1 - i) := by
  unfold K1N.nAt
  rw [rev_get h]
theorem sAt_rev {rs : List (Int × Int)} {i : Nat} (h : i < rs.length) : K1N.sAt rs.reverse i = K1N.sAt rs (rs.length - 1 - i) := by
  unfold K1N.sAt
  rw [rev_get h]
theorem ok_rev {rs : List (Int × Int)} (ok : RsOk rs rs.length) : RsOk rs.reverse rs.reverse.length := fun j hj => by
  rw [List.length_reverse] at hj
  rw [nAt_rev hj, sAt_rev hj]
  exact ok _ (by omega)
def bwP (rs : List (Int × Int)) (p : Pl) : Pl := ((rs.length : Int) - 1 - p.1, (K1N.sAt rs p.1.toNat - p.2) % (K1N.nAt rs p.1.toNat : Int))
theorem bwP_in {rs : List (Int × Int)} {p : Pl} (ok : RsOk rs rs.length) (h : PlIn rs p) : PlIn rs.reverse (bwP rs p) := by
  obtain ⟨⟨h0, h1⟩, h2, h3⟩ := h
  have k := ok p.1.toNat (by omega)
  refine ⟨⟨?_, ?_⟩, Int.emod_nonneg _ (by omega), ?_⟩
  · show 0 ≤ (rs.length : Int) - 1 - p.1
    omega
  · rw [List.length_reverse]
    show (rs.length : Int) - 1 - p.1 < _
    omega
  · show _ % _ < (K1N.nAt rs.reverse ((rs.length : Int) - 1 - p.1).toNat : Int)
    rw [nAt_rev (by omega), show rs.length - 1 - ((rs.length : Int) - 1 - p.1).toNat = p.1.toNat by omega]
    exact Int.emod_lt_of_pos _ (by omega)
theorem bwP_bw {rs : List (Int × Int)} {p : Pl} (h : PlIn rs p) : bwP rs.reverse (bwP rs p) = p := by
  obtain ⟨⟨h0, h1⟩, h2, h3⟩ := h
  refine Prod.ext ?_ ?_
  · show (rs.reverse.length : Int) - 1 - ((rs.length : Int) - 1 - p.1) = p.1
    rw [List.length_reverse]
    omega
  · show (K1N.sAt rs.reverse ((rs.length : Int) - 1 - p.1).toNat - (K1N.sAt rs p.1.toNat - p.2) % (K1N.nAt rs p.1.toNat : Int)) % (K1N.nAt rs.reverse ((rs.length : Int) - 1 - p.1).toNat : Int) = p.2
    rw [nAt_rev (by omega), sAt_rev (by omega), show rs.length - 1 - ((rs.length : Int) - 1 - p.1).toNat = p.1.toNat by omega]
    generalize (K1N.nAt rs p.1.toNat : Int) = n at h3 ⊢
    generalize K1N.sAt rs p.1.toNat = s
    rw [emod_as (s - p.2) n, show s - (s - p.2 - n * ((s - p.2) / n)) = p.2 + n * ((s - p.2) / n) by omega, Int.add_mul_emod_self_left]
    exact Int.emod_eq_of_lt h2 h3
theorem not_own {rs : List (Int × Int)} {p : Pl} (c : ¬ K1N.own rs p = true) : 0 < p.1 ∧ p.2 = K1N.sAt rs p.1.toNat := by
  have c2 : K1N.own rs p = false := by
    cases h : K1N.own rs p with
    | true => exact absurd h c
    | false => rfl
  unfold K1N.own at c2
  have t : (decide (0 < p.1) && decide (p.2 = K1N.sAt rs p.1.toNat)) = true := by
    cases z : (decide (0 < p.1) && decide (p.2 = K1N.sAt rs p.1.toNat)) with
    | true => rfl
    | false =>
      rw [z] at c2
      cases c2
  exact ⟨of_decide_eq_true (Bool.and_eq_true_iff.mp t).1, of_decide_eq_true (Bool.and_eq_true_iff.mp t).2⟩
theorem wname_joint {rs : List (Int × Int)} {p : Pl} (h0 : 0 < p.1) (h1 : p.2 = K1N.sAt rs p.1.toNat) : wname rs p = (p.1 - 1, 0) := by
  have o : K1N.own rs p = false := by
    unfold K1N.own
    rw [decide_eq_true h0, decide_eq_true h1]
    rfl
  unfold wname
  rw [o, if_neg (by decide)]
theorem nl_bw {rs : List (Int × Int)} {f : Pl → Int} (ok : RsOk rs rs.length) (hf : Nl rs.reverse f) : Nl rs (fun p => f (bwP rs p)) := fun p h0 h1 => by
  by_cases c : K1N.own rs p = true
  · rw [wname_own c]
  · obtain ⟨c1, c2⟩ := not_own c
    rw [wname_joint c1 c2]
    have k := ok p.1.toNat (by omega)
    have k2 := ok (p.1 - 1).toNat (by omega)
    have e1 : bwP rs p = ((rs.length : Int) - 1 - p.1, 0) := Prod.ext rfl (by
      show (K1N.sAt rs p.1.toNat - p.2) % _ = 0
      rw [c2, Int.sub_self, Int.zero_emod])
    have e2 : bwP rs (p.1 - 1, 0) = ((rs.length : Int) - 1 - (p.1 - 1), K1N.sAt rs (p.1 - 1).toNat) := Prod.ext rfl (by
      show (K1N.sAt rs (p.1 - 1).toNat - 0) % _ = _
      rw [Int.sub_zero]
      exact Int.emod_eq_of_lt (by omega) k2.2)
    have t := hf ((rs.length : Int) - 1 - (p.1 - 1), K1N.sAt rs (p.1 - 1).toNat) (by show 0 ≤ (rs.length : Int) - 1 - (p.1 - 1); omega) (by rw [List.length_reverse]; show (rs.length : Int) - 1 - (p.1 - 1) < _; omega)
    rw [wname_joint (p := ((rs.length : Int) - 1 - (p.1 - 1), K1N.sAt rs (p.1 - 1).toNat)) (by show 0 < (rs.length : Int) - 1 - (p.1 - 1); omega) (by
      show K1N.sAt rs (p.1 - 1).toNat = K1N.sAt rs.reverse ((rs.length : Int) - 1 - (p.1 - 1)).toNat
      rw [sAt_rev (by omega), show rs.length - 1 - ((rs.length : Int) - 1 - (p.1 - 1)).toNat = (p.1 - 1).toNat by omega])] at t
    show f (bwP rs (p.1 - 1, 0)) = f (bwP rs p)
    rw [e1, e2, ← t]
    exact congrArg f (Prod.ext (by show (rs.length : Int) - 1 - (p.1 - 1) - 1 = _; omega) rfl)
def bwx (rs : List (Int × Int)) (ps : List Int) (tot : Int) : List Int := (List.range ps.length).map fun i => ((tot - ps.length + 1) * K1N.sAt rs (ps.length - 1 - i) - ps.getD (ps.length - 1 - i) 0) % (K1N.nAt rs (ps.length - 1 - i) : Int)
theorem bwx_len (rs : List (Int × Int)) (ps : List Int) (tot : Int) : (bwx rs ps tot).length = ps.length := by
  unfold bwx
  rw [List.length_map, List.length_range]
theorem bwx_get (rs : List (Int × Int)) {ps : List Int} (tot : Int) {i : Nat} (h : i < ps.length) : (bwx rs ps tot).getD i 0 = ((tot - ps.length + 1) * K1N.sAt rs (ps.length - 1 - i) - ps.getD (ps.length - 1 - i) 0) % (K1N.nAt rs (ps.length - 1 - i) : Int) := mapr_get _ h
theorem bwx_ok {rs : List (Int × Int)} {ps : List Int} (hl : ps.length = rs.length) (ok : RsOk rs rs.length) (tot : Int) : PlOk rs.reverse (bwx rs ps tot) := fun j hj => by
  rw [bwx_len] at hj
  rw [bwx_get rs tot hj, nAt_rev (by omega), hl]
  have := ok (rs.length - 1 - j) (by omega)
  exact ⟨Int.emod_nonneg _ (by omega), Int.emod_lt_of_pos _ (by omega)⟩
theorem tau_bw {rs : List (Int × Int)} {p : Pl} (h : PlIn rs p) {i : Nat} (hi : i < rs.length) : (K1N.nAt rs (rs.length - 1 - i) : Int) ∣ tau rs.reverse i (bwP rs p) + tau rs (rs.length - 1 - i) p - K1N.sAt rs (rs.length - 1 - i) := by
  obtain ⟨⟨h0, h1⟩, h2, h3⟩ := h
  unfold tau bwP
  by_cases c : p.1 = ((rs.length - 1 - i : Nat) : Int)
  · rw [if_pos (show (rs.length : Int) - 1 - p.1 = (i : Int) by omega), if_pos c, show p.1.toNat = rs.length - 1 - i by omega, emod_as]
    exact ⟨-((K1N.sAt rs (rs.length - 1 - i) - p.2) / (K1N.nAt rs (rs.length - 1 - i) : Int)), by rw [Int.mul_neg]; omega⟩
  · rw [if_neg (show ¬ (rs.length : Int) - 1 - p.1 = (i : Int) by omega), if_neg c]
    by_cases d : p.1 < ((rs.length - 1 - i : Nat) : Int)
    · rw [if_pos d, if_neg (show ¬ (rs.length : Int) - 1 - p.1 < (i : Int) by omega)]
      exact ⟨0, by omega⟩
    · rw [if_neg d, if_pos (show (rs.length : Int) - 1 - p.1 < (i : Int) by omega), sAt_rev hi]
      exact ⟨0, by omega⟩
theorem class_bw {rs : List (Int × Int)} {ds us : Dl} (kin : KIn rs ds) (h : ∀ f, Nl rs.reverse f → Sf f us = Sf f (mapD (bwP rs) ds)) :
    Sf one us = Sf one ds ∧ (cx rs.reverse fun i => Sf (tau rs.reverse i) us) = bwx rs (cx rs fun i => Sf (tau rs i) ds) (Sf one ds) := by
  constructor
  · rw [h _ (nl_one _), mapD_sf]
    rfl
  · refine list_ext (by rw [cx_len, bwx_len, cx_len, List.length_reverse]) fun i hi => ?_
    rw [cx_len] at hi
    have hi2 : i < rs.length := by rw [List.length_reverse] at hi; exact hi
    rw [cx_get hi, bwx_get rs _ (by rw [cx_len]; exact hi2), cx_len, cx_get (show rs.length - 1 - i < rs.length by omega), h _ (nl_tau _ i), mapD_sf, nAt_rev hi2, sAt_rev hi2]
    obtain ⟨y, hy⟩ := sf_dvd (f1 := fun p => tau rs.reverse i (bwP rs p)) (f2 := tau rs (rs.length - 1 - i)) ds fun e he => tau_bw (kin e he) hi2
    refine mod_of_dvd ?_
    have hk : ((rs.length - 1 - i : Nat) : Int) = (rs.length : Int) - 1 - (i : Int) := by omega
    rw [hk, emod_as (Sf (tau rs (rs.length - 1 - i)) ds - ((rs.length : Int) - 1 - (i : Int)) * K1N.sAt rs (rs.length - 1 - i))]
    generalize Sf (tau rs (rs.length - 1 - i)) ds = t at *
    generalize Sf (fun p => tau rs.reverse i (bwP rs p)) ds = T at *
    generalize K1N.sAt rs (rs.length - 1 - i) = s at *
    generalize (K1N.nAt rs (rs.length - 1 - i) : Int) = n at *
    generalize Sf one ds = tot at *
    refine ⟨y - (t - ((rs.length : Int) - 1 - (i : Int)) * s) / n, ?_⟩
    rw [Int.mul_sub, ← hy]
    generalize n * ((t - ((rs.length : Int) - 1 - (i : Int)) * s) / n) = w
    rw [Int.add_mul, Int.sub_mul, Int.sub_mul, Int.sub_mul, Int.one_mul, Int.mul_comm s tot]
    omega
/-! maps -/
theorem mls_snoc (rs : List (Int × Int)) (ps : List Int) : ∀ k i, mls rs ps (k + 1) i = mls rs ps k i ++ [mL rs ps (i + k)]
  | 0, i => rfl
  | k + 1, i => by
    show mL rs ps i :: mls rs ps (k + 1) (i + 1) = mL rs ps i :: (mls rs ps k (i + 1) ++ [mL rs ps (i + (k + 1))])
    rw [mls_snoc rs ps k (i + 1), show i + 1 + k = i + (k + 1) by omega]
theorem opN_flip (M : Int → Bool) (E : Int → Int) (c v : Int) : opN (fun u => M (-u - c)) (fun u => E (-u - c)) v = opE M E (-v - c) := by
  unfold opN opE
  show (if M (-v - c) = true then min (E (-(v - 1) - c) + 1) (E (-(v + 1) - c)) else E (-v - c)) = _
  rw [show -(v - 1) - c = -v - c + 1 by omega, show -(v + 1) - c = -v - c - 1 by omega]
theorem mL_bw {rs : List (Int × Int)} {ps : List Int} (hl : ps.length = rs.length) (tot : Int) {i : Nat} (hi : i < ps.length) (v : Int) :
    mL rs.reverse (bwx rs ps tot) i v = mL rs ps (ps.length - 1 - i) (-v - (tot - ps.length + 1)) := by
  unfold mL
  rw [bwx_get rs tot hi, nAt_rev (by omega), sAt_rev (by omega), ← hl, decide_eq_decide]
  generalize K1N.sAt rs (ps.length - 1 - i) = s
  generalize (K1N.nAt rs (ps.length - 1 - i) : Int) = n
  generalize ps.getD (ps.length - 1 - i) 0 = x
  generalize tot - (ps.length : Int) + 1 = c
  rw [emod_as (c * s - x) n]
  have e : v * s + (c * s - x - n * ((c * s - x) / n)) = -((-v - c) * s + x) + n * (-((c * s - x) / n)) := by
    rw [Int.sub_mul, Int.neg_mul, Int.mul_neg]
    omega
  rw [e, Int.add_mul_emod_self_left]
  constructor
  · intro y
    exact Int.emod_eq_zero_of_dvd (Int.dvd_neg.mp (Int.dvd_of_emod_eq_zero y))
  · intro y
    exact Int.emod_eq_zero_of_dvd (Int.dvd_neg.mpr (Int.dvd_of_emod_eq_zero y))
theorem napp_bw {rs : List (Int × Int)} {ps : List Int} (hl : ps.length = rs.length) (tot : Int) (E : Int → Int) : ∀ k, k ≤ ps.length →
    napp (mls rs.reverse (bwx rs ps tot) k (ps.length - k)) (fun u => E (-u - (tot - ps.length + 1))) = fun u => eapp (mls rs ps k 0) E (-u - (tot - ps.length + 1))
  | 0, _ => rfl
  | k + 1, hk => by
    show opN (mL rs.reverse (bwx rs ps tot) (ps.length - (k + 1))) (napp (mls rs.reverse (bwx rs ps tot) k (ps.length - (k + 1) + 1)) fun u => E (-u - (tot - ps.length + 1))) = _
    rw [show ps.length - (k + 1) + 1 = ps.length - k by omega, napp_bw hl tot E k (by omega), mls_snoc, eapp_snoc, Nat.zero_add]
    funext v
    rw [show mL rs.reverse (bwx rs ps tot) (ps.length - (k + 1)) = fun u => mL rs ps k (-u - (tot - ps.length + 1)) from funext fun u => by
      rw [mL_bw hl tot (by omega), show ps.length - 1 - (ps.length - (k + 1)) = k by omega]]
    exact opN_flip _ _ _ _
theorem hh_bw {rs : List (Int × Int)} {ps : List Int} (hl : ps.length = rs.length) (ok : RsOk rs rs.length) (tot a b : Int) : hh rs.reverse (bwx rs ps tot) tot b a = hh rs ps tot a b := by
  have ok1 : RsOk rs ps.length := by rw [hl]; exact ok
  have ok2 : RsOk rs.reverse (bwx rs ps tot).length := by
    have := ok_rev ok
    rw [bwx_len, hl]
    rw [List.length_reverse] at this
    exact this
  rw [← hh_napp ok2, ← hh_napp ok1, bwx_len, both_ends _ (mls_sparse ok1 _ _ (by omega))]
  have := congrFun (napp_bw hl tot (MP.start a) ps.length (Nat.le_refl _)) b
  rw [Nat.sub_self] at this
  rw [show base (-a - (tot - (ps.length : Int)) - 1) = fun u => MP.start a (-u - (tot - ps.length + 1)) from funext fun u => by
    unfold base MP.start
    omega, this, show -b - (tot - (ps.length : Int) + 1) = -b - (tot - (ps.length : Int)) - 1 by omega]
theorem rich_hh {rs : List (Int × Int)} {ps : List Int} (h : PlOk rs ps) (tot : Int) : (rich1 rs ps tot : Int) = hh rs ps tot 0 0 := by
  unfold hh
  rw [mvp_zero h, Int.add_zero, Int.add_zero]
theorem rich_bw {rs : List (Int × Int)} {ps : List Int} (hl : ps.length = rs.length) (ok : RsOk rs rs.length) (h : PlOk rs ps) (tot : Int) : rich1 rs.reverse (bwx rs ps tot) tot = rich1 rs ps tot := by
  have := hh_bw hl ok tot 0 0
  rw [← rich_hh h, ← rich_hh (bwx_ok hl ok tot)] at this
  omega
theorem fm_bw {rs : List (Int × Int)} {ps : List Int} (hl : ps.length = rs.length) (ok : RsOk rs rs.length) (tot i : Int) : fm rs.reverse (bwx rs ps tot) tot (0 - fm rs ps tot i) = 0 - i := by
  have ok1 : RsOk rs ps.length := by rw [hl]; exact ok
  have ok2 : RsOk rs.reverse (bwx rs ps tot).length := by
    have := ok_rev ok
    rw [bwx_len, hl]
    rw [List.length_reverse] at this
    exact this
  have key : ∀ b : Int, (if -b ≤ fm rs.reverse (bwx rs ps tot) tot (0 - fm rs ps tot i) then (1 : Int) else 0) = if i ≤ b then 1 else 0 := fun b => by
    rw [← hh_step ok2, hh_bw hl ok, hh_bw hl ok]
    exact hh_right ok1 (by omega)
  generalize fm rs.reverse (bwx rs ps tot) tot (0 - fm rs ps tot i) = z at key
  have k1 := key i
  have k2 := key (-z)
  rw [if_pos (Int.le_refl _)] at k1
  rw [if_pos (by omega)] at k2
  have a1 : -i ≤ z := by
    by_cases c : -i ≤ z
    · exact c
    · rw [if_neg c] at k1
      omega
  have a2 : i ≤ -z := by
    by_cases c : i ≤ -z
    · exact c
    · rw [if_neg c] at k2
      omega
  omega
/-! one ring turned over -/
def flR (rs : List (Int × Int)) (k : Nat) : List (Int × Int) := rs.set k ((K1N.nAt rs k : Int), (K1N.nAt rs k : Int) - K1N.sAt rs k)
theorem flR_len (rs : List (Int × Int)) (k : Nat) : (flR rs k).length = rs.length := by
  unfold flR
  rw [List.length_set]
theorem flR_get {rs : List (Int × Int)} {k : Nat} (hk : k < rs.length) (j : Nat) : (flR rs k).getD j (0, 0) = if j = k then ((K1N.nAt rs k : Int), (K1N.nAt rs k : Int) - K1N.sAt rs k) else rs.getD j (0, 0) := by
  unfold flR
  rw [List.getD_eq_getElem?_getD, List.getD_eq_getElem?_getD, List.getElem?_set]
  by_cases c : k = j
  · subst c
    rw [if_pos rfl, if_pos hk, if_pos rfl]
    rfl
  · rw [if_neg c, if_neg (fun z => c z.symm)]
theorem nAt_fl {rs : List (Int × Int)} {k : Nat} (hk : k < rs.length) (j : Nat) : K1N.nAt (flR rs k) j = K1N.nAt rs j := by
  unfold K1N.nAt
  rw [flR_get hk]
  by_cases c : j = k
  · subst c
    rw [if_pos rfl]
    exact Int.toNat_natCast _
  · rw [if_neg c]
theorem sAt_fl {rs : List (Int × Int)} {k : Nat} (hk : k < rs.length) (j : Nat) : K1N.sAt (flR rs k) j = if j = k then (K1N.nAt rs k : Int) - K1N.sAt rs k else K1N.sAt rs j := by
  unfold K1N.sAt
  rw [flR_get hk]
  by_cases c : j = k
  · rw [if_pos c, if_pos c]
    rfl
  · rw [if_neg c, if_neg c]
theorem ok_fl {rs : List (Int × Int)} {k : Nat} (hk : k < rs.length) (ok : RsOk rs rs.length) : RsOk (flR rs k) (flR rs k).length := fun j hj => by
  rw [flR_len] at hj
  rw [nAt_fl hk, sAt_fl hk]
  by_cases c : j = k
  · subst c
    have := ok j hj
    rw [if_pos rfl]
    omega
  · rw [if_neg c]
    exact ok j hj
theorem flR_fl {rs : List (Int × Int)} {k : Nat} (hk : k < rs.length) (hn : 0 ≤ (rs.getD k (0, 0)).1) : flR (flR rs k) k = rs := by
  show (flR rs k).set k ((K1N.nAt (flR rs k) k : Int), (K1N.nAt (flR rs k) k : Int) - K1N.sAt (flR rs k) k) = rs
  rw [nAt_fl hk, sAt_fl hk, if_pos rfl]
  unfold flR
  rw [List.set_set, show (K1N.nAt rs k : Int) - ((K1N.nAt rs k : Int) - K1N.sAt rs k) = K1N.sAt rs k by omega]
  have e : ((K1N.nAt rs k : Int), K1N.sAt rs k) = rs[k] := by
    unfold K1N.nAt K1N.sAt
    rw [List.getD_eq_getElem?_getD, List.getElem?_eq_getElem hk] at hn ⊢
    exact Prod.ext (Int.toNat_of_nonneg hn) rfl
  rw [e, List.set_getElem_self]
def flP (rs : List (Int × Int)) (k : Nat) (p : Pl) : Pl := (p.1, if p.1 = (k : Int) then (-p.2) % (K1N.nAt rs k : Int) else p.2)
theorem flP_in {rs : List (Int × Int)} {k : Nat} {p : Pl} (hk : k < rs.length) (ok : RsOk rs rs.length) (h : PlIn rs p) : PlIn (flR rs k) (flP rs k p) := by
  obtain ⟨⟨h0, h1⟩, h2, h3⟩ := h
  refine ⟨⟨h0, by rw [flR_len]; exact h1⟩, ?_⟩
  show 0 ≤ (if p.1 = (k : Int) then (-p.2) % (K1N.nAt rs k : Int) else p.2) ∧ (if p.1 = (k : Int) then (-p.2) % (K1N.nAt rs k : Int) else p.2) < (K1N.nAt (flR rs k) p.1.toNat : Int)
  rw [nAt_fl hk]
  by_cases c : p.1 = (k : Int)
  · have := ok k hk
    rw [if_pos c, show p.1.toNat = k by omega]
    exact ⟨Int.emod_nonneg _ (by omega), Int.emod_lt_of_pos _ (by omega)⟩
  · rw [if_neg c]
    exact ⟨h2, h3⟩
theorem flP_fl {rs : List (Int × Int)} {k : Nat} {p : Pl} (hk : k < rs.length) (h : PlIn rs p) : flP (flR rs k) k (flP rs k p) = p := by
  obtain ⟨⟨h0, h1⟩, h2, h3⟩ := h
  refine Prod.ext rfl ?_
  show (if p.1 = (k : Int) then (-(if p.1 = (k : Int) then (-p.2) % (K1N.nAt rs k : Int) else p.2)) % (K1N.nAt (flR rs k) k : Int) else (if p.1 = (k : Int) then (-p.2) % (K1N.nAt rs k : Int) else p.2)) = p.2
  rw [nAt_fl hk]
  by_cases c : p.1 = (k : Int)
  · rw [if_pos c, if_pos c]
    rw [show p.1.toNat = k by omega] at h3
    generalize (K1N.nAt rs k : Int) = n at *
    rw [emod_as (-p.2) n, show -(-p.2 - n * (-p.2 / n)) = p.2 + n * (-p.2 / n) by omega, Int.add_mul_emod_self_left]
    exact Int.emod_eq_of_lt h2 h3
  · rw [if_neg c, if_neg c]
theorem nl_fl {rs : List (Int × Int)} {k : Nat} {f : Pl → Int} (hk : k < rs.length) (ok : RsOk rs rs.length) (hf : Nl (flR rs k) f) : Nl rs (fun p => f (flP rs k p)) := fun p h0 h1 => by
  by_cases c : K1N.own rs p = true
  · rw [wname_own c]
  · obtain ⟨c1, c2⟩ := not_own c
    rw [wname_joint c1 c2]
    have kk := ok p.1.toNat (by omega)
    have t := hf (flP rs k p) h0 (by rw [flR_len]; exact h1)
    rw [wname_joint (p := flP rs k p) c1 (by
      show (if p.1 = (k : Int) then (-p.2) % (K1N.nAt rs k : Int) else p.2) = K1N.sAt (flR rs k) p.1.toNat
      rw [sAt_fl hk]
      by_cases d : p.1 = (k : Int)
      · rw [if_pos d, if_pos (by omega), c2]
        rw [show p.1.toNat = k by omega] at kk ⊢
        rw [← Int.add_emod_right, Int.emod_eq_of_lt (by omega) (by omega)]
        omega
      · rw [if_neg d, if_neg (by omega), c2])] at t
    show f (flP rs k (p.1 - 1, 0)) = f (flP rs k p)
    rw [← t]
    refine congrArg f (Prod.ext rfl ?_)
    show (if p.1 - 1 = (k : Int) then (-0) % (K1N.nAt rs k : Int) else 0) = 0
    rw [Int.neg_zero, Int.zero_emod]
    split <;> rfl
def flx (rs : List (Int × Int)) (k : Nat) (ps : List Int) : List Int := ps.set k ((0 - ps.getD k 0) % (K1N.nAt rs k : Int))
theorem flx_len (rs : List (Int × Int)) (k : Nat) (ps : List Int) : (flx rs k ps).length = ps.length := by
  unfold flx
  rw [List.length_set]
theorem flx_get {rs : List (Int × Int)} {k : Nat} {ps : List Int} (hk : k < ps.length) (j : Nat) : (flx rs k ps).getD j 0 = if j = k then (0 - ps.getD k 0) % (K1N.nAt rs k : Int) else ps.getD j 0 := by
  unfold flx
  rw [List.getD_eq_getElem?_getD, List.getD_eq_getElem?_getD, List.getElem?_set]
  by_cases c : k = j
  · subst c
    rw [if_pos rfl, if_pos hk, if_pos rfl]
    rfl
  · rw [if_neg c, if_neg (fun z => c z.symm)]
    exact (List.getD_eq_getElem?_getD ..).symm
theorem flx_ok {rs : List (Int × Int)} {k : Nat} {ps : List Int} (hl : ps.length = rs.length) (hk : k < rs.length) (ok : RsOk rs rs.length) (h : PlOk rs ps) : PlOk (flR rs k) (flx rs k ps) := fun j hj => by
  rw [flx_len] at hj
  rw [flx_get (by omega), nAt_fl hk]
  by_cases c : j = k
  · subst c
    have := ok j hk
    rw [if_pos rfl]
    exact ⟨Int.emod_nonneg _ (by omega), Int.emod_lt_of_pos _ (by omega)⟩
  · rw [if_neg c]
    exact h j hj
theorem gl_fl (h : List Nat) (n s q : Int) : gl h n (n - s) ((0 - q) % n) = gl h n s q := funext fun c => by
  unfold gl
  congr 1
  rw [decide_eq_decide, emod_as (0 - q) n]
  generalize dg h c = d
  have e : d * (n - s) - (0 - q - n * ((0 - q) / n)) = -(d * s - q) + n * (d + (0 - q) / n) := by
    rw [Int.mul_sub, Int.mul_add, Int.mul_comm d n]
    omega
  rw [e, Int.add_mul_emod_self_left]
  constructor
  · intro y
    exact Int.emod_eq_zero_of_dvd (Int.dvd_neg.mp (Int.dvd_of_emod_eq_zero y))
  · intro y
    exact Int.emod_eq_zero_of_dvd (Int.dvd_neg.mpr (Int.dvd_of_emod_eq_zero y))
theorem hseq_fl {rs : List (Int × Int)} {k : Nat} {ps : List Int} (hl : ps.length = rs.length) (hk : k < rs.length) : ∀ i, hseq (flR rs k) (flx rs k ps) i = hseq rs ps i
  | 0 => rfl
  | i + 1 => by
    show grow (hseq (flR rs k) (flx rs k ps) i) (gl (hseq (flR rs k) (flx rs k ps) i) (K1N.nAt (flR rs k) i) (K1N.sAt (flR rs k) i) ((flx rs k ps).getD i 0)) = grow (hseq rs ps i) (gl (hseq rs ps i) (K1N.nAt rs i) (K1N.sAt rs i) (ps.getD i 0))
    rw [hseq_fl hl hk i, nAt_fl hk, sAt_fl hk, flx_get (by omega)]
    by_cases c : i = k
    · subst c
      rw [if_pos rfl, if_pos rfl, gl_fl]
    · rw [if_neg c, if_neg c]
theorem mvp_fl {rs : List (Int × Int)} {k : Nat} {ps : List Int} (hl : ps.length = rs.length) (hk : k < rs.length) (a : Int) : mvp (flR rs k) a (flx rs k ps) = flx rs k (mvp rs a ps) := by
  refine list_ext (by rw [mvp_len, flx_len, flx_len, mvp_len]) fun j hj => ?_
  rw [mvp_len, flx_len] at hj
  rw [mvp_get _ _ (by rw [flx_len]; exact hj), flx_get (by omega), flx_get (by rw [mvp_len]; omega), nAt_fl hk, sAt_fl hk, mvp_get rs a (show k < ps.length by omega), mvp_get rs a hj]
  by_cases c : j = k
  · subst c
    rw [if_pos rfl, if_pos rfl, if_pos rfl]
    generalize (K1N.nAt rs j : Int) = n
    generalize K1N.sAt rs j = s
    generalize ps.getD j 0 = x
    refine mod_of_dvd ?_
    rw [emod_as (0 - x) n, emod_as (x + a * s) n]
    refine ⟨a - (0 - x) / n - (x + a * s) / n, ?_⟩
    rw [Int.mul_sub, Int.mul_sub, Int.mul_sub, Int.mul_comm n a]
    omega
  · rw [if_neg c, if_neg c, if_neg c]
theorem rich_fl {rs : List (Int × Int)} {k : Nat} {ps : List Int} (hl : ps.length = rs.length) (hk : k < rs.length) (tot : Int) : rich1 (flR rs k) (flx rs k ps) tot = rich1 rs ps tot := by
  unfold rich1
  rw [flx_len, hseq_fl hl hk]
theorem hh_fl {rs : List (Int × Int)} {k : Nat} {ps : List Int} (hl : ps.length = rs.length) (hk : k < rs.length) (tot a b : Int) : hh (flR rs k) (flx rs k ps) tot a b = hh rs ps tot a b := by
  unfold hh
  rw [mvp_fl hl hk, rich_fl (by rw [mvp_len]; exact hl) hk]
theorem tau_fl {rs : List (Int × Int)} {k : Nat} {p : Pl} (hk : k < rs.length) (h : PlIn rs p) {i : Nat} : (i = k → (K1N.nAt rs k : Int) ∣ tau (flR rs k) i (flP rs k p) + tau rs i p - 0) ∧ (i ≠ k → tau (flR rs k) i (flP rs k p) = tau rs i p) := by
  obtain ⟨⟨h0, h1⟩, h2, h3⟩ := h
  unfold tau
  show (i = k → (K1N.nAt rs k : Int) ∣ (if p.1 = (i : Int) then (if p.1 = (k : Int) then (-p.2) % (K1N.nAt rs k : Int) else p.2) else if p.1 < (i : Int) then K1N.sAt (flR rs k) i else 0) + (if p.1 = (i : Int) then p.2 else if p.1 < (i : Int) then K1N.sAt rs i else 0) - 0) ∧
    (i ≠ k → (if p.1 = (i : Int) then (if p.1 = (k : Int) then (-p.2) % (K1N.nAt rs k : Int) else p.2) else if p.1 < (i : Int) then K1N.sAt (flR rs k) i else 0) = (if p.1 = (i : Int) then p.2 else if p.1 < (i : Int) then K1N.sAt rs i else 0))
  rw [sAt_fl hk]
  constructor
  · rintro rfl
    rw [if_pos rfl]
    by_cases c : p.1 = (i : Int)
    · rw [if_pos c, if_pos c, if_pos c, emod_as]
      exact ⟨-(-p.2 / (K1N.nAt rs i : Int)), by rw [Int.mul_neg]; omega⟩
    · rw [if_neg c, if_neg c]
      by_cases d : p.1 < (i : Int)
      · rw [if_pos d, if_pos d]
        exact ⟨1, by omega⟩
      · rw [if_neg d, if_neg d]
        exact ⟨0, by omega⟩
  · intro c
    rw [if_neg c]
    by_cases d : p.1 = (i : Int)
    · rw [if_pos d, if_pos d, if_neg (by omega)]
    · rw [if_neg d, if_neg d]
theorem class_fl {rs : List (Int × Int)} {k : Nat} {ds us : Dl} (hk : k < rs.length) (kin : KIn rs ds) (h : ∀ f, Nl (flR rs k) f → Sf f us = Sf f (mapD (flP rs k) ds)) :
    Sf one us = Sf one ds ∧ (cx (flR rs k) fun i => Sf (tau (flR rs k) i) us) = flx rs k (cx rs fun i => Sf (tau rs i) ds) := by
  constructor
  · rw [h _ (nl_one _), mapD_sf]
    rfl
  · refine list_ext (by rw [cx_len, flx_len, cx_len, flR_len]) fun i hi => ?_
    rw [cx_len] at hi
    have hi2 : i < rs.length := by rw [flR_len] at hi; exact hi
    rw [cx_get hi, flx_get (by rw [cx_len]; exact hk), h _ (nl_tau _ i), mapD_sf, nAt_fl hk, sAt_fl hk, cx_get hk, cx_get hi2]
    by_cases c : i = k
    · subst c
      rw [if_pos rfl, if_pos rfl]
      obtain ⟨y, hy⟩ := sf_dvd (n := (K1N.nAt rs i : Int)) (s := 0) (f1 := fun p => tau (flR rs i) i (flP rs i p)) (f2 := tau rs i) ds fun e he => (tau_fl hk (kin e he)).1 rfl
      refine mod_of_dvd ?_
      rw [Int.zero_mul] at hy
      generalize Sf (fun p => tau (flR rs i) i (flP rs i p)) ds = T at *
      generalize Sf (tau rs i) ds = t at *
      generalize (K1N.nAt rs i : Int) = n at *
      generalize K1N.sAt rs i = s at *
      rw [emod_as (t - (i : Int) * s) n]
      refine ⟨y - (i : Int) - (t - (i : Int) * s) / n, ?_⟩
      rw [Int.mul_sub n, Int.mul_sub n, ← hy, Int.mul_sub (i : Int), Int.mul_comm n (i : Int)]
      omega
    · rw [if_neg c, if_neg c]
      rw [Sf_congr (g := tau rs i) fun e he => (tau_fl hk (kin e he)).2 c]
end K1

set_option exponentiation.threshold 400
namespace K1
open PySem PySem.Spec PyProof.Rows L2 Evl HM LX ZW ZM MP
/-- what the table's number is made of -/
theorem table_sum {rs : List (Int × Int)} {ps : List Int} (ok : RsOk rs ps.length) (tot a b : Int) :
    (if a - (2 * (ps.length : Int) - b - tot) + 1 > 0 then a - (2 * (ps.length : Int) - b - tot) + 1 else 0) +
    (((win (fm rs ps tot) (2 * (ps.length : Int) - b - tot - 2 * (ps.length : Int)) ((if 2 * (ps.length : Int) - b - tot - 1 < a then 2 * (ps.length : Int) - b - tot - 1 else a) - (2 * (ps.length : Int) - b - tot - 2 * (ps.length : Int)) + 1).toNat).filter fun x => decide (x ≥ -b)).length : Int) = hh rs ps tot a b := by
  generalize hS : 2 * (ps.length : Int) - b - tot = sure
  rw [hh_sum ok (show sure - 2 * (ps.length : Int) - 1 < -tot - b by omega)]
  by_cases c : sure - 1 < a
  · rw [if_pos (by omega), if_pos c, show sure - 2 * (ps.length : Int) + (((sure - 1 - (sure - 2 * (ps.length : Int)) + 1).toNat : Nat) : Int) - 1 = sure - 1 by omega]
    have h := hh_far ok (tot := tot) (b := b) (sure := sure) (by omega) (a - sure + 1).toNat
    rw [show sure - 1 + (((a - sure + 1).toNat : Nat) : Int) = a by omega] at h
    omega
  · rw [if_neg (show ¬ (a - sure + 1 > 0) by omega), if_neg c]
    by_cases c2 : sure - 2 * (ps.length : Int) - 1 ≤ a
    · rw [show sure - 2 * (ps.length : Int) + (((a - (sure - 2 * (ps.length : Int)) + 1).toNat : Nat) : Int) - 1 = a by omega]
      omega
    · rw [show (a - (sure - 2 * (ps.length : Int)) + 1).toNat = 0 by omega, hh_low (a := a) (by omega), hh_low (by omega)]
      rfl
section
variable {P : Program} {w : World} {K : PySem.W.Frag} {mg : Str → Option Value} {base : Heap}
def spTable : Sp := fun vs H Q _ => ∃ c x xs rs ps, ∃ tot a b : Int, vs = [.ref c, .int tot, .ref x, .int a, .int b] ∧ ClsAt H c x xs rs ps tot ∧ a.natAbs < 10 ^ 57 ∧ b.natAbs < 10 ^ 57 ∧ ∀ H', Ex H H' → Q (.int (hh rs ps tot a b)) H'
theorem ok_table_entry (T : Txt K mg) {f : Addr} {fd : FuncData} (D : DefAt K mg "table_entry" sTableEntry ["chain", "degree", "places", "a", "b"] f fd) : FnOk P w K mg base CX0 8 f fd ["chain", "degree", "places", "a", "b"] spTable := by
  refine D.F.ok scTableEntry (fun vs H Q E h => ?_) (fun cdv A outer s₀ H vs Q E hr h => ?_)
  · obtain ⟨c, x, xs, rs, ps, tot, a, b, rfl, _⟩ := h
    rfl
  · obtain ⟨c, x, xs, rs, ps, tot, a, b, rfl, C, ha, hb, q⟩ := h
    obtain ⟨f1, fd1, D1⟩ := T.d_map_values
    have hr7 : Room 7 _ := hr.mono (by decide)
    refine ⟨_, pss_cons (ps_set (i := 5) scTableEntry.nd rfl (.inl rfl) (pe_op op_sub (pe_op op_sub (pe_op op_mul pe_int (pe_callB call_len_seq (by rfl) T.z_len PySem.boot_len (pa_cons (pv 0) pa_nil))) (pv 4)) (pv 1)))
      (pss_cons (ps_set (i := 6) scTableEntry.nd rfl (.inl rfl) (pe_call (ok_map_values T D1) hr7 (by rfl) D1.g D1.F.kp D1.b .nil pass0 (pa_cons (pv 0) (pa_cons (pv 1) (pa_cons (pv 2) (pa_cons (pe_op op_sub (pv 5) (pe_op op_mul pe_int (pe_callB call_len_seq (by rfl) T.z_len PySem.boot_len (pa_cons (pv 0) pa_nil)))) (pa_cons (pe_callB (call_min2 rfl) (by rfl) T.z_min (by decide +kernel) (pa_cons (pv 3) (pa_cons (pe_op op_sub (pv 5) pe_int) pa_nil))) pa_nil)))))))
      (pss_one (ps_ret (pe_op op_add (pe_callB (call_max2 rfl) (by rfl) T.z_max (by decide +kernel) (pa_cons pe_int (pa_cons (pe_op op_add (pe_op op_sub (pv 3) (pv 5)) pe_int) pa_nil))) (pe_callB call_len_seq (by rfl) T.z_len PySem.boot_len (pa_cons (pe_lc (own := [("value", 7)]) (g := gName 7) rfl scTableEntry.nd (pi_list (pv 6))
        (blkOk_by (N := nTableEntry) (sc := defScope sTableEntry) (by decide +kernel)) (fun _ _ _ _ _ => (pg_name (i := 7) scTableEntry.nd rfl (.inl rfl))) (fun _ _ _ _ _ => pts_one (pt_cmpR op_ge (pv 7) (pe_un un_neg (pv 4)) (nomark _)))
        (fun _ _ _ _ _ => (pv 7))) pa_nil)))))), ?_⟩
    have hT := C.ht
    have hL := C.l2
    have ts := table_sum C.ok tot a b
    rw [C.len] at ts
    refine ⟨_, rfl, c, _, rfl, .inr (SqT.of C.hc), _, _, rfl, rfl, .inl (by constructor <;> omega), _, rfl, _, _, rfl, rfl, _, rfl, _, _, rfl, rfl, ?_⟩
    refine ⟨_, rfl, _, rfl, _, rfl, _, rfl, _, rfl, c, _, rfl, .inr (SqT.of C.hc), _, _, rfl, rfl, .inl (by constructor <;> omega), _, _, rfl, rfl, _, rfl, _, rfl, _, _, rfl, rfl, _, _, rfl, c, x, xs, rs, ps, tot, _, _, rfl, C.hc, C.hR, ⟨C.l1, C.l2⟩, C.hx, C.len, ?_, fun l H1 e1 hl0 hl => ?_⟩
    · split <;> omega
    · have wl : (win (fm rs ps tot) (2 * (xs.length : Int) - b - tot - 2 * (xs.length : Int)) ((if 2 * (xs.length : Int) - b - tot - 1 < a then 2 * (xs.length : Int) - b - tot - 1 else a) - (2 * (xs.length : Int) - b - tot - 2 * (xs.length : Int)) + 1).toNat).length ≤ 900 := by
        rw [win_len]
        split <;> omega
      generalize win (fm rs ps tot) (2 * (xs.length : Int) - b - tot - 2 * (xs.length : Int)) ((if 2 * (xs.length : Int) - b - tot - 1 < a then 2 * (xs.length : Int) - b - tot - 1 else a) - (2 * (xs.length : Int) - b - tot - 2 * (xs.length : Int)) + 1).toNat = ws at *
      refine ⟨_, rfl, _, rfl, _, _, rfl, rfl, _, _, rfl, rfl, _, _, rfl, ?_⟩
      refine ⟨_, rfl, l, rfl, ⟨_, SqL.of hl⟩, fun D hD => ?_⟩
      refine lc_list (K := K) (a := l) (xs := ws.map V.int) (fun i H' => H' D = some (.lst (((ws.take i).filter fun x => decide (x ≥ -b)).map V.int)) ∧ Ex H1 H') ⟨upd_same, Ex.new hD⟩ (fun i H' _ hp => SqL.of (hp.2 _ _ hl)) (fun i z H' hz hp => ?_) (fun H2 hp => ?_)
      · obtain ⟨w1, w2⟩ := hp
        have hi : i < ws.length := by
          have := (List.getElem?_eq_some_iff.mp hz).1
          rw [List.length_map] at this
          exact this
        rw [int_at hi] at hz
        have hz := (Option.some.inj hz).symm
        subst hz
        have hw : ws[i]? = some (ws.getD i 0) := by rw [List.getD_eq_getElem?_getD, List.getElem?_eq_getElem hi]; rfl
        have sn := take_filter_snoc (fun x => decide (x ≥ -b)) hw
        refine ⟨rfl, _, rfl, _, rfl, _, rfl, _, _, rfl, rfl, _, rfl, ite2 (fun cc => ?_) (fun cc => ?_)⟩
        · have c1 := of_decide_eq_true cc
          refine ⟨_, rfl, _, w1, ?_, ?_, Ex.mut w2 hD⟩
          · have h1 := List.length_filter_le (fun x => decide (x ≥ -b)) (ws.take i)
            have h2 := List.length_take_le i ws
            rw [List.length_map]
            exact small1000 (by omega)
          · rw [upd_same, sn, if_pos (decide_eq_true c1), List.map_append]
            rfl
        · have c1 : ¬ (ws.getD i 0 ≥ -b) := fun z => cc (decide_eq_true z)
          refine ⟨?_, w2⟩
          rw [sn, if_neg (by rw [decide_eq_false c1]; decide), List.append_nil]
          exact w1
      · obtain ⟨w1, w2⟩ := hp
        rw [List.length_map, List.take_length] at w1
        refine ⟨D, _, rfl, .inl (SqL.of w1), _, _, rfl, rfl, ?_⟩
        rw [List.length_map]
        have := q H2 (e1.trans w2)
        rw [← ts] at this
        exact this
def spEndTable : Sp := spTable
theorem ok_end_table (T : Txt K mg) {f : Addr} {fd : FuncData} (D : DefAt K mg "end_table" sEndTable ["chain", "degree", "places", "a", "b"] f fd) : FnOk P w K mg base CX0 9 f fd ["chain", "degree", "places", "a", "b"] spEndTable := by
  refine D.F.ok scEndTable (fun vs H Q E h => ?_) (fun cdv A outer s₀ H vs Q E hr h => ?_)
  · obtain ⟨c, x, xs, rs, ps, tot, a, b, rfl, _⟩ := h
    rfl
  · obtain ⟨c, x, xs, rs, ps, tot, a, b, rfl, C, ha, hb, q⟩ := h
    obtain ⟨f1, fd1, D1⟩ := T.d_table_entry
    obtain ⟨f2, fd2, D2⟩ := T.d_check_integer
    obtain ⟨f3, fd3, D3⟩ := T.d_check_class_at
    have hr2 : Room 2 _ := hr.mono (by decide)
    have hr6 : Room 6 _ := hr.mono (by decide)
    have hr8 : Room 8 _ := hr.mono (by decide)
    refine ⟨_, pss_cons (ps_expr (pe_call (ok_check_class_at T D3) hr6 (by rfl) D3.g D3.F.kp D3.b .nil pass0 (pa_cons (pv 0) (pa_cons (pv 1) (pa_cons (pv 2) pa_nil)))))
      (pss_cons (ps_expr (pe_call (ok_check_integer T D2) hr2 (by rfl) D2.g D2.F.kp D2.b .nil pass0 (pa_cons (pv 3) pa_nil)))
      (pss_cons (ps_expr (pe_call (ok_check_integer T D2) hr2 (by rfl) D2.g D2.F.kp D2.b .nil pass0 (pa_cons (pv 4) pa_nil)))
      (pss_one (ps_ret (pe_call (ok_table_entry T D1) hr8 (by rfl) D1.g D1.F.kp D1.b .nil pass0 (pa_cons (pv 0) (pa_cons (pv 1) (pa_cons (pv 2) (pa_cons (pv 3) (pa_cons (pv 4) pa_nil)))))))))), ?_⟩
    have hT := C.ht
    refine ⟨_, rfl, _, rfl, _, rfl, c, x, xs, rs, ps, tot, rfl, C.hc, C.hR, ⟨C.l1, C.l2⟩, C.hx, C.len, C.pl, by omega, fun H1 e1 => ?_⟩
    refine ⟨_, rfl, a, rfl, by omega, by omega, fun H2 e2 => ?_⟩
    refine ⟨_, rfl, b, rfl, by omega, by omega, fun H3 e3 => ?_⟩
    have e13 := (e1.trans e2).trans e3
    exact ⟨_, rfl, _, rfl, _, rfl, _, rfl, _, rfl, c, x, xs, rs, ps, tot, a, b, rfl, C.ex e13, ha, hb, fun H4 e4 => q _ (e13.trans e4)⟩
end
end K1

/-! own rules: list(d.items()) and walks over d.items() of a dict whose keys are tuples -/
namespace ItT
open PySem PySem.Spec PyProof.Rows L2 PySem.W L2.DX
/-- keys' addresses with the values -/
def pz : List (List Key × V) → List (List Key × Addr × Value) → List (Addr × V)
  | p :: kvs, x :: xs => (x.2.1, p.2) :: pz kvs xs
  | _, _ => []
theorem pz_pair {H : Hp} : ∀ {kvs : List (List Key × V)} {xs : List (List Key × Addr × Value)}, KT H kvs xs → Paired (fun (q : Addr × V) (p : List Key × V) => q.2 = p.2 ∧ H q.1 = some (.tup (p.1.map kV))) (pz kvs xs) kvs
  | _, _, .nil => .nil
  | p :: _, x :: _, .cons r t => .cons ⟨rfl, by have h1 := r.1; have h2 := r.2.1; first | exact h2 | (rw [← h1]; exact h2) | (rw [h1]; exact h2)⟩ (pz_pair t)
theorem pz_at {H : Hp} : ∀ {kvs : List (List Key × V)} {xs : List (List Key × Addr × Value)}, KT H kvs xs → ∀ {j : Nat} {q : Addr × V}, (pz kvs xs)[j]? = some q → ∃ x, xs[j]? = some x ∧ q.1 = x.2.1 ∧ RelV q.2 x.2.2
  | _, _, .nil, j, q, h => by simp [pz] at h
  | p :: _, x :: _, .cons r t, 0, q, h => by
    have e := Option.some.inj h
    subst e
    exact ⟨x, rfl, rfl, r.2.2⟩
  | p :: _, x :: _, .cons r t, j + 1, q, h => pz_at t (j := j) h
theorem pz_len {H : Hp} {kvs : List (List Key × V)} {xs : List (List Key × Addr × Value)} (h : KT H kvs xs) : (pz kvs xs).length = kvs.length := Paired.length (pz_pair h)
def putP : Hp → List Addr → List (Addr × V) → Hp
  | H, a :: as, p :: ps => putP (upd H a (.tup [.ref p.1, p.2])) as ps
  | H, _, _ => H
theorem putP_off {b : Addr} : ∀ (as : List Addr) (ps : List (Addr × V)) (H : Hp), b ∉ as → putP H as ps b = H b
  | [], _, _, _ => rfl
  | _ :: _, [], _, _ => rfl
  | a :: as, p :: ps, H, h => by
    show putP (upd H a (.tup [.ref p.1, p.2])) as ps b = H b
    rw [putP_off as ps _ (fun z => h (List.mem_cons_of_mem _ z)), upd_ne (fun z => h (by rw [z]; exact List.mem_cons_self))]
theorem putP_at : ∀ (as : List Addr) (ps : List (Addr × V)) (H : Hp), as.length = ps.length → as.Nodup → Paired (fun (t : Addr) (p : Addr × V) => putP H as ps t = some (.tup [.ref p.1, p.2])) as ps
  | [], [], _, _, _ => .nil
  | [], _ :: _, _, h, _ => by cases h
  | _ :: _, [], _, h, _ => by cases h
  | a :: as, p :: ps, H, h, hn => by
    have hn' := List.nodup_cons.mp hn
    have ih := putP_at as ps (upd H a (.tup [.ref p.1, p.2])) (Nat.succ.inj h) hn'.2
    refine .cons ?_ ih
    show putP (upd H a (.tup [.ref p.1, p.2])) as ps a = some (.tup [.ref p.1, p.2])
    rw [putP_off as ps _ hn'.1, upd_same]
theorem items_laidT {X : Cx} {pins : List (Addr × Obj)} {σ : L2.St} {H : Hp} {s : Shared} {h' : Heap} {tk : Nat} {ps : List (Addr × V)} {es : Array DictEntry} {acc : Array Value} {c : Nat} {as : List Addr} (I : Inv X pins σ H s) (hz : ps.length ≤ sizeLine)
    (hes : ∀ (j : Nat) (q : Addr × V), ps[j]? = some q → ∀ hj : j < es.size, es[j].key = .ref q.1 ∧ RelV q.2 es[j].val)
    (hk : ∀ b o, s.heap.get? b = some o → h'.get? b = some o) (hS : h'.get? s.heap.objs.size = some { cls := .type "list", dict := none, data := .seq acc c, slots := #[] }) (hl : as.length = ps.length) (hG : PySem.W.DilG es s.heap.objs.size h' as) (hacc : acc.toList = as.map Value.ref) :
    ∃ H' : Hp, (∀ b o, H b = some o → H' b = some o) ∧ H s.heap.objs.size = none ∧ H' s.heap.objs.size = some (.lst (as.map V.ref)) ∧ Paired (fun (t : Addr) (q : Addr × V) => H' t = some (.tup [.ref q.1, q.2])) as ps ∧ Inv X pins σ H' { s with heap := h', toks := tk } := by
  have hSn : s.heap.objs.size ∉ as := fun z => Nat.lt_irrefl _ (hG.above _ z)
  have nd : as.Nodup := List.Pairwise.imp (fun {a b} (h : a < b) => Nat.ne_of_lt h) hG.rise
  have new : ∀ t ∈ as, H t = none := fun t ht => I.hok.fresh (Nat.le_of_lt (hG.above t ht))
  have newS : H s.heap.objs.size = none := I.hok.fresh (Nat.le_refl _)
  have atP := putP_at as ps (upd H s.heap.objs.size (.lst (as.map V.ref))) hl nd
  have off : ∀ b, b ∉ as → b ≠ s.heap.objs.size → putP (upd H s.heap.objs.size (.lst (as.map V.ref))) as ps b = H b := fun b h1 h2 => by rw [putP_off as ps _ h1, upd_ne h2]
  have low : ∀ b o, s.heap.get? b = some o → b ∉ as ∧ b ≠ s.heap.objs.size := fun b o e => ⟨fun z => absurd (Heap.lt_size e) (Nat.not_lt.mpr (Nat.le_of_lt (hG.above b z))), Nat.ne_of_lt (Heap.lt_size e)⟩
  have kp : ∀ b u, H b = some u → (putP (upd H s.heap.objs.size (.lst (as.map V.ref))) as ps) b = some u := fun b u e => by
    rw [off b (fun z => by rw [new b z] at e; cases e) (fun z => by rw [z, newS] at e; cases e)]
    exact e
  have eS : putP (upd H s.heap.objs.size (.lst (as.map V.ref))) as ps s.heap.objs.size = some (.lst (as.map V.ref)) := by rw [putP_off as ps _ hSn, upd_same]
  refine ⟨putP (upd H s.heap.objs.size (.lst (as.map V.ref))) as ps, kp, newS, eS, atP, ?_⟩
  refine I.call' (ch := []) rfl ⟨fun b o q _ _ _ => hk b o q, fun b o q _ _ _ => ⟨o.slots, hk b o q⟩, fun b o q n _ => ?_, fun b o q _ => ⟨o, hk b o q⟩, fun b xs q => kp b _ q, fun b o u q => kp b _ q, fun b ps q => ⟨#[], by rw [kp b _ q]; simp⟩⟩ (fun b u q => ?_) I.bare fun b z => by simp at z
  · obtain ⟨z1, z2⟩ := low b o q
    rw [off b z1 z2]
    exact n
  · by_cases hb : b ∈ as
    · obtain ⟨j, pk, e1, e2, e3⟩ := LiI.paired_ix atP hb
      rw [e3] at q
      cases q
      obtain ⟨hj, f3⟩ := hG.pairs j b e1
      obtain ⟨g1, g2⟩ := hes j pk e2 hj
      rw [g1] at f3
      exact ⟨by show 2 ≤ sizeLine; decide, [.ref pk.1, es[j].val], .cons rfl (.cons g2 .nil), ⟨_, f3, rfl, _, rfl⟩⟩
    · by_cases hb2 : b = s.heap.objs.size
      · rw [hb2] at q ⊢
        rw [eS] at q
        cases q
        refine ⟨by rw [List.length_map]; omega, acc.toList, c, by rw [hacc]; exact LiI.vals_refs as, ?_⟩
        rw [Array.toArray_toList]
        exact hS
      · rw [off b hb hb2] at q
        exact (I.hok b u q).stay (fun d v _ y => hk d v y) (fun d y => kp d _ y) fun d xs y => kp d _ y
/-- the tuples of the pairs of a dict -/
def Prt (H : Hp) (ts : List Addr) (kvs : List (List Key × V)) : Prop := Paired (fun (t : Addr) (q : List Key × V) => ∃ b, H t = some (.tup [.ref b, q.2]) ∧ H b = some (.tup (q.1.map kV))) ts kvs
theorem prt_of {H H' : Hp} (k : ∀ b o, H b = some o → H' b = some o) : ∀ {ts : List Addr} {ps : List (Addr × V)} {kvs : List (List Key × V)}, Paired (fun (t : Addr) (q : Addr × V) => H' t = some (.tup [.ref q.1, q.2])) ts ps → Paired (fun (q : Addr × V) (p : List Key × V) => q.2 = p.2 ∧ H q.1 = some (.tup (p.1.map kV))) ps kvs → Prt H' ts kvs
  | _, _, _, .nil, .nil => .nil
  | _, _, _, .cons h t, .cons h2 t2 => .cons ⟨_, by rw [← h2.1]; exact h, k _ _ h2.2⟩ (prt_of k t t2)
def rListItemsT : List V → Hp → VK → Prop := fun xs H Q => ∃ (p a : Addr) (kvs : List (List Key × V)), xs = [.ref p] ∧ H p = some (itemsO p a) ∧ H a = some (.dT kvs) ∧
  ∀ (H' : Hp) (l : Addr) (ts : List Addr), (∀ b o, H b = some o → H' b = some o) → H l = none → H' l = some (.lst (ts.map V.ref)) → Prt H' ts kvs → Q (.ref l) H'
theorem cr_listItemsT {X : Cx} (hc : X.calm = true) : CallR X (.type "list") rListItemsT := by
  intro pins s σ H xs us Q I r h
  obtain ⟨p, a, kvs, rfl, hp, ha, q⟩ := h
  obtain ⟨u, rfl, rx⟩ := r.one
  cases rx
  obtain ⟨z, lo, ks, pr, o, es, ep, ho, hx, hdt, he, hn⟩ := (show ObjOk X.prog X.w H s.heap a (.dT kvs) from I.hok a _ ha)
  have hv : s.heap.IsItemsView p a := (I.hok p _ hp).1
  have raw : s.heap.DictRaw a es ep := ⟨o, ho, hx, hdt⟩
  have l1 : es.size = ks.length := size_of_entries he
  have l2 : kvs.length = ks.length := Paired.length pr
  have l3 := pz_len pr
  refine dil_call (I.ok.hd hc) hv raw (by omega) fun h' tk acc' c' as hk hS hl hG hacc => ?_
  obtain ⟨H', k1, k2, k3, k4, J⟩ := items_laidT (tk := tk) (ps := pz kvs ks) I (by omega) (fun j q hq hj => by
    obtain ⟨x, hx1, hx2, hx3⟩ := pz_at pr hq
    have qe := entry_at he j
    rw [Array.getElem?_eq_getElem hj, hx1] at qe
    have e2 : es[j] = entryOfKey (tupleKind (mixKind X.prog X.w)) x := Option.some.inj qe
    rw [e2]
    exact ⟨by rw [hx2]; rfl, hx3⟩) hk hS (by omega) hG hacc
  exact ⟨.ref _, H', J, rfl, q H' _ as k1 k2 k3 (prt_of k1 k4 (pz_pair pr))⟩
/-- the pairs, each a new tuple -/
def Itit (d : Addr) (o : Obj) (kvs : List (List Key × V)) : It :=
  ⟨fun i H => H d = some (.frz o (.dT kvs)) ∧ i < kvs.length, fun i H x H' => ∃ (T b : Addr) (k : List Key) (v : V), kvs[i]? = some (k, v) ∧ x = .ref T ∧ H T = none ∧ H b = some (.tup (k.map kV)) ∧ H' = upd H T (.tup [.ref b, v]), fun i H => H d = some (.frz o (.dT kvs)) ∧ kvs.length ≤ i⟩
theorem frzT2 {X : Cx} {pins : List (Addr × Obj)} {σ : L2.St} {H : Hp} {s : Shared} {d : Addr} {o : Obj} {kvs : List (List Key × V)} (I : Inv X pins σ H s) (h : H d = some (.frz o (.dT kvs))) :
    (d == sysModules) = false ∧ s.heap.get? d = some o ∧ o.ExactDict ∧ ∃ (es : Array DictEntry) (ep : Nat), o.data = .dict es ep ∧ es.size = kvs.length ∧
      ∀ (i : Nat) (k : List Key) (v : V), kvs[i]? = some (k, v) → ∃ (en : DictEntry) (q : Addr), es[i]? = some en ∧ en.key = .ref q ∧ H q = some (.tup (k.map kV)) ∧ RelV v en.val := by
  obtain ⟨hd, z, hs, xs, pr, o', es, ep, ho, hx, hdt, he, _⟩ := I.hok d _ h
  rw [hd] at ho
  cases ho
  refine ⟨hs, hd, hx, es, ep, hdt, ?_, fun i k v e => ?_⟩
  · have l1 : es.size = xs.length := size_of_entries he
    have l2 : kvs.length = xs.length := Paired.length pr
    omega
  · obtain ⟨b, hb, e1, e2, e3⟩ := L2.paired_get pr e
    have q := entry_at he i
    rw [hb] at q
    exact ⟨_, b.2.1, q, rfl, e2, e3⟩
section
variable {P : Program} {w : World} {K : PySem.W.Frag} {d : Addr} {o : Obj} {es : Array DictEntry} {ep : Nat}
theorem turn_itemsT {kvs : List (List Key × V)} {elts : List Expr} {kk : Nat} {tpos : Pos} (it : Addr) (hod : o.data = .dict es ep) :
    Turn P w K (.Tuple elts kk tpos) (Itit d o kvs) [it] it (fun i h => ∃ ok ov, IsItemIter h it d i kvs.length ep ok ov) where
  mem := by simp
  obj := fun i h st b hb => by
    have e : b = it := by simpa using hb
    subst e
    obtain ⟨ok, ov, e⟩ := st
    exact ⟨_, e, fun v z => nomatch z⟩
  keep := fun i h h' st k => let ⟨ok, ov, e⟩ := st; ⟨ok, ov, k it (by simp) _ e⟩
  item := by
    intro X hP hw hK hc i pins s σ H E I hf st hg
    subst hP hw hK
    obtain ⟨hd, hi⟩ := hg
    obtain ⟨hs, hgd, hx, es', ep', hdt, hsz, ent⟩ := frzT2 I hd
    obtain ⟨rfl, rfl⟩ := dict_ep hod hdt
    obtain ⟨⟨k, v⟩, hkv⟩ : ∃ p, kvs[i]? = some p := ⟨kvs[i], List.getElem?_eq_getElem hi⟩
    obtain ⟨en, q, hen, hkey, hq, hv⟩ := ent i k v hkv
    obtain ⟨ok, ov, he⟩ := st
    rw [← hsz] at he
    have hlt : it < s.heap.objs.size := Heap.lt_size he
    have hie : i < es'.size := by omega
    have ee : es'[i] = en := by
      rw [Array.getElem?_eq_getElem hie] at hen
      exact Option.some.inj hen
    have raw : s.heap.DictRaw d es' ep' := ⟨o, hgd, hx, hdt⟩
    refine wpAny_pyNext_items_item_raw he raw hie fun h' ho hT hz hk => ?_
    rw [ee, hkey] at hT
    refine ⟨_, rfl, wpAny_letOwnedTupleGo_items (s := { s with heap := h' }) ho fun h'' he' sb => ?_⟩
    have hT2 : h''.get? s.heap.objs.size = some { cls := .type "tuple", data := .seq #[.ref q, en.val] } := (sb.2 _ (Nat.ne_of_gt hlt)).trans hT
    have new : ObjOk X.prog X.w (upd H s.heap.objs.size (.tup [.ref q, v])) h'' s.heap.objs.size (.tup [.ref q, v]) :=
      ⟨by show 2 ≤ sizeLine; decide, [.ref q, en.val], .cons rfl (.cons hv .nil), ⟨_, hT2, rfl, _, rfl⟩⟩
    have I1 : Inv X pins σ (upd H s.heap.objs.size (.tup [.ref q, v])) { s with heap := h'' } :=
      I.turnedNew (t' := s.toks) (ch := [it]) (fun b ob hb e => (sb.2 b (by simpa using hb)).trans (hk b ob (by simpa using hb) e)) hf (Nat.le_refl _) new
    refine ⟨.ref s.heap.objs.size, _, I1, rfl, ⟨_, q, k, v, hkv, rfl, I.hok.fresh (Nat.le_refl _), hq, rfl⟩, ⟨_, _, by rw [← hsz]; exact he'⟩, fun b hb => ?_⟩
    have e : b = it := by simpa using hb
    rw [e, upd_ne (Nat.ne_of_lt hlt)]
    exact (hf it (by simp)).1
  done := by
    intro X hP hw hK hc i pins s σ H E I hf st hg
    subst hP hw hK
    obtain ⟨hd, hi⟩ := hg
    obtain ⟨f0, f1, f2, f3, f4, f5⟩ := hf it (by simp)
    obtain ⟨hs, hgd, hx, es', ep', hdt, hsz, ent⟩ := frzT2 I hd
    obtain ⟨rfl, rfl⟩ := dict_ep hod hdt
    obtain ⟨ok, ov, he⟩ := st
    rw [← hsz] at he
    exact wpAny_pyNext_items_end_raw (I.ok.hd hc) he ⟨o, hgd, hx, hdt⟩ (by omega) fun h' eb => ⟨rfl, I.turned (t' := s.toks) (fun b ob hb e => eb b ob hb e) f0 f1 f3 f4 f5⟩
  self := fun A i s Q E st h => let ⟨_, _, e⟩ := st; PySem.W.kcp_self e h
end
def iItemsT (td : TE) : TI := fun σ H R => td σ H fun x H1 => ∃ d o kvs, x = .ref d ∧ H1 d = some (.frz o (.dT kvs)) ∧ R (Itit d o kvs) H1
theorem pi_itemsT {X : Cx} {e : Expr} {td : TE} {apos cpos : Pos} {elts : List Expr} {kk : Nat} {tpos : Pos} (he : PE X e td) (hbase : attributeBase e "items" X.env (eval e X.env) = eval e X.env := by rfl) (hline : (apos.endLine == cpos.line) = true := by rfl) :
    PI X (.Tuple elts kk tpos) (.Call (.Attribute e "items" apos) [] [] cpos) (iItemsT td) := by
  refine ⟨fun pins s σ H R I h => ?_⟩
  refine wpAny_Call_method (T := "dict") (id := "dict.items") hbase rfl hline F.plainAttrs_dict F.slot_dict_items F.type_dict_items (thn (he.run pins s σ H _ I h) fun u s1 ⟨x, H1, I1, rx, d, o, kvs, ex, hd, q⟩ => ?_)
  subst ex
  obtain rfl : u = Value.ref d := rx
  obtain ⟨hs, hgd, hx, es, ep, hdt, hsz, ent⟩ := frzT2 I1 hd
  have raw : s1.heap.DictRaw d es ep := ⟨o, hgd, hx, hdt⟩
  refine ⟨raw.typeIs, fun b e => by cases e; first | exact ⟨o, hgd, hx.2⟩ | exact ⟨o, hgd, hx.2.1⟩ | exact ⟨o, hgd, hx.2.2⟩, ?_⟩
  have I2 : Inv X pins σ H1 { s1 with heap := s1.heap.push { cls := .type "dict_items", data := .fields #[.ref d] } } := I1.kept (t' := s1.toks) fun b ob q => Heap.get?_push_of_some _ q
  have fin : wpAny (model X.prog X.w) X.A (pyIter (.ref s1.heap.objs.size)) (PIE X pins σ (.Tuple elts kk tpos) R) X.xe { s1 with heap := s1.heap.push { cls := .type "dict_items", data := .fields #[.ref d] } } := by
    refine DT.iterI (d := d) (es := es) (ep := ep) ⟨_, Heap.get?_push_size _ rfl, rfl, rfl⟩ (DT.Raw.push ⟨o, hgd, hx, hdt⟩ _) (pi_one (tk := s1.toks) I2 _ (turn_itemsT _ hdt) ⟨.none, .none, ?_⟩ q)
    rw [← hsz]
    exact Heap.get?_push_size _ rfl
  show wpAny _ _ (callWith cpos (.builtin "dict.items") [.ref d] [] []) _ X.xe s1
  exact method_meetsIn F.slot_dict_items F.entry_dict_items rfl (PySem.evalArgs_none ⟨rfl, raw.typeIs, F.args_dict_items_1 _, _, DT.meetsItems (es := es) (ep := ep) hs, ⟨⟨o, hgd, hx, hdt⟩, fin⟩⟩)
theorem walk_itemsT {d : Addr} {o : Obj} {kvs : List (List Key × V)} : Walk (Itit d o kvs) kvs.length (fun H => H d = some (.frz o (.dT kvs)))
    (fun i H x H' => ∃ (T b : Addr) (k : List Key) (v : V), kvs[i]? = some (k, v) ∧ x = .ref T ∧ H T = none ∧ H b = some (.tup (k.map kV)) ∧ H' = upd H T (.tup [.ref b, v])) :=
  ⟨fun _ _ hi q => ⟨q, hi⟩, fun _ q => ⟨q, Nat.le_refl _⟩, fun _ _ _ _ _ _ y => y⟩
end ItT

namespace K1
open PySem PySem.Spec PyProof.Rows L2 Evl
/-! own words: comprehensions that map, without a test; nothing is changed -/
section
variable {K : PySem.W.Frag} {g : TG} {te : TE} {vs : List Nat} {σ : L2.St} {H1 : Hp} {D : Addr} {Qd : Hp → Prop}
theorem lc_tupM {a : Addr} {xs : List V} (f : Nat → V) (hD : H1 D = none) (ha : H1 a = some (.tup xs)) (hl : xs.length ≤ 1000)
    (hs : ∀ i x H (Qk : VK), xs[i]? = some x → Ex H1 H → (∀ H4, Ex H H4 → Qk (f i) H4) → g x (wipe σ vs) H fun σ2 H2 => wipe σ2 vs = wipe σ vs ∧ te σ2 H2 Qk)
    (hd : ∀ H, Ex H1 H → H D = some (.lst ((List.range xs.length).map f)) → Qd H) :
    ∃ W : Nat → Nat → Hp → Prop, (∃ m, W 0 m (upd H1 D (.lst []))) ∧ ∀ i m H, W i m H →
      ((Itt K a).stop i H ∧ Qd H) ∨ ((Itt K a).go i H ∧ ∃ Nx : Hp → Prop, (∀ H', Nx H' → ∃ m', m' < m ∧ W (i + 1) m' H') ∧ ∀ x H', (Itt K a).yld i H x H' → g x (wipe σ vs) H' fun σ2 H2 => wipe σ2 vs = wipe σ vs ∧ tYes σ2 H2 fun b H3 =>
        if b = true then te σ2 H3 fun y H4 => ∃ acc, H4 D = some (.lst acc) ∧ acc.length < sizeLine ∧ Nx (upd H4 D (.lst (acc ++ [y]))) else Nx H3) := by
  refine lc_tup (K := K) (a := a) (xs := xs) (fun i H' => H' D = some (.lst ((List.range i).map f)) ∧ Ex H1 H') ⟨upd_same, Ex.new hD⟩ (fun i H' _ hp => SqT.of (hp.2 _ _ ha)) (fun i x H' hx hp => ?_) (fun H hp => hd H hp.2 hp.1)
  have hi := (List.getElem?_eq_some_iff.mp hx).1
  refine hs i x H' _ hx hp.2 fun H4 e4 => ⟨_, e4 _ _ hp.1, ?_, ?_, Ex.mut (hp.2.trans e4) hD⟩
  · rw [List.length_map, List.length_range]
    exact small1000 (by omega)
  · rw [upd_same, List.range_succ, List.map_append]
    rfl
theorem lc_listM {a : Addr} {xs : List V} (f : Nat → V) (hD : H1 D = none) (ha : H1 a = some (.lst xs)) (hl : xs.length ≤ 1000)
    (hs : ∀ i x H (Qk : VK), xs[i]? = some x → Ex H1 H → (∀ H4, Ex H H4 → Qk (f i) H4) → g x (wipe σ vs) H fun σ2 H2 => wipe σ2 vs = wipe σ vs ∧ te σ2 H2 Qk)
    (hd : ∀ H, Ex H1 H → H D = some (.lst ((List.range xs.length).map f)) → Qd H) :
    ∃ W : Nat → Nat → Hp → Prop, (∃ m, W 0 m (upd H1 D (.lst []))) ∧ ∀ i m H, W i m H →
      ((Itl K a).stop i H ∧ Qd H) ∨ ((Itl K a).go i H ∧ ∃ Nx : Hp → Prop, (∀ H', Nx H' → ∃ m', m' < m ∧ W (i + 1) m' H') ∧ ∀ x H', (Itl K a).yld i H x H' → g x (wipe σ vs) H' fun σ2 H2 => wipe σ2 vs = wipe σ vs ∧ tYes σ2 H2 fun b H3 =>
        if b = true then te σ2 H3 fun y H4 => ∃ acc, H4 D = some (.lst acc) ∧ acc.length < sizeLine ∧ Nx (upd H4 D (.lst (acc ++ [y]))) else Nx H3) := by
  refine lc_list (K := K) (a := a) (xs := xs) (fun i H' => H' D = some (.lst ((List.range i).map f)) ∧ Ex H1 H') ⟨upd_same, Ex.new hD⟩ (fun i H' _ hp => SqL.of (hp.2 _ _ ha)) (fun i x H' hx hp => ?_) (fun H hp => hd H hp.2 hp.1)
  have hi := (List.getElem?_eq_some_iff.mp hx).1
  refine hs i x H' _ hx hp.2 fun H4 e4 => ⟨_, e4 _ _ hp.1, ?_, ?_, Ex.mut (hp.2.trans e4) hD⟩
  · rw [List.length_map, List.length_range]
    exact small1000 (by omega)
  · rw [upd_same, List.range_succ, List.map_append]
    rfl
theorem lc_rangeM {lo : Int} {n : Nat} (f : Nat → V) (hD : H1 D = none) (hl : n ≤ 1000)
    (hs : ∀ i H (Qk : VK), i < n → Ex H1 H → (∀ H4, Ex H H4 → Qk (f i) H4) → g (.int (lo + i)) (wipe σ vs) H fun σ2 H2 => wipe σ2 vs = wipe σ vs ∧ te σ2 H2 Qk)
    (hd : ∀ H, Ex H1 H → H D = some (.lst ((List.range n).map f)) → Qd H) :
    ∃ W : Nat → Nat → Hp → Prop, (∃ m, W 0 m (upd H1 D (.lst []))) ∧ ∀ i m H, W i m H →
      ((Itr lo n).stop i H ∧ Qd H) ∨ ((Itr lo n).go i H ∧ ∃ Nx : Hp → Prop, (∀ H', Nx H' → ∃ m', m' < m ∧ W (i + 1) m' H') ∧ ∀ x H', (Itr lo n).yld i H x H' → g x (wipe σ vs) H' fun σ2 H2 => wipe σ2 vs = wipe σ vs ∧ tYes σ2 H2 fun b H3 =>
        if b = true then te σ2 H3 fun y H4 => ∃ acc, H4 D = some (.lst acc) ∧ acc.length < sizeLine ∧ Nx (upd H4 D (.lst (acc ++ [y]))) else Nx H3) := by
  refine lc_range (lo := lo) (n := n) (fun i H' => H' D = some (.lst ((List.range i).map f)) ∧ Ex H1 H') ⟨upd_same, Ex.new hD⟩ (fun i H' hi hp => ?_) (fun H hp => hd H hp.2 hp.1)
  refine hs i H' _ hi hp.2 fun H4 e4 => ⟨_, e4 _ _ hp.1, ?_, ?_, Ex.mut (hp.2.trans e4) hD⟩
  · rw [List.length_map, List.length_range]
    exact small1000 (by omega)
  · rw [upd_same, List.range_succ, List.map_append]
    rfl
end
theorem mapI (n : Nat) (f : Nat → Int) : (List.range n).map (fun i => V.int (f i)) = ((List.range n).map f).map V.int := by
  rw [List.map_map]
  rfl
theorem mapB (n : Nat) (b : Bool) : (List.range n).map (fun _ => V.bl b) = (List.replicate n b).map V.bl := by
  rw [List.map_replicate, List.map_const', List.length_range]
theorem all_rep (n : Nat) : (List.replicate n true).all id = true := by simp
theorem any_rep (n : Nat) : (List.replicate n false).any id = false := by simp
theorem range_getD (ns : List Int) (f : Int → Int) : (List.range ns.length).map (fun i => f (ns.getD i 0)) = ns.map f := by
  refine List.ext_getElem (by rw [List.length_map, List.length_map, List.length_range]) fun i h1 h2 => ?_
  rw [List.length_map] at h2
  rw [List.getElem_map, List.getElem_map, List.getElem_range, List.getD_eq_getElem?_getD, List.getElem?_eq_getElem h2]
  rfl
end K1

/-! plain mathematics of heaps: what two have in common, what one holds, heaps turned over -/
namespace HM
theorem nat_ext {a b : Nat} (h : ∀ c, c < a ↔ c < b) : a = b := by
  rcases Nat.lt_trichotomy a b with q | q | q
  · exact absurd ((h a).mpr q) (Nat.lt_irrefl a)
  · exact q
  · exact absurd ((h b).mp q) (Nat.lt_irrefl b)
/-- the open columns whose diagonal is let -/
def gp (p : Int → Bool) (h : List Nat) (c : Nat) : Bool := opn h c && p (dg h c)
theorem gp_opn {p : Int → Bool} {h : List Nat} (c : Nat) (z : gp p h c = true) : opn h c = true := (Bool.and_eq_true_iff.mp z).1
/-! ### what two heaps have in common -/
def meet (a b : List Nat) : List Nat := (List.range (min a.length b.length)).map fun c => min (hAt a c) (hAt b c)
theorem hAt_meet (a b : List Nat) (c : Nat) : hAt (meet a b) c = min (hAt a c) (hAt b c) := by
  by_cases q : c < min a.length b.length
  · unfold hAt meet
    rw [List.getD_eq_getElem?_getD, List.getElem?_map, List.getElem?_range q]
    rfl
  · rw [hAt_ge (show (meet a b).length ≤ c by unfold meet; rw [List.length_map, List.length_range]; omega)]
    by_cases u : c < a.length
    · rw [hAt_ge (show b.length ≤ c by omega), Nat.min_zero]
    · rw [hAt_ge (show a.length ≤ c by omega), Nat.zero_min]
theorem meet_len (a b : List Nat) : (meet a b).length = min a.length b.length := by
  unfold meet
  rw [List.length_map, List.length_range]
theorem meet_heap {a b : List Nat} (A : IsHeap a) (B : IsHeap b) : IsHeap (meet a b) := by
  refine ⟨fun c hc => ?_, fun c => ?_⟩
  · rw [meet_len] at hc
    rw [hAt_meet]
    have := A.pos c (by omega)
    have := B.pos c (by omega)
    omega
  · rw [hAt_meet, hAt_meet]
    have := A.fall c
    have := B.fall c
    omega
theorem opn_iff {h : List Nat} {c : Nat} : opn h c = true ↔ (c = 0 ∨ hAt h c < hAt h (c - 1)) := by
  unfold opn
  rw [Bool.or_eq_true, decide_eq_true_iff, decide_eq_true_iff]
theorem bool_ext {a b : Bool} (h : a = true ↔ b = true) : a = b := by
  cases a <;> cases b <;> simp_all
theorem meet_gp {p : Int → Bool} {a b : List Nat} (B : IsHeap b) {c : Nat} (q : hAt a c < hAt b c) : gp p (meet a b) c = gp p a c := by
  have e : hAt (meet a b) c = hAt a c := by
    rw [hAt_meet]
    omega
  have d : dg (meet a b) c = dg a c := by
    unfold dg
    rw [e]
  have o : opn (meet a b) c = opn a c := bool_ext (by
    rw [opn_iff, opn_iff, e, hAt_meet]
    have := B.le (show c - 1 ≤ c by omega)
    omega)
  unfold gp
  rw [d, o]
theorem meet_comm (a b : List Nat) : meet a b = meet b a := by
  unfold meet
  rw [Nat.min_comm]
  exact List.map_congr_left fun c _ => Nat.min_comm _ _
theorem meet_gp2 {p : Int → Bool} {a b : List Nat} {c : Nat} (q : hAt a c = hAt b c) : gp p (meet a b) c = (gp p a c && gp p b c) := by
  have e : hAt (meet a b) c = hAt a c := by
    rw [hAt_meet]
    omega
  have d : dg (meet a b) c = dg a c := by
    unfold dg
    rw [e]
  have d2 : dg b c = dg a c := by
    unfold dg
    rw [q]
  have o : opn (meet a b) c = (opn a c && opn b c) := bool_ext (by
    rw [Bool.and_eq_true, opn_iff, opn_iff, opn_iff, e, hAt_meet, ← q]
    omega)
  unfold gp
  rw [d, d2, o]
  cases opn a c <;> cases opn b c <;> cases p (dg a c) <;> rfl
theorem meet_grow {p : Int → Bool} {a b : List Nat} (A : IsHeap a) (B : IsHeap b) : grow (meet a b) (gp p (meet a b)) = meet (grow a (gp p a)) (grow b (gp p b)) := by
  refine heap_ext (grow_heap (meet_heap A B) gp_opn) (meet_heap (grow_heap A gp_opn) (grow_heap B gp_opn)) fun c => ?_
  rw [hAt_grow gp_opn, hAt_meet, hAt_meet, hAt_grow gp_opn, hAt_grow gp_opn]
  rcases Nat.lt_trichotomy (hAt a c) (hAt b c) with q | q | q
  · rw [meet_gp B q]
    have := b2n_le (gp p a c)
    omega
  · rw [meet_gp2 q, q]
    cases gp p a c <;> cases gp p b c <;> (unfold b2n; simp) <;> omega
  · rw [meet_comm, meet_gp A q]
    have := b2n_le (gp p b c)
    omega
/-! ### what is held -/
def Sub (f h : List Nat) : Prop := ∀ c, hAt f c ≤ hAt h c
theorem Sub.refl (h : List Nat) : Sub h h := fun _ => Nat.le_refl _
theorem Sub.len {f h : List Nat} (F : IsHeap f) (s : Sub f h) : f.length ≤ h.length := by
  rcases Nat.lt_or_ge h.length f.length with q | q
  · have a := F.pos _ q
    have b := s h.length
    rw [hAt_ge (Nat.le_refl _)] at b
    omega
  · exact q
theorem sub_grow {p : Int → Bool} {f h : List Nat} {g : Nat → Bool} (s : Sub f h) (hg : ∀ c, g c = true → gp p f c = true) : Sub (grow f g) (grow h (gp p h)) := fun c => by
  rw [hAt_grow fun c z => gp_opn c (hg c z), hAt_grow gp_opn]
  have a := s c
  by_cases q : g c = true
  · have z := hg c q
    by_cases e : hAt f c < hAt h c
    · have := b2n_le (g c)
      omega
    · have e2 : hAt f c = hAt h c := by omega
      have : gp p h c = true := by
        unfold gp at z ⊢
        rw [Bool.and_eq_true] at z ⊢
        refine ⟨opn_iff.mpr ?_, ?_⟩
        · have := opn_iff.mp z.1
          have := s (c - 1)
          omega
        · have d : dg h c = dg f c := by
            unfold dg
            rw [e2]
          rw [d]
          exact z.2
      rw [q, this]
      omega
  · have : g c = false := by simpa using q
    rw [this]
    show _ + 0 ≤ _
    omega
theorem sub_more {f h : List Nat} {g : Nat → Bool} (s : Sub f h) (hg : ∀ c, g c = true → opn h c = true) : Sub f (grow h g) := fun c => by
  rw [hAt_grow hg]
  have := s c
  omega
/-! ### turned over -/
def conj (h : List Nat) : List Nat := (List.range (hAt h 0)).map fun r => (h.filter fun x => decide (r < x)).length
theorem IsHeap.pairs {h : List Nat} (H : IsHeap h) : h.Pairwise (fun a b => b ≤ a) := by
  refine List.pairwise_iff_getElem.mpr fun i j hi hj hij => ?_
  have := H.le (Nat.le_of_lt hij)
  have a := hAt_lt hi
  have b := hAt_lt hj
  rw [List.getElem?_eq_getElem hi] at a
  rw [List.getElem?_eq_getElem hj] at b
  rw [Option.some.inj a, Option.some.inj b]
  exact this
theorem cnt_iff : ∀ (l : List Nat), l.Pairwise (fun a b => b ≤ a) → ∀ c r, c < (l.filter fun x => decide (r < x)).length ↔ r < hAt l c
  | [], _, c, r => by
    rw [hAt_ge (Nat.zero_le _)]
    constructor
    · intro z
      exact absurd z (Nat.not_lt_zero c)
    · intro z
      exact absurd z (Nat.not_lt_zero r)
  | x :: l, hp, c, r => by
    obtain ⟨h1, h2⟩ := List.pairwise_cons.mp hp
    by_cases q : r < x
    · rw [List.filter_cons, if_pos (decide_eq_true q), List.length_cons]
      cases c with
      | zero => exact ⟨fun _ => q, fun _ => Nat.zero_lt_succ _⟩
      | succ c =>
        have := cnt_iff l h2 c r
        show c + 1 < _ + 1 ↔ r < hAt l c
        omega
    · have none : ∀ y ∈ x :: l, ¬ r < y := fun y hy => by
        rcases List.mem_cons.mp hy with rfl | hy
        · exact q
        · have := h1 y hy
          omega
      have e : ((x :: l).filter fun y => decide (r < y)) = [] := List.filter_eq_nil_iff.mpr fun y hy => by
        rw [decide_eq_false (none y hy)]
        decide
      rw [e]
      constructor
      · intro z
        exact absurd z (Nat.not_lt_zero c)
      · intro z
        by_cases u : c < (x :: l).length
        · exact absurd z (none _ (List.mem_of_getElem? (hAt_lt u)))
        · rw [hAt_ge (by omega)] at z
          exact absurd z (Nat.not_lt_zero r)
theorem conj_len (h : List Nat) : (conj h).length = hAt h 0 := by
  unfold conj
  rw [List.length_map, List.length_range]
theorem conj_iff {h : List Nat} (H : IsHeap h) (c r : Nat) : c < hAt (conj h) r ↔ r < hAt h c := by
  by_cases q : r < hAt h 0
  · have e : hAt (conj h) r = (h.filter fun x => decide (r < x)).length := by
      unfold hAt conj
      rw [List.getD_eq_getElem?_getD, List.getElem?_map, List.getElem?_range q]
      rfl
    rw [e]
    exact cnt_iff h H.pairs c r
  · rw [hAt_ge (by rw [conj_len]; omega)]
    have := H.le (Nat.zero_le c)
    constructor
    · intro z
      exact absurd z (Nat.not_lt_zero c)
    · intro z
      omega
theorem conj_heap {h : List Nat} (H : IsHeap h) : IsHeap (conj h) := by
  refine ⟨fun r hr => ?_, fun r => ?_⟩
  · rw [conj_len] at hr
    exact (conj_iff H 0 r).mpr hr
  · rcases Nat.lt_or_ge (hAt (conj h) r) (hAt (conj h) (r + 1)) with z | z
    · have a := (conj_iff H _ _).mp z
      exact absurd ((conj_iff H (hAt (conj h) r) r).mpr (by omega)) (Nat.lt_irrefl _)
    · exact z
theorem turn_sq {p p' : Int → Bool} (hp : ∀ z, p z = true → p' (-z) = true) {h k : List Nat} (hk : ∀ c r, c < hAt k r ↔ r < hAt h c) {c : Nat} (g : gp p h c = true) : c = hAt k (hAt h c) ∧ gp p' k (hAt h c) = true := by
  unfold gp at g
  obtain ⟨o, z⟩ := Bool.and_eq_true_iff.mp g
  have o' := opn_iff.mp o
  have e : hAt k (hAt h c) = c := by
    have a : ¬ c < hAt k (hAt h c) := fun z => absurd ((hk _ _).mp z) (Nat.lt_irrefl _)
    rcases Nat.lt_or_ge (hAt k (hAt h c)) c with q | q
    · have b : ¬ (c - 1 < hAt k (hAt h c)) := by omega
      rw [hk] at b
      omega
    · omega
  refine ⟨e.symm, ?_⟩
  unfold gp
  rw [Bool.and_eq_true]
  refine ⟨opn_iff.mpr ?_, ?_⟩
  · by_cases q : hAt h c = 0
    · exact .inl q
    · refine .inr ?_
      rw [e]
      exact (hk _ _).mpr (by omega)
  · have : dg k (hAt h c) = -(dg h c) := by
      unfold dg
      rw [e]
      omega
    rw [this]
    exact hp _ z
theorem conj_grow {p p' : Int → Bool} (hp : ∀ z, p' (-z) = p z) {h : List Nat} (H : IsHeap h) : conj (grow h (gp p h)) = grow (conj h) (gp p' (conj h)) := by
  have G := grow_heap H (gp_opn (p := p) (h := h))
  have C := conj_heap H
  refine heap_ext (conj_heap G) (grow_heap C gp_opn) fun r => nat_ext fun c => ?_
  rw [conj_iff G, hAt_grow gp_opn, hAt_grow gp_opn]
  have k := conj_iff H c r
  by_cases q : r < hAt h c
  · have := k.mpr q
    omega
  · have q2 : ¬ c < hAt (conj h) r := fun z => q (k.mp z)
    constructor
    · intro z
      cases u : gp p h c with
      | false =>
        rw [u] at z
        exact absurd z (by show ¬ r < hAt h c + 0; omega)
      | true =>
        rw [u] at z
        have z' : r < hAt h c + 1 := z
        have e : r = hAt h c := by omega
        obtain ⟨a, b⟩ := turn_sq (p := p) (p' := p') (fun z y => (hp z).trans y) (conj_iff H) u
        subst e
        rw [b]
        show c < _ + 1
        omega
    · intro z
      cases u : gp p' (conj h) r with
      | false =>
        rw [u] at z
        exact absurd z (by show ¬ c < hAt (conj h) r + 0; omega)
      | true =>
        rw [u] at z
        have z' : c < hAt (conj h) r + 1 := z
        have e : c = hAt (conj h) r := by omega
        have back : ∀ y, p' y = true → p (-y) = true := fun y hy => by
          have := hp (-y)
          rw [Int.neg_neg] at this
          rw [← this]
          exact hy
        obtain ⟨a, b⟩ := turn_sq (p := p') (p' := p) back (h := conj h) (k := h) (fun c r => (conj_iff H r c).symm) u
        subst e
        rw [b]
        show r < _ + 1
        omega
end HM

set_option exponentiation.threshold 400
namespace K1
open PySem PySem.Spec PyProof.Rows L2 Evl HM LX ZW ZM MP DM DR TE
section
variable {P : Program} {w : World} {K : PySem.W.Frag} {mg : Str → Option Value} {base : Heap}
def spWrittenP : Sp := fun vs H Q _ => ∃ c a xs rs ds B, vs = [.ref c, .ref a] ∧ H c = some (.tup xs) ∧ RingsAt H 60 xs rs ∧ (1 ≤ xs.length ∧ xs.length ≤ 12) ∧ DealAt H a ds ∧ DOk rs ds B ∧ B ≤ 10 ^ 45 ∧
  ∀ r H' res, Ex H H' → DealAt H' r res → DOk rs res B → res.length ≤ ds.length → (∀ f, Nl rs f → Sf f res = Sf f ds) → Canon rs res → Q (.ref r) H'
theorem ok_writtenP (T : Txt K mg) {f : Addr} {fd : FuncData} (D : DefAt K mg "written" sWritten ["chain", "deal"] f fd) : FnOk P w K mg base CX0 6 f fd ["chain", "deal"] spWrittenP := by
  refine D.F.ok scWritten (fun vs H Q E h => ?_) (fun cdv A outer s₀ H vs Q E hr h => ?_)
  · obtain ⟨c, a, xs, rs, ds, B, rfl, _⟩ := h
    rfl
  · obtain ⟨c, a, xs, rs, ds, B, rfl, hc, hR, hl, ha, hd, hB, k⟩ := h
    obtain ⟨f1, fd1, D1⟩ := T.d_told_sum
    obtain ⟨f2, fd2, D2⟩ := T.d_check_deal
    obtain ⟨f3, fd3, D3⟩ := T.d_check_chain
    have hr3 : Room 3 _ := hr.mono (by decide)
    have hr5 : Room 5 _ := hr.mono (by decide)
    refine ⟨_, pss_cons (ps_expr (pe_call (ok_check_chain T D3) hr5 (by rfl) D3.g D3.F.kp D3.b .nil pass0 (pa_cons (pv 0) pa_nil)))
      (pss_cons (ps_expr (pe_call (ok_check_deal T D2) hr5 (by rfl) D2.g D2.F.kp D2.b .nil pass0 (pa_cons (pv 0) (pa_cons (pv 1) pa_nil))))
      (pss_one (ps_ret (pe_call (ok_told_sum T D1) hr3 (by rfl) D1.g D1.F.kp D1.b .nil pass0 (pa_cons (pv 0) (pa_cons (pe_lst (pa_cons (pe_tup (pa_cons pe_int (pa_cons (pv 1) pa_nil))) pa_nil)) pa_nil)))))), ?_⟩
    refine ⟨_, rfl, .ref c, rfl, rings_chain4 hR hc hl.1 hl.2, fun H1 e1 => ?_⟩
    refine ⟨_, rfl, _, rfl, c, a, xs, rs, ds, rfl, e1 _ _ hc, rings_ex4 e1 hR, hl.2, e1 _ _ ha, hd.mono (by omega), fun H2 e2 => ?_⟩
    refine ⟨_, rfl, _, rfl, by show 2 ≤ sizeLine; decide, fun p1 hp1 => ⟨by show 1 ≤ sizeLine; decide, fun l hl0 => ?_⟩⟩
    have x1 := Ex.new (o := .tup [.int 1, .ref a]) hp1
    have x3 := Ex.new (o := .lst [.ref p1]) hl0
    have e4 := ((e1.trans e2).trans x1).trans x3
    have g1 := x3 _ _ (show (upd H2 p1 (.tup [.int 1, .ref a])) p1 = _ from upd_same)
    obtain ⟨n1, n2, n3⟩ := hd.raw (by omega)
    refine ⟨c, l, xs, rs, [.ref p1], [(1, ds)], rfl, e4 _ _ hc, rings_ex4 e4 hR, upd_same, .cons ⟨p1, a, rfl, g1, e4 _ _ ha⟩ .nil, fun p hp => ?_, by show ds.length + 0 ≤ 1000; exact hd.len, ?_, fun r H5 res e5 hr5 hd5 hln5 hf5 cn => ?_⟩
    · simp only [List.mem_cons, List.not_mem_nil, or_false] at hp
      subst hp
      exact ⟨n1, n2, by show (1 : Nat) < 2 ^ 300; decide, n3⟩
    · have := hd.abs
      show ((1 : Nat) : Int) * Ab ds + 0 ≤ _
      omega
    · refine k r H5 res (e4.trans e5) hr5 (hd5.mono ?_) hln5 (fun f hf => ?_) cn
      · have := hd.abs
        show ((1 : Nat) : Int) * Ab ds + 0 ≤ _
        omega
      · rw [hf5 f hf]
        show 1 * Sf f ds + 0 = _
        omega
def spRestOf : Sp := fun vs H Q _ => ∃ c a xs rs ds B, vs = [.ref c, .ref a] ∧ H c = some (.tup xs) ∧ RingsAt H 60 xs rs ∧ (1 ≤ xs.length ∧ xs.length ≤ 12) ∧ DealAt H a ds ∧ DOk rs ds B ∧ B ≤ 10 ^ 45 ∧ ds.length ≤ 900 ∧
  ∀ r H' res, Ex H H' → DealAt H' r res → DOk rs res (B + 24) → res.length ≤ ds.length + 12 → (∀ f, Nl rs f → Sf f res = Sf f (canD (xs.length - 1)) + (-1) * Sf f ds) → Canon rs res → Q (.ref r) H'
end
end K1

/-! own rules: t[::-1] of a tuple -/
namespace RV
open PySem PySem.Spec PyProof.Rows HT
section
variable {prog : Program} {w : World} {A : Around} {E : Value → Shared → Prop} {s : Shared}
theorem adjust_rev (n : Nat) : Builtin.Slice.sliceAdjust none none (-1) (n : Int) = ((n : Int) - 1, -1) := rfl
theorem places_rev (n : Nat) : Builtin.Slice.slicePlaces ((n : Int) - 1) (-1) (-1) = n := by
  unfold Builtin.Slice.slicePlaces
  have h1 : ¬ (-1 : Int) > 0 := by omega
  simp only [h1, if_false]
  split
  · rw [show (- -1 : Int) = 1 by decide, Int.ediv_one]
    omega
  · omega
theorem pick_rev (xs : Array Value) : ((List.range xs.size).filterMap fun (m : Nat) => xs[(((xs.size : Int) - 1) + (m : Int) * (-1)).toNat]?).toArray = xs.toList.reverse.toArray := by
  have e : (List.range xs.size).filterMap (fun (m : Nat) => xs[(((xs.size : Int) - 1) + (m : Int) * (-1)).toNat]?) = ((List.range xs.size).map fun k => xs.size - 1 - k).filterMap (xs[·]?) := by
    rw [List.filterMap_map]
    congr 1
    funext m
    show xs[(((xs.size : Int) - 1) + (m : Int) * (-1)).toNat]? = xs[xs.size - 1 - m]?
    rw [show (((xs.size : Int) - 1) + (m : Int) * (-1)).toNat = xs.size - 1 - m by omega]
  rw [e, PySem.W.krv_range, List.filterMap_reverse, PySem.W.krv_all]
theorem sliceApplied_rev {sl : Addr} {vl vu vs : Value} {n : Nat} {Q : Int × Int × Nat → Shared → Prop} (hs : s.heap.IsSliceOf sl vl vu vs) (pl : IsPart vl none) (pu : IsPart vu none) (ps : IsPart vs (some (-1)))
    (h : Q ((n : Int) - 1, -1, n) s) : wpAny (model prog w) A (Builtin.Slice.sliceApplied (.ref sl) (pure (n : Int))) Q E s := by
  obtain ⟨os, hos, hcs, hds⟩ := id hs
  unfold Builtin.Slice.sliceApplied Builtin.Slice.sliceFields
  refine wpAny_bind (wpAny_bind (wpAny_field hos hds (x := vl) rfl (wpAny_bind (wpAny_field hos hds (x := vu) rfl (wpAny_bind (wpAny_field hos hds (x := vs) rfl (wpAny_pure ?_)))))))
  refine wpAny_bind (slicePart_ ps ?_)
  show wpAny _ _ (if ((-1 : Int) == 0) = true then _ else _) _ _ s
  rw [if_neg (by decide)]
  refine wpAny_bind (slicePart_ pl (wpAny_bind (slicePart_ pu (wpAny_bind (wpAny_pure ?_)))))
  show wpAny _ _ (match Builtin.Slice.sliceAdjust none none (-1) (n : Int) with | (lo, hi) => pure (lo, (-1 : Int), Builtin.Slice.slicePlaces lo hi (-1))) _ _ s
  rw [adjust_rev]
  show wpAny _ _ (pure ((n : Int) - 1, (-1 : Int), Builtin.Slice.slicePlaces ((n : Int) - 1) (-1) (-1))) _ _ s
  rw [places_rev]
  exact wpAny_pure h
theorem getItem_tuple_rev {t sl : Addr} {items : Array Value} {vl vu vs : Value} {Q : Value → Shared → Prop} (ht : IsTup s.heap t items) (hs : s.heap.IsSliceOf sl vl vu vs) (pl : IsPart vl none) (pu : IsPart vu none) (ps : IsPart vs (some (-1)))
    (h : Q (.ref s.heap.objs.size) { s with heap := s.heap.push { cls := .type "tuple", data := .seq items.toList.reverse.toArray } })
    (hsz : items.size ≤ sizeLine) : wpAny (model prog w) A (getItem (.ref t) (.ref sl)) Q E s := by
  have htake : sizeOk (.seq items.toList.reverse.toArray) := by
    show items.toList.reverse.toArray.size ≤ sizeLine
    rw [List.size_toArray, List.length_reverse, Array.length_toList]
    exact hsz
  obtain ⟨os, hos, hcs, hds⟩ := id hs
  have hTs : s.TypeIs (.ref sl) "slice" := ⟨os, hos, hcs⟩
  unfold getItem
  try with_reducible refine wpAny_holding ?_
  first | refine wpAny_bind (wpAny_pure ?_) | skip
  refine wpAny_bind (wpAny_sequenceKey ht.typeIs (by decide) ?_)
  refine wpAny_bind (wpAny_callSpecial?_slot (name := Str.ofString "__getitem__") ht.typeIs PyProof.Rows.slot_tuple_getitem
    (wpAny_call_entry PyProof.Rows.slot_tuple_getitem ht.typeIs entry_tuple_getitem ?_ (args_tuple_getitem _ _)))
  show wpAny _ _ (Builtin.Tuple.tupleItemsOf (.ref t) >>= _) _ _ s
  refine wpAny_bind (tupleItemsOf_ ht ?_)
  refine wpAny_bind (wpAny_typeOf hTs ?_)
  rw [if_pos (by decide)]
  refine wpAny_bind (sliceApplied_rev hs pl pu ps ?_)
  have hno : ¬ ((((items.size : Int) - 1) == 0 && (-1 : Int) == 1 && items.size == items.size) = true) := by
    intro q
    rw [Bool.and_eq_true, Bool.and_eq_true] at q
    exact absurd q.1.2 (by decide)
  show wpAny _ _ (if (((items.size : Int) - 1) == 0 && (-1 : Int) == 1 && items.size == items.size) = true then _ else _) _ _ s
  rw [if_neg hno, pick_rev]
  first
    | exact wpAny_bind (m := Builtin.Tuple.tupleExact _) (wpAny_newObj_type (wpAny_pure ⟨_, rfl, wpAny_pure h⟩) htake)
    | exact wpAny_bind (m := Builtin.Tuple.tupleExact _) (wpAny_newObj_type (wpAny_bind (wpAny_pure (wpAny_pure ⟨_, rfl, wpAny_pure h⟩))) htake)
    | exact wpAny_bind (wpAny_bind (m := Builtin.Tuple.tupleExact _) (wpAny_newObj_type (wpAny_pure (wpAny_pure ⟨_, rfl, wpAny_pure h⟩)) htake))
    | exact wpAny_bind (wpAny_bind (m := Builtin.Tuple.tupleExact _) (wpAny_newObj_type (wpAny_pure ⟨_, rfl, wpAny_pure h⟩) htake))
end
end RV
namespace L2
open PySem PySem.Spec PyProof.Rows
section
variable {X : Cx}
def tRevT (K : PySem.W.Frag) (te : TE) : TE := fun σ H Q => te σ H fun x H1 => ∃ a xs, x = .ref a ∧ SqT K H1 a xs ∧ ∀ p, H1 p = none → Q (.ref p) (upd H1 p (.tup xs.reverse))
theorem pe_revT {e : Expr} {te : TE} {k : Nat} {p1 p2 p3 pos : Pos} (he : PE X e te) : PE X (.Subscript e (.Slice none none (some (.UnaryOp .USub (.Constant (.int 1) k p1) p2)) p3) pos) (tRevT X.K te) := by
  refine ⟨fun pins s σ H Q I h => ?_⟩
  refine Subscript_ (thn (he.run pins s σ H _ I h) fun v s1 ⟨x, H1, I1, r1, q1⟩ => ?_)
  obtain ⟨a, xs, ex, hx, q⟩ := q1
  subst ex
  cases r1
  have hst : PO X (some (.UnaryOp .USub (.Constant (.int 1) k p1) p2)) (tPart (tUn (rU fun i => .int (-i)) (tC (.int 1)))) := po_some (pe_un un_neg pe_int)
  refine wpAny_Slice (thn (po_none.run pins s1 σ H1 (fun o H2 => o = none ∧ H2 = H1) I1 ⟨rfl, rfl⟩) fun vl s2 ⟨l, H2, I2, pl, el, e2⟩ => ?_)
  subst el e2
  refine thn (po_none.run pins s2 σ H2 (fun o H3 => o = none ∧ H3 = H2) I2 ⟨rfl, rfl⟩) fun vu s3 ⟨u, H3, I3, pu, eu, e3⟩ => ?_
  subst eu e3
  refine thn (hst.run pins s3 σ H3 (fun o H4 => o = some (-1) ∧ H4 = H3) I3 ⟨1, rfl, -1, rfl, rfl, rfl⟩) fun vs s4 ⟨o, H4, I4, ps, eo, e4⟩ => ?_
  subst eo e4
  have I5 : Inv X pins σ H4 { s4 with heap := s4.heap.push { cls := .type "slice", data := .fields #[vl, vu, vs] } } := I4.kept (t' := s4.toks) fun b ob q => Heap.get?_push_of_some _ q
  obtain ⟨its, r, ht, hz⟩ := I5.tuple hx
  have hlen := r.length
  show wpAny (model X.prog X.w) X.A (subscriptTail e (.Slice none none (some (.UnaryOp .USub (.Constant (.int 1) k p1) p2)) p3) (.ref a) (.ref s4.heap.objs.size)) (EP X pins σ Q) X.xe { s4 with heap := s4.heap.push { cls := .type "slice", data := .fields #[vl, vu, vs] } }
  refine tail_any (ops := [.ref a, .ref s4.heap.objs.size]) ht.typeIs PyProof.Rows.slot_tuple_getitem.lookup ?_ (by with_unfolding_all rfl)
  refine RV.getItem_tuple_rev ht (Heap.IsSliceOf.new _ vl vu vs) pl pu ps ?_ (by rw [List.size_toArray]; omega)
  refine ⟨.ref _, _, I5.laid (t' := s4.toks) (o := .tup xs.reverse) (fun b ob q => Heap.get?_push_of_some _ q) (Nat.le_refl _) ?_, rfl, q _ (I5.hok.fresh (Nat.le_refl _))⟩
  exact ⟨by rw [List.length_reverse]; exact hz, _, r.reverse, IsTup.new _ _⟩
end
end L2

set_option exponentiation.threshold 400
namespace K1
open PySem PySem.Spec PyProof.Rows L2 Evl HM LX ZW ZM MP DM DR TE
theorem paired_rev {α β : Type} {R : α → β → Prop} : ∀ {xs : List α} {ys : List β}, Paired R xs ys → Paired R xs.reverse ys.reverse
  | _, _, .nil => .nil
  | _, _, .cons h r => by
    rw [List.reverse_cons, List.reverse_cons]
    exact paired_snoc h (paired_rev r)
theorem paired_set {α β : Type} {R : α → β → Prop} {x : α} {y : β} (h : R x y) : ∀ {xs : List α} {ys : List β}, Paired R xs ys → ∀ k, Paired R (xs.set k x) (ys.set k y)
  | _, _, .nil, _ => .nil
  | _, _, .cons _ r, 0 => .cons h r
  | _, _, .cons a r, k + 1 => .cons a (paired_set h r k)
theorem prt_ex {H H' : Hp} {ts : List Addr} {ks : List (List Key × V)} (e : Ex H H') (h : ItT.Prt H ts ks) : ItT.Prt H' ts ks := paired_imp (fun _ _ ⟨b, z1, z2⟩ => ⟨b, e _ _ z1, e _ _ z2⟩) h
theorem prt_updL {H : Hp} {D : Addr} {ys zs : List V} {ts : List Addr} {ks : List (List Key × V)} (hD : H D = some (.lst ys)) (h : ItT.Prt H ts ks) : ItT.Prt (upd H D (.lst zs)) ts ks :=
  paired_imp (fun _ _ ⟨b, z1, z2⟩ => ⟨b, (upd_ne (ne_of z1 hD (by intro y; cases y))).trans z1, (upd_ne (ne_of z2 hD (by intro y; cases y))).trans z2⟩) h
theorem mapD_take (g : Pl → Pl) {ds : Dl} {i : Nat} {e : Pl × Int} (h : ds[i]? = some e) : mapD g (ds.take (i + 1)) = mapD g (ds.take i) ++ [(g e.1, e.2)] := by
  rw [take_snoc h, mapD_snoc]
section
variable {K : PySem.W.Frag} {g : TG} {te tk tv : TE} {vs : List Nat} {σ : L2.St} {H1 : Hp} {D : Addr} {Qd : Hp → Prop}
/-- a list of places sent on, with their chips -/
theorem lc_pairsM {a : Addr} {od : Obj} {ds : Dl} (φ : Pl → Pl) (hD : H1 D = none) (ha : H1 a = some (.frz od (.dT (ds.map ent)))) (hl : ds.length ≤ 1000)
    (hs : ∀ (e : Pl × Int) (q : Addr) (H : Hp) (Qk : VK), e ∈ ds → Ex H1 H → H q = some (.tup [.int e.1.1, .int e.1.2]) → (∀ t b H4, Ex H H4 → H4 t = some (.tup [.ref b, .int e.2]) → H4 b = some (.tup [.int (φ e.1).1, .int (φ e.1).2]) → Qk (.ref t) H4) →
      g (.ref q) (wipe σ vs) H fun σ2 H2 => wipe σ2 vs = wipe σ vs ∧ te σ2 H2 Qk)
    (hd : ∀ H ts, Ex H1 H → H D = some (.lst (ts.map V.ref)) → ItT.Prt H ts ((mapD φ ds).map ent) → Qd H) :
    ∃ W : Nat → Nat → Hp → Prop, (∃ m, W 0 m (upd H1 D (.lst []))) ∧ ∀ i m H, W i m H →
      ((Itkt a od (ds.map ent)).stop i H ∧ Qd H) ∨ ((Itkt a od (ds.map ent)).go i H ∧ ∃ Nx : Hp → Prop, (∀ H', Nx H' → ∃ m', m' < m ∧ W (i + 1) m' H') ∧ ∀ x H', (Itkt a od (ds.map ent)).yld i H x H' → g x (wipe σ vs) H' fun σ2 H2 => wipe σ2 vs = wipe σ vs ∧ tYes σ2 H2 fun b H3 =>
        if b = true then te σ2 H3 fun y H4 => ∃ acc, H4 D = some (.lst acc) ∧ acc.length < sizeLine ∧ Nx (upd H4 D (.lst (acc ++ [y]))) else Nx H3) := by
  refine lc_it walk_keysT (fun k H2 => ∃ ts : List Addr, H2 D = some (.lst (ts.map V.ref)) ∧ ItT.Prt H2 ts ((mapD φ (ds.take k)).map ent) ∧ Ex H1 H2) ⟨[], upd_same, .nil, Ex.new hD⟩ (fun k H2 _ hp => hp.choose_spec.2.2 _ _ ha) (fun k x H2 H3 hk hp hy => ?_) (fun H2 hp => ?_)
  · obtain ⟨ts, v1, v2, v3⟩ := hp
    obtain ⟨rfl, ky, v, q, hkv, rfl, hq⟩ := hy
    rw [List.getElem?_map] at hkv
    obtain ⟨e, he, hek⟩ := Option.map_eq_some_iff.mp hkv
    cases hek
    refine hs e q H3 _ (List.mem_of_getElem? he) v3 hq fun t b H4 e4 h1 h2 => ⟨_, e4 _ _ v1, ?_, ts ++ [t], ?_, ?_, Ex.mut (v3.trans e4) hD⟩
    · have l1 := paired_len v2
      rw [List.length_map, mapD_len, List.length_take] at l1
      rw [List.length_map]
      exact small1000 (by omega)
    · rw [upd_same, List.map_append]
      rfl
    · rw [mapD_take φ he, List.map_append]
      exact paired_append (prt_updL (e4 _ _ v1) (prt_ex e4 v2)) (.cons ⟨b, (upd_ne (ne_of h1 (e4 _ _ v1) (by intro y; cases y))).trans h1, (upd_ne (ne_of h2 (e4 _ _ v1) (by intro y; cases y))).trans h2⟩ .nil)
  · obtain ⟨ts, v1, v2, v3⟩ := hp
    rw [List.length_map, List.take_length] at v2
    exact hd H2 ts v3 v1 v2
/-- a deal of places sent on, with their chips -/
theorem dc_pairsM {a : Addr} {od : Obj} {ds : Dl} (φ : Pl → Pl) (hD : H1 D = none) (ha : H1 a = some (.frz od (.dT (ds.map ent)))) (hl : ds.length ≤ 1000) (nk : NK (mapD φ ds))
    (hs : ∀ (e : Pl × Int) (q : Addr) (H : Hp) (Qk : V → V → Hp → Prop), e ∈ ds → Ex H1 H → H q = some (.tup [.int e.1.1, .int e.1.2]) → (∀ b H4, Ex H H4 → H4 b = some (.tup [.int (φ e.1).1, .int (φ e.1).2]) → Qk (.ref b) (.int e.2) H4) →
      g (.ref q) (wipe σ vs) H fun σ2 H2 => wipe σ2 vs = wipe σ vs ∧ tk σ2 H2 fun y H3 => tv σ2 H3 fun z H4 => Qk y z H4)
    (hd : ∀ H, Ex H1 H → H D = some (.dT ((mapD φ ds).map ent)) → Qd H) :
    ∃ W : Nat → Nat → Hp → Prop, (∃ m, W 0 m (upd H1 D (.dT []))) ∧ ∀ i m H, W i m H →
      ((Itkt a od (ds.map ent)).stop i H ∧ Qd H) ∨ ((Itkt a od (ds.map ent)).go i H ∧ ∃ Nx : Hp → Prop, (∀ H', Nx H' → ∃ m', m' < m ∧ W (i + 1) m' H') ∧ ∀ x H', (Itkt a od (ds.map ent)).yld i H x H' → g x (wipe σ vs) H' fun σ2 H2 => wipe σ2 vs = wipe σ vs ∧ tYes σ2 H2 fun b H3 =>
        if b = true then tk σ2 H3 fun y H4 => tv σ2 H4 fun z H5 => ∃ kvs k c, y = .ref c ∧ H5 c = some (.tup (k.map kV)) ∧ H5 D = some (.dT kvs) ∧ kvs.length < sizeLine ∧ Nx (upd H5 D (.dT (putK kvs k z))) else Nx H3) := by
  refine dcT_it walk_keysT (fun k H2 => H2 D = some (.dT ((mapD φ (ds.take k)).map ent)) ∧ Ex H1 H2) ⟨upd_same, Ex.new hD⟩ (fun k H2 _ hp => hp.2 _ _ ha) (fun k x H2 H3 hk hp hy => ?_) (fun H2 hp => ?_)
  · obtain ⟨v1, v3⟩ := hp
    obtain ⟨rfl, ky, v, q, hkv, rfl, hq⟩ := hy
    rw [List.getElem?_map] at hkv
    obtain ⟨e, he, hek⟩ := Option.map_eq_some_iff.mp hkv
    cases hek
    refine hs e q H3 _ (List.mem_of_getElem? he) v3 hq fun b H4 e4 h2 => ⟨_, dk (φ e.1), b, rfl, h2, e4 _ _ v1, ?_, ?_, Ex.mut (v3.trans e4) hD⟩
    · rw [List.length_map, mapD_len, List.length_take]
      exact small1000 (by omega)
    · rw [upd_same, putK_ent, put_new, mapD_take φ he]
      intro d hd2 z
      have hkn : NK (mapD φ (ds.take k) ++ [(φ e.1, e.2)] ++ mapD φ (ds.drop (k + 1))) := by
        rw [← mapD_take φ he]
        unfold mapD
        rw [← List.map_append, List.take_append_drop]
        exact nk
      unfold NK at hkn
      rw [List.map_append, List.map_append] at hkn
      exact (List.nodup_append.mp (List.nodup_append.mp hkn).1).2.2 _ (List.mem_map.mpr ⟨d, hd2, rfl⟩) _ (List.mem_singleton.mpr rfl) z
  · obtain ⟨v1, v3⟩ := hp
    rw [List.length_map, List.take_length] at v1
    exact hd H2 v3 v1
end
section
variable {P : Program} {w : World} {K : PySem.W.Frag} {mg : Str → Option Value} {base : Heap}
def spBackward : Sp := fun vs H Q _ => ∃ c a xs rs ds B, vs = [.ref c, .ref a] ∧ H c = some (.tup xs) ∧ RingsAt H 60 xs rs ∧ (1 ≤ xs.length ∧ xs.length ≤ 12) ∧ DealAt H a ds ∧ DOk rs ds B ∧ B ≤ 10 ^ 45 ∧
  ∀ t b r H' res, Ex H H' → H' t = some (.tup [.ref b, .ref r]) → H' b = some (.tup xs.reverse) → RingsAt H' 60 xs.reverse rs.reverse → DealAt H' r res → DOk rs.reverse res B → res.length ≤ ds.length → (∀ f, Nl rs.reverse f → Sf f res = Sf f (mapD (bwP rs) ds)) → Canon rs.reverse res → Q (.ref t) H'
theorem ok_backward (T : Txt K mg) {f : Addr} {fd : FuncData} (D : DefAt K mg "backward" sBackward ["chain", "deal"] f fd) : FnOk P w K mg base CX0 6 f fd ["chain", "deal"] spBackward := by
  refine D.F.ok scBackward (fun vs H Q E h => ?_) (fun cdv A outer s₀ H vs Q E hr h => ?_)
  · obtain ⟨c, a, xs, rs, ds, B, rfl, _⟩ := h
    rfl
  · obtain ⟨c, a, xs, rs, ds, B, rfl, hc, hR, hl, ha, hd, hB, k⟩ := h
    obtain ⟨f1, fd1, D1⟩ := T.d_told_sum
    obtain ⟨f2, fd2, D2⟩ := T.d_check_deal
    obtain ⟨f3, fd3, D3⟩ := T.d_check_chain
    have hr3 : Room 3 _ := hr.mono (by decide)
    have hr5 : Room 5 _ := hr.mono (by decide)
    have hu1 := Nat.lt_of_le_of_lt (Nat.add_le_add_left (show 1 ≤ 64 by decide) _) hr.units
    refine ⟨_, pss_cons (ps_expr (pe_call (ok_check_chain T D3) hr5 (by rfl) D3.g D3.F.kp D3.b .nil pass0 (pa_cons (pv 0) pa_nil)))
      (pss_cons (ps_expr (pe_call (ok_check_deal T D2) hr5 (by rfl) D2.g D2.F.kp D2.b .nil pass0 (pa_cons (pv 0) (pa_cons (pv 1) pa_nil))))
      (pss_cons (ps_set (i := 2) scBackward.nd rfl (.inr rfl) (pe_op op_sub (pe_callB call_len_seq (by rfl) T.z_len PySem.boot_len (pa_cons (pv 0) pa_nil)) pe_int))
      (pss_cons (ps_lock (ps_setDcT (i := 3) (own := [("j", 5), ("p", 6)]) (g := gTup K 2 (gCons (gName 5) (gCons (gName 6) gNil))) (tt := tYes) (by rfl) hr.units0 scBackward.nd rfl rfl (swd_true rfl rfl rfl (by decide +kernel)) (pi_keys (pv 1))
        (blkOk_by (N := nBackward) (sc := defScope sBackward) (by decide +kernel)) (fun _ _ _ _ _ => (pg_tup (by rfl) (pgs_cons (pg_name (i := 5) scBackward.nd rfl (.inl rfl)) (pgs_cons (pg_name (i := 6) scBackward.nd rfl (.inl rfl)) pgs_nil)))) (fun _ _ _ _ _ => pts_nil)
        (fun _ _ _ _ _ => (pe_tup (pa_cons (pe_op op_sub (pv 2) (pv 5)) (pa_cons (pe_op op_mod (pe_op op_sub (pe_ix (show IxR _ (rIxT K) from ix_tup) (pe_ix (show IxR _ (rIxT K) from ix_tup) (pv 0) (pv 5) (fun _ _ => rfl)) pe_int (fun _ _ => rfl)) (pv 6)) (pe_ix (show IxR _ (rIxT K) from ix_tup) (pe_ix (show IxR _ (rIxT K) from ix_tup) (pv 0) (pv 5) (fun _ _ => rfl)) pe_int (fun _ _ => rfl))) pa_nil)))) (fun _ _ _ _ _ => (pe_dget hu1 (pv 1) (pe_tup (pa_cons (pv 5) (pa_cons (pv 6) pa_nil))) (fun _ _ => rfl)))))
      (pss_cons (ps_set (i := 4) scBackward.nd rfl (.inl rfl) (pe_revT (pv 0)))
      (pss_one (ps_ret (pe_tup (pa_cons (pv 4) (pa_cons (pe_call (ok_told_sum T D1) hr3 (by rfl) D1.g D1.F.kp D1.b .nil pass0 (pa_cons (pv 4) (pa_cons (pe_lst (pa_cons (pe_tup (pa_cons pe_int (pa_cons (pv 3) pa_nil))) pa_nil)) pa_nil))) pa_nil))))))))), ?_⟩
    have hlen : xs.length = rs.length := paired_len hR
    have rok : RsOk rs rs.length := fun j hj => rings_ok hR j hj
    refine ⟨_, rfl, .ref c, rfl, rings_chain4 hR hc hl.1 hl.2, fun H1 e1 => ?_⟩
    refine ⟨_, rfl, _, rfl, c, a, xs, rs, ds, rfl, e1 _ _ hc, rings_ex4 e1 hR, hl.2, e1 _ _ ha, hd.mono (by omega), fun H2 e2 => ?_⟩
    have e12 := e1.trans e2
    refine ⟨_, rfl, c, _, rfl, .inr (SqT.of (e12 _ _ hc)), _, _, rfl, rfl, ?_⟩
    refine ⟨a, _, e12 _ _ ha, trivial, fun od => ?_⟩
    have ha2 := e12 _ _ ha
    have k0 : Keep a H2 (upd H2 a (.frz od (.dT (ds.map ent)))) := keep_lock
    have g0 : (upd H2 a (.frz od (.dT (ds.map ent)))) a = some (.frz od (.dT (ds.map ent))) := upd_same
    have hc0 : (upd H2 a (.frz od (.dT (ds.map ent)))) c = some (.tup xs) := k0 _ _ (ne_of (e12 _ _ hc) ha2 (by intro y; cases y)) (e12 _ _ hc)
    have hR0 := rings_keepD ha2 k0 (rings_ex4 e12 hR)
    generalize upd H2 a (.frz od (.dT (ds.map ent))) = H3 at k0 g0 hc0 hR0 ⊢
    refine ⟨_, rfl, a, od, rfl, .inr ⟨_, g0, fun Dq hD => ?_⟩⟩
    refine dc_pairsM (bwP rs) hD g0 hd.len (mapD_nk (q := bwP rs.reverse) hd.nk fun e he => bwP_bw (hd.keys e he)) (fun e q H4 Qk he e4 hq kk => ?_) (fun H4 e4 hD4 => ?_)
    · obtain ⟨⟨ej, eq⟩, ev⟩ := e
      have hin := hd.keys _ he
      obtain ⟨⟨b0, b1⟩, b2, b3⟩ := id hin
      replace b0 : 0 ≤ ej := b0
      replace b1 : ej < (rs.length : Int) := b1
      obtain ⟨x, hx, tt, rfl, ht, n1, n2, n3, n4⟩ := rings_nth (rings_ex4 e4 hR0) (show ej.toNat < rs.length by omega)
      have ej2 : ej = ((ej.toNat : Nat) : Int) := by omega
      have gv : getE ds (ej, eq) = some ev := getE_of hd.nk he
      refine ⟨q, _, rfl, SqT.of hq, rfl, .int ej, [_], rfl, .int eq, [], rfl, rfl, rfl, ?_⟩
      refine ⟨_, rfl, _, rfl, _, _, rfl, rfl, ?_⟩
      refine ⟨_, rfl, _, rfl, c, xs, ej, .ref tt, rfl, rfl, SqT.of (e4 _ _ hc0), at_of ej2 hx, tt, _, 1, _, rfl, rfl, SqT.of ht, rfl, ?_⟩
      refine ⟨_, rfl, _, _, rfl, rfl, ?_⟩
      refine ⟨_, rfl, _, rfl, c, xs, ej, .ref tt, rfl, rfl, SqT.of (e4 _ _ hc0), at_of ej2 hx, tt, _, 0, _, rfl, rfl, SqT.of ht, rfl, ?_⟩
      refine ⟨_, _, rfl, rfl, by omega, by show 2 ≤ sizeLine; decide, fun kb hkb => ?_⟩
      have x1 := Ex.new (o := .tup [.int ((rs.length : Int) - 1 - ej), .int ((K1N.sAt rs ej.toNat - eq) % (K1N.nAt rs ej.toNat : Int))]) hkb
      have g1 : (upd H4 kb (.tup [.int ((rs.length : Int) - 1 - ej), .int ((K1N.sAt rs ej.toNat - eq) % (K1N.nAt rs ej.toNat : Int))])) kb = some (.tup [.int (bwP rs (ej, eq)).1, .int (bwP rs (ej, eq)).2]) := upd_same
      rw [hlen]
      show tDGet _ _ _ (upd H4 kb (.tup [.int ((rs.length : Int) - 1 - ej), .int ((K1N.sAt rs ej.toNat - eq) % (K1N.nAt rs ej.toNat : Int))])) fun z H5 => Qk (.ref kb) z H5
      generalize upd H4 kb (.tup [.int ((rs.length : Int) - 1 - ej), .int ((K1N.sAt rs ej.toNat - eq) % (K1N.nAt rs ej.toNat : Int))]) = H5 at x1 g1 ⊢
      refine ⟨_, rfl, _, rfl, _, rfl, by show 2 ≤ sizeLine; decide, fun kk2 hkk => ⟨a, .int ev, rfl, .inr ⟨_, dk (ej, eq), kk2, .inr ⟨od, (x1.trans (Ex.new hkk)) _ _ (e4 _ _ g0)⟩, rfl, upd_same, by rw [valV_ent, gv]; rfl⟩, ?_⟩⟩
      exact kk kb _ (x1.trans (Ex.new hkk)) ((Ex.new hkk) _ _ g1)
    · refine ⟨e4 _ _ g0, ?_⟩
      have e5 : Ex H (upd H4 a (.dT (ds.map ent))) := e12.trans (Ex.of_keep ha2 (k0.trans (Keep.ex e4)))
      have nD : Dq ≠ a := fun z => by
        rw [z, g0] at hD
        cases hD
      have m5 : DealAt (upd H4 a (.dT (ds.map ent))) Dq (mapD (bwP rs) ds) := (upd_ne nD).trans hD4
      generalize upd H4 a (.dT (ds.map ent)) = H5 at e5 m5 ⊢
      refine ⟨_, rfl, c, _, rfl, SqT.of (e5 _ _ hc), fun bk hbk => ?_⟩
      have e6 := e5.trans (Ex.new (o := .tup xs.reverse) hbk)
      have gb : (upd H5 bk (.tup xs.reverse)) bk = some (.tup xs.reverse) := upd_same
      have m6 := (Ex.new (o := .tup xs.reverse) hbk) _ _ m5
      generalize upd H5 bk (.tup xs.reverse) = H6 at e6 gb m6 ⊢
      refine ⟨_, rfl, _, rfl, ?_⟩
      refine ⟨_, rfl, by show 2 ≤ sizeLine; decide, fun p1 hp1 => ⟨by show 1 ≤ sizeLine; decide, fun l hl0 => ?_⟩⟩
      have x1 := Ex.new (o := .tup [.int 1, .ref Dq]) hp1
      have x3 := Ex.new (o := .lst [.ref p1]) hl0
      have e7 := x1.trans x3
      have g1 := x3 _ _ (show (upd H6 p1 (.tup [.int 1, .ref Dq])) p1 = _ from upd_same)
      have dM : DOk rs.reverse (mapD (bwP rs) ds) B := mapD_ok (q := bwP rs.reverse) hd (fun p hp => bwP_bw hp) (fun p hp => bwP_in rok hp)
      have hRr : RingsAt H6 60 xs.reverse rs.reverse := paired_rev (rings_ex4 e6 hR)
      obtain ⟨n1, n2, n3⟩ := dM.raw (by omega)
      refine ⟨bk, l, xs.reverse, rs.reverse, [.ref p1], [(1, mapD (bwP rs) ds)], rfl, e7 _ _ gb, rings_ex4 e7 hRr, upd_same, .cons ⟨p1, Dq, rfl, g1, e7 _ _ m6⟩ .nil, fun p hp => ?_, by show (mapD (bwP rs) ds).length + 0 ≤ 1000; exact dM.len, ?_, fun r H8 res e8 hr8 hd8 hln8 hf8 cn => ?_⟩
      · simp only [List.mem_cons, List.not_mem_nil, or_false] at hp
        subst hp
        exact ⟨n1, n2, by show (1 : Nat) < 2 ^ 300; decide, n3⟩
      · have := dM.abs
        show ((1 : Nat) : Int) * Ab (mapD (bwP rs) ds) + 0 ≤ _
        omega
      · refine ⟨by show 2 ≤ sizeLine; decide, fun t ht => ?_⟩
        have e9 := e8.trans (Ex.new (o := .tup [.ref bk, .ref r]) ht)
        refine k t bk r _ res (((e6.trans e7).trans e9)) upd_same ((e7.trans e9) _ _ gb) (rings_ex4 (e7.trans e9) hRr) ((Ex.new ht) _ _ hr8) (hd8.mono ?_) ?_ (fun f hf => ?_) cn
        · have := dM.abs
          show ((1 : Nat) : Int) * Ab (mapD (bwP rs) ds) + 0 ≤ _
          omega
        · have : res.length ≤ (mapD (bwP rs) ds).length + 0 := hln8
          rw [mapD_len] at this
          omega
        · rw [hf8 f hf]
          show 1 * Sf f (mapD (bwP rs) ds) + 0 = _
          omega
def spFlippedChain : Sp := fun vs H Q _ => ∃ c xs rs, ∃ k : Nat, vs = [.ref c, .int (k : Int)] ∧ H c = some (.tup xs) ∧ RingsAt H 60 xs rs ∧ xs.length ≤ 12 ∧ k < xs.length ∧
  ∀ b x H', Ex H H' → H' b = some (.tup (xs.set k x)) → RingsAt H' 60 (xs.set k x) (flR rs k) → Q (.ref b) H'
theorem cut_set {xs : List V} {k : Nat} (hk : k < xs.length) (hz : xs.length ≤ 1000) (x : V) : cutV xs none (some (k : Int)) ++ [x] ++ cutV xs (some ((k : Int) + 1)) none = xs.set k x := by
  rw [List.set_eq_take_append_cons_drop, if_pos hk]
  unfold cutV
  rw [HT.sIx_none, HT.sIx_nat, HT.sIx_none, show (k : Int) + 1 = ((k + 1 : Nat) : Int) by omega, HT.sIx_nat, List.drop_zero, Nat.sub_zero, Nat.min_eq_left (by omega), Nat.min_eq_left (by omega), List.append_assoc]
  congr 1
  rw [List.take_of_length_le (by rw [List.length_drop]; omega)]
  rfl
theorem ok_flipped_chain (T : Txt K mg) {f : Addr} {fd : FuncData} (D : DefAt K mg "flipped_chain" sFlippedChain ["chain", "index"] f fd) : FnOk P w K mg base CX0 1 f fd ["chain", "index"] spFlippedChain := by
  refine D.F.ok scFlippedChain (fun vs H Q E h => ?_) (fun cdv A outer s₀ H vs Q E hr h => ?_)
  · obtain ⟨c, xs, rs, k, rfl, _⟩ := h
    rfl
  · obtain ⟨c, xs, rs, k, rfl, hc, hR, hl, hk, q⟩ := h
    refine ⟨_, pss_cons (ps_asg (pe_ix ix_tup (pv 0) (pv 1) (fun _ _ => rfl)) (pg_tup (by rfl) (pgs_cons (pg_name (i := 2) scFlippedChain.nd rfl (.inl rfl)) (pgs_cons (pg_name (i := 3) scFlippedChain.nd rfl (.inl rfl)) pgs_nil))))
      (pss_one (ps_ret (pe_op op_catE (pe_op op_catE (pe_slice sl_tupE (pv 0) po_none (po_some (pv 1))) (pe_tup (pa_cons (pe_tup (pa_cons (pv 2) (pa_cons (pe_op op_sub (pv 2) (pv 3)) pa_nil))) pa_nil))) (pe_slice sl_tupE (pv 0) (po_some (pe_op op_add (pv 1) pe_int)) po_none)))), ?_⟩
    have hlen : xs.length = rs.length := paired_len hR
    obtain ⟨x, hx, tt, rfl, ht, n1, n2, n3, n4⟩ := rings_nth hR (show k < rs.length by omega)
    refine ⟨_, rfl, _, rfl, c, xs, (k : Int), .ref tt, rfl, rfl, SqT.of hc, at_of rfl hx, ?_⟩
    refine ⟨tt, _, rfl, SqT.of ht, rfl, .int _, [_], rfl, .int _, [], rfl, rfl, ?_⟩
    refine ⟨_, rfl, _, rfl, (k : Int), rfl, c, xs, rfl, hc, fun p1 H1 e1 h1 => ?_⟩
    refine ⟨_, rfl, _, rfl, _, rfl, _, _, rfl, rfl, by show 2 ≤ sizeLine; decide, fun b0 hb0 => ⟨by show 1 ≤ sizeLine; decide, fun p2 hp2 => ?_⟩⟩
    have x1 := Ex.new (o := .tup [.int (K1N.nAt rs k : Int), .int ((K1N.nAt rs k : Int) - K1N.sAt rs k)]) hb0
    have x2 := Ex.new (o := .tup [.ref b0]) hp2
    have x12 := x1.trans x2
    have gb0 := x2 _ _ (show (upd H1 b0 (.tup [.int (K1N.nAt rs k : Int), .int ((K1N.nAt rs k : Int) - K1N.sAt rs k)])) b0 = _ from upd_same)
    refine ⟨p1, p2, _, [.ref b0], rfl, rfl, x12 _ _ h1, upd_same, ?_, fun p3 H3 e3 h3 => ?_⟩
    · have := cutV_length xs none (some (k : Int))
      show (cutV xs none (some (k : Int))).length + 1 ≤ _
      exact Nat.le_trans (Nat.add_le_add_right this 1) (small1000 (by omega))
    have e03 := (e1.trans x12).trans e3
    refine ⟨_, rfl, _, rfl, _, _, rfl, rfl, (k : Int) + 1, rfl, c, xs, rfl, e03 _ _ hc, fun p4 H4 e4 h4 => ?_⟩
    refine ⟨p3, p4, _, _, rfl, rfl, e4 _ _ h3, h4, ?_, fun p5 H5 e5 h5 => ?_⟩
    · have a1 := cutV_length xs none (some (k : Int))
      have a2 := cutV_length xs (some ((k : Int) + 1)) none
      rw [List.length_append, List.length_singleton]
      exact Nat.le_of_lt (small1000 (by omega))
    · rw [cut_set hk (by omega)] at h5
      have e05 := (e03.trans e4).trans e5
      refine q p5 (.ref b0) H5 e05 h5 (paired_set ⟨b0, rfl, ((e3.trans e4).trans e5) _ _ gb0, n1, n2, by show 1 ≤ (K1N.nAt rs k : Int) - K1N.sAt rs k; omega, by show (K1N.nAt rs k : Int) - K1N.sAt rs k < _; omega⟩ (rings_ex4 e05 hR) k)
def spFlippedDeal : Sp := fun vs H Q _ => ∃ c a xs rs ds B, ∃ k : Nat, vs = [.ref c, .ref a, .int (k : Int)] ∧ H c = some (.tup xs) ∧ RingsAt H 60 xs rs ∧ (1 ≤ xs.length ∧ xs.length ≤ 12) ∧ k < xs.length ∧ DealAt H a ds ∧ DOk rs ds B ∧ B ≤ 10 ^ 45 ∧
  ∀ r H' res, Ex H H' → DealAt H' r res → DOk (flR rs k) res B → res.length ≤ ds.length → (∀ f, Nl (flR rs k) f → Sf f res = Sf f (mapD (flP rs k) ds)) → Canon (flR rs k) res → Q (.ref r) H'
theorem ok_flipped_deal (T : Txt K mg) {f : Addr} {fd : FuncData} (D : DefAt K mg "flipped_deal" sFlippedDeal ["chain", "deal", "index"] f fd) : FnOk P w K mg base CX0 3 f fd ["chain", "deal", "index"] spFlippedDeal := by
  refine D.F.ok scFlippedDeal (fun vs H Q E h => ?_) (fun cdv A outer s₀ H vs Q E hr h => ?_)
  · obtain ⟨c, a, xs, rs, ds, B, k, rfl, _⟩ := h
    rfl
  · obtain ⟨c, a, xs, rs, ds, B, k, rfl, hc, hR, hl, hk, ha, hd, hB, q0⟩ := h
    obtain ⟨f1, fd1, D1⟩ := T.d_combined
    obtain ⟨f2, fd2, D2⟩ := T.d_flipped_chain
    have hr1 : Room 1 _ := hr.mono (by decide)
    have hr2 : Room 2 _ := hr.mono (by decide)
    have hu1 := Nat.lt_of_le_of_lt (Nat.add_le_add_left (show 1 ≤ 64 by decide) _) hr.units
    refine ⟨_, pss_cons (ps_lock (ps_setDcT (i := 3) (own := [("j", 4), ("p", 5)]) (g := gTup K 2 (gCons (gName 4) (gCons (gName 5) gNil))) (tt := tYes) (by rfl) hr.units0 scFlippedDeal.nd rfl rfl (swd_true rfl rfl rfl (by decide +kernel)) (pi_keys (pv 1))
        (blkOk_by (N := nFlippedDeal) (sc := defScope sFlippedDeal) (by decide +kernel)) (fun _ _ _ _ _ => (pg_tup (by rfl) (pgs_cons (pg_name (i := 4) scFlippedDeal.nd rfl (.inl rfl)) (pgs_cons (pg_name (i := 5) scFlippedDeal.nd rfl (.inl rfl)) pgs_nil)))) (fun _ _ _ _ _ => pts_nil)
        (fun _ _ _ _ _ => (pe_tup (pa_cons (pv 4) (pa_cons (pe_ifExp (pt_cmpR op_eq (pv 4) (pv 2) (nomark _)) (pe_op op_mod (pe_un un_neg (pv 5)) (pe_ix (show IxR _ (rIxT K) from ix_tup) (pe_ix (show IxR _ (rIxT K) from ix_tup) (pv 0) (pv 4) (fun _ _ => rfl)) pe_int (fun _ _ => rfl))) (pv 5)) pa_nil)))) (fun _ _ _ _ _ => (pe_dget hu1 (pv 1) (pe_tup (pa_cons (pv 4) (pa_cons (pv 5) pa_nil))) (fun _ _ => rfl)))))
      (pss_one (ps_ret (pe_call (ok_combined T D1) hr2 (by rfl) D1.g D1.F.kp D1.b .nil pass0 (pa_cons (pe_call (ok_flipped_chain T D2) hr1 (by rfl) D2.g D2.F.kp D2.b .nil pass0 (pa_cons (pv 0) (pa_cons (pv 2) pa_nil))) (pa_cons (pe_lst (pa_cons (pe_tup (pa_cons pe_int (pa_cons (pv 3) pa_nil))) pa_nil)) pa_nil))))), ?_⟩
    have hlen : xs.length = rs.length := paired_len hR
    have hkr : k < rs.length := by omega
    have rok : RsOk rs rs.length := fun j hj => rings_ok hR j hj
    refine ⟨a, _, ha, trivial, fun od => ?_⟩
    have k0 : Keep a H (upd H a (.frz od (.dT (ds.map ent)))) := keep_lock
    have g0 : (upd H a (.frz od (.dT (ds.map ent)))) a = some (.frz od (.dT (ds.map ent))) := upd_same
    have hc0 : (upd H a (.frz od (.dT (ds.map ent)))) c = some (.tup xs) := k0 _ _ (ne_of hc ha (by intro y; cases y)) hc
    have hR0 := rings_keepD ha k0 hR
    generalize upd H a (.frz od (.dT (ds.map ent))) = H3 at k0 g0 hc0 hR0 ⊢
    refine ⟨_, rfl, a, od, rfl, .inr ⟨_, g0, fun Dq hD => ?_⟩⟩
    refine dc_pairsM (flP rs k) hD g0 hd.len (mapD_nk (q := flP (flR rs k) k) hd.nk fun e he => flP_fl hkr (hd.keys e he)) (fun e q H4 Qk he e4 hq kk => ?_) (fun H4 e4 hD4 => ?_)
    · obtain ⟨⟨ej, eq⟩, ev⟩ := e
      have hin := hd.keys _ he
      obtain ⟨⟨b0, b1⟩, b2, b3⟩ := id hin
      replace b0 : 0 ≤ ej := b0
      replace b1 : ej < (rs.length : Int) := b1
      obtain ⟨x, hx, tt, rfl, ht, n1, n2, n3, n4⟩ := rings_nth (rings_ex4 e4 hR0) (show ej.toNat < rs.length by omega)
      have ej2 : ej = ((ej.toNat : Nat) : Int) := by omega
      have gv : getE ds (ej, eq) = some ev := getE_of hd.nk he
      refine ⟨q, _, rfl, SqT.of hq, rfl, .int ej, [_], rfl, .int eq, [], rfl, rfl, rfl, ?_⟩
      have fin : ∀ z : Int, z = (flP rs k (ej, eq)).2 → ∀ kb H5, Ex H4 H5 → H5 kb = some (.tup [.int ej, .int z]) → tDGet (tVar 1) (tTup (tCons (tVar 4) (tCons (tVar 5) tNil))) [some (.ref c), some (.ref a), some (.int (k : Int)), none, some (.int ej), some (.int eq)] H5 fun z H5 => Qk (.ref kb) z H5 := fun z hz kb H5 x1 g1 => by
        refine ⟨_, rfl, _, rfl, _, rfl, by show 2 ≤ sizeLine; decide, fun kk2 hkk => ⟨a, .int ev, rfl, .inr ⟨_, dk (ej, eq), kk2, .inr ⟨od, (x1.trans (Ex.new hkk)) _ _ (e4 _ _ g0)⟩, rfl, upd_same, by rw [valV_ent, gv]; rfl⟩, ?_⟩⟩
        refine kk kb _ (x1.trans (Ex.new hkk)) ((Ex.new hkk) _ _ ?_)
        rw [g1, hz]
        rfl
      refine ⟨_, rfl, _, rfl, _, rfl, rfl, _, rfl, ite2 (fun cc => ?_) (fun cc => ?_)⟩
      · have cj : ej = (k : Int) := V.int.inj (of_decide_eq_true cc)
        refine ⟨_, rfl, _, rfl, _, rfl, _, rfl, c, xs, ej, .ref tt, rfl, rfl, SqT.of (e4 _ _ hc0), at_of ej2 hx, tt, _, 0, _, rfl, rfl, SqT.of ht, rfl, _, _, rfl, rfl, by omega, ?_⟩
        refine ⟨by show 2 ≤ sizeLine; decide, fun kb hkb => ?_⟩
        refine fin _ ?_ kb _ (Ex.new hkb) upd_same
        show _ = if ej = (k : Int) then (-eq) % (K1N.nAt rs k : Int) else eq
        rw [if_pos cj, show ej.toNat = k by omega]
      · have cj : ¬ ej = (k : Int) := fun z => cc (decide_eq_true (congrArg V.int z))
        refine ⟨_, rfl, by show 2 ≤ sizeLine; decide, fun kb hkb => ?_⟩
        refine fin _ ?_ kb _ (Ex.new hkb) upd_same
        show _ = if ej = (k : Int) then (-eq) % (K1N.nAt rs k : Int) else eq
        rw [if_neg cj]
    · refine ⟨e4 _ _ g0, ?_⟩
      have e5 : Ex H (upd H4 a (.dT (ds.map ent))) := Ex.of_keep ha (k0.trans (Keep.ex e4))
      have nD : Dq ≠ a := fun z => by
        rw [z, g0] at hD
        cases hD
      have m5 : DealAt (upd H4 a (.dT (ds.map ent))) Dq (mapD (flP rs k) ds) := (upd_ne nD).trans hD4
      generalize upd H4 a (.dT (ds.map ent)) = H5 at e5 m5 ⊢
      refine ⟨_, rfl, _, rfl, c, xs, rs, k, rfl, e5 _ _ hc, rings_ex4 e5 hR, hl.2, hk, fun bk x H6 e6 gb hRb => ?_⟩
      have m6 := e6 _ _ m5
      refine ⟨_, rfl, by show 2 ≤ sizeLine; decide, fun p1 hp1 => ⟨by show 1 ≤ sizeLine; decide, fun l hl0 => ?_⟩⟩
      have x1 := Ex.new (o := .tup [.int 1, .ref Dq]) hp1
      have x3 := Ex.new (o := .lst [.ref p1]) hl0
      have e7 := x1.trans x3
      have g1 := x3 _ _ (show (upd H6 p1 (.tup [.int 1, .ref Dq])) p1 = _ from upd_same)
      have dM : DOk (flR rs k) (mapD (flP rs k) ds) B := mapD_ok (q := flP (flR rs k) k) hd (fun p hp => flP_fl hkr hp) (fun p hp => flP_in hkr rok hp)
      obtain ⟨n1, n2, n3⟩ := dM.raw (by omega)
      refine ⟨bk, l, xs.set k x, flR rs k, [.ref p1], [(1, mapD (flP rs k) ds)], rfl, e7 _ _ gb, rings_ex4 e7 hRb, upd_same, .cons ⟨p1, Dq, rfl, g1, e7 _ _ m6⟩ .nil, fun p hp => ?_, by show (mapD (flP rs k) ds).length + 0 ≤ 1000; exact dM.len, fun r H8 res e8 hr8 nk8 kin8 hd8 hln8 hf8 cn => ?_⟩
      · simp only [List.mem_cons, List.not_mem_nil, or_false] at hp
        subst hp
        exact ⟨n1, n2, by show (1 : Nat) < 2 ^ 300; decide, n3⟩
      · have a1 : Ab res ≤ ((1 : Nat) : Int) * Ab (mapD (flP rs k) ds) + 0 := hd8
        have a2 : res.length ≤ (mapD (flP rs k) ds).length + 0 := hln8
        have a3 := dM.abs
        rw [mapD_len] at a2
        have a4 := hd.len
        refine q0 r H8 res (((e5.trans e6).trans e7).trans e8) hr8 ⟨nk8, kin8, by omega, by omega⟩ (by omega) (fun f hf => ?_) cn
        rw [hf8 f hf]
        show 1 * Sf f (mapD (flP rs k) ds) + 0 = _
        omega
theorem ok_check_between (T : Txt K mg) {f : Addr} {fd : FuncData} (D : DefAt K mg "check_between" sCheckBetween ["value", "low", "high"] f fd) : FnOk P w K mg base CX0 3 f fd ["value", "low", "high"] (spCheckBetween K) := by
  refine D.F.ok scCheckBetween (fun vs H Q E h => ?_) (fun cdv A outer s H vs Q E hr h => ?_)
  · obtain ⟨i, lo, hi, rfl, _⟩ := h
    rfl
  · obtain ⟨i, lo, hi, rfl, h1, h2, h3, h4, q⟩ := h
    obtain ⟨f1, fd1, D1⟩ := T.d_is_between
    refine ⟨_, pss_one (ps_if (pt_not (pt_val (pe_call (ok_is_between T D1) hr (by rfl) D1.g D1.F.kp D1.b .nil pass0 (pa_cons (pv 0) (pa_cons (pv 1) (pa_cons (pv 2) pa_nil)))))) pss_never pss_nil), ?_⟩
    exact ⟨_, rfl, _, rfl, _, rfl, _, lo, hi, true, rfl, .yes h1 h2 h3 h4, fun H1 e1 => ⟨true, rfl, iteF (q _ e1)⟩⟩
def spFlipped : Sp := fun vs H Q _ => ∃ c a xs rs ds B, ∃ k : Nat, vs = [.ref c, .ref a, .int (k : Int)] ∧ H c = some (.tup xs) ∧ RingsAt H 60 xs rs ∧ (1 ≤ xs.length ∧ xs.length ≤ 12) ∧ k < xs.length ∧ DealAt H a ds ∧ DOk rs ds B ∧ B ≤ 10 ^ 45 ∧
  ∀ t b x r H' res, Ex H H' → H' t = some (.tup [.ref b, .ref r]) → H' b = some (.tup (xs.set k x)) → RingsAt H' 60 (xs.set k x) (flR rs k) → DealAt H' r res → DOk (flR rs k) res B → res.length ≤ ds.length → (∀ f, Nl (flR rs k) f → Sf f res = Sf f (mapD (flP rs k) ds)) → Canon (flR rs k) res → Q (.ref t) H'
theorem ok_flipped (T : Txt K mg) {f : Addr} {fd : FuncData} (D : DefAt K mg "flipped" sFlipped ["chain", "deal", "index"] f fd) : FnOk P w K mg base CX0 6 f fd ["chain", "deal", "index"] spFlipped := by
  refine D.F.ok scFlipped (fun vs H Q E h => ?_) (fun cdv A outer s₀ H vs Q E hr h => ?_)
  · obtain ⟨c, a, xs, rs, ds, B, k, rfl, _⟩ := h
    rfl
  · obtain ⟨c, a, xs, rs, ds, B, k, rfl, hc, hR, hl, hk, ha, hd, hB, q⟩ := h
    obtain ⟨f1, fd1, D1⟩ := T.d_flipped_chain
    obtain ⟨f2, fd2, D2⟩ := T.d_check_digits
    obtain ⟨f3, fd3, D3⟩ := T.d_flipped_deal
    obtain ⟨f4, fd4, D4⟩ := T.d_check_between
    obtain ⟨f5, fd5, D5⟩ := T.d_check_deal
    obtain ⟨f6, fd6, D6⟩ := T.d_check_chain
    have hr1 : Room 1 _ := hr.mono (by decide)
    have hr2 : Room 2 _ := hr.mono (by decide)
    have hr3 : Room 3 _ := hr.mono (by decide)
    have hr5 : Room 5 _ := hr.mono (by decide)
    refine ⟨_, pss_cons (ps_expr (pe_call (ok_check_chain T D6) hr5 (by rfl) D6.g D6.F.kp D6.b .nil pass0 (pa_cons (pv 0) pa_nil)))
      (pss_cons (ps_expr (pe_call (ok_check_deal T D5) hr5 (by rfl) D5.g D5.F.kp D5.b .nil pass0 (pa_cons (pv 0) (pa_cons (pv 1) pa_nil))))
      (pss_cons (ps_expr (pe_call (ok_check_between T D4) hr3 (by rfl) D4.g D4.F.kp D4.b .nil pass0 (pa_cons (pv 2) (pa_cons pe_int (pa_cons (pe_op op_sub (pe_callB call_len_seq (by rfl) T.z_len PySem.boot_len (pa_cons (pv 0) pa_nil)) pe_int) pa_nil)))))
      (pss_cons (ps_set (i := 3) scFlipped.nd rfl (.inl rfl) (pe_call (ok_flipped_deal T D3) hr3 (by rfl) D3.g D3.F.kp D3.b .nil pass0 (pa_cons (pv 0) (pa_cons (pv 1) (pa_cons (pv 2) pa_nil)))))
      (pss_cons (ps_expr (pe_call (ok_check_digits T D2) hr2 (by rfl) D2.g D2.F.kp D2.b .nil pass0 (pa_cons (pe_callTy (cr_listVals rfl) (by rfl) T.z_list (by decide +kernel) (pa_cons (pe_bm0 PySem.F.plainAttrs_dict PySem.F.slot_dict_values PySem.F.type_dict_values mt_valsT (pv 3)) pa_nil)) pa_nil)))
      (pss_one (ps_ret (pe_tup (pa_cons (pe_call (ok_flipped_chain T D1) hr1 (by rfl) D1.g D1.F.kp D1.b .nil pass0 (pa_cons (pv 0) (pa_cons (pv 2) pa_nil))) (pa_cons (pv 3) pa_nil))))))))), ?_⟩
    refine ⟨_, rfl, .ref c, rfl, rings_chain4 hR hc hl.1 hl.2, fun H1 e1 => ?_⟩
    refine ⟨_, rfl, _, rfl, c, a, xs, rs, ds, rfl, e1 _ _ hc, rings_ex4 e1 hR, hl.2, e1 _ _ ha, hd.mono (by omega), fun H2 e2 => ?_⟩
    have e12 := e1.trans e2
    refine ⟨_, rfl, _, rfl, c, _, rfl, .inr (SqT.of (e12 _ _ hc)), _, _, rfl, rfl, _, _, _, rfl, by omega, by omega, by omega, by omega, fun H3 e3 => ?_⟩
    have e13 := e12.trans e3
    refine ⟨_, rfl, _, rfl, _, rfl, c, a, xs, rs, ds, B, k, rfl, e13 _ _ hc, rings_ex4 e13 hR, hl, hk, e13 _ _ ha, hd, hB, fun r H4 res e4 hr4 dr4 hln4 hf4 cn4 => ?_⟩
    have e14 := e13.trans e4
    refine ⟨_, rfl, .inr (.inr (.inl ⟨rfl, .inr ⟨_, hr4⟩⟩)), r, _, rfl, rfl, hr4, fun p hp => ?_⟩
    have e2 := Ex.new (o := valsO p r) hp
    refine ⟨p, r, _, rfl, upd_same, e2 _ _ hr4, fun l2 hl2 => ?_⟩
    have e3 := e2.trans (Ex.new (o := .lst ((res.map ent).map (·.2))) hl2)
    have gv : (upd (upd H4 p (valsO p r)) l2 (.lst ((res.map ent).map (·.2)))) l2 = some (.lst ((res.map (·.2)).map V.int)) := by
      rw [upd_same, List.map_map, List.map_map]
      rfl
    refine ⟨l2, res.map (·.2), rfl, gv, by rw [List.length_map]; exact dr4.len, fun z hz => ?_, fun H5 e5 => ?_⟩
    · obtain ⟨e, he, rfl⟩ := List.mem_map.mp hz
      have := Ab_mem he
      have := dr4.abs
      constructor <;> omega
    · have e15 := (e14.trans e3).trans e5
      refine ⟨_, rfl, _, rfl, c, xs, rs, k, rfl, e15 _ _ hc, rings_ex4 e15 hR, hl.2, hk, fun b x H6 e6 hb6 hR6 => ?_⟩
      have e46 := (e3.trans e5).trans e6
      refine ⟨_, rfl, by show 2 ≤ sizeLine; decide, fun t ht => ?_⟩
      have x1 := Ex.new (o := .tup [.ref b, .ref r]) ht
      exact q t b x r _ res ((e15.trans e6).trans x1) upd_same (x1 _ _ hb6) (rings_ex4 x1 hR6) (x1 _ _ (e46 _ _ hr4)) dr4 hln4 hf4 cn4
end
end K1

set_option exponentiation.threshold 400
namespace K1
open PySem PySem.Spec PyProof.Rows L2 Evl HM LX ZW ZM MP DM DR TE
section
variable {P : Program} {w : World} {K : PySem.W.Frag} {mg : Str → Option Value} {base : Heap}
def spLNamed : Sp := fun vs H Q _ => ∃ c l xs rs ts us B, vs = [.ref c, .ref l] ∧ H c = some (.tup xs) ∧ RingsAt H 60 xs rs ∧ (1 ≤ xs.length ∧ xs.length ≤ 12) ∧ H l = some (.lst (ts.map V.ref)) ∧ ItT.Prt H ts (us.map ent) ∧ KIn rs us ∧ Ab us ≤ B ∧ us.length ≤ 900 ∧
  ∀ r H' res, Ex H H' → DealAt H' r res → DOk rs res B → res.length ≤ us.length → (∀ f, Nl rs f → Sf f res = Sf f us) → Canon rs res → Q (.ref r) H'
theorem ok_lnamed (T : Txt K mg) {f : Addr} {fd : FuncData} (D : DefAt K mg "_law_named" sLNamed ["_law_chain_here", "_law_pairs"] f fd) : FnOk P w K mg base CX0 1 f fd ["_law_chain_here", "_law_pairs"] spLNamed := by
  refine D.F.ok scLNamed (fun vs H Q E h => ?_) (fun cdv A outer s₀ H vs Q E hr h => ?_)
  · obtain ⟨c, l, xs, rs, ts, us, B, rfl, _⟩ := h
    rfl
  · obtain ⟨c, l, xs, rs, ts, us, B, rfl, hc, hR, hl, hL, hP, kin, hB, hln, k⟩ := h
    have hu1 := Nat.lt_of_le_of_lt (Nat.add_le_add_left (show 1 ≤ 64 by decide) _) hr.units
    refine ⟨_, pss_cons (ps_set (i := 2) scLNamed.nd rfl (.inr rfl) pe_dnewT)
      (pss_cons (ps_for PassesOwn.never rfl (pi_list (pv 1)) (pg_tup (by rfl) (pgs_cons (pg_name (i := 3) scLNamed.nd rfl (.inl rfl)) (pgs_cons (pg_name (i := 4) scLNamed.nd rfl (.inl rfl)) pgs_nil)))
        (pss_cons (ps_set (i := 5) scLNamed.nd rfl (.inl rfl) (pe_ifExp (PW.pt (pw_and (pt_cmpR op_gt (pe_ix ix_tup (pv 3) pe_int (fun _ _ => rfl)) pe_int (nomark _))
          (pw_and1 (pt_cmpR op_eq (pe_ix ix_tup (pv 3) pe_int (fun _ _ => rfl)) (pe_ix ix_tup (pe_ix ix_tup (pv 0) (pe_ix ix_tup (pv 3) pe_int (fun _ _ => rfl)) (fun _ _ => rfl)) pe_int (fun _ _ => rfl)) (nomark _))))) (pe_tup (pa_cons (pe_op op_sub (pe_ix ix_tup (pv 3) pe_int (fun _ _ => rfl)) pe_int) (pa_cons pe_int pa_nil))) (pv 3)))
      (pss_one (ps_dput hu1 (pv 2) (pv 5) (pe_op op_add (pe_dget2 hu1 (pv 2) (pv 5) pe_int ⟨rfl, rfl, rfl, rfl⟩) (pv 4)) rfl))))
      (pss_one (ps_ret (pe_callTy (cr_dictPairsT rfl hr.units) (by rfl) T.z_dict (by decide +kernel) (pa_cons (pe_lc (own := [("_law_name", 5)]) (g := gName 5) rfl scLNamed.nd (pi_list (pe_callB (cr_sortedDT rfl) (by rfl) T.z_sorted (by decide +kernel) (pa_cons (pv 2) pa_nil)))
        (blkOk_by (N := nLNamed) (sc := defScope sLNamed) (by decide +kernel)) (fun _ _ _ _ _ => (pg_name (i := 5) scLNamed.nd rfl (.inl rfl))) (fun _ _ _ _ _ => pts_one (pt_cmpR op_ne (pe_dget hu1 (pv 2) (pv 5) (fun _ _ => rfl)) pe_int (nomark _)))
        (fun _ _ _ _ _ => (pe_tup (pa_cons (pv 5) (pa_cons (pe_dget hu1 (pv 2) (pv 5) (fun _ _ => rfl)) pa_nil))))) pa_nil))))), ?_⟩
    have hlen : xs.length = rs.length := paired_len hR
    have tl : ts.length = us.length := by
      have := paired_len hP
      rw [List.length_map] at this
      exact this
    refine fun sd hsd => ?_
    refine ⟨_, rfl, l, rfl, ⟨_, SqL.of ((Ex.new (o := .dT []) hsd) _ _ hL)⟩, for_it (walk_list (K := K) (a := l) (xs := ts.map V.ref)) (fun k σ2 H2 => ∃ (y3 y4 y5 : Option V) (cur : Dl), σ2 = [some (.ref c), some (.ref l), some (.ref sd), y3, y4, y5] ∧ DealAt H2 sd cur ∧ NK cur ∧ KO rs cur ∧ Ab cur ≤ Ab (us.take k) ∧ cur.length ≤ k ∧ (∀ f, Nl rs f → Sf f cur = Sf f (us.take k)) ∧ Ex H H2)
      ⟨none, none, none, [], rfl, upd_same, List.nodup_nil, ⟨fun e he => absurd he (by simp), fun e he => absurd he (by simp)⟩, Int.le_refl _, Nat.le_refl _, fun f _ => rfl, Ex.new hsd⟩ (fun k σ2 H2 _ hW => ?_) (fun k x σ2 H2 H3 hk hW hy => ?_) (fun σ2 H2 hW => ?_)⟩
    · obtain ⟨_, _, _, _, _, _, _, _, _, _, _, e⟩ := hW
      exact SqL.of (e _ _ hL)
    · obtain ⟨y3, y4, y5, cur, rfl, v1, v2, v3, v4, v5, v6, v8⟩ := hW
      obtain ⟨rfl, hx0⟩ := hy
      rw [List.getElem?_map] at hx0
      obtain ⟨t, ht0, rfl⟩ := Option.map_eq_some_iff.mp hx0
      obtain ⟨kv, hkv, b, hb1, hb2⟩ := paired_get hP ht0
      rw [List.getElem?_map] at hkv
      obtain ⟨e, he, rfl⟩ := Option.map_eq_some_iff.mp hkv
      have hem := List.mem_of_getElem? he
      have hin := kin e hem
      have hdk := take_snoc he
      obtain ⟨⟨ej, eq⟩, ev⟩ := e
      obtain ⟨⟨b0, b1⟩, b2, b3⟩ := id hin
      replace b0 : 0 ≤ ej := b0
      replace b1 : ej < (rs.length : Int) := b1
      have ht3 : H3 t = some (.tup [.ref b, .int ev]) := v8 _ _ hb1
      have hq2 : H3 b = some (.tup [.int ej, .int eq]) := v8 _ _ hb2
      have hc3 := v8 _ _ hc
      obtain ⟨x, hx, tt, rfl, ht, n1, n2, n3, n4⟩ := rings_nth (rings_ex4 v8 hR) (show ej.toNat < rs.length by omega)
      have ej2 : ej = ((ej.toNat : Nat) : Int) := by omega
      have hkl : k < us.length := by
        rw [List.length_map] at hk
        omega
      have fin : ∀ nm H5, Ex H3 H5 → H5 nm = some (.tup ((dk (wname rs (ej, eq))).map kV)) → ∀ En : Ends, (∀ H6, DealAt H6 sd (putE cur (wname rs (ej, eq)) (g0 cur (wname rs (ej, eq)) + ev)) → Ex H H6 → En.nx [some (.ref c), some (.ref l), some (.ref sd), some (.ref b), some (.int ev), some (.ref nm)] H6) →
          sDPut (tVar 2) (tVar 5) (tOp (rI0 fun i j => V.int (i + j)) (tDGet2 (tVar 2) (tVar 5) (tC (.int 0))) (tVar 4)) En [some (.ref c), some (.ref l), some (.ref sd), some (.ref b), some (.int ev), some (.ref nm)] H5 := fun nm H5 x5 g5 En hQ => by
        have s5 := x5 _ _ v1
        refine ⟨_, rfl, sd, rfl, .inr ⟨_, .inl s5⟩, _, rfl, _, DGet.t s5 g5, _, rfl, g0 cur (wname rs (ej, eq)), ev, by rw [valV_ent]; exact getD_g0 _ _, rfl, _, rfl, _, rfl, sd, _, rfl, DPut.t (k := dk (wname rs (ej, eq))) s5 g5 (by rw [List.length_map]; exact small1000 (by omega)), ?_⟩
        refine hQ _ ?_ (Ex.mut (v8.trans x5) hsd)
        show upd _ sd _ sd = _
        rw [upd_same]
        dsimp only
        rw [putK_ent]
      have inv : ∀ nm H6, DealAt H6 sd (putE cur (wname rs (ej, eq)) (g0 cur (wname rs (ej, eq)) + ev)) → Ex H H6 → ∃ (y3 y4 y5 : Option V) (cur : Dl), [some (V.ref c), some (.ref l), some (.ref sd), some (.ref b), some (.int ev), some (.ref nm)] = [some (.ref c), some (.ref l), some (.ref sd), y3, y4, y5] ∧ DealAt H6 sd cur ∧ NK cur ∧ KO rs cur ∧ Ab cur ≤ Ab (us.take (k + 1)) ∧ cur.length ≤ k + 1 ∧ (∀ f, Nl rs f → Sf f cur = Sf f (us.take (k + 1))) ∧ Ex H H6 := fun nm H6 g6 k6 => by
        obtain ⟨_, pa⟩ := put_sum (f := one) (p := wname rs (ej, eq)) (x := ev) v2
        refine ⟨_, _, _, _, rfl, g6, put_nk v2, ⟨fun d hd => ?_, fun d hd => ?_⟩, ?_, ?_, fun f hf => ?_, k6⟩
        · rcases put_keys d hd with h1 | ⟨d2, h1, h2⟩
          · rw [h1]
            exact wn_in (fun j hj => rings_pos hR j hj) hin
          · rw [← h2]
            exact v3.1 d2 h1
        · rcases put_keys d hd with h1 | ⟨d2, h1, h2⟩
          · rw [h1]
            exact own_wname (fun j hj => (rings_ok hR j hj).1) b0 b1
          · rw [← h2]
            exact v3.2 d2 h1
        · rw [hdk, Ab_append]
          have a2 : Ab [(((ej, eq), ev) : Pl × Int)] = (ev.natAbs : Int) + 0 := rfl
          rw [a2]
          omega
        · have := put_len cur (wname rs (ej, eq)) (g0 cur (wname rs (ej, eq)) + ev)
          omega
        · rw [(put_sum (f := f) (p := wname rs (ej, eq)) (x := ev) v2).1, v6 f hf, hf (ej, eq) b0 b1, hdk, Sf_snoc]
      refine ⟨t, _, rfl, SqT.of ht3, rfl, .ref b, [_], rfl, .int ev, [], rfl, rfl, ?_⟩
      refine ⟨_, rfl, b, _, 0, _, rfl, rfl, SqT.of hq2, rfl, _, _, rfl, rfl, _, rfl, ite2 (fun c1 => ?_) (fun c1 => ?_)⟩
      · have c2 : 0 < ej := of_decide_eq_true c1
        refine ⟨_, rfl, b, _, 1, _, rfl, rfl, SqT.of hq2, rfl, _, rfl, _, rfl, b, _, 0, _, rfl, rfl, SqT.of hq2, rfl, c, xs, ej, .ref tt, rfl, rfl, SqT.of hc3, at_of ej2 hx, tt, _, 1, _, rfl, rfl, SqT.of ht, rfl, rfl, _, rfl, ite2 (fun c3 => ?_) (fun c3 => ?_)⟩
        · have c4 : eq = K1N.sAt rs ej.toNat := V.int.inj (of_decide_eq_true c3)
          have wn : wname rs (ej, eq) = (ej - 1, 0) := wname_joint (p := (ej, eq)) c2 c4
          refine ⟨_, rfl, b, _, 0, _, rfl, rfl, SqT.of hq2, rfl, _, _, rfl, rfl, by show 2 ≤ sizeLine; decide, fun nm hnm => ?_⟩
          refine fin nm _ (Ex.new hnm) (by rw [wn]; exact upd_same) _ ?_
          exact fun H6 g6 k6 => inv nm H6 g6 k6
        · have c4 : ¬ eq = K1N.sAt rs ej.toNat := fun z => c3 (decide_eq_true (by rw [z]))
          have ow : K1N.own rs (ej, eq) = true := by
            unfold K1N.own
            rw [decide_eq_false (show ¬ ((ej, eq) : Pl).2 = K1N.sAt rs ((ej, eq) : Pl).1.toNat from c4), Bool.and_false]
            rfl
          refine ⟨_, rfl, ?_⟩
          refine fin b _ (Ex.refl _) (by rw [wname_own ow]; exact hq2) _ ?_
          exact fun H6 g6 k6 => inv b H6 g6 k6
      · have c2 : ¬ 0 < ej := fun z => c1 (decide_eq_true z)
        have ow : K1N.own rs (ej, eq) = true := by
          unfold K1N.own
          rw [decide_eq_false (show ¬ 0 < ((ej, eq) : Pl).1 from c2), Bool.false_and]
          rfl
        refine iteF ⟨_, rfl, ?_⟩
        refine fin b _ (Ex.refl _) (by rw [wname_own ow]; exact hq2) _ ?_
        exact fun H6 g6 k6 => inv b H6 g6 k6
    · obtain ⟨y3, y4, y5, cur, rfl, w1, v2, v3, v4, v5, v6, w3⟩ := hW
      rw [List.length_map, tl] at v4 v5 v6
      rw [List.take_length] at v4 v6
      replace v4 : Ab cur ≤ B := by omega
      generalize H2 = H4 at w1 w3 ⊢
      refine ⟨_, rfl, sd, cur.map ent, rfl, .inl w1, fun kv hkv => ?_, fun bs ys p hik hperm hpw hp => ?_⟩
      · obtain ⟨e, _, rfl⟩ := List.mem_map.mp hkv
        exact ⟨e.1.1, e.1.2, rfl⟩
      obtain ⟨kb, hbs⟩ := keys_ent hik
      have hks : (ys.map (keyP H4)).Perm (cur.map (·.1)) := by
        have := hperm.map (keyP H4)
        rw [List.map_map] at this
        rw [← kb]
        exact this
      have hnd : (ys.map (keyP H4)).Nodup := hks.nodup_iff.mpr v2
      have hsrt : (ys.map (keyP H4)).Pairwise pltP := by
        have a1 : (ys.map (keyP H4)).Pairwise fun p q => SrtO.lexB q p = false := List.pairwise_map.mpr hpw
        have a2 : (ys.map (keyP H4)).Pairwise fun p q => p ≠ q := hnd
        refine (a1.and a2).imp fun {p q} ⟨z1, z2⟩ => ?_
        have z3 := SrtO.lexB_no.mp z1
        have z4 : ¬ (p.1 = q.1 ∧ p.2 = q.2) := fun z => z2 (Prod.ext z.1 z.2)
        unfold pltP
        omega
      have hkn := hks.length_eq
      rw [List.length_map] at hkn
      have e6 := Ex.new (o := .lst ys) hp
      have s6 := e6 _ _ w1
      have g6 : (upd H4 p (.lst ys)) p = some (.lst ys) := upd_same
      have hyk : ∀ y ∈ ys, ∃ b, y = .ref b ∧ H4 b = some (.tup ((dk (keyP H4 y)).map kV)) ∧ keyP H4 y ∈ cur.map (·.1) := fun y hy => by
        obtain ⟨b, hb, rfl⟩ := List.mem_map.mp (hperm.mem_iff.mp hy)
        obtain ⟨pp, h1, h2, h3⟩ := hbs b hb
        rw [h3]
        exact ⟨b, rfl, h2, h1⟩
      generalize upd H4 p (.lst ys) = H6 at e6 s6 g6 ⊢
      refine ⟨p, rfl, ⟨_, SqL.of g6⟩, fun Dq hD => ?_⟩
      refine lc_list (K := K) (a := p) (xs := ys) (fun i H5 => ∃ zs : List Pr, H5 Dq = some (.lst (zs.map fun z => V.ref z.p)) ∧ (∀ z ∈ zs, z.ok H5) ∧ kvsOf zs = (told cur ((ys.map (keyP H4)).take i)).map ent ∧ Ex H6 H5) ⟨[], upd_same, fun z hz => absurd hz (by simp), rfl, Ex.new hD⟩ (fun i H5 _ hp2 => SqL.of (hp2.choose_spec.2.2.2 _ _ g6)) (fun i x H5 hx hp2 => ?_) (fun H5 hp2 => ?_)
      · obtain ⟨zs, z1, z2, z3, z4⟩ := hp2
        obtain ⟨b, rfl, hb, hin⟩ := hyk x (List.mem_of_getElem? hx)
        have hkx : (ys.map (keyP H4))[i]? = some (keyP H4 (.ref b)) := by
          rw [List.getElem?_map, hx]
          rfl
        have htk := take_snoc hkx
        generalize keyP H4 (.ref b) = kp at hb hin hkx htk
        have hb3 := (e6.trans z4) _ _ hb
        have s3 := z4 _ _ s6
        obtain ⟨e, hem, hek⟩ := List.mem_map.mp hin
        have gk : getE cur kp = some (g0 cur kp) := by
          rw [← hek]
          unfold g0
          rw [getE_of v2 (p := e.1) (v := e.2) hem]
          rfl
        have gv : valV (cur.map ent) (dk kp) = some (V.int (g0 cur kp)) := by
          rw [valV_ent, gk]
          rfl
        have dg : DGet H5 sd (.ref b) (some (V.int (g0 cur kp))) := by
          have := DGet.t s3 hb3
          rw [gv] at this
          exact this
        refine ⟨rfl, _, rfl, _, rfl, sd, .int (g0 cur kp), rfl, dg, rfl, _, rfl, ite2 (fun cc => ?_) (fun cc => ?_)⟩
        · have nz : ¬ g0 cur kp = 0 := fun z => by
            rw [z] at cc
            exact absurd cc (by decide)
          refine ⟨_, rfl, _, rfl, _, rfl, sd, .int (g0 cur kp), rfl, dg, by show 2 ≤ sizeLine; decide, fun t2 ht2 => ?_⟩
          have x2 := Ex.new (o := .tup [.ref b, .int (g0 cur kp)]) ht2
          have g2 : (upd H5 t2 (.tup [.ref b, .int (g0 cur kp)])) t2 = some (.tup [.ref b, .int (g0 cur kp)]) := upd_same
          generalize upd H5 t2 (.tup [.ref b, .int (g0 cur kp)]) = H7 at x2 g2 ⊢
          have okL : ∀ z : Pr, z.ok H7 → z.ok (upd H7 Dq (.lst ((zs.map fun z => V.ref z.p) ++ [V.ref t2]))) := fun z ⟨o1, o2⟩ => ⟨(upd_ne (ne_of o1 (x2 _ _ z1) (by intro y; cases y))).trans o1, (upd_ne (ne_of o2 (x2 _ _ z1) (by intro y; cases y))).trans o2⟩
          have zl : zs.length ≤ 1000 := by
            have l1 := congrArg List.length z3
            unfold DR.kvsOf at l1
            rw [List.length_map, List.length_map] at l1
            have a1 : (told cur ((ys.map (keyP H4)).take i)).length ≤ ((ys.map (keyP H4)).take i).length := by
              unfold told
              have := List.length_filter_le (fun e : Pl × Int => !decide (e.2 = 0)) (((ys.map (keyP H4)).take i).map fun k => (k, g0 cur k))
              rw [List.length_map] at this
              exact this
            rw [List.length_take, List.length_map] at a1
            simp only [List.length_map] at hkn
            omega
          refine ⟨_, x2 _ _ z1, by rw [List.length_map]; exact small1000 zl, zs ++ [⟨t2, dk kp, b, .int (g0 cur kp)⟩], ?_, fun z hz => ?_, ?_, Ex.mut (z4.trans x2) hD⟩
          · rw [upd_same, List.map_append]
            rfl
          · rcases List.mem_append.mp hz with hz | hz
            · exact okL z ⟨x2 _ _ (z2 z hz).1, x2 _ _ (z2 z hz).2⟩
            · rw [List.mem_singleton.mp hz]
              exact okL _ ⟨g2, x2 _ _ hb3⟩
          · unfold DR.kvsOf at z3 ⊢
            rw [List.map_append, z3, htk, told_snoc, if_neg nz, List.map_append]
            rfl
        · have zz : g0 cur kp = 0 := by
            by_cases z : g0 cur kp = 0
            · exact z
            · exfalso
              apply cc
              rw [decide_eq_false (fun y => z (V.int.inj y))]
              rfl
          refine ⟨zs, z1, z2, ?_, z4⟩
          rw [z3, htk, told_snoc, if_pos zz, List.append_nil]
      · obtain ⟨zs, z1, z2, z3, z4⟩ := hp2
        rw [List.take_of_length_le (by rw [List.length_map]; exact Nat.le_refl _)] at z3
        have nkt := told_nk (ds := cur) hnd
        have ndk : ((kvsOf zs).map (·.1)).Nodup := by
          rw [z3, List.map_map]
          have n2 : (told cur (ys.map (keyP H4))).Pairwise fun a b => a.1 ≠ b.1 := List.pairwise_map.mp nkt
          exact List.pairwise_map.mpr (n2.imp fun {a b} h e => h (dk_inj e))
        have tlen : (told cur (ys.map (keyP H4))).length ≤ cur.length := by
          unfold told
          have := List.length_filter_le (fun e : Pl × Int => !decide (e.2 = 0)) ((ys.map (keyP H4)).map fun k => (k, g0 cur k))
          simp only [List.length_map] at this hkn
          omega
        refine ⟨Dq, zs, rfl, SqL.of z1, z2, ndk, fun r hr => ?_⟩
        refine k r _ (told cur (ys.map (keyP H4))) (((w3.trans e6).trans z4).trans (Ex.new hr)) ?_ ⟨nkt, fun e he => ?_, Int.le_trans (told_abs v2 hks) v4, by omega⟩ (by omega) (fun f hf => (told_sum v2 hks).trans (v6 f hf)) ⟨told_srt hsrt, told_nz, fun e he => ?_⟩
        · show upd H5 r _ r = _
          rw [upd_same, z3]
        · obtain ⟨d, hd, z⟩ := List.mem_map.mp (hks.mem_iff.mp (told_keys e he))
          rw [← z]
          exact v3.1 d hd
        · obtain ⟨d, hd, z⟩ := List.mem_map.mp (hks.mem_iff.mp (told_keys e he))
          rw [← z]
          exact v3.2 d hd
end
end K1

set_option exponentiation.threshold 400
namespace K1
open PySem PySem.Spec PyProof.Rows L2 Evl HM LX ZW ZM MP DM DR TE
/-- the pairs of a deal as data -/
def itD (e : Pl × Int) : PyData := .tuple [.tuple [.int e.1.1, .int e.1.2], .int e.2]
theorem dp_items {K : PySem.W.Frag} {H : Hp} : ∀ {ts : List Addr} {ds : Dl}, ItT.Prt H ts (ds.map ent) → DpAll K H (ts.map V.ref) (ds.map itD)
  | [], [], _ => .nil
  | [], _ :: _, h => by cases h
  | _ :: _, [], h => by cases h
  | t :: ts, e :: ds, .cons h r => by
    obtain ⟨b, h1, h2⟩ := h
    exact .cons (.tup (SqT.of h1) (.cons (.tup (SqT.of h2) (.cons (.int _) (.cons (.int _) .nil))) (.cons (.int _) .nil))) (dp_items r)
theorem can_items : ∀ ds : Dl, PyData.canLayAll0 (ds.map itD) = true
  | [] => rfl
  | e :: ds => by simp [PyData.canLayAll0, PyData.canLay0, itD, can_items ds]
theorem depth_items : ∀ ds : Dl, PyData.depthAll (ds.map itD) ≤ 10
  | [] => by decide
  | e :: ds => by
    have := depth_items ds
    simp only [List.map_cons, PyData.depthAll, PyData.depth, itD]
    omega
theorem canL_items (ds : Dl) : (PyData.list (ds.map itD)).canLay0 = true := by simp [PyData.canLay0, can_items ds]
theorem shaped_items (ds : Dl) : SeqAt.shaped (.list (ds.map itD)) = true := by
  unfold SeqAt.shaped
  have h2 : (PyData.list (ds.map itD)).depth ≤ 64 := by
    have := depth_items ds
    simp only [PyData.depth]
    omega
  rw [canL_items, decide_eq_true h2]
  rfl
/-- a chain as data -/
def rgD (r : Int × Int) : PyData := .tuple [.int r.1, .int r.2]
theorem dp_rings {K : PySem.W.Frag} {H : Hp} {m : Int} : ∀ {xs : List V} {rs : List (Int × Int)}, RingsAt H m xs rs → DpAll K H xs (rs.map rgD)
  | _, _, .nil => .nil
  | _, _, .cons h r => by
    obtain ⟨t, rfl, ht, _⟩ := h
    exact .cons (.tup (SqT.of ht) (.cons (.int _) (.cons (.int _) .nil))) (dp_rings r)
theorem can_rings : ∀ rs : List (Int × Int), PyData.canLayAll0 (rs.map rgD) = true
  | [] => rfl
  | e :: ds => by simp [PyData.canLayAll0, PyData.canLay0, rgD, can_rings ds]
theorem depth_rings : ∀ rs : List (Int × Int), PyData.depthAll (rs.map rgD) ≤ 10
  | [] => by decide
  | e :: ds => by
    have := depth_rings ds
    simp only [List.map_cons, PyData.depthAll, PyData.depth, rgD]
    omega
theorem canT_rings (rs : List (Int × Int)) : (PyData.tuple (rs.map rgD)).canLay0 = true := by simp [PyData.canLay0, can_rings rs]
theorem shaped_rings (rs : List (Int × Int)) : SeqAt.shaped (.tuple (rs.map rgD)) = true := by
  unfold SeqAt.shaped
  have h2 : (PyData.tuple (rs.map rgD)).depth ≤ 64 := by
    have := depth_rings rs
    simp only [PyData.depth]
    omega
  rw [canT_rings, decide_eq_true h2]
  rfl
section
variable {P : Program} {w : World} {K : PySem.W.Frag} {mg : Str → Option Value} {base : Heap}
def spLSame : Sp := fun vs H Q _ => ∃ f d b1 r1 b2 r2 xs1 xs2 rs ds, vs = [.ref f, .ref d] ∧ H f = some (.tup [.ref b1, .ref r1]) ∧ H d = some (.tup [.ref b2, .ref r2]) ∧ H b1 = some (.tup xs1) ∧ RingsAt H 60 xs1 rs ∧ H b2 = some (.tup xs2) ∧ RingsAt H 60 xs2 rs ∧ DealAt H r1 ds ∧ DealAt H r2 ds ∧ ∀ H', Ex H H' → Q (.bl true) H'
theorem ok_lsame (T : Txt K mg) {f : Addr} {fd : FuncData} (D : DefAt K mg "_law_same" sLSame ["_law_found", "_law_due"] f fd) : FnOk P w K mg base CX0 1 f fd ["_law_found", "_law_due"] spLSame := by
  refine D.F.ok scLSame (fun vs H Q E h => ?_) (fun cdv A outer s₀ H vs Q E hr h => ?_)
  · obtain ⟨f, d, b1, r1, b2, r2, xs1, xs2, rs, ds, rfl, _⟩ := h
    rfl
  · obtain ⟨f, d, b1, r1, b2, r2, xs1, xs2, rs, ds, rfl, hf, hd, h1, hR1, h2, hR2, d1, d2, q⟩ := h
    refine ⟨_, pss_one (ps_ret (pe_and (pe_cmpR (op_eqD hr.units) (pe_ix ix_tup (pv 0) pe_int (fun _ _ => rfl)) (pe_ix ix_tup (pv 1) pe_int (fun _ _ => rfl)) (nomark _)) (pe_one (pe_cmpR (op_eqD hr.units) (pe_callTy (ItT.cr_listItemsT rfl) (by rfl) T.z_list (by decide +kernel) (pa_cons (pe_bm0 PySem.F.plainAttrs_dict PySem.F.slot_dict_items PySem.F.type_dict_items L2.DX.mt_itemsT (pe_ix ix_tup (pv 0) pe_int (fun _ _ => rfl))) pa_nil)) (pe_callTy (ItT.cr_listItemsT rfl) (by rfl) T.z_list (by decide +kernel) (pa_cons (pe_bm0 PySem.F.plainAttrs_dict PySem.F.slot_dict_items PySem.F.type_dict_items L2.DX.mt_itemsT (pe_ix ix_tup (pv 1) pe_int (fun _ _ => rfl))) pa_nil)) (nomark _))))), ?_⟩
    refine ⟨_, rfl, f, _, 0, _, rfl, rfl, SqT.of hf, rfl, _, rfl, d, _, 0, _, rfl, rfl, SqT.of hd, rfl, _, _, .tup (SqT.of h1) (dp_rings hR1), .tup (SqT.of h2) (dp_rings hR2), shaped_rings _, shaped_rings _, ?_⟩
    rw [SeqAt.eqv_refl _ (canT_rings rs)]
    refine ⟨true, rfl, iteT ?_⟩
    refine ⟨_, rfl, f, _, 1, _, rfl, rfl, SqT.of hf, rfl, .inr (.inr (.inl ⟨rfl, .inr ⟨_, d1⟩⟩)), r1, _, rfl, rfl, d1, fun p1 hp1 => ?_⟩
    have f1 := Ex.new (o := L2.DX.itemsO p1 r1) hp1
    have hp1' : (upd H p1 (L2.DX.itemsO p1 r1)) p1 = some (L2.DX.itemsO p1 r1) := upd_same
    generalize upd H p1 (L2.DX.itemsO p1 r1) = H7 at f1 hp1' ⊢
    refine ⟨p1, r1, _, rfl, hp1', f1 _ _ d1, fun H8 l1 ts1 f2 hl1n hl1' prt1 => ?_⟩
    have f12 := f1.trans f2
    have d8 := f12 _ _ d2
    refine ⟨_, rfl, d, _, 1, _, rfl, rfl, SqT.of (f12 _ _ hd), rfl, .inr (.inr (.inl ⟨rfl, .inr ⟨_, d8⟩⟩)), r2, _, rfl, rfl, d8, fun p2 hp2 => ?_⟩
    have f3 := Ex.new (o := L2.DX.itemsO p2 r2) hp2
    have hp2' : (upd H8 p2 (L2.DX.itemsO p2 r2)) p2 = some (L2.DX.itemsO p2 r2) := upd_same
    generalize upd H8 p2 (L2.DX.itemsO p2 r2) = H9 at f3 hp2' ⊢
    refine ⟨p2, r2, _, rfl, hp2', f3 _ _ d8, fun H10 l2 ts2 f4 hl2n hl2' prt2 => ?_⟩
    have f34 := f3.trans f4
    refine ⟨.list (ds.map itD), .list (ds.map itD), .lst (SqL.of (f34 _ _ hl1')) (dp_items (prt_ex f34 prt1)), .lst (SqL.of hl2') (dp_items prt2), shaped_items _, shaped_items _, ?_⟩
    rw [SeqAt.eqv_refl _ (canL_items ds)]
    exact q _ (f12.trans f34)
def spLBackward : Sp := fun vs H Q _ => ∃ c a xs rs ds B, vs = [.ref c, .ref a] ∧ H c = some (.tup xs) ∧ RingsAt H 60 xs rs ∧ (1 ≤ xs.length ∧ xs.length ≤ 12) ∧ DealAt H a ds ∧ DOk rs ds B ∧ ds.length ≤ 900 ∧
  ∀ t b r H' res, Ex H H' → H' t = some (.tup [.ref b, .ref r]) → H' b = some (.tup xs.reverse) → RingsAt H' 60 xs.reverse rs.reverse → DealAt H' r res → DOk rs.reverse res B → res.length ≤ ds.length → (∀ f, Nl rs.reverse f → Sf f res = Sf f (mapD (bwP rs) ds)) → Canon rs.reverse res → Q (.ref t) H'
theorem ok_lbackward (T : Txt K mg) {f : Addr} {fd : FuncData} (D : DefAt K mg "_law_backward" sLBackward ["_law_chain_here", "_law_deal_here"] f fd) : FnOk P w K mg base CX0 2 f fd ["_law_chain_here", "_law_deal_here"] spLBackward := by
  refine D.F.ok scLBackward (fun vs H Q E h => ?_) (fun cdv A outer s₀ H vs Q E hr h => ?_)
  · obtain ⟨c, a, xs, rs, ds, B, rfl, _⟩ := h
    rfl
  · obtain ⟨c, a, xs, rs, ds, B, rfl, hc, hR, hl, ha, hd, hln, k⟩ := h
    obtain ⟨f1, fd1, D1⟩ := T.d_l_named
    have hr1 : Room 1 _ := hr.mono (by decide)
    have hu1 := Nat.lt_of_le_of_lt (Nat.add_le_add_left (show 1 ≤ 64 by decide) _) hr.units
    refine ⟨_, pss_cons (ps_asg (pe_tup (pa_cons (pe_op op_sub (pe_callB call_len_seq (by rfl) T.z_len PySem.boot_len (pa_cons (pv 0) pa_nil)) pe_int) (pa_cons (pe_revT (pv 0)) pa_nil))) (pg_tup (by rfl) (pgs_cons (pg_name (i := 2) scLBackward.nd rfl (.inr rfl)) (pgs_cons (pg_name (i := 3) scLBackward.nd rfl (.inl rfl)) pgs_nil))))
      (pss_cons (ps_lock (ps_setLc (i := 4) (own := [("_law_j", 5), ("_law_p", 6)]) (g := gTup K 2 (gCons (gName 5) (gCons (gName 6) gNil))) (tt := tYes) (by rfl) scLBackward.nd rfl rfl (sw_true rfl rfl rfl (by decide +kernel)) (pi_keys (pv 1))
        (blkOk_by (N := nLBackward) (sc := defScope sLBackward) (by decide +kernel)) (fun _ _ _ _ _ => (pg_tup (by rfl) (pgs_cons (pg_name (i := 5) scLBackward.nd rfl (.inl rfl)) (pgs_cons (pg_name (i := 6) scLBackward.nd rfl (.inl rfl)) pgs_nil)))) (fun _ _ _ _ _ => pts_nil)
        (fun _ _ _ _ _ => (pe_tup (pa_cons (pe_tup (pa_cons (pe_op op_sub (pv 2) (pv 5)) (pa_cons (pe_op op_mod (pe_op op_sub (pe_ix (show IxR _ (rIxT K) from ix_tup) (pe_ix (show IxR _ (rIxT K) from ix_tup) (pv 0) (pv 5) (fun _ _ => rfl)) pe_int (fun _ _ => rfl)) (pv 6)) (pe_ix (show IxR _ (rIxT K) from ix_tup) (pe_ix (show IxR _ (rIxT K) from ix_tup) (pv 0) (pv 5) (fun _ _ => rfl)) pe_int (fun _ _ => rfl))) pa_nil))) (pa_cons (pe_dget hu1 (pv 1) (pe_tup (pa_cons (pv 5) (pa_cons (pv 6) pa_nil))) (fun _ _ => rfl)) pa_nil))))))
      (pss_one (ps_ret (pe_tup (pa_cons (pv 3) (pa_cons (pe_call (ok_lnamed T D1) hr1 (by rfl) D1.g D1.F.kp D1.b .nil pass0 (pa_cons (pv 3) (pa_cons (pv 4) pa_nil))) pa_nil)))))), ?_⟩
    have hlen : xs.length = rs.length := paired_len hR
    have rok : RsOk rs rs.length := fun j hj => rings_ok hR j hj
    refine ⟨_, rfl, c, _, rfl, .inr (SqT.of hc), _, _, rfl, rfl, _, rfl, c, _, rfl, SqT.of hc, fun bk hbk => ⟨by show 2 ≤ sizeLine; decide, fun t0 ht0 => ?_⟩⟩
    have y1 := Ex.new (o := .tup xs.reverse) hbk
    have y2 := Ex.new (o := .tup [.int ((xs.length : Int) - 1), .ref bk]) ht0
    have e12 := y1.trans y2
    have gb := y2 _ _ (show (upd H bk (.tup xs.reverse)) bk = some (.tup xs.reverse) from upd_same)
    refine ⟨t0, _, rfl, SqT.of upd_same, rfl, .int _, [_], rfl, .ref bk, [], rfl, rfl, ?_⟩
    show tLock _ _ _ (upd (upd H bk (.tup xs.reverse)) t0 (.tup [.int ((xs.length : Int) - 1), .ref bk]))
    generalize upd (upd H bk (.tup xs.reverse)) t0 (.tup [.int ((xs.length : Int) - 1), .ref bk]) = H2 at e12 gb ⊢
    have ha2 := e12 _ _ ha
    refine ⟨a, _, ha2, trivial, fun od => ?_⟩
    have k0 : Keep a H2 (upd H2 a (.frz od (.dT (ds.map ent)))) := keep_lock
    have g0 : (upd H2 a (.frz od (.dT (ds.map ent)))) a = some (.frz od (.dT (ds.map ent))) := upd_same
    have hc0 : (upd H2 a (.frz od (.dT (ds.map ent)))) c = some (.tup xs) := k0 _ _ (ne_of (e12 _ _ hc) ha2 (by intro y; cases y)) (e12 _ _ hc)
    have hR0 := rings_keepD ha2 k0 (rings_ex4 e12 hR)
    generalize upd H2 a (.frz od (.dT (ds.map ent))) = H3 at k0 g0 hc0 hR0 ⊢
    refine ⟨_, rfl, a, od, rfl, .inr ⟨_, g0, fun Dq hD => ?_⟩⟩
    refine lc_pairsM (bwP rs) hD g0 hd.len (fun e q H4 Qk he e4 hq kk => ?_) (fun H4 ts e4 hD4 prt => ?_)
    · obtain ⟨⟨ej, eq⟩, ev⟩ := e
      have hin := hd.keys _ he
      obtain ⟨⟨b0, b1⟩, b2, b3⟩ := id hin
      replace b0 : 0 ≤ ej := b0
      replace b1 : ej < (rs.length : Int) := b1
      obtain ⟨x, hx, tt, rfl, ht, n1, n2, n3, n4⟩ := rings_nth (rings_ex4 e4 hR0) (show ej.toNat < rs.length by omega)
      have ej2 : ej = ((ej.toNat : Nat) : Int) := by omega
      have gv : getE ds (ej, eq) = some ev := getE_of hd.nk he
      refine ⟨q, _, rfl, SqT.of hq, rfl, .int ej, [_], rfl, .int eq, [], rfl, rfl, rfl, ?_⟩
      refine ⟨_, rfl, _, rfl, _, _, rfl, rfl, ?_⟩
      refine ⟨_, rfl, _, rfl, c, xs, ej, .ref tt, rfl, rfl, SqT.of (e4 _ _ hc0), at_of ej2 hx, tt, _, 1, _, rfl, rfl, SqT.of ht, rfl, ?_⟩
      refine ⟨_, rfl, _, _, rfl, rfl, ?_⟩
      refine ⟨_, rfl, _, rfl, c, xs, ej, .ref tt, rfl, rfl, SqT.of (e4 _ _ hc0), at_of ej2 hx, tt, _, 0, _, rfl, rfl, SqT.of ht, rfl, ?_⟩
      refine ⟨_, _, rfl, rfl, by omega, by show 2 ≤ sizeLine; decide, fun kb hkb => ?_⟩
      have x1 := Ex.new (o := .tup [.int ((rs.length : Int) - 1 - ej), .int ((K1N.sAt rs ej.toNat - eq) % (K1N.nAt rs ej.toNat : Int))]) hkb
      have g1 : (upd H4 kb (.tup [.int ((rs.length : Int) - 1 - ej), .int ((K1N.sAt rs ej.toNat - eq) % (K1N.nAt rs ej.toNat : Int))])) kb = some (.tup [.int (bwP rs (ej, eq)).1, .int (bwP rs (ej, eq)).2]) := upd_same
      rw [hlen]
      refine ⟨_, rfl, _, rfl, _, rfl, by show 2 ≤ sizeLine; decide, fun kk2 hkk => ⟨a, .int ev, rfl, .inr ⟨_, dk (ej, eq), kk2, .inr ⟨od, (x1.trans (Ex.new hkk)) _ _ (e4 _ _ g0)⟩, rfl, upd_same, by rw [valV_ent, gv]; rfl⟩, by show 2 ≤ sizeLine; decide, fun t3 ht3 => ?_⟩⟩
      have x2 := x1.trans (Ex.new (o := .tup [.int ej, .int eq]) hkk)
      have x3 := Ex.new (o := .tup [.ref kb, .int ev]) ht3
      exact kk t3 kb _ (x2.trans x3) upd_same (((Ex.new (o := .tup [.int ej, .int eq]) hkk).trans x3) _ _ g1)
    · refine ⟨e4 _ _ g0, ?_⟩
      have e5 : Ex H2 (upd H4 a (.dT (ds.map ent))) := Ex.of_keep ha2 (k0.trans (Keep.ex e4))
      have nD : Dq ≠ a := fun z => by
        rw [z, g0] at hD
        cases hD
      have m5 : (upd H4 a (.dT (ds.map ent))) Dq = some (.lst (ts.map V.ref)) := (upd_ne nD).trans hD4
      have ga4 := e4 _ _ g0
      have p5 : ItT.Prt (upd H4 a (.dT (ds.map ent))) ts ((mapD (bwP rs) ds).map ent) := paired_imp (fun _ _ ⟨b, z1, z2⟩ => ⟨b, (upd_ne (ne_of z1 ga4 (by intro y; cases y))).trans z1, (upd_ne (ne_of z2 ga4 (by intro y; cases y))).trans z2⟩) prt
      generalize upd H4 a (.dT (ds.map ent)) = H5 at e5 m5 p5 ⊢
      have e05 := e12.trans e5
      have hRr : RingsAt H5 60 xs.reverse rs.reverse := paired_rev (rings_ex4 e05 hR)
      have dM : DOk rs.reverse (mapD (bwP rs) ds) B := mapD_ok (q := bwP rs.reverse) hd (fun p hp => bwP_bw hp) (fun p hp => bwP_in rok hp)
      refine ⟨_, rfl, _, rfl, _, rfl, bk, Dq, xs.reverse, rs.reverse, ts, mapD (bwP rs) ds, B, rfl, e5 _ _ gb, hRr, by rw [List.length_reverse]; exact hl, m5, p5, dM.keys, dM.abs, by rw [mapD_len]; exact hln, fun r H6 res e6 hr6 dr6 ln6 hf6 cn6 => ?_⟩
      refine ⟨by show 2 ≤ sizeLine; decide, fun t ht => ?_⟩
      have x1 := Ex.new (o := .tup [.ref bk, .ref r]) ht
      exact k t bk r _ res ((e05.trans e6).trans x1) upd_same ((e6.trans x1) _ _ (e5 _ _ gb)) (rings_ex4 (e6.trans x1) hRr) (x1 _ _ hr6) dr6 (by rw [mapD_len] at ln6; exact ln6) hf6 cn6
def spLFlipped : Sp := fun vs H Q _ => ∃ c a xs rs ds B, ∃ k : Nat, vs = [.ref c, .ref a, .int (k : Int)] ∧ H c = some (.tup xs) ∧ RingsAt H 60 xs rs ∧ (1 ≤ xs.length ∧ xs.length ≤ 12) ∧ k < xs.length ∧ DealAt H a ds ∧ DOk rs ds B ∧ ds.length ≤ 900 ∧
  ∀ t b x r H' res, Ex H H' → H' t = some (.tup [.ref b, .ref r]) → H' b = some (.tup (xs.set k x)) → RingsAt H' 60 (xs.set k x) (flR rs k) → DealAt H' r res → DOk (flR rs k) res B → res.length ≤ ds.length → (∀ f, Nl (flR rs k) f → Sf f res = Sf f (mapD (flP rs k) ds)) → Canon (flR rs k) res → Q (.ref t) H'
theorem ok_lflipped (T : Txt K mg) {f : Addr} {fd : FuncData} (D : DefAt K mg "_law_flipped" sLFlipped ["_law_chain_here", "_law_deal_here", "_law_index"] f fd) : FnOk P w K mg base CX0 2 f fd ["_law_chain_here", "_law_deal_here", "_law_index"] spLFlipped := by
  refine D.F.ok scLFlipped (fun vs H Q E h => ?_) (fun cdv A outer s₀ H vs Q E hr h => ?_)
  · obtain ⟨c, a, xs, rs, ds, B, k, rfl, _⟩ := h
    rfl
  · obtain ⟨c, a, xs, rs, ds, B, k, rfl, hc, hR, hl, hk, ha, hd, hln, q0⟩ := h
    obtain ⟨f1, fd1, D1⟩ := T.d_l_named
    have hr1 : Room 1 _ := hr.mono (by decide)
    have hu1 := Nat.lt_of_le_of_lt (Nat.add_le_add_left (show 1 ≤ 64 by decide) _) hr.units
    refine ⟨_, pss_cons (ps_asg (pe_ix ix_tup (pv 0) (pv 2) (fun _ _ => rfl)) (pg_tup (by rfl) (pgs_cons (pg_name (i := 3) scLFlipped.nd rfl (.inr rfl)) (pgs_cons (pg_name (i := 4) scLFlipped.nd rfl (.inl rfl)) pgs_nil))))
      (pss_cons (ps_set (i := 5) scLFlipped.nd rfl (.inl rfl) (pe_op op_catE (pe_op op_catE (pe_slice sl_tupE (pv 0) po_none (po_some (pv 2))) (pe_tup (pa_cons (pe_tup (pa_cons (pv 3) (pa_cons (pe_op op_sub (pv 3) (pv 4)) pa_nil))) pa_nil))) (pe_slice sl_tupE (pv 0) (po_some (pe_op op_add (pv 2) pe_int)) po_none)))
      (pss_cons (ps_lock (ps_setLc (i := 6) (own := [("_law_j", 7), ("_law_p", 8)]) (g := gTup K 2 (gCons (gName 7) (gCons (gName 8) gNil))) (tt := tYes) (by rfl) scLFlipped.nd rfl rfl (sw_true rfl rfl rfl (by decide +kernel)) (pi_keys (pv 1))
        (blkOk_by (N := nLFlipped) (sc := defScope sLFlipped) (by decide +kernel)) (fun _ _ _ _ _ => (pg_tup (by rfl) (pgs_cons (pg_name (i := 7) scLFlipped.nd rfl (.inl rfl)) (pgs_cons (pg_name (i := 8) scLFlipped.nd rfl (.inl rfl)) pgs_nil)))) (fun _ _ _ _ _ => pts_nil)
        (fun _ _ _ _ _ => (pe_tup (pa_cons (pe_tup (pa_cons (pv 7) (pa_cons (pe_ifExp (pt_cmpR op_eq (pv 7) (pv 2) (nomark _)) (pe_op op_mod (pe_op op_sub pe_int (pv 8)) (pv 3)) (pv 8)) pa_nil))) (pa_cons (pe_dget hu1 (pv 1) (pe_tup (pa_cons (pv 7) (pa_cons (pv 8) pa_nil))) (fun _ _ => rfl)) pa_nil))))))
      (pss_one (ps_ret (pe_tup (pa_cons (pv 5) (pa_cons (pe_call (ok_lnamed T D1) hr1 (by rfl) D1.g D1.F.kp D1.b .nil pass0 (pa_cons (pv 5) (pa_cons (pv 6) pa_nil))) pa_nil))))))), ?_⟩
    have hlen : xs.length = rs.length := paired_len hR
    have hkr : k < rs.length := by omega
    have rok : RsOk rs rs.length := fun j hj => rings_ok hR j hj
    obtain ⟨x, hx, tt, rfl, ht, n1, n2, n3, n4⟩ := rings_nth hR hkr
    refine ⟨_, rfl, _, rfl, c, xs, (k : Int), .ref tt, rfl, rfl, SqT.of hc, at_of rfl hx, ?_⟩
    refine ⟨tt, _, rfl, SqT.of ht, rfl, .int _, [_], rfl, .int _, [], rfl, rfl, ?_⟩
    refine ⟨_, rfl, _, rfl, (k : Int), rfl, c, xs, rfl, hc, fun p1 H1 e1 h1 => ?_⟩
    refine ⟨_, rfl, _, rfl, _, rfl, _, _, rfl, rfl, by show 2 ≤ sizeLine; decide, fun b0 hb0 => ⟨by show 1 ≤ sizeLine; decide, fun p2 hp2 => ?_⟩⟩
    have x1 := Ex.new (o := .tup [.int (K1N.nAt rs k : Int), .int ((K1N.nAt rs k : Int) - K1N.sAt rs k)]) hb0
    have x2 := Ex.new (o := .tup [.ref b0]) hp2
    have x12 := x1.trans x2
    have gb0 := x2 _ _ (show (upd H1 b0 (.tup [.int (K1N.nAt rs k : Int), .int ((K1N.nAt rs k : Int) - K1N.sAt rs k)])) b0 = _ from upd_same)
    refine ⟨p1, p2, _, [.ref b0], rfl, rfl, x12 _ _ h1, upd_same, ?_, fun p3 H3 e3 h3 => ?_⟩
    · have := cutV_length xs none (some (k : Int))
      show (cutV xs none (some (k : Int))).length + 1 ≤ _
      exact Nat.le_trans (Nat.add_le_add_right this 1) (small1000 (by omega))
    have e03 := (e1.trans x12).trans e3
    refine ⟨_, rfl, _, rfl, _, _, rfl, rfl, (k : Int) + 1, rfl, c, xs, rfl, e03 _ _ hc, fun p4 H4 e4 h4 => ?_⟩
    refine ⟨p3, p4, _, _, rfl, rfl, e4 _ _ h3, h4, ?_, fun bk H2 e5 gb => ?_⟩
    · have a1 := cutV_length xs none (some (k : Int))
      have a2 := cutV_length xs (some ((k : Int) + 1)) none
      rw [List.length_append, List.length_singleton]
      exact Nat.le_of_lt (small1000 (by omega))
    rw [cut_set hk (by omega)] at gb
    have e12 := (e03.trans e4).trans e5
    have hRb : RingsAt H2 60 (xs.set k (.ref b0)) (flR rs k) := paired_set ⟨b0, rfl, ((e3.trans e4).trans e5) _ _ gb0, n1, n2, by show 1 ≤ (K1N.nAt rs k : Int) - K1N.sAt rs k; omega, by show (K1N.nAt rs k : Int) - K1N.sAt rs k < _; omega⟩ (rings_ex4 e12 hR) k
    have ha2 := e12 _ _ ha
    refine ⟨a, _, ha2, trivial, fun od => ?_⟩
    have k0 : Keep a H2 (upd H2 a (.frz od (.dT (ds.map ent)))) := keep_lock
    have g0 : (upd H2 a (.frz od (.dT (ds.map ent)))) a = some (.frz od (.dT (ds.map ent))) := upd_same
    generalize upd H2 a (.frz od (.dT (ds.map ent))) = H3' at k0 g0 ⊢
    refine ⟨_, rfl, a, od, rfl, .inr ⟨_, g0, fun Dq hD => ?_⟩⟩
    refine lc_pairsM (flP rs k) hD g0 hd.len (fun e q H4' Qk he e4' hq kk => ?_) (fun H4' ts e4' hD4 prt => ?_)
    · obtain ⟨⟨ej, eq⟩, ev⟩ := e
      have hin := hd.keys _ he
      obtain ⟨⟨b0', b1⟩, b2, b3⟩ := id hin
      replace b0' : 0 ≤ ej := b0'
      replace b1 : ej < (rs.length : Int) := b1
      have gv : getE ds (ej, eq) = some ev := getE_of hd.nk he
      refine ⟨q, _, rfl, SqT.of hq, rfl, .int ej, [_], rfl, .int eq, [], rfl, rfl, rfl, ?_⟩
      refine ⟨_, rfl, _, rfl, _, rfl, rfl, _, rfl, ite2 (fun cc => ?_) (fun cc => ?_)⟩
      · have cj : ej = (k : Int) := V.int.inj (of_decide_eq_true cc)
        refine ⟨_, rfl, _, _, rfl, rfl, _, rfl, _, _, rfl, rfl, by omega, by show 2 ≤ sizeLine; decide, fun kb hkb => ?_⟩
        have x1 := Ex.new (o := .tup [.int ej, .int ((0 - eq) % (K1N.nAt rs k : Int))]) hkb
        refine ⟨_, rfl, _, rfl, _, rfl, by show 2 ≤ sizeLine; decide, fun kk2 hkk => ⟨a, .int ev, rfl, .inr ⟨_, dk (ej, eq), kk2, .inr ⟨od, (x1.trans (Ex.new hkk)) _ _ (e4' _ _ g0)⟩, rfl, upd_same, by rw [valV_ent, gv]; rfl⟩, by show 2 ≤ sizeLine; decide, fun t3 ht3 => ?_⟩⟩
        have x2 := Ex.new (o := .tup [.int ej, .int eq]) hkk
        have x3 := Ex.new (o := .tup [.ref kb, .int ev]) ht3
        refine kk t3 kb _ ((x1.trans x2).trans x3) upd_same ?_
        rw [(x2.trans x3) _ _ upd_same]
        unfold flP
        rw [if_pos (show ((ej, eq) : Pl).1 = (k : Int) from cj), Int.zero_sub]
      · have cj : ¬ ej = (k : Int) := fun z => cc (decide_eq_true (congrArg V.int z))
        refine ⟨_, rfl, by show 2 ≤ sizeLine; decide, fun kb hkb => ?_⟩
        have x1 := Ex.new (o := .tup [.int ej, .int eq]) hkb
        refine ⟨_, rfl, _, rfl, _, rfl, by show 2 ≤ sizeLine; decide, fun kk2 hkk => ⟨a, .int ev, rfl, .inr ⟨_, dk (ej, eq), kk2, .inr ⟨od, (x1.trans (Ex.new hkk)) _ _ (e4' _ _ g0)⟩, rfl, upd_same, by rw [valV_ent, gv]; rfl⟩, by show 2 ≤ sizeLine; decide, fun t3 ht3 => ?_⟩⟩
        have x2 := Ex.new (o := .tup [.int ej, .int eq]) hkk
        have x3 := Ex.new (o := .tup [.ref kb, .int ev]) ht3
        refine kk t3 kb _ ((x1.trans x2).trans x3) upd_same ?_
        rw [(x2.trans x3) _ _ upd_same]
        unfold flP
        rw [if_neg (show ¬ ((ej, eq) : Pl).1 = (k : Int) from cj)]
    · refine ⟨e4' _ _ g0, ?_⟩
      have e6 : Ex H2 (upd H4' a (.dT (ds.map ent))) := Ex.of_keep ha2 (k0.trans (Keep.ex e4'))
      have nD : Dq ≠ a := fun z => by
        rw [z, g0] at hD
        cases hD
      have m5 : (upd H4' a (.dT (ds.map ent))) Dq = some (.lst (ts.map V.ref)) := (upd_ne nD).trans hD4
      have ga4 := e4' _ _ g0
      have p5 : ItT.Prt (upd H4' a (.dT (ds.map ent))) ts ((mapD (flP rs k) ds).map ent) := paired_imp (fun _ _ ⟨b, z1, z2⟩ => ⟨b, (upd_ne (ne_of z1 ga4 (by intro y; cases y))).trans z1, (upd_ne (ne_of z2 ga4 (by intro y; cases y))).trans z2⟩) prt
      generalize upd H4' a (.dT (ds.map ent)) = H5 at e6 m5 p5 ⊢
      have e05 := e12.trans e6
      have hRr : RingsAt H5 60 (xs.set k (.ref b0)) (flR rs k) := rings_ex4 e6 hRb
      have dM : DOk (flR rs k) (mapD (flP rs k) ds) B := mapD_ok (q := flP (flR rs k) k) hd (fun p hp => flP_fl hkr hp) (fun p hp => flP_in hkr rok hp)
      refine ⟨_, rfl, _, rfl, _, rfl, bk, Dq, xs.set k (.ref b0), flR rs k, ts, mapD (flP rs k) ds, B, rfl, e6 _ _ gb, hRr, by rw [List.length_set]; exact hl, m5, p5, dM.keys, dM.abs, by rw [mapD_len]; exact hln, fun r H6 res e7 hr6 dr6 ln6 hf6 cn6 => ?_⟩
      refine ⟨by show 2 ≤ sizeLine; decide, fun t ht => ?_⟩
      have x1 := Ex.new (o := .tup [.ref bk, .ref r]) ht
      exact q0 t bk (.ref b0) r _ res ((e05.trans e7).trans x1) upd_same ((e7.trans x1) _ _ (e6 _ _ gb)) (rings_ex4 (e7.trans x1) hRr) (x1 _ _ hr6) dr6 (by rw [mapD_len] at ln6; exact ln6) hf6 cn6
end
end K1

set_option exponentiation.threshold 400
namespace K1
open PySem PySem.Spec PyProof.Rows L2 Evl HM LX ZW ZM MP DM DR TE
theorem ClsAt.keep {d : Addr} {H H' : Hp} {c x : Addr} {xs : List V} {rs : List (Int × Int)} {ps : List Int} {tot : Int} (h : ClsAt H c x xs rs ps tot) (hd : Dice H d) (k : Keep d H H') : ClsAt H' c x xs rs ps tot :=
  ⟨k.tup hd h.hc, h.hR.keep k hd, h.l1, h.l2, k.tup hd h.hx, h.len, h.pl, h.ht⟩
theorem hv_ints (h : List Nat) : hv h = (h.map fun (n : Nat) => (n : Int)).map V.int := by
  unfold hv
  rw [List.map_map]
  rfl
theorem ne_ints {K : PySem.W.Frag} {H : Hp} {p q : Addr} {l l' : List Int} {Q : VK} (h1 : H p = some (.tup (l.map V.int))) (h2 : H q = some (.tup (l'.map V.int))) (e : l = l') (k : Q (.bl false) H) : rNeD K (.ref p) (.ref q) H Q := by
  subst e
  refine ⟨_, _, .tup (SqT.of h1) (dp_ints _), .tup (SqT.of h2) (dp_ints _), shaped_intsT _, shaped_intsT _, ?_⟩
  rw [eqv_intsT]
  exact k
theorem ne_heap {K : PySem.W.Frag} {H : Hp} {p q : Addr} {h h' : List Nat} {Q : VK} (h1 : HeapAt H p h) (h2 : HeapAt H q h') (e : h = h') (k : Q (.bl false) H) : rNeD K (.ref p) (.ref q) H Q := by
  subst e
  unfold HeapAt at h1 h2
  rw [hv_ints] at h1 h2
  exact ne_ints h1 h2 rfl k
section
variable {P : Program} {w : World} {K : PySem.W.Frag} {mg : Str → Option Value} {base : Heap}
def spValueAt : Sp := fun vs H Q _ => ∃ c x xs rs ps, ∃ tot i : Int, vs = [.ref c, .int tot, .ref x, .int i] ∧ ClsAt H c x xs rs ps tot ∧ i.natAbs < 10 ^ 59 ∧ ∀ H', Ex H H' → Q (.int (fm rs ps tot i)) H'
theorem ok_value_at (T : Txt K mg) {f : Addr} {fd : FuncData} (D : DefAt K mg "value_at" sValueAt ["chain", "degree", "places", "index"] f fd) : FnOk P w K mg base CX0 8 f fd ["chain", "degree", "places", "index"] spValueAt := by
  refine D.F.ok scValueAt (fun vs H Q E h => ?_) (fun cdv A outer s₀ H vs Q E hr h => ?_)
  · obtain ⟨c, x, xs, rs, ps, tot, i, rfl, _⟩ := h
    rfl
  · obtain ⟨c, x, xs, rs, ps, tot, i, rfl, C, hi, q⟩ := h
    obtain ⟨f1, fd1, D1⟩ := T.d_map_values
    obtain ⟨f2, fd2, D2⟩ := T.d_check_integer
    obtain ⟨f3, fd3, D3⟩ := T.d_check_class_at
    have hr2 : Room 2 _ := hr.mono (by decide)
    have hr6 : Room 6 _ := hr.mono (by decide)
    have hr7 : Room 7 _ := hr.mono (by decide)
    refine ⟨_, pss_cons (ps_expr (pe_call (ok_check_class_at T D3) hr6 (by rfl) D3.g D3.F.kp D3.b .nil pass0 (pa_cons (pv 0) (pa_cons (pv 1) (pa_cons (pv 2) pa_nil)))))
      (pss_cons (ps_expr (pe_call (ok_check_integer T D2) hr2 (by rfl) D2.g D2.F.kp D2.b .nil pass0 (pa_cons (pv 3) pa_nil)))
      (pss_one (ps_ret (pe_ix ix_list (pe_call (ok_map_values T D1) hr7 (by rfl) D1.g D1.F.kp D1.b .nil pass0 (pa_cons (pv 0) (pa_cons (pv 1) (pa_cons (pv 2) (pa_cons (pv 3) (pa_cons (pv 3) pa_nil)))))) pe_int (fun _ _ => rfl))))), ?_⟩
    refine ⟨_, rfl, _, rfl, _, rfl, c, x, xs, rs, ps, tot, rfl, C.hc, C.hR, ⟨C.l1, C.l2⟩, C.hx, C.len, C.pl, by have := C.ht; omega, fun H1 e1 => ?_⟩
    refine ⟨_, rfl, i, rfl, by omega, by omega, fun H2 e2 => ?_⟩
    have e12 := e1.trans e2
    have C2 := C.ex e12
    refine ⟨_, rfl, _, rfl, _, rfl, _, rfl, _, rfl, c, x, xs, rs, ps, tot, i, i, rfl, C2.hc, C2.hR, ⟨C.l1, C.l2⟩, C2.hx, C.len, by omega, fun a H3 e3 ha hl => ?_⟩
    refine ⟨a, _, 0, .int (fm rs ps tot i), rfl, rfl, SqL.of hl, ?_, q _ (e12.trans e3)⟩
    rw [show (i - i + 1).toNat = 1 by omega]
    refine atI_nat (j := 0) ?_
    rw [List.getElem?_map, win_get (by omega)]
    show some (V.int (fm rs ps tot (i + 0))) = _
    rw [show i + 0 = i by omega]
def spLBright : Sp := fun vs H Q _ => ∃ d c a xs rs ds, vs = [.ref d, .ref c, .ref a] ∧ Dice H d ∧ H c = some (.tup xs) ∧ RingsAt H 60 xs rs ∧ (1 ≤ xs.length ∧ xs.length ≤ 12) ∧ DealAt H a ds ∧ DOk rs ds 1000 ∧ ds.length ≤ 100 ∧ ∀ H', Dice H' d → Keep d H H' → Q (.bl true) H'
theorem ok_lbright (T : Txt K mg) {f : Addr} {fd : FuncData} (D : DefAt K mg "_law_backward_right" sLBackwardRight ["_law_dice_here", "_law_chain_here", "_law_deal_here"] f fd) : FnOk P w K mg base CX0 10 f fd ["_law_dice_here", "_law_chain_here", "_law_deal_here"] spLBright := by
  refine D.F.ok scLBackwardRight (fun vs H Q E h => ?_) (fun cdv A outer s₀ H vs Q E hr h => ?_)
  · obtain ⟨d, c, a, xs, rs, ds, rfl, _⟩ := h
    rfl
  · obtain ⟨d, c, a, xs, rs, ds, rfl, hd, hc, hR, hl, ha, da, la, q⟩ := h
    obtain ⟨f1, fd1, D1⟩ := T.d_value_at
    obtain ⟨f2, fd2, D2⟩ := T.d_end_table
    obtain ⟨f3, fd3, D3⟩ := T.d_l_roll
    obtain ⟨f4, fd4, D4⟩ := T.d_class_of
    obtain ⟨f5, fd5, D5⟩ := T.d_l_class
    obtain ⟨f6, fd6, D6⟩ := T.d_richness
    obtain ⟨f7, fd7, D7⟩ := T.d_l_same
    obtain ⟨f8, fd8, D8⟩ := T.d_written
    obtain ⟨f9, fd9, D9⟩ := T.d_backward
    obtain ⟨f10, fd10, D10⟩ := T.d_l_backward
    have hr1 : Room 1 _ := hr.mono (by decide)
    have hr2 : Room 2 _ := hr.mono (by decide)
    have hr6 : Room 6 _ := hr.mono (by decide)
    have hr7 : Room 7 _ := hr.mono (by decide)
    have hr8 : Room 8 _ := hr.mono (by decide)
    have hr9 : Room 9 _ := hr.mono (by decide)
    refine ⟨_, pss_cons (ps_set (i := 3) scLBackwardRight.nd rfl (.inl rfl) (pe_call (ok_lbackward T D10) hr2 (by rfl) D10.g D10.F.kp D10.b .nil pass0 (pa_cons (pv 1) (pa_cons (pv 2) pa_nil))))
      (pss_cons (ps_if (PW.pt (pw_or (pt_not (pt_val (pe_call (ok_lsame T D7) hr1 (by rfl) D7.g D7.F.kp D7.b .nil pass0 (pa_cons (pe_call (ok_backward T D9) hr6 (by rfl) D9.g D9.F.kp D9.b .nil pass0 (pa_cons (pv 1) (pa_cons (pv 2) pa_nil))) (pa_cons (pv 3) pa_nil)))))
          (pw_or1 (pt_not (pt_val (pe_call (ok_lsame T D7) hr1 (by rfl) D7.g D7.F.kp D7.b .nil pass0 (pa_cons (pe_call (ok_backward T D9) hr6 (by rfl) D9.g D9.F.kp D9.b .nil pass0 (pa_cons (pe_ix ix_tup (pv 3) pe_int (fun _ _ => rfl)) (pa_cons (pe_ix ix_tup (pv 3) pe_int (fun _ _ => rfl)) pa_nil))) (pa_cons (pe_tup (pa_cons (pv 1) (pa_cons (pe_call (ok_writtenP T D8) hr6 (by rfl) D8.g D8.F.kp D8.b .nil pass0 (pa_cons (pv 1) (pa_cons (pv 2) pa_nil))) pa_nil))) pa_nil)))))))) (pss_one (ps_ret pe_bl)) pss_nil)
      (pss_cons (ps_if (pt_cmpR op_ne (pe_call (ok_richness T D6) hr7 (by rfl) D6.g D6.F.kp D6.b .nil pass0 (pa_cons (pv 1) (pa_cons (pv 2) pa_nil))) (pe_call (ok_richness T D6) hr7 (by rfl) D6.g D6.F.kp D6.b .nil pass0 (pa_cons (pe_ix ix_tup (pv 3) pe_int (fun _ _ => rfl)) (pa_cons (pe_ix ix_tup (pv 3) pe_int (fun _ _ => rfl)) pa_nil))) (nomark _)) (pss_one (ps_ret pe_bl)) pss_nil)
      (pss_cons (ps_asg (pe_call (ok_lclass T D5) hr1 (by rfl) D5.g D5.F.kp D5.b .nil pass0 (pa_cons (pv 1) (pa_cons (pv 2) pa_nil))) (pg_tup (by rfl) (pgs_cons (pg_name (i := 4) scLBackwardRight.nd rfl (.inl rfl)) (pgs_cons (pg_name (i := 5) scLBackwardRight.nd rfl (.inl rfl)) pgs_nil))))
      (pss_cons (ps_asg (pe_call (ok_class_of T D4) hr6 (by rfl) D4.g D4.F.kp D4.b .nil pass0 (pa_cons (pe_ix ix_tup (pv 3) pe_int (fun _ _ => rfl)) (pa_cons (pe_ix ix_tup (pv 3) pe_int (fun _ _ => rfl)) pa_nil))) (pg_tup (by rfl) (pgs_cons (pg_name (i := 6) scLBackwardRight.nd rfl (.inl rfl)) (pgs_cons (pg_name (i := 7) scLBackwardRight.nd rfl (.inl rfl)) pgs_nil))))
      (pss_cons (ps_par3 (i := 8) (j := 9) (l := 10) (by rfl) scLBackwardRight.nd rfl rfl rfl (by decide) (by decide) (by decide) rfl rfl rfl (pa_cons (pe_op op_sub (pe_call (ok_roll T D3) hr1 (by rfl) D3.g D3.F.kp D3.b .nil pass0 (pa_cons (pv 0) (pa_cons pe_int pa_nil))) pe_int) (pa_cons (pe_op op_sub (pe_op op_sub (pe_call (ok_roll T D3) hr1 (by rfl) D3.g D3.F.kp D3.b .nil pass0 (pa_cons (pv 0) (pa_cons pe_int pa_nil))) pe_int) (pv 4)) (pa_cons (pe_op op_sub (pe_call (ok_roll T D3) hr1 (by rfl) D3.g D3.F.kp D3.b .nil pass0 (pa_cons (pv 0) (pa_cons pe_int pa_nil))) pe_int) pa_nil))) (by rfl))
      (pss_cons (ps_if (PW.pt (pw_or (pt_cmpR op_ne (pv 6) (pv 4) (nomark _))
          (pw_or1 (pt_cmpR op_ne (pe_call (ok_end_table T D2) hr9 (by rfl) D2.g D2.F.kp D2.b .nil pass0 (pa_cons (pv 1) (pa_cons (pv 4) (pa_cons (pv 5) (pa_cons (pv 8) (pa_cons (pv 9) pa_nil)))))) (pe_call (ok_end_table T D2) hr9 (by rfl) D2.g D2.F.kp D2.b .nil pass0 (pa_cons (pe_ix ix_tup (pv 3) pe_int (fun _ _ => rfl)) (pa_cons (pv 6) (pa_cons (pv 7) (pa_cons (pv 9) (pa_cons (pv 8) pa_nil)))))) (nomark _))))) (pss_one (ps_ret pe_bl)) pss_nil)
      (pss_one (ps_ret (pe_cmpR op_eq (pe_call (ok_value_at T D1) hr8 (by rfl) D1.g D1.F.kp D1.b .nil pass0 (pa_cons (pe_ix ix_tup (pv 3) pe_int (fun _ _ => rfl)) (pa_cons (pv 6) (pa_cons (pv 7) (pa_cons (pe_op op_sub pe_int (pe_call (ok_value_at T D1) hr8 (by rfl) D1.g D1.F.kp D1.b .nil pass0 (pa_cons (pv 1) (pa_cons (pv 4) (pa_cons (pv 5) (pa_cons (pv 10) pa_nil)))))) pa_nil))))) (pe_op op_sub pe_int (pv 10)) (nomark _)))))))))), ?_⟩
    have hlen : xs.length = rs.length := paired_len hR
    have rok : RsOk rs rs.length := fun j hj => rings_ok hR j hj
    have rokr : RsOk rs.reverse rs.reverse.length := ok_rev rok
    have srev : ∀ j, j < rs.reverse.length → 1 ≤ K1N.sAt rs.reverse j := fun j hj => (rokr j hj).1
    have tle := sf_one_le da
    -- due
    refine ⟨_, rfl, _, rfl, c, a, xs, rs, ds, _, rfl, hc, hR, hl, ha, da, by omega, fun t b r H1 res e1 ht hb hRb hr dr lr sr cr => ?_⟩
    have hc1 := e1 _ _ hc
    have hR1 := rings_ex4 e1 hR
    have ha1 := e1 _ _ ha
    refine ⟨_, rfl, _, rfl, c, a, xs, rs, ds, _, rfl, hc1, hR1, hl, ha1, da, by decide, fun t2 b2 r2 H2 res2 e2 ht2 hb2 hRb2 hr2 dr2 lr2 sr2 cr2 => ?_⟩
    have same1 : res2 = res := canon_eq srev cr2 cr fun f hf => by rw [sr2 f hf, sr f hf]
    rw [same1] at hr2
    refine ⟨_, rfl, t2, t, b2, r2, b, r, _, _, rs.reverse, res, rfl, ht2, e2 _ _ ht, hb2, hRb2, e2 _ _ hb, rings_ex4 e2 hRb, hr2, e2 _ _ hr, fun H3 e3 => ?_⟩
    refine ⟨true, rfl, iteF ?_⟩
    have e13 := e2.trans e3
    have ht3 := e13 _ _ ht
    have hb3 := e13 _ _ hb
    have hRb3 := rings_ex4 e13 hRb
    have hr3 : DealAt H3 r res := e13 _ _ hr
    have lrev : 1 ≤ xs.reverse.length ∧ xs.reverse.length ≤ 12 := by rw [List.length_reverse]; exact hl
    -- twice
    refine ⟨_, rfl, t, _, 0, _, rfl, rfl, SqT.of ht3, rfl, _, rfl, t, _, 1, _, rfl, rfl, SqT.of ht3, rfl, b, r, _, _, res, _, rfl, hb3, hRb3, lrev, hr3, dr, by decide, fun t4 b4 r4 H4 res4 e4 ht4 hb4 hRb4 hr4 dr4 lr4 sr4 cr4 => ?_⟩
    rw [List.reverse_reverse] at hb4
    rw [List.reverse_reverse, List.reverse_reverse] at hRb4
    rw [List.reverse_reverse] at cr4 sr4
    have e14 := e13.trans e4
    refine ⟨_, rfl, _, rfl, _, rfl, c, a, xs, rs, ds, _, rfl, e14 _ _ hc1, rings_ex4 e14 hR1, hl, e14 _ _ ha1, da, by decide, fun wr H5 ww e5 hwr dwr lwr wrS cwr => ?_⟩
    have same2 : res4 = ww := canon_eq (fun j hj => (rok j hj).1) cr4 cwr fun f hf => by
      have h1 := nl_bw (rs := rs.reverse) (f := f) rokr (by rw [List.reverse_reverse]; exact hf)
      rw [sr4 f hf, wrS f hf, mapD_sf, sr _ h1, mapD_sf]
      exact Sf_congr fun e he => by rw [bwP_bw (da.keys e he)]
    rw [same2] at hr4
    refine ⟨by show 2 ≤ sizeLine; decide, fun t5 ht5 => ?_⟩
    have x5 := Ex.new (o := .tup [.ref c, .ref wr]) ht5
    have e15 := (e14.trans e5).trans x5
    have e5x := e5.trans x5
    refine ⟨t4, t5, b4, r4, c, wr, xs, xs, rs, ww, rfl, e5x _ _ ht4, upd_same, e5x _ _ hb4, rings_ex4 e5x hRb4, e15 _ _ hc1, rings_ex4 e15 hR1, e5x _ _ hr4, x5 _ _ hwr, fun H6 e6 => ?_⟩
    refine ⟨true, rfl, iteF ?_⟩
    -- richness
    have e16 := e15.trans e6
    have e36 : Ex H3 H6 := (e4.trans e5x).trans e6
    refine ⟨_, rfl, _, rfl, c, a, xs, rs, ds, rfl, e16 _ _ hc1, rings_ex4 e16 hR1, hl, e16 _ _ ha1, da.mono (by decide), fun H7 e7 => ?_⟩
    have e37 := e36.trans e7
    have e17 := e16.trans e7
    refine ⟨_, rfl, t, _, 0, _, rfl, rfl, SqT.of (e37 _ _ ht3), rfl, _, rfl, t, _, 1, _, rfl, rfl, SqT.of (e37 _ _ ht3), rfl, b, r, _, _, res, rfl, e37 _ _ hb3, rings_ex4 e37 hRb3, lrev, e37 _ _ hr3, dr.mono (by decide), fun H8 e8 => ?_⟩
    have cb := class_bw da.keys sr
    have psok : PlOk rs (cx rs fun i => Sf (tau rs i) ds) := cx_ok hR _
    have psl : (cx rs fun i => Sf (tau rs i) ds).length = rs.length := cx_len _ _
    refine ⟨rfl, _, rfl, iteF' (by rw [cb.1, cb.2, rich_bw psl rok psok, decide_eq_true rfl]; rfl) ?_⟩
    have e18 := e17.trans e8
    have e38 := e37.trans e8
    -- classes
    refine ⟨_, rfl, _, rfl, c, a, xs, rs, ds, _, rfl, e18 _ _ hc1, rings_ex4 e18 hR1, hl.2, e18 _ _ ha1, da, fun r1 H9 e9 q1 => ?_⟩
    obtain ⟨t1, x, er, ht1, hx⟩ := id q1
    cases er
    refine ⟨r1, _, rfl, SqT.of ht1, rfl, .int _, [_], rfl, .ref x, [], rfl, rfl, ?_⟩
    have e19 := e18.trans e9
    have e39 := e38.trans e9
    refine ⟨_, rfl, t, _, 0, _, rfl, rfl, SqT.of (e39 _ _ ht3), rfl, _, rfl, t, _, 1, _, rfl, rfl, SqT.of (e39 _ _ ht3), rfl, b, r, _, _, res, _, rfl, e39 _ _ hb3, rings_ex4 e39 hRb3, lrev, e39 _ _ hr3, dr, by decide, fun r3 H10 e10 q3 => ?_⟩
    unfold CL at q3
    rw [cb.1, cb.2] at q3
    obtain ⟨t3, y, er3, ht3', hy⟩ := id q3
    cases er3
    refine ⟨r3, _, rfl, SqT.of ht3', rfl, .int _, [_], rfl, .ref y, [], rfl, rfl, ?_⟩
    have e1a := e19.trans e10
    have e3a := e39.trans e10
    have Ca : ClsAt H10 c x xs rs (cx rs fun i => Sf (tau rs i) ds) (Sf one ds) := ⟨e1a _ _ hc1, rings_ex4 e1a hR1, hl.1, hl.2, e10 _ _ hx, by rw [cx_len, hlen], psok, by omega⟩
    have Cb : ClsAt H10 b y xs.reverse rs.reverse (bwx rs (cx rs fun i => Sf (tau rs i) ds) (Sf one ds)) (Sf one ds) := ⟨e3a _ _ hb3, rings_ex4 e3a hRb3, lrev.1, lrev.2, hy, by rw [bwx_len, cx_len, List.length_reverse, hlen], bwx_ok psl rok _, by omega⟩
    have hta := e3a _ _ ht3
    have hda := hd.ex (e1.trans e1a)
    generalize hps : (cx rs fun i => Sf (tau rs i) ds) = ps at *
    generalize htot : Sf one ds = tot at *
    refine ⟨_, rfl, d, _, rfl, hda, by decide, by decide, fun z1 Ha a1 a2 hdb k1 => ?_⟩
    refine ⟨_, _, rfl, rfl, _, rfl, d, _, rfl, hdb, by decide, by decide, fun z2 Hb b1 b2 hdc k2 => ?_⟩
    refine ⟨_, _, rfl, rfl, _, rfl, _, _, rfl, rfl, _, rfl, d, _, rfl, hdc, by decide, by decide, fun z3 Hc c1 c2 hdd k3 => ?_⟩
    have k13 := (k1.trans k2).trans k3
    have Cc := Ca.keep hda k13
    have Cd := Cb.keep hda k13
    have htc := k13.tup hda hta
    have hps2 : ps.length = rs.length := psl
    refine ⟨_, _, rfl, rfl, _, _, _, rfl, ?_⟩
    refine ⟨_, rfl, _, rfl, rfl, _, rfl, iteF' (by rw [decide_eq_true rfl]; rfl) ?_⟩
    refine ⟨_, rfl, _, rfl, _, rfl, _, rfl, _, rfl, c, x, xs, rs, ps, tot, _, _, rfl, Cc, by omega, by omega, fun Hd e21 => ?_⟩
    refine ⟨_, rfl, t, _, 0, _, rfl, rfl, SqT.of (e21 _ _ htc), rfl, _, rfl, _, rfl, _, rfl, _, rfl, b, y, xs.reverse, rs.reverse, bwx rs ps tot, tot, _, _, rfl, Cd.ex e21, by omega, by omega, fun He e22 => ?_⟩
    refine ⟨rfl, _, rfl, iteF' (by rw [hh_bw hps2 rok, decide_eq_true rfl]; rfl) ?_⟩
    have e2 := e21.trans e22
    refine ⟨_, rfl, t, _, 0, _, rfl, rfl, SqT.of (e2 _ _ htc), rfl, _, rfl, _, rfl, _, rfl, _, rfl, _, rfl, _, rfl, c, x, xs, rs, ps, tot, z3 - 20, rfl, Cc.ex e2, by omega, fun Hf e23 => ?_⟩
    have fb := fm_bound rs ps tot (z3 - 20)
    have e23' := e2.trans e23
    refine ⟨_, _, rfl, rfl, b, y, xs.reverse, rs.reverse, bwx rs ps tot, tot, 0 - fm rs ps tot (z3 - 20), rfl, Cd.ex e23', by omega, fun Hg e24 => ?_⟩
    have e2g := e23'.trans e24
    refine ⟨_, rfl, _, _, rfl, rfl, rfl, ?_⟩
    rw [fm_bw hps2 rok, decide_eq_true rfl]
    exact q _ (hdd.ex e2g) (((Keep.ex (e1.trans e1a)).trans k13).trans (Keep.ex e2g))
def spLFright : Sp := spLBright
theorem ok_lfright (T : Txt K mg) {f : Addr} {fd : FuncData} (D : DefAt K mg "_law_flipped_right" sLFlippedRight ["_law_dice_here", "_law_chain_here", "_law_deal_here"] f fd) : FnOk P w K mg base CX0 10 f fd ["_law_dice_here", "_law_chain_here", "_law_deal_here"] spLFright := by
  refine D.F.ok scLFlippedRight (fun vs H Q E h => ?_) (fun cdv A outer s₀ H vs Q E hr h => ?_)
  · obtain ⟨d, c, a, xs, rs, ds, rfl, _⟩ := h
    rfl
  · obtain ⟨d, c, a, xs, rs, ds, rfl, hd0, hc0, hR0, hl, ha0, da, la, q⟩ := h
    obtain ⟨f1, fd1, D1⟩ := T.d_end_table
    obtain ⟨f2, fd2, D2⟩ := T.d_l_roll
    obtain ⟨f3, fd3, D3⟩ := T.d_richness
    obtain ⟨f4, fd4, D4⟩ := T.d_heap_of
    obtain ⟨f5, fd5, D5⟩ := T.d_class_of
    obtain ⟨f6, fd6, D6⟩ := T.d_l_class
    obtain ⟨f7, fd7, D7⟩ := T.d_l_same
    obtain ⟨f8, fd8, D8⟩ := T.d_written
    obtain ⟨f9, fd9, D9⟩ := T.d_flipped
    obtain ⟨f10, fd10, D10⟩ := T.d_l_flipped
    have hr1 : Room 1 _ := hr.mono (by decide)
    have hr2 : Room 2 _ := hr.mono (by decide)
    have hr6 : Room 6 _ := hr.mono (by decide)
    have hr7 : Room 7 _ := hr.mono (by decide)
    have hr9 : Room 9 _ := hr.mono (by decide)
    refine ⟨_, pss_cons (ps_set (i := 3) scLFlippedRight.nd rfl (.inl rfl) (pe_call (ok_roll T D2) hr1 (by rfl) D2.g D2.F.kp D2.b .nil pass0 (pa_cons (pv 0) (pa_cons (pe_callB call_len_seq (by rfl) T.z_len PySem.boot_len (pa_cons (pv 1) pa_nil)) pa_nil))))
      (pss_cons (ps_set (i := 4) scLFlippedRight.nd rfl (.inl rfl) (pe_call (ok_lflipped T D10) hr2 (by rfl) D10.g D10.F.kp D10.b .nil pass0 (pa_cons (pv 1) (pa_cons (pv 2) (pa_cons (pv 3) pa_nil)))))
      (pss_cons (ps_if (pt_not (pt_val (pe_call (ok_lsame T D7) hr1 (by rfl) D7.g D7.F.kp D7.b .nil pass0 (pa_cons (pe_call (ok_flipped T D9) hr6 (by rfl) D9.g D9.F.kp D9.b .nil pass0 (pa_cons (pv 1) (pa_cons (pv 2) (pa_cons (pv 3) pa_nil)))) (pa_cons (pv 4) pa_nil))))) (pss_one (ps_ret pe_bl)) pss_nil)
      (pss_cons (ps_if (pt_not (pt_val (pe_call (ok_lsame T D7) hr1 (by rfl) D7.g D7.F.kp D7.b .nil pass0 (pa_cons (pe_call (ok_flipped T D9) hr6 (by rfl) D9.g D9.F.kp D9.b .nil pass0 (pa_cons (pe_ix ix_tup (pv 4) pe_int (fun _ _ => rfl)) (pa_cons (pe_ix ix_tup (pv 4) pe_int (fun _ _ => rfl)) (pa_cons (pv 3) pa_nil)))) (pa_cons (pe_tup (pa_cons (pv 1) (pa_cons (pe_call (ok_writtenP T D8) hr6 (by rfl) D8.g D8.F.kp D8.b .nil pass0 (pa_cons (pv 1) (pa_cons (pv 2) pa_nil))) pa_nil))) pa_nil))))) (pss_one (ps_ret pe_bl)) pss_nil)
      (pss_cons (ps_asg (pe_call (ok_lclass T D6) hr1 (by rfl) D6.g D6.F.kp D6.b .nil pass0 (pa_cons (pv 1) (pa_cons (pv 2) pa_nil))) (pg_tup (by rfl) (pgs_cons (pg_name (i := 5) scLFlippedRight.nd rfl (.inl rfl)) (pgs_cons (pg_name (i := 6) scLFlippedRight.nd rfl (.inl rfl)) pgs_nil))))
      (pss_cons (ps_asg (pe_call (ok_class_of T D5) hr6 (by rfl) D5.g D5.F.kp D5.b .nil pass0 (pa_cons (pe_ix ix_tup (pv 4) pe_int (fun _ _ => rfl)) (pa_cons (pe_ix ix_tup (pv 4) pe_int (fun _ _ => rfl)) pa_nil))) (pg_tup (by rfl) (pgs_cons (pg_name (i := 7) scLFlippedRight.nd rfl (.inl rfl)) (pgs_cons (pg_name (i := 8) scLFlippedRight.nd rfl (.inl rfl)) pgs_nil))))
      (pss_cons (ps_if (PW.pt (pw_or (pt_cmpR op_ne (pv 7) (pv 5) (nomark _))
          (pw_or1 (pt_cmpR (op_neD hr.units) (pv 8) (pe_op op_catE (pe_op op_catE (pe_slice sl_tupE (pv 6) po_none (po_some (pv 3))) (pe_tup (pa_cons (pe_op op_mod (pe_op op_sub pe_int (pe_ix ix_tup (pv 6) (pv 3) (fun _ _ => rfl))) (pe_ix ix_tup (pe_ix ix_tup (pv 1) (pv 3) (fun _ _ => rfl)) pe_int (fun _ _ => rfl))) pa_nil))) (pe_slice sl_tupE (pv 6) (po_some (pe_op op_add (pv 3) pe_int)) po_none)) (nomark _))))) (pss_one (ps_ret pe_bl)) pss_nil)
      (pss_cons (ps_if (PW.pt (pw_or (pt_cmpR (op_neD hr.units) (pe_call (ok_heap_of T D4) hr6 (by rfl) D4.g D4.F.kp D4.b .nil pass0 (pa_cons (pv 1) (pa_cons (pv 6) pa_nil))) (pe_call (ok_heap_of T D4) hr6 (by rfl) D4.g D4.F.kp D4.b .nil pass0 (pa_cons (pe_ix ix_tup (pv 4) pe_int (fun _ _ => rfl)) (pa_cons (pv 8) pa_nil))) (nomark _))
          (pw_or1 (pt_cmpR op_ne (pe_call (ok_richness T D3) hr7 (by rfl) D3.g D3.F.kp D3.b .nil pass0 (pa_cons (pv 1) (pa_cons (pv 2) pa_nil))) (pe_call (ok_richness T D3) hr7 (by rfl) D3.g D3.F.kp D3.b .nil pass0 (pa_cons (pe_ix ix_tup (pv 4) pe_int (fun _ _ => rfl)) (pa_cons (pe_ix ix_tup (pv 4) pe_int (fun _ _ => rfl)) pa_nil))) (nomark _))))) (pss_one (ps_ret pe_bl)) pss_nil)
      (pss_cons (ps_par (i := 9) (j := 10) (by rfl) scLFlippedRight.nd rfl rfl (by decide) rfl rfl (pa_cons (pe_op op_sub (pe_call (ok_roll T D2) hr1 (by rfl) D2.g D2.F.kp D2.b .nil pass0 (pa_cons (pv 0) (pa_cons pe_int pa_nil))) pe_int) (pa_cons (pe_op op_sub (pe_op op_sub (pe_call (ok_roll T D2) hr1 (by rfl) D2.g D2.F.kp D2.b .nil pass0 (pa_cons (pv 0) (pa_cons pe_int pa_nil))) pe_int) (pv 5)) pa_nil)) (by rfl))
      (pss_one (ps_ret (pe_cmpR op_eq (pe_call (ok_end_table T D1) hr9 (by rfl) D1.g D1.F.kp D1.b .nil pass0 (pa_cons (pv 1) (pa_cons (pv 5) (pa_cons (pv 6) (pa_cons (pv 9) (pa_cons (pv 10) pa_nil)))))) (pe_call (ok_end_table T D1) hr9 (by rfl) D1.g D1.F.kp D1.b .nil pass0 (pa_cons (pe_ix ix_tup (pv 4) pe_int (fun _ _ => rfl)) (pa_cons (pv 7) (pa_cons (pv 8) (pa_cons (pv 9) (pa_cons (pv 10) pa_nil)))))) (nomark _)))))))))))), ?_⟩
    have hlen : xs.length = rs.length := paired_len hR0
    have rok : RsOk rs rs.length := fun j hj => rings_ok hR0 j hj
    have tle := sf_one_le da
    refine ⟨_, rfl, _, rfl, c, _, rfl, .inr (SqT.of hc0), d, _, rfl, hd0, by omega, by omega, fun g0 H0 g1 g2 hd k0 => ?_⟩
    obtain ⟨k, rfl⟩ : ∃ k : Nat, g0 = (k : Int) := ⟨g0.toNat, by omega⟩
    have hk : k < xs.length := by omega
    have hkr : k < rs.length := by omega
    have hc := k0.tup hd0 hc0
    have hR := hR0.keep k0 hd0
    have ha : DealAt H0 a ds := k0.deal hd0 ha0
    have rokf : RsOk (flR rs k) (flR rs k).length := ok_fl hkr rok
    have sfl : ∀ j, j < (flR rs k).length → 1 ≤ K1N.sAt (flR rs k) j := fun j hj => (rokf j hj).1
    have ffl : flR (flR rs k) k = rs := flR_fl hkr (by
      obtain ⟨x, hx, tt, rfl, ht, n1, n2, n3, n4⟩ := rings_nth hR hkr
      unfold K1N.nAt at n1
      omega)
    -- due
    refine ⟨_, rfl, _, rfl, _, rfl, c, a, xs, rs, ds, _, k, rfl, hc, hR, hl, hk, ha, da, by omega, fun t b xb r H1 res e1 ht hb hRb hr dr lr sr cr => ?_⟩
    have hc1 := e1 _ _ hc
    have hR1 := rings_ex4 e1 hR
    have ha1 := e1 _ _ ha
    refine ⟨_, rfl, _, rfl, _, rfl, c, a, xs, rs, ds, _, k, rfl, hc1, hR1, hl, hk, ha1, da, by decide, fun t2 b2 xb2 r2 H2 res2 e2 ht2 hb2 hRb2 hr2 dr2 lr2 sr2 cr2 => ?_⟩
    have same1 : res2 = res := canon_eq sfl cr2 cr fun f hf => by rw [sr2 f hf, sr f hf]
    rw [same1] at hr2
    refine ⟨_, rfl, t2, t, b2, r2, b, r, _, _, flR rs k, res, rfl, ht2, e2 _ _ ht, hb2, hRb2, e2 _ _ hb, rings_ex4 e2 hRb, hr2, e2 _ _ hr, fun H3 e3 => ?_⟩
    refine ⟨true, rfl, iteF ?_⟩
    have e13 := e2.trans e3
    have ht3 := e13 _ _ ht
    have hb3 := e13 _ _ hb
    have hRb3 := rings_ex4 e13 hRb
    have hr3 : DealAt H3 r res := e13 _ _ hr
    have lfl : 1 ≤ (xs.set k xb).length ∧ (xs.set k xb).length ≤ 12 := by rw [List.length_set]; exact hl
    -- twice
    refine ⟨_, rfl, t, _, 0, _, rfl, rfl, SqT.of ht3, rfl, _, rfl, t, _, 1, _, rfl, rfl, SqT.of ht3, rfl, _, rfl, b, r, _, _, res, _, k, rfl, hb3, hRb3, lfl, by rw [List.length_set]; exact hk, hr3, dr, by decide, fun t4 b4 xb4 r4 H4 res4 e4 ht4 hb4 hRb4 hr4 dr4 lr4 sr4 cr4 => ?_⟩
    rw [ffl] at hRb4 cr4 sr4
    have e14 := e13.trans e4
    refine ⟨_, rfl, _, rfl, _, rfl, c, a, xs, rs, ds, _, rfl, e14 _ _ hc1, rings_ex4 e14 hR1, hl, e14 _ _ ha1, da, by decide, fun wr H5 ww e5 hwr dwr lwr wrS cwr => ?_⟩
    have same2 : res4 = ww := canon_eq (fun j hj => (rok j hj).1) cr4 cwr fun f hf => by
      have h1 := nl_fl (rs := flR rs k) (k := k) (f := f) (by rw [flR_len]; exact hkr) rokf (by rw [ffl]; exact hf)
      rw [sr4 f hf, wrS f hf, mapD_sf, sr _ h1, mapD_sf]
      exact Sf_congr fun e he => by rw [flP_fl hkr (da.keys e he)]
    rw [same2] at hr4
    refine ⟨by show 2 ≤ sizeLine; decide, fun t5 ht5 => ?_⟩
    have x5 := Ex.new (o := .tup [.ref c, .ref wr]) ht5
    have e15 := (e14.trans e5).trans x5
    have e5x := e5.trans x5
    refine ⟨t4, t5, b4, r4, c, wr, _, xs, rs, ww, rfl, e5x _ _ ht4, upd_same, e5x _ _ hb4, rings_ex4 e5x hRb4, e15 _ _ hc1, rings_ex4 e15 hR1, e5x _ _ hr4, x5 _ _ hwr, fun H6 e6 => ?_⟩
    refine ⟨true, rfl, iteF ?_⟩
    -- classes
    have e16 := e15.trans e6
    have e36 : Ex H3 H6 := (e4.trans e5x).trans e6
    have cb := class_fl hkr da.keys sr
    have psok : PlOk rs (cx rs fun i => Sf (tau rs i) ds) := cx_ok hR _
    have psl : (cx rs fun i => Sf (tau rs i) ds).length = rs.length := cx_len _ _
    refine ⟨_, rfl, _, rfl, c, a, xs, rs, ds, _, rfl, e16 _ _ hc1, rings_ex4 e16 hR1, hl.2, e16 _ _ ha1, da, fun r1 H9 e9 q1 => ?_⟩
    obtain ⟨t1, x, er, ht1, hx⟩ := id q1
    cases er
    refine ⟨r1, _, rfl, SqT.of ht1, rfl, .int _, [_], rfl, .ref x, [], rfl, rfl, ?_⟩
    have e19 := e16.trans e9
    have e39 := e36.trans e9
    refine ⟨_, rfl, t, _, 0, _, rfl, rfl, SqT.of (e39 _ _ ht3), rfl, _, rfl, t, _, 1, _, rfl, rfl, SqT.of (e39 _ _ ht3), rfl, b, r, _, _, res, _, rfl, e39 _ _ hb3, rings_ex4 e39 hRb3, lfl, e39 _ _ hr3, dr, by decide, fun r3 H10 e10 q3 => ?_⟩
    unfold CL at q3
    rw [cb.1, cb.2] at q3
    obtain ⟨t3, y, er3, ht3', hy⟩ := id q3
    cases er3
    refine ⟨r3, _, rfl, SqT.of ht3', rfl, .int _, [_], rfl, .ref y, [], rfl, rfl, ?_⟩
    have e1a := e19.trans e10
    have e3a := e39.trans e10
    have Ca : ClsAt H10 c x xs rs (cx rs fun i => Sf (tau rs i) ds) (Sf one ds) := ⟨e1a _ _ hc1, rings_ex4 e1a hR1, hl.1, hl.2, e10 _ _ hx, by rw [cx_len, hlen], psok, by omega⟩
    have Cb : ClsAt H10 b y (xs.set k xb) (flR rs k) (flx rs k (cx rs fun i => Sf (tau rs i) ds)) (Sf one ds) := ⟨e3a _ _ hb3, rings_ex4 e3a hRb3, lfl.1, lfl.2, hy, by rw [flx_len, cx_len, List.length_set, hlen], flx_ok psl hkr rok psok, by omega⟩
    have hta := e3a _ _ ht3
    have haa := e1a _ _ ha1
    have hra := e3a _ _ hr3
    have hda := hd.ex (e1.trans e1a)
    have rr1 : rich1 (flR rs k) (cx (flR rs k) fun i => Sf (tau (flR rs k) i) res) (Sf one res) = rich1 rs (cx rs fun i => Sf (tau rs i) ds) (Sf one ds) := by
      rw [cb.1, cb.2, rich_fl psl hkr]
    have kk : ∀ Hz, Dice Hz d → Keep d H10 Hz → Q (.bl true) Hz := fun Hz z1 z2 => q Hz z1 ((k0.trans (Keep.ex (e1.trans e1a))).trans z2)
    generalize hps : (cx rs fun i => Sf (tau rs i) ds) = ps at *
    generalize htot : Sf one ds = tot at *
    have hps2 : ps.length = rs.length := psl
    refine ⟨_, rfl, _, rfl, rfl, _, rfl, iteF' (by rw [decide_eq_true rfl]; rfl) ?_⟩
    have hxa : H10 x = some (.tup (ps.map V.int)) := Ca.hx
    obtain ⟨x0, hx0, tt, rfl, htt, n1, n2, n3, n4⟩ := rings_nth Ca.hR hkr
    have hkp : k < ps.length := by omega
    refine ⟨_, rfl, _, rfl, _, rfl, (k : Int), rfl, x, _, rfl, hxa, fun p1 I1 f1 h1 => ?_⟩
    refine ⟨_, rfl, _, rfl, x, _, (k : Int), .int (ps.getD k 0), rfl, rfl, SqT.of (f1 _ _ hxa), at_of rfl (int_at hkp), _, _, rfl, rfl, ?_⟩
    refine ⟨_, rfl, _, rfl, c, xs, (k : Int), .ref tt, rfl, rfl, SqT.of (f1 _ _ Ca.hc), at_of rfl hx0, tt, _, 0, _, rfl, rfl, SqT.of (f1 _ _ htt), rfl, _, _, rfl, rfl, by omega, by show 1 ≤ sizeLine; decide, fun p2 hp2 => ?_⟩
    have y2 := Ex.new (o := .tup [.int ((0 - ps.getD k 0) % (K1N.nAt rs k : Int))]) hp2
    have pml : (ps.map V.int).length ≤ 12 := by rw [List.length_map]; omega
    refine ⟨p1, p2, _, _, rfl, rfl, y2 _ _ h1, upd_same, ?_, fun p3 I3 f3 h3 => ?_⟩
    · have := cutV_length (ps.map V.int) none (some (k : Int))
      show (cutV (ps.map V.int) none (some (k : Int))).length + 1 ≤ _
      exact Nat.le_trans (Nat.add_le_add_right this 1) (small1000 (by omega))
    have f03 := (f1.trans y2).trans f3
    refine ⟨_, rfl, _, rfl, _, _, rfl, rfl, (k : Int) + 1, rfl, x, _, rfl, f03 _ _ hxa, fun p4 I4 f4 h4 => ?_⟩
    refine ⟨p3, p4, _, _, rfl, rfl, f4 _ _ h3, h4, ?_, fun p5 I5 f5 h5 => ?_⟩
    · have a1 := cutV_length (ps.map V.int) none (some (k : Int))
      have a2 := cutV_length (ps.map V.int) (some ((k : Int) + 1)) none
      rw [List.length_append, List.length_singleton]
      exact Nat.le_of_lt (small1000 (by omega))
    rw [cut_set (by rw [List.length_map]; exact hkp) (by omega)] at h5
    have f05 := (f03.trans f4).trans f5
    have h5' : I5 p5 = some (.tup ((flx rs k ps).map V.int)) := by
      rw [h5]
      unfold flx
      rw [List.map_set]
    refine ne_ints (f05 _ _ hy) h5' rfl ⟨false, rfl, iteF ?_⟩
    -- heaps
    have C5 := Ca.ex f05
    have D5 := Cb.ex f05
    have ht5' := f05 _ _ hta
    refine ⟨_, rfl, _, rfl, c, x, xs, rs, ps, rfl, C5.hc, C5.hR, hl, C5.hx, C5.len, C5.pl, fun hp I6 f6 hh6 => ?_⟩
    refine ⟨_, rfl, t, _, 0, _, rfl, rfl, SqT.of (f6 _ _ ht5'), rfl, _, rfl, b, y, xs.set k xb, flR rs k, flx rs k ps, rfl, f6 _ _ D5.hc, rings_ex4 f6 D5.hR, lfl, f6 _ _ D5.hx, D5.len, D5.pl, fun hp2 I7 f7 hh7 => ?_⟩
    refine ne_heap (f7 _ _ hh6) hh7 (by rw [hseq_fl hps2 hkr, List.length_set]) ⟨false, rfl, iteF ?_⟩
    have f67 := f6.trans f7
    have f07 := f05.trans f67
    refine ⟨_, rfl, _, rfl, c, a, xs, rs, ds, rfl, f07 _ _ Ca.hc, rings_ex4 f07 Ca.hR, hl, f07 _ _ haa, da.mono (by decide), fun I8 f8 => ?_⟩
    have f08 := f07.trans f8
    refine ⟨_, rfl, t, _, 0, _, rfl, rfl, SqT.of (f08 _ _ hta), rfl, _, rfl, t, _, 1, _, rfl, rfl, SqT.of (f08 _ _ hta), rfl, b, r, _, _, res, rfl, f08 _ _ Cb.hc, rings_ex4 f08 Cb.hR, lfl, f08 _ _ hra, dr.mono (by decide), fun I9 f9 => ?_⟩
    refine ⟨rfl, _, rfl, iteF' (by rw [rr1, hps, htot, decide_eq_true rfl]; rfl) ?_⟩
    have f09 := f08.trans f9
    have hdz := hda.ex f09
    have Cz := Ca.ex f09
    have Dz := Cb.ex f09
    have htz := f09 _ _ hta
    refine ⟨_, rfl, d, _, rfl, hdz, by decide, by decide, fun z1 Ja a1 a2 hdb k1 => ?_⟩
    refine ⟨_, _, rfl, rfl, _, rfl, d, _, rfl, hdb, by decide, by decide, fun z2 Jb b1 b2 hdc k2 => ?_⟩
    have k12 := k1.trans k2
    have Cy := Cz.keep hdz k12
    have Dy := Dz.keep hdz k12
    have hty := k12.tup hdz htz
    refine ⟨_, _, rfl, rfl, _, rfl, _, _, rfl, rfl, _, _, rfl, ?_⟩
    refine ⟨_, rfl, _, rfl, _, rfl, _, rfl, _, rfl, c, x, xs, rs, ps, tot, _, _, rfl, Cy, by omega, by omega, fun Jd e21 => ?_⟩
    refine ⟨_, rfl, t, _, 0, _, rfl, rfl, SqT.of (e21 _ _ hty), rfl, _, rfl, _, rfl, _, rfl, _, rfl, b, y, xs.set k xb, flR rs k, flx rs k ps, tot, _, _, rfl, Dy.ex e21, by omega, by omega, fun Je e22 => ?_⟩
    refine ⟨rfl, ?_⟩
    rw [hh_fl hps2 hkr, decide_eq_true rfl]
    have e2 := e21.trans e22
    exact kk _ (hdc.ex e2) (((Keep.ex f09).trans k12).trans (Keep.ex e2))
theorem rings_le {H : Hp} {m m' : Int} {xs : List V} {rs : List (Int × Int)} (h : m ≤ m') (r : RingsAt H m xs rs) : RingsAt H m' xs rs := paired_imp (fun _ _ z => by
  obtain ⟨t, e, ht, b1, b2, b3, b4⟩ := z
  exact ⟨t, e, ht, b1, by omega, b3, b4⟩) r
theorem sql_keep {K : PySem.W.Frag} {H H1 H2 : Hp} {p a : Addr} {xs : List V} (h0 : H p = none) (e : Ex H H1) (k : Keep p H1 H2) (h : SqL K H a xs) : SqL K H2 a xs := by
  rcases h with (h | ⟨o, h⟩) | h
  · exact .inl (.inl (k _ _ (ne_of_none h h0) (e _ _ h)))
  · exact .inl (.inr ⟨o, k _ _ (ne_of_none h h0) (e _ _ h)⟩)
  · exact .inr h
def spRight : Sp := fun vs H Q _ => ∃ d, vs = [.ref d] ∧ Dice H d ∧ ∀ H', Dice H' d → Keep d H H' → Q (.bl true) H'
theorem ok_right (T : Txt K mg) {f : Addr} {fd : FuncData} (D : DefAt K mg "_law_right" sLRight ["_law_dice_here"] f fd) : FnOk P w K mg base CX0 11 f fd ["_law_dice_here"] spRight := by
  refine D.F.ok scLRight (fun vs H Q E h => ?_) (fun cdv A outer s₀ H vs Q E hr h => ?_)
  · obtain ⟨d, rfl, _⟩ := h
    rfl
  · obtain ⟨d, rfl, hd, q⟩ := h
    obtain ⟨f1, fd1, D1⟩ := T.d_l_flipped_right
    obtain ⟨f2, fd2, D2⟩ := T.d_l_backward_right
    obtain ⟨f3, fd3, D3⟩ := T.d_l_deal
    obtain ⟨f4, fd4, D4⟩ := T.d_l_chain
    obtain ⟨f5, fd5, D5⟩ := T.d_l_one_of
    obtain ⟨f6, fd6, D6⟩ := T.d_l_roll
    have hr1 : Room 1 _ := hr.mono (by decide)
    have hr2 : Room 2 _ := hr.mono (by decide)
    have hr4 : Room 4 _ := hr.mono (by decide)
    have hr10 : Room 10 _ := hr.mono (by decide)
    refine ⟨_, pss_cons (ps_set (i := 1) scLRight.nd rfl (.inl rfl) (pe_call (ok_chain T D4) hr4 (by rfl) D4.g D4.F.kp D4.b .nil pass0 (pa_cons (pv 0) (pa_cons (pe_op op_add pe_int (pe_call (ok_roll T D6) hr1 (by rfl) D6.g D6.F.kp D6.b .nil pass0 (pa_cons (pv 0) (pa_cons pe_int pa_nil)))) (pa_cons (pe_call (ok_one_of T D5) hr2 (by rfl) D5.g D5.F.kp D5.b .nil pass0 (pa_cons (pv 0) (pa_cons (pe_lst (pa_cons pe_int (pa_cons pe_int (pa_cons pe_int pa_nil)))) pa_nil))) pa_nil)))))
      (pss_cons (ps_set (i := 2) scLRight.nd rfl (.inl rfl) (pe_call (ok_deal T D3) hr2 (by rfl) D3.g D3.F.kp D3.b .nil pass0 (pa_cons (pv 0) (pa_cons (pv 1) (pa_cons pe_int pa_nil)))))
      (pss_one (ps_ret (pe_and (pe_call (ok_lbright T D2) hr10 (by rfl) D2.g D2.F.kp D2.b .nil pass0 (pa_cons (pv 0) (pa_cons (pv 1) (pa_cons (pv 2) pa_nil)))) (pe_one (pe_call (ok_lfright T D1) hr10 (by rfl) D1.g D1.F.kp D1.b .nil pass0 (pa_cons (pv 0) (pa_cons (pv 1) (pa_cons (pv 2) pa_nil))))))))), ?_⟩
    refine ⟨_, rfl, _, rfl, d, _, rfl, hd, by decide, by decide, fun g0 H1 g1 g2 hd1 k1 => ?_⟩
    refine ⟨_, _, rfl, rfl, ?_⟩
    refine ⟨_, rfl, by show 3 ≤ sizeLine; decide, fun la hla => ?_⟩
    have eL := Ex.new (o := .lst [V.int 4, V.int 7, V.int 12]) hla
    refine ⟨d, la, _, rfl, hd1.ex eL, upd_same, (hd1.ne_new hla).symm, by decide, by decide, fun mo H2 hmo hd2 k2 => ?_⟩
    have hm : ∃ most : Int, mo = .int most ∧ 2 ≤ most ∧ most ≤ 60 := by
      rcases List.mem_cons.mp hmo with e | hmo
      · exact ⟨4, e, by decide, by decide⟩
      · rcases List.mem_cons.mp hmo with e | hmo
        · exact ⟨7, e, by decide, by decide⟩
        · rcases List.mem_cons.mp hmo with e | hmo
          · exact ⟨12, e, by decide, by decide⟩
          · cases hmo
    obtain ⟨most, rfl, m1, m2⟩ := hm
    refine ⟨d, _, _, rfl, hd2, by omega, by omega, m1, m2, fun c xs rs H3 hc hR0 hl hd3 k3 => ?_⟩
    have hR := rings_le m2 hR0
    have hlen : xs.length = rs.length := paired_len hR
    have hl1 : 1 ≤ xs.length ∧ xs.length ≤ 12 := by omega
    have k13 : Keep d H H3 := ((k1.trans (Keep.ex eL)).trans k2).trans k3
    refine ⟨_, rfl, _, rfl, d, c, xs, rs, 3, rfl, hd3, hc, hR, hl1.2, by decide, by decide, fun a H4 ds ha da la ndl hd4 k4 => ?_⟩
    have hc4 := k4.tup hd3 hc
    have hR4 : RingsAt H4 60 xs rs := hR.keep k4 hd3
    have k14 := k13.trans k4
    have da2 : DOk rs ds 1000 := da.mono (by decide)
    refine ⟨_, rfl, _, rfl, _, rfl, d, c, a, xs, rs, ds, rfl, hd4, hc4, hR4, hl1, ha, da2, by omega, fun H5 hd5 k5 => ⟨true, rfl, iteT ?_⟩⟩
    refine ⟨_, rfl, _, rfl, _, rfl, d, c, a, xs, rs, ds, rfl, hd5, k5.tup hd4 hc4, hR4.keep k5 hd4, hl1, k5.deal hd4 ha, da2, by omega, fun H6 hd6 k6 => ?_⟩
    exact q _ hd6 ((k14.trans k5).trans k6)
def spLaw (K : PySem.W.Frag) : Sp := fun vs H Q _ => ∃ (a : Addr) (ns : List Int), vs = [.ref a] ∧ SqL K H a (ns.map V.int) ∧ ns.length ≤ 63 ∧ ∀ H', Q (.bl true) H'
theorem ok_law (T : Txt K mg) {f : Addr} {fd : FuncData} (F : Fun K "law" "law" sLaw f fd) : FnOk P w K mg base CX0 12 f fd ["_law_script"] (spLaw K) := by
  refine F.ok scLaw (fun vs H Q E h => ?_) (fun cdv A outer s₀ H vs Q E hr h => ?_)
  · obtain ⟨a, ns, rfl, _⟩ := h
    rfl
  · obtain ⟨a, ns, rfl, hS, hlen, q⟩ := h
    obtain ⟨f1, fd1, D1⟩ := T.d_l_right
    obtain ⟨f2, fd2, D2⟩ := T.d_l_dice
    have hr1 : Room 1 _ := hr.mono (by decide)
    have hr11 : Room 11 _ := hr.mono (by decide)
    refine ⟨_, pss_cons (ps_for PassesOwn.never rfl (pi_range1 (by rfl) T.z_range (pa_cons (pe_callB (call_max2 rfl) (by rfl) T.z_max (by decide +kernel) (pa_cons pe_int (pa_cons (pe_callB (call_min2 rfl) (by rfl) T.z_min (by decide +kernel) (pa_cons pe_int (pa_cons (pe_callB call_len_seq (by rfl) T.z_len PySem.boot_len (pa_cons (pv 0) pa_nil)) pa_nil))) pa_nil))) pa_nil)) (pg_name (i := 1) scLaw.nd rfl (.inl rfl))
        (pss_one (ps_if (pt_not (pt_val (pe_call (ok_right T D1) hr11 (by rfl) D1.g D1.F.kp D1.b .nil pass0 (pa_cons (pe_call (ok_dice T D2) hr1 (by rfl) D2.g D2.F.kp D2.b .nil pass0 (pa_cons (pv 0) (pa_cons (pv 1) pa_nil))) pa_nil)))) (pss_one (ps_ret pe_bl)) pss_nil)))
      (pss_one (ps_ret pe_bl)), ?_⟩
    refine ⟨_, rfl, a, _, rfl, .inl hS, 4, _, rfl, 1, _, rfl, _, rfl, ?_, ?_, for_range (lo := 0) (n := Int.toNat _) (fun i σ' H' => ∃ y1, σ' = [some (.ref a), y1] ∧ SqL K H' a (ns.map V.int)) ⟨none, rfl, hS⟩ (fun i σ' H' _ hp => ?_) (fun σ' H' hp => ?_)⟩
    · split <;> split <;> omega
    · rw [List.length_map]
      split <;> split <;> omega
    · obtain ⟨y1, rfl, hS'⟩ := hp
      refine ⟨_, rfl, _, rfl, a, ns, i, ?_, hS', fun p H1 hp0 e1 hd1 => ?_⟩
      · rw [Int.zero_add]
        rfl
      refine ⟨p, rfl, hd1, fun H2 hd2 k2 => ⟨true, rfl, iteF ⟨_, rfl, ?_⟩⟩⟩
      exact sql_keep hp0 e1 k2 hS'
    · exact q _
end
end K1

namespace K1
open PySem PySem.Spec PyProof.Rows L2
/-- what a def of the text leaves -/
theorem mk_def {K : PySem.W.Frag} {h : Heap} {mg : Str → Option Value} {x : Str} {st : Stmt} {ps : List Str} {f : Addr} {oc : Value} {od an : Option Addr} {osl : Array (Option Value)} {kV doc pm cdv ct : Value} (X : K.In h) (G : h.Ns mainGlobals mg)
    (a : PySem.W.nsIn K mainGlobals x = some (some (.ref f))) (l : K.lookup f = some ⟨oc, od, .func (PySem.W.fnOf x x (defArgs st) (defBody st) (defScope st) .none kV doc pm an cdv ct), osl⟩) (c : PySem.W.codeIn K cdv x = true) (k : PySem.W.keepIn K (.ref f) = true)
    (b : ∀ (kV doc pm : Value) (an : Option Addr) (cdv ct : Value) (us : List Value), us.length = ps.length → bindArgs (PySem.W.fnOf x x (defArgs st) (defBody st) (defScope st) .none kV doc pm an cdv ct) ⟨us, []⟩ = pure (ps.zip us)) :
    ∃ f fd, DefAt K mg x st ps f fd := ⟨f, _, ⟨fun_mk (st := st) l c k, PySem.W.mg_of X G a, (fun_mk (st := st) l c k).binds b⟩⟩
theorem all_mk {P : Program} {w : World} {K : PySem.W.Frag} {h : Heap} {mg : Str → Option Value} {fa : Addr} (X : K.In h) (G : h.Ns mainGlobals mg) (hfa : mg "law" = some (.ref fa)) (vBOUND : ∃ t, mg "BOUND" = some (.int (10 ^ 60) t))
    {tDIGITS tRINGS tPLACES : Tok} (gDIGITS : PySem.W.nsIn K mainGlobals "DIGITS" = some (some (.int 60 tDIGITS))) (gRINGS : PySem.W.nsIn K mainGlobals "MOST_RINGS" = some (some (.int 12 tRINGS))) (gPLACES : PySem.W.nsIn K mainGlobals "MOST_PLACES" = some (some (.int 60 tPLACES))) (bgcd : PySem.W.nsIn K mainGlobals "gcd" = some (some (.builtin "math.gcd")))
    (z_abs : PySem.W.nsIn K mainGlobals "abs" = some none) (z_all : PySem.W.nsIn K mainGlobals "all" = some none) (z_bool : PySem.W.nsIn K mainGlobals "bool" = some none) (z_dict : PySem.W.nsIn K mainGlobals "dict" = some none) (z_enumerate : PySem.W.nsIn K mainGlobals "enumerate" = some none) (z_int : PySem.W.nsIn K mainGlobals "int" = some none) (z_isinstance : PySem.W.nsIn K mainGlobals "isinstance" = some none) (z_len : PySem.W.nsIn K mainGlobals "len" = some none) (z_list : PySem.W.nsIn K mainGlobals "list" = some none) (z_max : PySem.W.nsIn K mainGlobals "max" = some none) (z_min : PySem.W.nsIn K mainGlobals "min" = some none) (z_range : PySem.W.nsIn K mainGlobals "range" = some none) (z_reversed : PySem.W.nsIn K mainGlobals "reversed" = some none) (z_sorted : PySem.W.nsIn K mainGlobals "sorted" = some none) (z_sum : PySem.W.nsIn K mainGlobals "sum" = some none) (z_tuple : PySem.W.nsIn K mainGlobals "tuple" = some none) (z_zip : PySem.W.nsIn K mainGlobals "zip" = some none)
    {f0 : Addr} {oc0 : Value} {od0 an0 : Option Addr} {sl0 : Array (Option Value)} {kV0 dc0 pm0 cd0 ct0 : Value}
    (a0 : PySem.W.nsIn K mainGlobals "is_integer" = some (some (.ref f0))) (l0 : K.lookup f0 = some ⟨oc0, od0, .func (PySem.W.fnOf "is_integer" "is_integer" (defArgs sIsInteger) (defBody sIsInteger) (defScope sIsInteger) .none kV0 dc0 pm0 an0 cd0 ct0), sl0⟩) (c0 : PySem.W.codeIn K cd0 "is_integer" = true) (k0 : PySem.W.keepIn K (.ref f0) = true)
    {f1 : Addr} {oc1 : Value} {od1 an1 : Option Addr} {sl1 : Array (Option Value)} {kV1 dc1 pm1 cd1 ct1 : Value}
    (a1 : PySem.W.nsIn K mainGlobals "is_between" = some (some (.ref f1))) (l1 : K.lookup f1 = some ⟨oc1, od1, .func (PySem.W.fnOf "is_between" "is_between" (defArgs sIsBetween) (defBody sIsBetween) (defScope sIsBetween) .none kV1 dc1 pm1 an1 cd1 ct1), sl1⟩) (c1 : PySem.W.codeIn K cd1 "is_between" = true) (k1 : PySem.W.keepIn K (.ref f1) = true)
    {f2 : Addr} {oc2 : Value} {od2 an2 : Option Addr} {sl2 : Array (Option Value)} {kV2 dc2 pm2 cd2 ct2 : Value}
    (a2 : PySem.W.nsIn K mainGlobals "is_pair" = some (some (.ref f2))) (l2 : K.lookup f2 = some ⟨oc2, od2, .func (PySem.W.fnOf "is_pair" "is_pair" (defArgs sIsPair) (defBody sIsPair) (defScope sIsPair) .none kV2 dc2 pm2 an2 cd2 ct2), sl2⟩) (c2 : PySem.W.codeIn K cd2 "is_pair" = true) (k2 : PySem.W.keepIn K (.ref f2) = true)
    {f3 : Addr} {oc3 : Value} {od3 an3 : Option Addr} {sl3 : Array (Option Value)} {kV3 dc3 pm3 cd3 ct3 : Value}
    (a3 : PySem.W.nsIn K mainGlobals "check_integer" = some (some (.ref f3))) (l3 : K.lookup f3 = some ⟨oc3, od3, .func (PySem.W.fnOf "check_integer" "check_integer" (defArgs sCheckInteger) (defBody sCheckInteger) (defScope sCheckInteger) .none kV3 dc3 pm3 an3 cd3 ct3), sl3⟩) (c3 : PySem.W.codeIn K cd3 "check_integer" = true) (k3 : PySem.W.keepIn K (.ref f3) = true)
    {f4 : Addr} {oc4 : Value} {od4 an4 : Option Addr} {sl4 : Array (Option Value)} {kV4 dc4 pm4 cd4 ct4 : Value}
    (a4 : PySem.W.nsIn K mainGlobals "check_between" = some (some (.ref f4))) (l4 : K.lookup f4 = some ⟨oc4, od4, .func (PySem.W.fnOf "check_between" "check_between" (defArgs sCheckBetween) (defBody sCheckBetween) (defScope sCheckBetween) .none kV4 dc4 pm4 an4 cd4 ct4), sl4⟩) (c4 : PySem.W.codeIn K cd4 "check_between" = true) (k4 : PySem.W.keepIn K (.ref f4) = true)
    {f5 : Addr} {oc5 : Value} {od5 an5 : Option Addr} {sl5 : Array (Option Value)} {kV5 dc5 pm5 cd5 ct5 : Value}
    (a5 : PySem.W.nsIn K mainGlobals "check_digits" = some (some (.ref f5))) (l5 : K.lookup f5 = some ⟨oc5, od5, .func (PySem.W.fnOf "check_digits" "check_digits" (defArgs sCheckDigits) (defBody sCheckDigits) (defScope sCheckDigits) .none kV5 dc5 pm5 an5 cd5 ct5), sl5⟩) (c5 : PySem.W.codeIn K cd5 "check_digits" = true) (k5 : PySem.W.keepIn K (.ref f5) = true)
    {f6 : Addr} {oc6 : Value} {od6 an6 : Option Addr} {sl6 : Array (Option Value)} {kV6 dc6 pm6 cd6 ct6 : Value}
    (a6 : PySem.W.nsIn K mainGlobals "is_ring" = some (some (.ref f6))) (l6 : K.lookup f6 = some ⟨oc6, od6, .func (PySem.W.fnOf "is_ring" "is_ring" (defArgs sIsRing) (defBody sIsRing) (defScope sIsRing) .none kV6 dc6 pm6 an6 cd6 ct6), sl6⟩) (c6 : PySem.W.codeIn K cd6 "is_ring" = true) (k6 : PySem.W.keepIn K (.ref f6) = true)
    {f7 : Addr} {oc7 : Value} {od7 an7 : Option Addr} {sl7 : Array (Option Value)} {kV7 dc7 pm7 cd7 ct7 : Value}
    (a7 : PySem.W.nsIn K mainGlobals "is_chain" = some (some (.ref f7))) (l7 : K.lookup f7 = some ⟨oc7, od7, .func (PySem.W.fnOf "is_chain" "is_chain" (defArgs sIsChain) (defBody sIsChain) (defScope sIsChain) .none kV7 dc7 pm7 an7 cd7 ct7), sl7⟩) (c7 : PySem.W.codeIn K cd7 "is_chain" = true) (k7 : PySem.W.keepIn K (.ref f7) = true)
    {f8 : Addr} {oc8 : Value} {od8 an8 : Option Addr} {sl8 : Array (Option Value)} {kV8 dc8 pm8 cd8 ct8 : Value}
    (a8 : PySem.W.nsIn K mainGlobals "lies_on" = some (some (.ref f8))) (l8 : K.lookup f8 = some ⟨oc8, od8, .func (PySem.W.fnOf "lies_on" "lies_on" (defArgs sLiesOn) (defBody sLiesOn) (defScope sLiesOn) .none kV8 dc8 pm8 an8 cd8 ct8), sl8⟩) (c8 : PySem.W.codeIn K cd8 "lies_on" = true) (k8 : PySem.W.keepIn K (.ref f8) = true)
    {f9 : Addr} {oc9 : Value} {od9 an9 : Option Addr} {sl9 : Array (Option Value)} {kV9 dc9 pm9 cd9 ct9 : Value}
    (a9 : PySem.W.nsIn K mainGlobals "lies_dealt" = some (some (.ref f9))) (l9 : K.lookup f9 = some ⟨oc9, od9, .func (PySem.W.fnOf "lies_dealt" "lies_dealt" (defArgs sLiesDealt) (defBody sLiesDealt) (defScope sLiesDealt) .none kV9 dc9 pm9 an9 cd9 ct9), sl9⟩) (c9 : PySem.W.codeIn K cd9 "lies_dealt" = true) (k9 : PySem.W.keepIn K (.ref f9) = true)
    {f10 : Addr} {oc10 : Value} {od10 an10 : Option Addr} {sl10 : Array (Option Value)} {kV10 dc10 pm10 cd10 ct10 : Value}
    (a10 : PySem.W.nsIn K mainGlobals "check_ring" = some (some (.ref f10))) (l10 : K.lookup f10 = some ⟨oc10, od10, .func (PySem.W.fnOf "check_ring" "check_ring" (defArgs sCheckRing) (defBody sCheckRing) (defScope sCheckRing) .none kV10 dc10 pm10 an10 cd10 ct10), sl10⟩) (c10 : PySem.W.codeIn K cd10 "check_ring" = true) (k10 : PySem.W.keepIn K (.ref f10) = true)
    {f11 : Addr} {oc11 : Value} {od11 an11 : Option Addr} {sl11 : Array (Option Value)} {kV11 dc11 pm11 cd11 ct11 : Value}
    (a11 : PySem.W.nsIn K mainGlobals "check_chain" = some (some (.ref f11))) (l11 : K.lookup f11 = some ⟨oc11, od11, .func (PySem.W.fnOf "check_chain" "check_chain" (defArgs sCheckChain) (defBody sCheckChain) (defScope sCheckChain) .none kV11 dc11 pm11 an11 cd11 ct11), sl11⟩) (c11 : PySem.W.codeIn K cd11 "check_chain" = true) (k11 : PySem.W.keepIn K (.ref f11) = true)
    {f12 : Addr} {oc12 : Value} {od12 an12 : Option Addr} {sl12 : Array (Option Value)} {kV12 dc12 pm12 cd12 ct12 : Value}
    (a12 : PySem.W.nsIn K mainGlobals "check_deal" = some (some (.ref f12))) (l12 : K.lookup f12 = some ⟨oc12, od12, .func (PySem.W.fnOf "check_deal" "check_deal" (defArgs sCheckDeal) (defBody sCheckDeal) (defScope sCheckDeal) .none kV12 dc12 pm12 an12 cd12 ct12), sl12⟩) (c12 : PySem.W.codeIn K cd12 "check_deal" = true) (k12 : PySem.W.keepIn K (.ref f12) = true)
    {f13 : Addr} {oc13 : Value} {od13 an13 : Option Addr} {sl13 : Array (Option Value)} {kV13 dc13 pm13 cd13 ct13 : Value}
    (a13 : PySem.W.nsIn K mainGlobals "order_of" = some (some (.ref f13))) (l13 : K.lookup f13 = some ⟨oc13, od13, .func (PySem.W.fnOf "order_of" "order_of" (defArgs sOrderOf) (defBody sOrderOf) (defScope sOrderOf) .none kV13 dc13 pm13 an13 cd13 ct13), sl13⟩) (c13 : PySem.W.codeIn K cd13 "order_of" = true) (k13 : PySem.W.keepIn K (.ref f13) = true)
    {f14 : Addr} {oc14 : Value} {od14 an14 : Option Addr} {sl14 : Array (Option Value)} {kV14 dc14 pm14 cd14 ct14 : Value}
    (a14 : PySem.W.nsIn K mainGlobals "lets" = some (some (.ref f14))) (l14 : K.lookup f14 = some ⟨oc14, od14, .func (PySem.W.fnOf "lets" "lets" (defArgs sLets) (defBody sLets) (defScope sLets) .none kV14 dc14 pm14 an14 cd14 ct14), sl14⟩) (c14 : PySem.W.codeIn K cd14 "lets" = true) (k14 : PySem.W.keepIn K (.ref f14) = true)
    {f15 : Addr} {oc15 : Value} {od15 an15 : Option Addr} {sl15 : Array (Option Value)} {kV15 dc15 pm15 cd15 ct15 : Value}
    (a15 : PySem.W.nsIn K mainGlobals "written_name" = some (some (.ref f15))) (l15 : K.lookup f15 = some ⟨oc15, od15, .func (PySem.W.fnOf "written_name" "written_name" (defArgs sWrittenName) (defBody sWrittenName) (defScope sWrittenName) .none kV15 dc15 pm15 an15 cd15 ct15), sl15⟩) (c15 : PySem.W.codeIn K cd15 "written_name" = true) (k15 : PySem.W.keepIn K (.ref f15) = true)
    {f16 : Addr} {oc16 : Value} {od16 an16 : Option Addr} {sl16 : Array (Option Value)} {kV16 dc16 pm16 cd16 ct16 : Value}
    (a16 : PySem.W.nsIn K mainGlobals "combined" = some (some (.ref f16))) (l16 : K.lookup f16 = some ⟨oc16, od16, .func (PySem.W.fnOf "combined" "combined" (defArgs sCombined) (defBody sCombined) (defScope sCombined) .none kV16 dc16 pm16 an16 cd16 ct16), sl16⟩) (c16 : PySem.W.codeIn K cd16 "combined" = true) (k16 : PySem.W.keepIn K (.ref f16) = true)
    {f17 : Addr} {oc17 : Value} {od17 an17 : Option Addr} {sl17 : Array (Option Value)} {kV17 dc17 pm17 cd17 ct17 : Value}
    (a17 : PySem.W.nsIn K mainGlobals "told_sum" = some (some (.ref f17))) (l17 : K.lookup f17 = some ⟨oc17, od17, .func (PySem.W.fnOf "told_sum" "told_sum" (defArgs sToldSum) (defBody sToldSum) (defScope sToldSum) .none kV17 dc17 pm17 an17 cd17 ct17), sl17⟩) (c17 : PySem.W.codeIn K cd17 "told_sum" = true) (k17 : PySem.W.keepIn K (.ref f17) = true)
    {f18 : Addr} {oc18 : Value} {od18 an18 : Option Addr} {sl18 : Array (Option Value)} {kV18 dc18 pm18 cd18 ct18 : Value}
    (a18 : PySem.W.nsIn K mainGlobals "written" = some (some (.ref f18))) (l18 : K.lookup f18 = some ⟨oc18, od18, .func (PySem.W.fnOf "written" "written" (defArgs sWritten) (defBody sWritten) (defScope sWritten) .none kV18 dc18 pm18 an18 cd18 ct18), sl18⟩) (c18 : PySem.W.codeIn K cd18 "written" = true) (k18 : PySem.W.keepIn K (.ref f18) = true)
    {f19 : Addr} {oc19 : Value} {od19 an19 : Option Addr} {sl19 : Array (Option Value)} {kV19 dc19 pm19 cd19 ct19 : Value}
    (a19 : PySem.W.nsIn K mainGlobals "lies_told" = some (some (.ref f19))) (l19 : K.lookup f19 = some ⟨oc19, od19, .func (PySem.W.fnOf "lies_told" "lies_told" (defArgs sLiesTold) (defBody sLiesTold) (defScope sLiesTold) .none kV19 dc19 pm19 an19 cd19 ct19), sl19⟩) (c19 : PySem.W.codeIn K cd19 "lies_told" = true) (k19 : PySem.W.keepIn K (.ref f19) = true)
    {f20 : Addr} {oc20 : Value} {od20 an20 : Option Addr} {sl20 : Array (Option Value)} {kV20 dc20 pm20 cd20 ct20 : Value}
    (a20 : PySem.W.nsIn K mainGlobals "check_places" = some (some (.ref f20))) (l20 : K.lookup f20 = some ⟨oc20, od20, .func (PySem.W.fnOf "check_places" "check_places" (defArgs sCheckPlaces) (defBody sCheckPlaces) (defScope sCheckPlaces) .none kV20 dc20 pm20 an20 cd20 ct20), sl20⟩) (c20 : PySem.W.codeIn K cd20 "check_places" = true) (k20 : PySem.W.keepIn K (.ref f20) = true)
    {f21 : Addr} {oc21 : Value} {od21 an21 : Option Addr} {sl21 : Array (Option Value)} {kV21 dc21 pm21 cd21 ct21 : Value}
    (a21 : PySem.W.nsIn K mainGlobals "class_at" = some (some (.ref f21))) (l21 : K.lookup f21 = some ⟨oc21, od21, .func (PySem.W.fnOf "class_at" "class_at" (defArgs sClassAt) (defBody sClassAt) (defScope sClassAt) .none kV21 dc21 pm21 an21 cd21 ct21), sl21⟩) (c21 : PySem.W.codeIn K cd21 "class_at" = true) (k21 : PySem.W.keepIn K (.ref f21) = true)
    {f22 : Addr} {oc22 : Value} {od22 an22 : Option Addr} {sl22 : Array (Option Value)} {kV22 dc22 pm22 cd22 ct22 : Value}
    (a22 : PySem.W.nsIn K mainGlobals "class_of" = some (some (.ref f22))) (l22 : K.lookup f22 = some ⟨oc22, od22, .func (PySem.W.fnOf "class_of" "class_of" (defArgs sClassOf) (defBody sClassOf) (defScope sClassOf) .none kV22 dc22 pm22 an22 cd22 ct22), sl22⟩) (c22 : PySem.W.codeIn K cd22 "class_of" = true) (k22 : PySem.W.keepIn K (.ref f22) = true)
    {f23 : Addr} {oc23 : Value} {od23 an23 : Option Addr} {sl23 : Array (Option Value)} {kV23 dc23 pm23 cd23 ct23 : Value}
    (a23 : PySem.W.nsIn K mainGlobals "height_at" = some (some (.ref f23))) (l23 : K.lookup f23 = some ⟨oc23, od23, .func (PySem.W.fnOf "height_at" "height_at" (defArgs sHeightAt) (defBody sHeightAt) (defScope sHeightAt) .none kV23 dc23 pm23 an23 cd23 ct23), sl23⟩) (c23 : PySem.W.codeIn K cd23 "height_at" = true) (k23 : PySem.W.keepIn K (.ref f23) = true)
    {f24 : Addr} {oc24 : Value} {od24 an24 : Option Addr} {sl24 : Array (Option Value)} {kV24 dc24 pm24 cd24 ct24 : Value}
    (a24 : PySem.W.nsIn K mainGlobals "has_box" = some (some (.ref f24))) (l24 : K.lookup f24 = some ⟨oc24, od24, .func (PySem.W.fnOf "has_box" "has_box" (defArgs sHasBox) (defBody sHasBox) (defScope sHasBox) .none kV24 dc24 pm24 an24 cd24 ct24), sl24⟩) (c24 : PySem.W.codeIn K cd24 "has_box" = true) (k24 : PySem.W.keepIn K (.ref f24) = true)
    {f25 : Addr} {oc25 : Value} {od25 an25 : Option Addr} {sl25 : Array (Option Value)} {kV25 dc25 pm25 cd25 ct25 : Value}
    (a25 : PySem.W.nsIn K mainGlobals "open_columns" = some (some (.ref f25))) (l25 : K.lookup f25 = some ⟨oc25, od25, .func (PySem.W.fnOf "open_columns" "open_columns" (defArgs sOpenColumns) (defBody sOpenColumns) (defScope sOpenColumns) .none kV25 dc25 pm25 an25 cd25 ct25), sl25⟩) (c25 : PySem.W.codeIn K cd25 "open_columns" = true) (k25 : PySem.W.keepIn K (.ref f25) = true)
    {f26 : Addr} {oc26 : Value} {od26 an26 : Option Addr} {sl26 : Array (Option Value)} {kV26 dc26 pm26 cd26 ct26 : Value}
    (a26 : PySem.W.nsIn K mainGlobals "heaped" = some (some (.ref f26))) (l26 : K.lookup f26 = some ⟨oc26, od26, .func (PySem.W.fnOf "heaped" "heaped" (defArgs sHeaped) (defBody sHeaped) (defScope sHeaped) .none kV26 dc26 pm26 an26 cd26 ct26), sl26⟩) (c26 : PySem.W.codeIn K cd26 "heaped" = true) (k26 : PySem.W.keepIn K (.ref f26) = true)
    {f27 : Addr} {oc27 : Value} {od27 an27 : Option Addr} {sl27 : Array (Option Value)} {kV27 dc27 pm27 cd27 ct27 : Value}
    (a27 : PySem.W.nsIn K mainGlobals "grown_by" = some (some (.ref f27))) (l27 : K.lookup f27 = some ⟨oc27, od27, .func (PySem.W.fnOf "grown_by" "grown_by" (defArgs sGrownBy) (defBody sGrownBy) (defScope sGrownBy) .none kV27 dc27 pm27 an27 cd27 ct27), sl27⟩) (c27 : PySem.W.codeIn K cd27 "grown_by" = true) (k27 : PySem.W.keepIn K (.ref f27) = true)
    {f28 : Addr} {oc28 : Value} {od28 an28 : Option Addr} {sl28 : Array (Option Value)} {kV28 dc28 pm28 cd28 ct28 : Value}
    (a28 : PySem.W.nsIn K mainGlobals "heaps_of" = some (some (.ref f28))) (l28 : K.lookup f28 = some ⟨oc28, od28, .func (PySem.W.fnOf "heaps_of" "heaps_of" (defArgs sHeapsOf) (defBody sHeapsOf) (defScope sHeapsOf) .none kV28 dc28 pm28 an28 cd28 ct28), sl28⟩) (c28 : PySem.W.codeIn K cd28 "heaps_of" = true) (k28 : PySem.W.keepIn K (.ref f28) = true)
    {f29 : Addr} {oc29 : Value} {od29 an29 : Option Addr} {sl29 : Array (Option Value)} {kV29 dc29 pm29 cd29 ct29 : Value}
    (a29 : PySem.W.nsIn K mainGlobals "heap_of" = some (some (.ref f29))) (l29 : K.lookup f29 = some ⟨oc29, od29, .func (PySem.W.fnOf "heap_of" "heap_of" (defArgs sHeapOf) (defBody sHeapOf) (defScope sHeapOf) .none kV29 dc29 pm29 an29 cd29 ct29), sl29⟩) (c29 : PySem.W.codeIn K cd29 "heap_of" = true) (k29 : PySem.W.keepIn K (.ref f29) = true)
    {f30 : Addr} {oc30 : Value} {od30 an30 : Option Addr} {sl30 : Array (Option Value)} {kV30 dc30 pm30 cd30 ct30 : Value}
    (a30 : PySem.W.nsIn K mainGlobals "richness_at" = some (some (.ref f30))) (l30 : K.lookup f30 = some ⟨oc30, od30, .func (PySem.W.fnOf "richness_at" "richness_at" (defArgs sRichnessAt) (defBody sRichnessAt) (defScope sRichnessAt) .none kV30 dc30 pm30 an30 cd30 ct30), sl30⟩) (c30 : PySem.W.codeIn K cd30 "richness_at" = true) (k30 : PySem.W.keepIn K (.ref f30) = true)
    {f31 : Addr} {oc31 : Value} {od31 an31 : Option Addr} {sl31 : Array (Option Value)} {kV31 dc31 pm31 cd31 ct31 : Value}
    (a31 : PySem.W.nsIn K mainGlobals "richness_of" = some (some (.ref f31))) (l31 : K.lookup f31 = some ⟨oc31, od31, .func (PySem.W.fnOf "richness_of" "richness_of" (defArgs sRichnessOf) (defBody sRichnessOf) (defScope sRichnessOf) .none kV31 dc31 pm31 an31 cd31 ct31), sl31⟩) (c31 : PySem.W.codeIn K cd31 "richness_of" = true) (k31 : PySem.W.keepIn K (.ref f31) = true)
    {f32 : Addr} {oc32 : Value} {od32 an32 : Option Addr} {sl32 : Array (Option Value)} {kV32 dc32 pm32 cd32 ct32 : Value}
    (a32 : PySem.W.nsIn K mainGlobals "richness" = some (some (.ref f32))) (l32 : K.lookup f32 = some ⟨oc32, od32, .func (PySem.W.fnOf "richness" "richness" (defArgs sRichness) (defBody sRichness) (defScope sRichness) .none kV32 dc32 pm32 an32 cd32 ct32), sl32⟩) (c32 : PySem.W.codeIn K cd32 "richness" = true) (k32 : PySem.W.keepIn K (.ref f32) = true)
    {f33 : Addr} {oc33 : Value} {od33 an33 : Option Addr} {sl33 : Array (Option Value)} {kV33 dc33 pm33 cd33 ct33 : Value}
    (a33 : PySem.W.nsIn K mainGlobals "backward" = some (some (.ref f33))) (l33 : K.lookup f33 = some ⟨oc33, od33, .func (PySem.W.fnOf "backward" "backward" (defArgs sBackward) (defBody sBackward) (defScope sBackward) .none kV33 dc33 pm33 an33 cd33 ct33), sl33⟩) (c33 : PySem.W.codeIn K cd33 "backward" = true) (k33 : PySem.W.keepIn K (.ref f33) = true)
    {f34 : Addr} {oc34 : Value} {od34 an34 : Option Addr} {sl34 : Array (Option Value)} {kV34 dc34 pm34 cd34 ct34 : Value}
    (a34 : PySem.W.nsIn K mainGlobals "flipped_chain" = some (some (.ref f34))) (l34 : K.lookup f34 = some ⟨oc34, od34, .func (PySem.W.fnOf "flipped_chain" "flipped_chain" (defArgs sFlippedChain) (defBody sFlippedChain) (defScope sFlippedChain) .none kV34 dc34 pm34 an34 cd34 ct34), sl34⟩) (c34 : PySem.W.codeIn K cd34 "flipped_chain" = true) (k34 : PySem.W.keepIn K (.ref f34) = true)
    {f35 : Addr} {oc35 : Value} {od35 an35 : Option Addr} {sl35 : Array (Option Value)} {kV35 dc35 pm35 cd35 ct35 : Value}
    (a35 : PySem.W.nsIn K mainGlobals "flipped_deal" = some (some (.ref f35))) (l35 : K.lookup f35 = some ⟨oc35, od35, .func (PySem.W.fnOf "flipped_deal" "flipped_deal" (defArgs sFlippedDeal) (defBody sFlippedDeal) (defScope sFlippedDeal) .none kV35 dc35 pm35 an35 cd35 ct35), sl35⟩) (c35 : PySem.W.codeIn K cd35 "flipped_deal" = true) (k35 : PySem.W.keepIn K (.ref f35) = true)
    {f36 : Addr} {oc36 : Value} {od36 an36 : Option Addr} {sl36 : Array (Option Value)} {kV36 dc36 pm36 cd36 ct36 : Value}
    (a36 : PySem.W.nsIn K mainGlobals "flipped" = some (some (.ref f36))) (l36 : K.lookup f36 = some ⟨oc36, od36, .func (PySem.W.fnOf "flipped" "flipped" (defArgs sFlipped) (defBody sFlipped) (defScope sFlipped) .none kV36 dc36 pm36 an36 cd36 ct36), sl36⟩) (c36 : PySem.W.codeIn K cd36 "flipped" = true) (k36 : PySem.W.keepIn K (.ref f36) = true)
    {f37 : Addr} {oc37 : Value} {od37 an37 : Option Addr} {sl37 : Array (Option Value)} {kV37 dc37 pm37 cd37 ct37 : Value}
    (a37 : PySem.W.nsIn K mainGlobals "letter_of" = some (some (.ref f37))) (l37 : K.lookup f37 = some ⟨oc37, od37, .func (PySem.W.fnOf "letter_of" "letter_of" (defArgs sLetterOf) (defBody sLetterOf) (defScope sLetterOf) .none kV37 dc37 pm37 an37 cd37 ct37), sl37⟩) (c37 : PySem.W.codeIn K cd37 "letter_of" = true) (k37 : PySem.W.keepIn K (.ref f37) = true)
    {f38 : Addr} {oc38 : Value} {od38 an38 : Option Addr} {sl38 : Array (Option Value)} {kV38 dc38 pm38 cd38 ct38 : Value}
    (a38 : PySem.W.nsIn K mainGlobals "map_values" = some (some (.ref f38))) (l38 : K.lookup f38 = some ⟨oc38, od38, .func (PySem.W.fnOf "map_values" "map_values" (defArgs sMapValues) (defBody sMapValues) (defScope sMapValues) .none kV38 dc38 pm38 an38 cd38 ct38), sl38⟩) (c38 : PySem.W.codeIn K cd38 "map_values" = true) (k38 : PySem.W.keepIn K (.ref f38) = true)
    {f39 : Addr} {oc39 : Value} {od39 an39 : Option Addr} {sl39 : Array (Option Value)} {kV39 dc39 pm39 cd39 ct39 : Value}
    (a39 : PySem.W.nsIn K mainGlobals "check_class_at" = some (some (.ref f39))) (l39 : K.lookup f39 = some ⟨oc39, od39, .func (PySem.W.fnOf "check_class_at" "check_class_at" (defArgs sCheckClassAt) (defBody sCheckClassAt) (defScope sCheckClassAt) .none kV39 dc39 pm39 an39 cd39 ct39), sl39⟩) (c39 : PySem.W.codeIn K cd39 "check_class_at" = true) (k39 : PySem.W.keepIn K (.ref f39) = true)
    {f40 : Addr} {oc40 : Value} {od40 an40 : Option Addr} {sl40 : Array (Option Value)} {kV40 dc40 pm40 cd40 ct40 : Value}
    (a40 : PySem.W.nsIn K mainGlobals "value_at" = some (some (.ref f40))) (l40 : K.lookup f40 = some ⟨oc40, od40, .func (PySem.W.fnOf "value_at" "value_at" (defArgs sValueAt) (defBody sValueAt) (defScope sValueAt) .none kV40 dc40 pm40 an40 cd40 ct40), sl40⟩) (c40 : PySem.W.codeIn K cd40 "value_at" = true) (k40 : PySem.W.keepIn K (.ref f40) = true)
    {f41 : Addr} {oc41 : Value} {od41 an41 : Option Addr} {sl41 : Array (Option Value)} {kV41 dc41 pm41 cd41 ct41 : Value}
    (a41 : PySem.W.nsIn K mainGlobals "table_entry" = some (some (.ref f41))) (l41 : K.lookup f41 = some ⟨oc41, od41, .func (PySem.W.fnOf "table_entry" "table_entry" (defArgs sTableEntry) (defBody sTableEntry) (defScope sTableEntry) .none kV41 dc41 pm41 an41 cd41 ct41), sl41⟩) (c41 : PySem.W.codeIn K cd41 "table_entry" = true) (k41 : PySem.W.keepIn K (.ref f41) = true)
    {f42 : Addr} {oc42 : Value} {od42 an42 : Option Addr} {sl42 : Array (Option Value)} {kV42 dc42 pm42 cd42 ct42 : Value}
    (a42 : PySem.W.nsIn K mainGlobals "end_table" = some (some (.ref f42))) (l42 : K.lookup f42 = some ⟨oc42, od42, .func (PySem.W.fnOf "end_table" "end_table" (defArgs sEndTable) (defBody sEndTable) (defScope sEndTable) .none kV42 dc42 pm42 an42 cd42 ct42), sl42⟩) (c42 : PySem.W.codeIn K cd42 "end_table" = true) (k42 : PySem.W.keepIn K (.ref f42) = true)
    {f43 : Addr} {oc43 : Value} {od43 an43 : Option Addr} {sl43 : Array (Option Value)} {kV43 dc43 pm43 cd43 ct43 : Value}
    (a43 : PySem.W.nsIn K mainGlobals "_law_dice" = some (some (.ref f43))) (l43 : K.lookup f43 = some ⟨oc43, od43, .func (PySem.W.fnOf "_law_dice" "_law_dice" (defArgs sLDice) (defBody sLDice) (defScope sLDice) .none kV43 dc43 pm43 an43 cd43 ct43), sl43⟩) (c43 : PySem.W.codeIn K cd43 "_law_dice" = true) (k43 : PySem.W.keepIn K (.ref f43) = true)
    {f44 : Addr} {oc44 : Value} {od44 an44 : Option Addr} {sl44 : Array (Option Value)} {kV44 dc44 pm44 cd44 ct44 : Value}
    (a44 : PySem.W.nsIn K mainGlobals "_law_roll" = some (some (.ref f44))) (l44 : K.lookup f44 = some ⟨oc44, od44, .func (PySem.W.fnOf "_law_roll" "_law_roll" (defArgs sLRoll) (defBody sLRoll) (defScope sLRoll) .none kV44 dc44 pm44 an44 cd44 ct44), sl44⟩) (c44 : PySem.W.codeIn K cd44 "_law_roll" = true) (k44 : PySem.W.keepIn K (.ref f44) = true)
    {f45 : Addr} {oc45 : Value} {od45 an45 : Option Addr} {sl45 : Array (Option Value)} {kV45 dc45 pm45 cd45 ct45 : Value}
    (a45 : PySem.W.nsIn K mainGlobals "_law_one_of" = some (some (.ref f45))) (l45 : K.lookup f45 = some ⟨oc45, od45, .func (PySem.W.fnOf "_law_one_of" "_law_one_of" (defArgs sLOneOf) (defBody sLOneOf) (defScope sLOneOf) .none kV45 dc45 pm45 an45 cd45 ct45), sl45⟩) (c45 : PySem.W.codeIn K cd45 "_law_one_of" = true) (k45 : PySem.W.keepIn K (.ref f45) = true)
    {f46 : Addr} {oc46 : Value} {od46 an46 : Option Addr} {sl46 : Array (Option Value)} {kV46 dc46 pm46 cd46 ct46 : Value}
    (a46 : PySem.W.nsIn K mainGlobals "_law_common" = some (some (.ref f46))) (l46 : K.lookup f46 = some ⟨oc46, od46, .func (PySem.W.fnOf "_law_common" "_law_common" (defArgs sLCommon) (defBody sLCommon) (defScope sLCommon) .none kV46 dc46 pm46 an46 cd46 ct46), sl46⟩) (c46 : PySem.W.codeIn K cd46 "_law_common" = true) (k46 : PySem.W.keepIn K (.ref f46) = true)
    {f47 : Addr} {oc47 : Value} {od47 an47 : Option Addr} {sl47 : Array (Option Value)} {kV47 dc47 pm47 cd47 ct47 : Value}
    (a47 : PySem.W.nsIn K mainGlobals "_law_ring" = some (some (.ref f47))) (l47 : K.lookup f47 = some ⟨oc47, od47, .func (PySem.W.fnOf "_law_ring" "_law_ring" (defArgs sLRing) (defBody sLRing) (defScope sLRing) .none kV47 dc47 pm47 an47 cd47 ct47), sl47⟩) (c47 : PySem.W.codeIn K cd47 "_law_ring" = true) (k47 : PySem.W.keepIn K (.ref f47) = true)
    {f48 : Addr} {oc48 : Value} {od48 an48 : Option Addr} {sl48 : Array (Option Value)} {kV48 dc48 pm48 cd48 ct48 : Value}
    (a48 : PySem.W.nsIn K mainGlobals "_law_ring_of" = some (some (.ref f48))) (l48 : K.lookup f48 = some ⟨oc48, od48, .func (PySem.W.fnOf "_law_ring_of" "_law_ring_of" (defArgs sLRingOf) (defBody sLRingOf) (defScope sLRingOf) .none kV48 dc48 pm48 an48 cd48 ct48), sl48⟩) (c48 : PySem.W.codeIn K cd48 "_law_ring_of" = true) (k48 : PySem.W.keepIn K (.ref f48) = true)
    {f49 : Addr} {oc49 : Value} {od49 an49 : Option Addr} {sl49 : Array (Option Value)} {kV49 dc49 pm49 cd49 ct49 : Value}
    (a49 : PySem.W.nsIn K mainGlobals "_law_chain" = some (some (.ref f49))) (l49 : K.lookup f49 = some ⟨oc49, od49, .func (PySem.W.fnOf "_law_chain" "_law_chain" (defArgs sLChain) (defBody sLChain) (defScope sLChain) .none kV49 dc49 pm49 an49 cd49 ct49), sl49⟩) (c49 : PySem.W.codeIn K cd49 "_law_chain" = true) (k49 : PySem.W.keepIn K (.ref f49) = true)
    {f50 : Addr} {oc50 : Value} {od50 an50 : Option Addr} {sl50 : Array (Option Value)} {kV50 dc50 pm50 cd50 ct50 : Value}
    (a50 : PySem.W.nsIn K mainGlobals "_law_deal" = some (some (.ref f50))) (l50 : K.lookup f50 = some ⟨oc50, od50, .func (PySem.W.fnOf "_law_deal" "_law_deal" (defArgs sLDeal) (defBody sLDeal) (defScope sLDeal) .none kV50 dc50 pm50 an50 cd50 ct50), sl50⟩) (c50 : PySem.W.codeIn K cd50 "_law_deal" = true) (k50 : PySem.W.keepIn K (.ref f50) = true)
    {f51 : Addr} {oc51 : Value} {od51 an51 : Option Addr} {sl51 : Array (Option Value)} {kV51 dc51 pm51 cd51 ct51 : Value}
    (a51 : PySem.W.nsIn K mainGlobals "_law_class" = some (some (.ref f51))) (l51 : K.lookup f51 = some ⟨oc51, od51, .func (PySem.W.fnOf "_law_class" "_law_class" (defArgs sLClass) (defBody sLClass) (defScope sLClass) .none kV51 dc51 pm51 an51 cd51 ct51), sl51⟩) (c51 : PySem.W.codeIn K cd51 "_law_class" = true) (k51 : PySem.W.keepIn K (.ref f51) = true)
    {f52 : Addr} {oc52 : Value} {od52 an52 : Option Addr} {sl52 : Array (Option Value)} {kV52 dc52 pm52 cd52 ct52 : Value}
    (a52 : PySem.W.nsIn K mainGlobals "_law_named" = some (some (.ref f52))) (l52 : K.lookup f52 = some ⟨oc52, od52, .func (PySem.W.fnOf "_law_named" "_law_named" (defArgs sLNamed) (defBody sLNamed) (defScope sLNamed) .none kV52 dc52 pm52 an52 cd52 ct52), sl52⟩) (c52 : PySem.W.codeIn K cd52 "_law_named" = true) (k52 : PySem.W.keepIn K (.ref f52) = true)
    {f53 : Addr} {oc53 : Value} {od53 an53 : Option Addr} {sl53 : Array (Option Value)} {kV53 dc53 pm53 cd53 ct53 : Value}
    (a53 : PySem.W.nsIn K mainGlobals "_law_backward" = some (some (.ref f53))) (l53 : K.lookup f53 = some ⟨oc53, od53, .func (PySem.W.fnOf "_law_backward" "_law_backward" (defArgs sLBackward) (defBody sLBackward) (defScope sLBackward) .none kV53 dc53 pm53 an53 cd53 ct53), sl53⟩) (c53 : PySem.W.codeIn K cd53 "_law_backward" = true) (k53 : PySem.W.keepIn K (.ref f53) = true)
    {f54 : Addr} {oc54 : Value} {od54 an54 : Option Addr} {sl54 : Array (Option Value)} {kV54 dc54 pm54 cd54 ct54 : Value}
    (a54 : PySem.W.nsIn K mainGlobals "_law_flipped" = some (some (.ref f54))) (l54 : K.lookup f54 = some ⟨oc54, od54, .func (PySem.W.fnOf "_law_flipped" "_law_flipped" (defArgs sLFlipped) (defBody sLFlipped) (defScope sLFlipped) .none kV54 dc54 pm54 an54 cd54 ct54), sl54⟩) (c54 : PySem.W.codeIn K cd54 "_law_flipped" = true) (k54 : PySem.W.keepIn K (.ref f54) = true)
    {f55 : Addr} {oc55 : Value} {od55 an55 : Option Addr} {sl55 : Array (Option Value)} {kV55 dc55 pm55 cd55 ct55 : Value}
    (a55 : PySem.W.nsIn K mainGlobals "_law_same" = some (some (.ref f55))) (l55 : K.lookup f55 = some ⟨oc55, od55, .func (PySem.W.fnOf "_law_same" "_law_same" (defArgs sLSame) (defBody sLSame) (defScope sLSame) .none kV55 dc55 pm55 an55 cd55 ct55), sl55⟩) (c55 : PySem.W.codeIn K cd55 "_law_same" = true) (k55 : PySem.W.keepIn K (.ref f55) = true)
    {f56 : Addr} {oc56 : Value} {od56 an56 : Option Addr} {sl56 : Array (Option Value)} {kV56 dc56 pm56 cd56 ct56 : Value}
    (a56 : PySem.W.nsIn K mainGlobals "_law_backward_right" = some (some (.ref f56))) (l56 : K.lookup f56 = some ⟨oc56, od56, .func (PySem.W.fnOf "_law_backward_right" "_law_backward_right" (defArgs sLBackwardRight) (defBody sLBackwardRight) (defScope sLBackwardRight) .none kV56 dc56 pm56 an56 cd56 ct56), sl56⟩) (c56 : PySem.W.codeIn K cd56 "_law_backward_right" = true) (k56 : PySem.W.keepIn K (.ref f56) = true)
    {f57 : Addr} {oc57 : Value} {od57 an57 : Option Addr} {sl57 : Array (Option Value)} {kV57 dc57 pm57 cd57 ct57 : Value}
    (a57 : PySem.W.nsIn K mainGlobals "_law_flipped_right" = some (some (.ref f57))) (l57 : K.lookup f57 = some ⟨oc57, od57, .func (PySem.W.fnOf "_law_flipped_right" "_law_flipped_right" (defArgs sLFlippedRight) (defBody sLFlippedRight) (defScope sLFlippedRight) .none kV57 dc57 pm57 an57 cd57 ct57), sl57⟩) (c57 : PySem.W.codeIn K cd57 "_law_flipped_right" = true) (k57 : PySem.W.keepIn K (.ref f57) = true)
    {f58 : Addr} {oc58 : Value} {od58 an58 : Option Addr} {sl58 : Array (Option Value)} {kV58 dc58 pm58 cd58 ct58 : Value}
    (a58 : PySem.W.nsIn K mainGlobals "_law_right" = some (some (.ref f58))) (l58 : K.lookup f58 = some ⟨oc58, od58, .func (PySem.W.fnOf "_law_right" "_law_right" (defArgs sLRight) (defBody sLRight) (defScope sLRight) .none kV58 dc58 pm58 an58 cd58 ct58), sl58⟩) (c58 : PySem.W.codeIn K cd58 "_law_right" = true) (k58 : PySem.W.keepIn K (.ref f58) = true)
    {f59 : Addr} {oc59 : Value} {od59 an59 : Option Addr} {sl59 : Array (Option Value)} {kV59 dc59 pm59 cd59 ct59 : Value}
    (a59 : PySem.W.nsIn K mainGlobals "law" = some (some (.ref f59))) (l59 : K.lookup f59 = some ⟨oc59, od59, .func (PySem.W.fnOf "law" "law" (defArgs sLaw) (defBody sLaw) (defScope sLaw) .none kV59 dc59 pm59 an59 cd59 ct59), sl59⟩) (c59 : PySem.W.codeIn K cd59 "law" = true) (k59 : PySem.W.keepIn K (.ref f59) = true) :
    ∃ fd : FuncData, (∀ (s : Shared) (v : Value), BindsTo s fd ⟨[v], []⟩ [("_law_script", v)]) ∧ ∀ base : Heap, K.In base → base.Ns mainGlobals mg → FnOk P w K mg base CX0 12 fa fd ["_law_script"] (spLaw K) := by
  have e := hfa.symm.trans (PySem.W.mg_of X G a59)
  cases e
  have T : Txt K mg :=
    { z_abs := PySem.W.mg_none_of X G z_abs, z_all := PySem.W.mg_none_of X G z_all, z_bool := PySem.W.mg_none_of X G z_bool, z_dict := PySem.W.mg_none_of X G z_dict, z_enumerate := PySem.W.mg_none_of X G z_enumerate, z_int := PySem.W.mg_none_of X G z_int, z_isinstance := PySem.W.mg_none_of X G z_isinstance, z_len := PySem.W.mg_none_of X G z_len, z_list := PySem.W.mg_none_of X G z_list, z_max := PySem.W.mg_none_of X G z_max, z_min := PySem.W.mg_none_of X G z_min, z_range := PySem.W.mg_none_of X G z_range, z_reversed := PySem.W.mg_none_of X G z_reversed, z_sorted := PySem.W.mg_none_of X G z_sorted, z_sum := PySem.W.mg_none_of X G z_sum, z_tuple := PySem.W.mg_none_of X G z_tuple, z_zip := PySem.W.mg_none_of X G z_zip, v_gcd := PySem.W.mg_of X G bgcd, v_BOUND := vBOUND, v_DIGITS := ⟨tDIGITS, PySem.W.mg_of X G gDIGITS⟩, v_RINGS := ⟨tRINGS, PySem.W.mg_of X G gRINGS⟩, v_PLACES := ⟨tPLACES, PySem.W.mg_of X G gPLACES⟩,
      d_is_integer := mk_def (ps := ["value"]) X G a0 l0 c0 k0 fun _ _ _ _ _ _ us hl => match us, hl with | [_], _ => rfl,
      d_is_between := mk_def (ps := ["value", "low", "high"]) X G a1 l1 c1 k1 fun _ _ _ _ _ _ us hl => match us, hl with | [_, _, _], _ => rfl,
      d_is_pair := mk_def (ps := ["value"]) X G a2 l2 c2 k2 fun _ _ _ _ _ _ us hl => match us, hl with | [_], _ => rfl,
      d_check_integer := mk_def (ps := ["value"]) X G a3 l3 c3 k3 fun _ _ _ _ _ _ us hl => match us, hl with | [_], _ => rfl,
      d_check_between := mk_def (ps := ["value", "low", "high"]) X G a4 l4 c4 k4 fun _ _ _ _ _ _ us hl => match us, hl with | [_, _, _], _ => rfl,
      d_check_digits := mk_def (ps := ["numbers"]) X G a5 l5 c5 k5 fun _ _ _ _ _ _ us hl => match us, hl with | [_], _ => rfl,
      d_is_ring := mk_def (ps := ["value"]) X G a6 l6 c6 k6 fun _ _ _ _ _ _ us hl => match us, hl with | [_], _ => rfl,
      d_is_chain := mk_def (ps := ["value"]) X G a7 l7 c7 k7 fun _ _ _ _ _ _ us hl => match us, hl with | [_], _ => rfl,
      d_lies_on := mk_def (ps := ["chain", "value"]) X G a8 l8 c8 k8 fun _ _ _ _ _ _ us hl => match us, hl with | [_, _], _ => rfl,
      d_lies_dealt := mk_def (ps := ["chain", "value"]) X G a9 l9 c9 k9 fun _ _ _ _ _ _ us hl => match us, hl with | [_, _], _ => rfl,
      d_check_ring := mk_def (ps := ["ring"]) X G a10 l10 c10 k10 fun _ _ _ _ _ _ us hl => match us, hl with | [_], _ => rfl,
      d_check_chain := mk_def (ps := ["chain"]) X G a11 l11 c11 k11 fun _ _ _ _ _ _ us hl => match us, hl with | [_], _ => rfl,
      d_check_deal := mk_def (ps := ["chain", "deal"]) X G a12 l12 c12 k12 fun _ _ _ _ _ _ us hl => match us, hl with | [_, _], _ => rfl,
      d_order_of := mk_def (ps := ["ring"]) X G a13 l13 c13 k13 fun _ _ _ _ _ _ us hl => match us, hl with | [_], _ => rfl,
      d_lets := mk_def (ps := ["ring", "place", "diagonal"]) X G a14 l14 c14 k14 fun _ _ _ _ _ _ us hl => match us, hl with | [_, _, _], _ => rfl,
      d_written_name := mk_def (ps := ["chain", "place"]) X G a15 l15 c15 k15 fun _ _ _ _ _ _ us hl => match us, hl with | [_, _], _ => rfl,
      d_combined := mk_def (ps := ["chain", "parts"]) X G a16 l16 c16 k16 fun _ _ _ _ _ _ us hl => match us, hl with | [_, _], _ => rfl,
      d_told_sum := mk_def (ps := ["chain", "parts"]) X G a17 l17 c17 k17 fun _ _ _ _ _ _ us hl => match us, hl with | [_, _], _ => rfl,
      d_written := mk_def (ps := ["chain", "deal"]) X G a18 l18 c18 k18 fun _ _ _ _ _ _ us hl => match us, hl with | [_, _], _ => rfl,
      d_lies_told := mk_def (ps := ["chain", "value"]) X G a19 l19 c19 k19 fun _ _ _ _ _ _ us hl => match us, hl with | [_, _], _ => rfl,
      d_check_places := mk_def (ps := ["chain", "places"]) X G a20 l20 c20 k20 fun _ _ _ _ _ _ us hl => match us, hl with | [_, _], _ => rfl,
      d_class_at := mk_def (ps := ["chain", "deal"]) X G a21 l21 c21 k21 fun _ _ _ _ _ _ us hl => match us, hl with | [_, _], _ => rfl,
      d_class_of := mk_def (ps := ["chain", "deal"]) X G a22 l22 c22 k22 fun _ _ _ _ _ _ us hl => match us, hl with | [_, _], _ => rfl,
      d_height_at := mk_def (ps := ["heap", "column"]) X G a23 l23 c23 k23 fun _ _ _ _ _ _ us hl => match us, hl with | [_, _], _ => rfl,
      d_has_box := mk_def (ps := ["heap", "columns", "rows"]) X G a24 l24 c24 k24 fun _ _ _ _ _ _ us hl => match us, hl with | [_, _, _], _ => rfl,
      d_open_columns := mk_def (ps := ["heap"]) X G a25 l25 c25 k25 fun _ _ _ _ _ _ us hl => match us, hl with | [_], _ => rfl,
      d_heaped := mk_def (ps := ["heap", "columns"]) X G a26 l26 c26 k26 fun _ _ _ _ _ _ us hl => match us, hl with | [_, _], _ => rfl,
      d_grown_by := mk_def (ps := ["heap", "ring", "place"]) X G a27 l27 c27 k27 fun _ _ _ _ _ _ us hl => match us, hl with | [_, _, _], _ => rfl,
      d_heaps_of := mk_def (ps := ["chain", "places"]) X G a28 l28 c28 k28 fun _ _ _ _ _ _ us hl => match us, hl with | [_, _], _ => rfl,
      d_heap_of := mk_def (ps := ["chain", "places"]) X G a29 l29 c29 k29 fun _ _ _ _ _ _ us hl => match us, hl with | [_, _], _ => rfl,
      d_richness_at := mk_def (ps := ["chain", "degree", "places"]) X G a30 l30 c30 k30 fun _ _ _ _ _ _ us hl => match us, hl with | [_, _, _], _ => rfl,
      d_richness_of := mk_def (ps := ["chain", "deal"]) X G a31 l31 c31 k31 fun _ _ _ _ _ _ us hl => match us, hl with | [_, _], _ => rfl,
      d_richness := mk_def (ps := ["chain", "deal"]) X G a32 l32 c32 k32 fun _ _ _ _ _ _ us hl => match us, hl with | [_, _], _ => rfl,
      d_backward := mk_def (ps := ["chain", "deal"]) X G a33 l33 c33 k33 fun _ _ _ _ _ _ us hl => match us, hl with | [_, _], _ => rfl,
      d_flipped_chain := mk_def (ps := ["chain", "index"]) X G a34 l34 c34 k34 fun _ _ _ _ _ _ us hl => match us, hl with | [_, _], _ => rfl,
      d_flipped_deal := mk_def (ps := ["chain", "deal", "index"]) X G a35 l35 c35 k35 fun _ _ _ _ _ _ us hl => match us, hl with | [_, _, _], _ => rfl,
      d_flipped := mk_def (ps := ["chain", "deal", "index"]) X G a36 l36 c36 k36 fun _ _ _ _ _ _ us hl => match us, hl with | [_, _, _], _ => rfl,
      d_letter_of := mk_def (ps := ["ring", "place"]) X G a37 l37 c37 k37 fun _ _ _ _ _ _ us hl => match us, hl with | [_, _], _ => rfl,
      d_map_values := mk_def (ps := ["chain", "degree", "places", "first", "last"]) X G a38 l38 c38 k38 fun _ _ _ _ _ _ us hl => match us, hl with | [_, _, _, _, _], _ => rfl,
      d_check_class_at := mk_def (ps := ["chain", "degree", "places"]) X G a39 l39 c39 k39 fun _ _ _ _ _ _ us hl => match us, hl with | [_, _, _], _ => rfl,
      d_value_at := mk_def (ps := ["chain", "degree", "places", "index"]) X G a40 l40 c40 k40 fun _ _ _ _ _ _ us hl => match us, hl with | [_, _, _, _], _ => rfl,
      d_table_entry := mk_def (ps := ["chain", "degree", "places", "a", "b"]) X G a41 l41 c41 k41 fun _ _ _ _ _ _ us hl => match us, hl with | [_, _, _, _, _], _ => rfl,
      d_end_table := mk_def (ps := ["chain", "degree", "places", "a", "b"]) X G a42 l42 c42 k42 fun _ _ _ _ _ _ us hl => match us, hl with | [_, _, _, _, _], _ => rfl,
      d_l_dice := mk_def (ps := ["_law_script", "_law_at"]) X G a43 l43 c43 k43 fun _ _ _ _ _ _ us hl => match us, hl with | [_, _], _ => rfl,
      d_l_roll := mk_def (ps := ["_law_dice_here", "_law_total"]) X G a44 l44 c44 k44 fun _ _ _ _ _ _ us hl => match us, hl with | [_, _], _ => rfl,
      d_l_one_of := mk_def (ps := ["_law_dice_here", "_law_items"]) X G a45 l45 c45 k45 fun _ _ _ _ _ _ us hl => match us, hl with | [_, _], _ => rfl,
      d_l_common := mk_def (ps := ["_law_one", "_law_other"]) X G a46 l46 c46 k46 fun _ _ _ _ _ _ us hl => match us, hl with | [_, _], _ => rfl,
      d_l_ring := mk_def (ps := ["_law_dice_here", "_law_most"]) X G a47 l47 c47 k47 fun _ _ _ _ _ _ us hl => match us, hl with | [_, _], _ => rfl,
      d_l_ring_of := mk_def (ps := ["_law_dice_here", "_law_k", "_law_times"]) X G a48 l48 c48 k48 fun _ _ _ _ _ _ us hl => match us, hl with | [_, _, _], _ => rfl,
      d_l_chain := mk_def (ps := ["_law_dice_here", "_law_rings", "_law_most"]) X G a49 l49 c49 k49 fun _ _ _ _ _ _ us hl => match us, hl with | [_, _, _], _ => rfl,
      d_l_deal := mk_def (ps := ["_law_dice_here", "_law_chain_here", "_law_most"]) X G a50 l50 c50 k50 fun _ _ _ _ _ _ us hl => match us, hl with | [_, _, _], _ => rfl,
      d_l_class := mk_def (ps := ["_law_chain_here", "_law_deal_here"]) X G a51 l51 c51 k51 fun _ _ _ _ _ _ us hl => match us, hl with | [_, _], _ => rfl,
      d_l_named := mk_def (ps := ["_law_chain_here", "_law_pairs"]) X G a52 l52 c52 k52 fun _ _ _ _ _ _ us hl => match us, hl with | [_, _], _ => rfl,
      d_l_backward := mk_def (ps := ["_law_chain_here", "_law_deal_here"]) X G a53 l53 c53 k53 fun _ _ _ _ _ _ us hl => match us, hl with | [_, _], _ => rfl,
      d_l_flipped := mk_def (ps := ["_law_chain_here", "_law_deal_here", "_law_index"]) X G a54 l54 c54 k54 fun _ _ _ _ _ _ us hl => match us, hl with | [_, _, _], _ => rfl,
      d_l_same := mk_def (ps := ["_law_found", "_law_due"]) X G a55 l55 c55 k55 fun _ _ _ _ _ _ us hl => match us, hl with | [_, _], _ => rfl,
      d_l_backward_right := mk_def (ps := ["_law_dice_here", "_law_chain_here", "_law_deal_here"]) X G a56 l56 c56 k56 fun _ _ _ _ _ _ us hl => match us, hl with | [_, _, _], _ => rfl,
      d_l_flipped_right := mk_def (ps := ["_law_dice_here", "_law_chain_here", "_law_deal_here"]) X G a57 l57 c57 k57 fun _ _ _ _ _ _ us hl => match us, hl with | [_, _, _], _ => rfl,
      d_l_right := mk_def (ps := ["_law_dice_here"]) X G a58 l58 c58 k58 fun _ _ _ _ _ _ us hl => match us, hl with | [_], _ => rfl }
  have F := fun_mk (st := sLaw) l59 c59 k59
  exact ⟨PySem.W.fnOf "law" "law" (defArgs sLaw) (defBody sLaw) (defScope sLaw) .none kV59 dc59 pm59 an59 cd59 ct59, fun s v => .of_eq rfl, fun base _ _ => ok_law T F⟩
/-- the end of the law's row, what the loose names hold told -/
theorem walk_x {l : PySem.W.OpenLaw} {k : Nat} {q : Program} {loose : List Str} {lv : List (Str × PySem.W.WData)} {YP : World → Heap → Prop} {d : DefRec} {K : Params → PySem.W.Frag}
    (hn : l.most = some 63) (hdf : d.params.defaults = []) (hr : Room k callerA) (hY : ∀ (w : World) (h : Heap), YP w h → (K w.params).In h)
    (F : ∀ (w : World) (mg : Str → Option Value) (fa : Addr) (h : Heap), (K w.params).In h → h.Ns mainGlobals mg → PySem.W.XL q lv mg h → mg d.name = some (.ref fa) →
      ∃ fd : FuncData, (∀ (s : Shared) (u : Value), BindsTo s fd ⟨[u], []⟩ [("_law_script", u)]) ∧
        ∀ base : Heap, (K w.params).In base → base.Ns mainGlobals mg → FnOk l.prog w (K w.params) mg base CX0 k fa fd ["_law_script"] (spLaw (K w.params))) :
    PySem.W.WalkO q loose (PySem.W.XL q lv) YP l.row.toRowW d [] (fun f vs => PySem.call f vs) := by
  refine Att.attach_call hn hdf fun w s₀ s₁ mg mb fa o pm cd doc a vs ns G Y ho hd hcd hmg hobj hints hlen hg => ?_
  obtain ⟨fd, hb, hF⟩ := F w mg fa _ (hY w _ Y) G.T.g G.X hmg
  exact law_call (hY w _ Y) G.T.g G.T.b G.T.builtins G.T.nolimit hg hobj hints (Nat.le_trans hlen (by decide)) hr hF hb (fun H _ hS => ⟨a, ns, rfl, hS, hlen, fun _ => rfl⟩) fun H e s' z => z
end K1

open PySem PySem.W PyProof.Rows
set_option maxHeartbeats 0 in
theorem PySem.Challenge.cw_ringstairs_k79_whole_chains_backward_and_holds : PySem.Challenge.rw_ringstairs_k79_whole_chains_backward_and.Holds := by
  w_on; o_law; k_head; (case hw => w_witness2)
  k_fill
  refine K1.walk_x (k := 12) rfl rfl ⟨rfl, by decide, by decide⟩ (fun w h Y => PySem.W.kIn_of Y) ?F
  case F =>
    intro w mg fa h KX G XF hmg
    have vBOUND : ∃ t, mg "BOUND" = some (.int (10 ^ 60) t) := by
      obtain ⟨v, e1, e2⟩ := XF.2.val _ (List.mem_cons_self ..)
      cases e2
      exact ⟨_, e1⟩
    refine' K1.all_mk KX G hmg vBOUND ?gDIGITS ?gRINGS ?gPLACES ?bgcd ?z_abs ?z_all ?z_bool ?z_dict ?z_enumerate ?z_int ?z_isinstance ?z_len ?z_list ?z_max ?z_min ?z_range ?z_reversed ?z_sorted ?z_sum ?z_tuple ?z_zip ?a0 ?l0 ?c0 ?k0 ?a1 ?l1 ?c1 ?k1 ?a2 ?l2 ?c2 ?k2 ?a3 ?l3 ?c3 ?k3 ?a4 ?l4 ?c4 ?k4 ?a5 ?l5 ?c5 ?k5 ?a6 ?l6 ?c6 ?k6 ?a7 ?l7 ?c7 ?k7 ?a8 ?l8 ?c8 ?k8 ?a9 ?l9 ?c9 ?k9 ?a10 ?l10 ?c10 ?k10 ?a11 ?l11 ?c11 ?k11 ?a12 ?l12 ?c12 ?k12 ?a13 ?l13 ?c13 ?k13 ?a14 ?l14 ?c14 ?k14 ?a15 ?l15 ?c15 ?k15 ?a16 ?l16 ?c16 ?k16 ?a17 ?l17 ?c17 ?k17 ?a18 ?l18 ?c18 ?k18 ?a19 ?l19 ?c19 ?k19 ?a20 ?l20 ?c20 ?k20 ?a21 ?l21 ?c21 ?k21 ?a22 ?l22 ?c22 ?k22 ?a23 ?l23 ?c23 ?k23 ?a24 ?l24 ?c24 ?k24 ?a25 ?l25 ?c25 ?k25 ?a26 ?l26 ?c26 ?k26 ?a27 ?l27 ?c27 ?k27 ?a28 ?l28 ?c28 ?k28 ?a29 ?l29 ?c29 ?k29 ?a30 ?l30 ?c30 ?k30 ?a31 ?l31 ?c31 ?k31 ?a32 ?l32 ?c32 ?k32 ?a33 ?l33 ?c33 ?k33 ?a34 ?l34 ?c34 ?k34 ?a35 ?l35 ?c35 ?k35 ?a36 ?l36 ?c36 ?k36 ?a37 ?l37 ?c37 ?k37 ?a38 ?l38 ?c38 ?k38 ?a39 ?l39 ?c39 ?k39 ?a40 ?l40 ?c40 ?k40 ?a41 ?l41 ?c41 ?k41 ?a42 ?l42 ?c42 ?k42 ?a43 ?l43 ?c43 ?k43 ?a44 ?l44 ?c44 ?k44 ?a45 ?l45 ?c45 ?k45 ?a46 ?l46 ?c46 ?k46 ?a47 ?l47 ?c47 ?k47 ?a48 ?l48 ?c48 ?k48 ?a49 ?l49 ?c49 ?k49 ?a50 ?l50 ?c50 ?k50 ?a51 ?l51 ?c51 ?k51 ?a52 ?l52 ?c52 ?k52 ?a53 ?l53 ?c53 ?k53 ?a54 ?l54 ?c54 ?k54 ?a55 ?l55 ?c55 ?k55 ?a56 ?l56 ?c56 ?k56 ?a57 ?l57 ?c57 ?k57 ?a58 ?l58 ?c58 ?k58 ?a59 ?l59 ?c59 ?k59
    (case gDIGITS => k_is); (case gRINGS => k_is); (case gPLACES => k_is); (case bgcd => k_is); (case z_abs => k_is); (case z_all => k_is); (case z_bool => k_is); (case z_dict => k_is)
    (case z_enumerate => k_is); (case z_int => k_is); (case z_isinstance => k_is); (case z_len => k_is); (case z_list => k_is); (case z_max => k_is); (case z_min => k_is); (case z_range => k_is)
    (case z_reversed => k_is); (case z_sorted => k_is); (case z_sum => k_is); (case z_tuple => k_is); (case z_zip => k_is); (case a0 => k_is); (case l0 => k_is); (case c0 => k_is)
    (case k0 => k_is); (case a1 => k_is); (case l1 => k_is); (case c1 => k_is); (case k1 => k_is); (case a2 => k_is); (case l2 => k_is); (case c2 => k_is)
    (case k2 => k_is); (case a3 => k_is); (case l3 => k_is); (case c3 => k_is); (case k3 => k_is); (case a4 => k_is); (case l4 => k_is); (case c4 => k_is)
    (case k4 => k_is); (case a5 => k_is); (case l5 => k_is); (case c5 => k_is); (case k5 => k_is); (case a6 => k_is); (case l6 => k_is); (case c6 => k_is)
    (case k6 => k_is); (case a7 => k_is); (case l7 => k_is); (case c7 => k_is); (case k7 => k_is); (case a8 => k_is); (case l8 => k_is); (case c8 => k_is)
    (case k8 => k_is); (case a9 => k_is); (case l9 => k_is); (case c9 => k_is); (case k9 => k_is); (case a10 => k_is); (case l10 => k_is); (case c10 => k_is)
    (case k10 => k_is); (case a11 => k_is); (case l11 => k_is); (case c11 => k_is); (case k11 => k_is); (case a12 => k_is); (case l12 => k_is); (case c12 => k_is)
    (case k12 => k_is); (case a13 => k_is); (case l13 => k_is); (case c13 => k_is); (case k13 => k_is); (case a14 => k_is); (case l14 => k_is); (case c14 => k_is)
    (case k14 => k_is); (case a15 => k_is); (case l15 => k_is); (case c15 => k_is); (case k15 => k_is); (case a16 => k_is); (case l16 => k_is); (case c16 => k_is)
    (case k16 => k_is); (case a17 => k_is); (case l17 => k_is); (case c17 => k_is); (case k17 => k_is); (case a18 => k_is); (case l18 => k_is); (case c18 => k_is)
    (case k18 => k_is); (case a19 => k_is); (case l19 => k_is); (case c19 => k_is); (case k19 => k_is); (case a20 => k_is); (case l20 => k_is); (case c20 => k_is)
    (case k20 => k_is); (case a21 => k_is); (case l21 => k_is); (case c21 => k_is); (case k21 => k_is); (case a22 => k_is); (case l22 => k_is); (case c22 => k_is)
    (case k22 => k_is); (case a23 => k_is); (case l23 => k_is); (case c23 => k_is); (case k23 => k_is); (case a24 => k_is); (case l24 => k_is); (case c24 => k_is)
    (case k24 => k_is); (case a25 => k_is); (case l25 => k_is); (case c25 => k_is); (case k25 => k_is); (case a26 => k_is); (case l26 => k_is); (case c26 => k_is)
    (case k26 => k_is); (case a27 => k_is); (case l27 => k_is); (case c27 => k_is); (case k27 => k_is); (case a28 => k_is); (case l28 => k_is); (case c28 => k_is)
    (case k28 => k_is); (case a29 => k_is); (case l29 => k_is); (case c29 => k_is); (case k29 => k_is); (case a30 => k_is); (case l30 => k_is); (case c30 => k_is)
    (case k30 => k_is); (case a31 => k_is); (case l31 => k_is); (case c31 => k_is); (case k31 => k_is); (case a32 => k_is); (case l32 => k_is); (case c32 => k_is)
    (case k32 => k_is); (case a33 => k_is); (case l33 => k_is); (case c33 => k_is); (case k33 => k_is); (case a34 => k_is); (case l34 => k_is); (case c34 => k_is)
    (case k34 => k_is); (case a35 => k_is); (case l35 => k_is); (case c35 => k_is); (case k35 => k_is); (case a36 => k_is); (case l36 => k_is); (case c36 => k_is)
    (case k36 => k_is); (case a37 => k_is); (case l37 => k_is); (case c37 => k_is); (case k37 => k_is); (case a38 => k_is); (case l38 => k_is); (case c38 => k_is)
    (case k38 => k_is); (case a39 => k_is); (case l39 => k_is); (case c39 => k_is); (case k39 => k_is); (case a40 => k_is); (case l40 => k_is); (case c40 => k_is)
    (case k40 => k_is); (case a41 => k_is); (case l41 => k_is); (case c41 => k_is); (case k41 => k_is); (case a42 => k_is); (case l42 => k_is); (case c42 => k_is)
    (case k42 => k_is); (case a43 => k_is); (case l43 => k_is); (case c43 => k_is); (case k43 => k_is); (case a44 => k_is); (case l44 => k_is); (case c44 => k_is)
    (case k44 => k_is); (case a45 => k_is); (case l45 => k_is); (case c45 => k_is); (case k45 => k_is); (case a46 => k_is); (case l46 => k_is); (case c46 => k_is)
    (case k46 => k_is); (case a47 => k_is); (case l47 => k_is); (case c47 => k_is); (case k47 => k_is); (case a48 => k_is); (case l48 => k_is); (case c48 => k_is)
    (case k48 => k_is); (case a49 => k_is); (case l49 => k_is); (case c49 => k_is); (case k49 => k_is); (case a50 => k_is); (case l50 => k_is); (case c50 => k_is)
    (case k50 => k_is); (case a51 => k_is); (case l51 => k_is); (case c51 => k_is); (case k51 => k_is); (case a52 => k_is); (case l52 => k_is); (case c52 => k_is)
    (case k52 => k_is); (case a53 => k_is); (case l53 => k_is); (case c53 => k_is); (case k53 => k_is); (case a54 => k_is); (case l54 => k_is); (case c54 => k_is)
    (case k54 => k_is); (case a55 => k_is); (case l55 => k_is); (case c55 => k_is); (case k55 => k_is); (case a56 => k_is); (case l56 => k_is); (case c56 => k_is)
    (case k56 => k_is); (case a57 => k_is); (case l57 => k_is); (case c57 => k_is); (case k57 => k_is); (case a58 => k_is); (case l58 => k_is); (case c58 => k_is)
    (case k58 => k_is); (case a59 => k_is); (case l59 => k_is); (case c59 => k_is); (case k59 => k_is)

