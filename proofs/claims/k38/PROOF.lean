import PyProof.Rows.All
import Wide.All
import OpenK.AllK
import Wide.FinOn
import HandS.Iter
import PyProof.LongRange
import HandS.ForMost
import KE.GoesEnum
import PySem.Challenge.RW_ringstairs_k38_whole_words_of_round_maps
import HandS.ForExc
import HandS.Wide
import HandS.SortInts
import HandS.Zip
import HandS.Style
import HandS.Rev
import HandS.TupMul
import HandS.IsInst
import HandS.Evl
import HandS.Gcd
import HandS.RevRange
import HandS.Small
import HandS.Conv
import HandS.Walk
import HandS.TupAny
import HandS.DictComp
import HandS.SlotsOwn
import KE.KOpsOwn
import KE.KMathG
import HandS.Property
import HandS.Star
import KE.KCallOwn
import HandS.TryOnly
import HandS.FStr
import KE.KRevSl
set_option Elab.async false
set_option linter.all false
set_option maxRecDepth 100000
set_option maxHeartbeats 4000000
/-! own rule: range(i, j) with ends of any size, walked -/
namespace LR
open PySem PySem.Spec PyProof.Rows L2
theorem turn_long {P : Program} {w : World} {K : PySem.W.Frag} {tg : Expr} (it : Addr) (lo : Int) (n : Nat) : Turn P w K tg (Itr lo n) [it] it (fun i h => IsLongIter h it (lo + (i : Nat) * 1) ((n : Int) - (i : Nat)) 1) where
  mem := by simp
  obj := fun i h st b hb => by
    have e : b = it := by simpa using hb
    subst e
    exact ⟨_, st, fun v z => nomatch z⟩
  keep := fun i h h' st k => k it (by simp) _ st
  item := by
    intro X hP hw hK hc i pins s σ H E I hf st hg
    subst hP hw hK
    obtain ⟨f0, f1, f2, f3, f4, f5⟩ := hf it (by simp)
    have W := Walks.longrange (prog := X.prog) (w := X.w) (I.ok.hd hc) it lo 1 n
    refine W.item i s _ _ hg st fun v h' tk hv st' kk => ?_
    obtain ⟨t, rfl⟩ := hv
    have I1 : Inv X pins σ H { s with heap := h', toks := tk } := I.turned (fun b o hb e => kk b o (by simpa using hb) e) f0 f1 f3 f4 f5
    exact ⟨_, rfl, go_of (s := { s with heap := h', toks := tk }) (n := "longrange_iterator") st' rfl rfl (by decide) ⟨.int (lo + (i : Nat) * 1), H, I1, ⟨t, rfl⟩, ⟨rfl, by simp⟩, st', fun b hb => (hf b hb).1⟩⟩
  done := by
    intro X hP hw hK hc i pins s σ H E I hf st hg
    subst hP hw hK
    obtain ⟨f0, f1, f2, f3, f4, f5⟩ := hf it (by simp)
    exact wpAny_pyNext_long_end (I.ok.hd hc) st (by have : n ≤ i := hg; omega) fun h' eb => ⟨rfl, I.turned (t' := s.toks) (fun b o hb e => eb b o hb e) f0 f1 f3 f4 f5⟩
  self := fun A i s Q E st h => wpAny_pyIter_longiter st h
theorem range_itL {X : Cx} {tg : Expr} {pins : List (Addr × Obj)} {σ : L2.St} {H : Hp} {s : Shared} {R : It → Hp → Prop} {E : Value → Shared → Prop} {lo hi : Int} {t u v : Tok} {tk : Nat} (I : Inv X pins σ H s) (hb : Builtin.Range.small lo hi 1 = false)
    (q : R (Itr lo (hi - lo).toNat) H) : wpAny (model X.prog X.w) X.A (pyIter (.ref s.heap.objs.size)) (PIE X pins σ tg R) E { s with heap := s.heap.push { cls := .type "range", data := .fields #[.int lo t, .int hi u, .int 1 v] }, toks := tk } := by
  refine wpAny_pyIter_longrange (IsRange.new ..) hb ?_
  have I1 : Inv X pins σ H { s with heap := s.heap.push { cls := .type "range", data := .fields #[.int lo t, .int hi u, .int 1 v] }, toks := tk } := I.kept fun b o e => Heap.get?_push_of_some _ e
  refine ⟨(s.heap.push { cls := .type "range", data := .fields #[.int lo t, .int hi u, .int 1 v] }).objs.size, [(s.heap.push { cls := .type "range", data := .fields #[.int lo t, .int hi u, .int 1 v] }).objs.size], _, _, H, rfl,
    I1.kept (t' := tk) fun b o e => Heap.get?_push_of_some _ e, turn_long _ lo (hi - lo).toNat, ?_, fun b hb => ?_, q⟩
  · have e1 : lo + ((0 : Nat) : Int) * 1 = lo := by simp
    have e2 : (((hi - lo).toNat : Nat) : Int) - ((0 : Nat) : Int) = Builtin.Range.rangeSize lo hi 1 := by rw [rangeSize_one]; split <;> omega
    show IsLongIter _ _ (lo + ((0 : Nat) : Int) * 1) ((((hi - lo).toNat : Nat) : Int) - ((0 : Nat) : Int)) 1
    rw [e1, e2]
    exact Heap.get?_push_size _ rfl
  · have e : b = (s.heap.push { cls := .type "range", data := .fields #[.int lo t, .int hi u, .int 1 v] }).objs.size := by simpa using hb
    subst e
    exact I1.fpOk (Nat.le_refl _) (I1.hok.fresh (Nat.le_refl _))
/-- small or not -/
theorem range_itS {X : Cx} {tg : Expr} {pins : List (Addr × Obj)} {σ : L2.St} {H : Hp} {s : Shared} {R : It → Hp → Prop} {E : Value → Shared → Prop} {lo hi : Int} {t u v : Tok} {tk : Nat} (I : Inv X pins σ H s) (hb : Builtin.Range.small lo hi 1 = true)
    (q : R (Itr lo (hi - lo).toNat) H) : wpAny (model X.prog X.w) X.A (pyIter (.ref s.heap.objs.size)) (PIE X pins σ tg R) E { s with heap := s.heap.push { cls := .type "range", data := .fields #[.int lo t, .int hi u, .int 1 v] }, toks := tk } := by
  refine wpAny_pyIter_range (IsRange.new ..) hb ?_
  have I1 : Inv X pins σ H { s with heap := s.heap.push { cls := .type "range", data := .fields #[.int lo t, .int hi u, .int 1 v] }, toks := tk } := I.kept fun b o e => Heap.get?_push_of_some _ e
  refine ⟨(s.heap.push { cls := .type "range", data := .fields #[.int lo t, .int hi u, .int 1 v] }).objs.size, [(s.heap.push { cls := .type "range", data := .fields #[.int lo t, .int hi u, .int 1 v] }).objs.size], _, _, H, rfl,
    I1.kept (t' := tk) fun b o e => Heap.get?_push_of_some _ e, turn_range _ lo (hi - lo).toNat, ?_, fun b hb => ?_, q⟩
  · have e1 : lo + ((0 : Nat) : Int) * 1 = lo := by simp
    have e2 : (((hi - lo).toNat : Nat) : Int) - ((0 : Nat) : Int) = Builtin.Range.rangeSize lo hi 1 := by rw [rangeSize_one]; split <;> omega
    show IsRangeIter _ _ (lo + ((0 : Nat) : Int) * 1) ((((hi - lo).toNat : Nat) : Int) - ((0 : Nat) : Int)) 1
    rw [e1, e2]
    exact Heap.get?_push_size _ rfl
  · have e : b = (s.heap.push { cls := .type "range", data := .fields #[.int lo t, .int hi u, .int 1 v] }).objs.size := by simpa using hb
    subst e
    exact I1.fpOk (Nat.le_refl _) (I1.hok.fresh (Nat.le_refl _))
def iRng2L (ta : TA) : TI := fun σ H R => ta σ H fun vs H1 => ∃ i j : Int, vs = [.int i, .int j] ∧ R (Itr i (j - i).toNat) H1
theorem pi_range2L {X : Cx} {tg : Expr} {a b : Expr} {ta : TA} {p pos : Pos} (hg : Gl X "range") (hm : X.mg "range" = none) (ha : PA X [a, b] ta) (hs : starEach [a, b] X.env = [(false, eval a X.env), (false, eval b X.env)] := by rfl) (hs2 : starEach [b] X.env = [(false, eval b X.env)] := by rfl) :
    PI X tg (.Call (.Name "range" p) [a, b] [] pos) (iRng2L ta) := by
  refine ⟨fun pins s σ H R I h => ?_⟩
  refine Call_ (ld_blt I hg hm boot_range (PyProof.Rows.callWith_type1 (thn (ha.run pos pins s σ H _ I h) fun us s1 ⟨vs, H1, I1, r1, q1⟩ => ?_) (by rw [hs, hs2]) (by rw [hs2]; rfl)))
  obtain ⟨i, j, e, q⟩ := q1
  subst e
  cases r1 with
  | cons r rr =>
    cases rr with
    | cons r' rr =>
      cases rr
      obtain ⟨t, rfl⟩ := r
      obtain ⟨t', rfl⟩ := r'
      cases hb : Builtin.Range.small i j 1 with
      | true => exact call_range_2 (range_itS I1 hb q)
      | false => exact call_range_2 (range_itL I1 hb q)
end LR

/-! plain mathematics for the orders and the diagonals -/
namespace K1M
/-- the step: the i-th place on the way from the right door by the left door -/
theorem dvd_iff {n s i : Nat} (hn : 0 < n) : (i * s) % n = 0 ↔ (n / Nat.gcd n s) ∣ i := by
  have hg : 0 < Nat.gcd n s := Nat.gcd_pos_of_pos_left _ hn
  have hc : Nat.Coprime (n / Nat.gcd n s) (s / Nat.gcd n s) := Nat.coprime_div_gcd_div_gcd hg
  have hn' : n = Nat.gcd n s * (n / Nat.gcd n s) := (Nat.mul_div_cancel' (Nat.gcd_dvd_left n s)).symm
  have hs' : s = Nat.gcd n s * (s / Nat.gcd n s) := (Nat.mul_div_cancel' (Nat.gcd_dvd_right n s)).symm
  constructor
  · intro h
    have d : n ∣ i * s := Nat.dvd_of_mod_eq_zero h
    have d2 : Nat.gcd n s * (n / Nat.gcd n s) ∣ Nat.gcd n s * (i * (s / Nat.gcd n s)) := by
      rw [← hn']
      have e : Nat.gcd n s * (i * (s / Nat.gcd n s)) = i * s := by
        rw [Nat.mul_left_comm, ← hs']
      rw [e]
      exact d
    have d3 := Nat.dvd_of_mul_dvd_mul_left hg d2
    exact hc.dvd_of_dvd_mul_right d3
  · rintro ⟨c, rfl⟩
    apply Nat.mod_eq_zero_of_dvd
    refine ⟨c * (s / Nat.gcd n s), ?_⟩
    have e : n / Nat.gcd n s * c * s = n / Nat.gcd n s * c * (Nat.gcd n s * (s / Nat.gcd n s)) := by rw [← hs']
    rw [e]
    have e2 : n * (c * (s / Nat.gcd n s)) = Nat.gcd n s * (n / Nat.gcd n s) * (c * (s / Nat.gcd n s)) := by rw [← hn']
    rw [e2]
    simp only [Nat.mul_assoc, Nat.mul_left_comm, Nat.mul_comm]
def ord (n s : Nat) : Nat := n / Nat.gcd n s
theorem ord_pos {n s : Nat} (hn : 0 < n) : 0 < ord n s := Nat.div_pos (Nat.gcd_le_left s hn) (Nat.gcd_pos_of_pos_left _ hn)
theorem ord_le {n s : Nat} : ord n s ≤ n := Nat.div_le_self _ _
theorem ord_ge2 {n s : Nat} (h1 : 1 ≤ s) (h2 : s < n) : 2 ≤ ord n s := by
  have hn : 0 < n := by omega
  have hg : 0 < Nat.gcd n s := Nat.gcd_pos_of_pos_left _ hn
  have hle : Nat.gcd n s ≤ s := Nat.le_of_dvd h1 (Nat.gcd_dvd_right n s)
  have hn' : n = Nat.gcd n s * ord n s := (Nat.mul_div_cancel' (Nat.gcd_dvd_left n s)).symm
  rcases Nat.lt_or_ge (ord n s) 2 with h | h
  · exfalso
    have hp := ord_pos (s := s) hn
    have e1 : ord n s = 1 := by omega
    rw [e1, Nat.mul_one] at hn'
    omega
  · exact h
/-- the way: while the next is not 0 and there are fewer than n -/
def stp (n s i : Nat) : Nat := (i * s) % n
theorem stp_zero_iff {n s i : Nat} (hn : 0 < n) : stp n s i = 0 ↔ ord n s ∣ i := dvd_iff hn
theorem stp_mod {n s i : Nat} (hn : 0 < n) : stp n s (i % ord n s) = stp n s i := by
  have h0 : (ord n s * s) % n = 0 := (stp_zero_iff (i := ord n s) hn).mpr (Nat.dvd_refl _)
  have e : i = ord n s * (i / ord n s) + i % ord n s := (Nat.div_add_mod i (ord n s)).symm
  have e2 : i * s = (i / ord n s) * (ord n s * s) + (i % ord n s) * s := by
    have : (ord n s * (i / ord n s) + i % ord n s) * s = (i / ord n s) * (ord n s * s) + (i % ord n s) * s := by
      rw [Nat.add_mul]
      congr 1
      simp only [Nat.mul_assoc, Nat.mul_left_comm, Nat.mul_comm]
    rw [← this, ← e]
  obtain ⟨q, hq⟩ := Nat.dvd_of_mod_eq_zero h0
  unfold stp
  rw [e2, hq, Nat.mul_left_comm, Nat.add_comm, Nat.add_mul_mod_self_left]
/-- the same for integers: the diagonal's place -/
theorem istp {n s : Nat} (hn : 0 < n) (c : Int) : (c * (s : Int)) % (n : Int) = ((stp n s (c % (ord n s : Int)).toNat : Nat) : Int) := by
  have hm : 0 < ord n s := ord_pos hn
  have hm' : (0 : Int) < (ord n s : Int) := by exact_mod_cast hm
  have hr0 : 0 ≤ c % (ord n s : Int) := Int.emod_nonneg _ (by omega)
  have h0 : ((ord n s : Int) * (s : Int)) % (n : Int) = 0 := by
    have h0 : (ord n s * s) % n = 0 := (stp_zero_iff (i := ord n s) hn).mpr (Nat.dvd_refl _)
    have := congrArg (fun x : Nat => (x : Int)) h0
    simpa using this
  have e : c = (ord n s : Int) * (c / (ord n s : Int)) + c % (ord n s : Int) := (Int.mul_ediv_add_emod c (ord n s : Int)).symm
  have e2 : c * (s : Int) = (c / (ord n s : Int)) * ((ord n s : Int) * (s : Int)) + (c % (ord n s : Int)) * (s : Int) := by
    have : ((ord n s : Int) * (c / (ord n s : Int)) + c % (ord n s : Int)) * (s : Int) = (c / (ord n s : Int)) * ((ord n s : Int) * (s : Int)) + (c % (ord n s : Int)) * (s : Int) := by
      rw [Int.add_mul]
      congr 1
      rw [Int.mul_assoc, Int.mul_left_comm]
    rw [← this, ← e]
  rw [e2, Int.add_emod, Int.mul_emod, h0, Int.mul_zero, Int.zero_emod, Int.zero_add, Int.emod_emod]
  unfold stp
  have e3 : c % (ord n s : Int) = (((c % (ord n s : Int)).toNat : Nat) : Int) := (Int.toNat_of_nonneg hr0).symm
  conv => lhs; rw [e3]
  simp
/-- does_let tells just the place -/
theorem lets_iff {n : Nat} {x p : Int} (hn : 0 < n) (h0 : 0 ≤ p) (h1 : p < n) : (x - p) % (n : Int) = 0 ↔ x % (n : Int) = p := by
  have hn' : (0 : Int) < n := by exact_mod_cast hn
  constructor
  · intro h
    have e := Int.emod_emod_of_dvd x (Int.dvd_refl (n : Int))
    have h2 : x = (n : Int) * ((x - p) / n) + p := by
      have := Int.mul_ediv_add_emod (x - p) n
      omega
    rw [h2, Int.add_comm, Int.add_mul_emod_self_left]
    exact Int.emod_eq_of_lt h0 h1
  · intro h
    have h2 := Int.mul_ediv_add_emod x n
    have h3 : x - p = (n : Int) * (x / n) := by omega
    rw [h3, Int.mul_emod_right]
/-- the stop of the loop is the order -/
theorem stop_is {n s k : Nat} (hn : 0 < n) (hk : 1 ≤ k) (hkn : k ≤ n) (hlow : ∀ i, 0 < i → i < k → stp n s i ≠ 0) (hstop : stp n s k = 0 ∨ k = n) : k = ord n s := by
  have hm := ord_pos (s := s) hn
  have hmn : ord n s ≤ n := ord_le
  have h1 : k ≤ ord n s := by
    rcases Nat.lt_or_ge (ord n s) k with h | h
    · exact absurd ((stp_zero_iff hn).mpr (Nat.dvd_refl _)) (hlow _ hm h)
    · exact h
  rcases hstop with h | h
  · have d := (stp_zero_iff hn).mp h
    have := Nat.le_of_dvd hk d
    omega
  · omega
end K1M

/-! plain mathematics for the written names -/
namespace K1N
def nAt (rs : List (Int × Int)) (j : Nat) : Nat := (rs.getD j (0, 0)).1.toNat
def sAt (rs : List (Int × Int)) (j : Nat) : Int := (rs.getD j (0, 0)).2
def row (j n : Nat) : List (Int × Int) := (List.range n).map fun (q : Nat) => ((j : Int), (q : Int))
def pre (rs : List (Int × Int)) : Nat → List (Int × Int)
  | 0 => []
  | i + 1 => pre rs i ++ row i (nAt rs i)
/-- a place that is its own written name -/
def own (rs : List (Int × Int)) (p : Int × Int) : Bool := !(decide (0 < p.1) && decide (p.2 = sAt rs p.1.toNat))
def names (rs : List (Int × Int)) : List (Int × Int) := (pre rs rs.length).filter (own rs)
def sumTo (rs : List (Int × Int)) : Nat → Nat
  | 0 => 0
  | i + 1 => sumTo rs i + nAt rs i
theorem row_succ (j n : Nat) : row j (n + 1) = row j n ++ [((j : Int), (n : Int))] := by
  unfold row
  rw [List.range_succ, List.map_append]
  rfl
theorem row_len (j n : Nat) : (row j n).length = n := by
  unfold row
  rw [List.length_map, List.length_range]
theorem pre_len {rs : List (Int × Int)} (h : ∀ j, nAt rs j ≤ 60) : ∀ i, (pre rs i).length ≤ 60 * i
  | 0 => Nat.le_refl _
  | i + 1 => by
    show (pre rs i ++ row i (nAt rs i)).length ≤ 60 * (i + 1)
    rw [List.length_append, row_len]
    have := pre_len h i
    have := h i
    omega
theorem row0 (rs : List (Int × Int)) : ∀ n, ((row 0 n).filter (own rs)).length = n
  | 0 => rfl
  | n + 1 => by
    rw [row_succ, List.filter_append, List.length_append, row0 rs n]
    have : own rs (((0 : Nat) : Int), (n : Int)) = true := rfl
    rw [List.filter_cons, if_pos this]
    rfl
theorem rowS (rs : List (Int × Int)) (j : Nat) (s : Nat) (hs : sAt rs (j + 1) = (s : Int)) : ∀ n, ((row (j + 1) n).filter (own rs)).length = if s < n then n - 1 else n
  | 0 => rfl
  | n + 1 => by
    rw [row_succ, List.filter_append, List.length_append, rowS rs j s hs n]
    by_cases c : n = s
    · have e : own rs (((j + 1 : Nat) : Int), (n : Int)) = false := by
        unfold own
        rw [show (((j + 1 : Nat) : Int)).toNat = j + 1 by omega, hs, decide_eq_true (show (0 : Int) < ((j + 1 : Nat) : Int) by omega), decide_eq_true (show (n : Int) = (s : Int) by omega)]
        rfl
      have e2 : [(((j + 1 : Nat) : Int), (n : Int))].filter (own rs) = [] := by
        rw [List.filter_cons, if_neg (show ¬ own rs (((j + 1 : Nat) : Int), (n : Int)) = true by rw [e]; decide)]
        rfl
      rw [e2, if_neg (show ¬ s < n by omega), if_pos (show s < n + 1 by omega)]
      show n + 0 = n + 1 - 1
      omega
    · have e : own rs (((j + 1 : Nat) : Int), (n : Int)) = true := by
        unfold own
        rw [show (((j + 1 : Nat) : Int)).toNat = j + 1 by omega, hs, decide_eq_false (show ¬ (n : Int) = (s : Int) by omega), Bool.and_false]
        rfl
      rw [List.filter_cons, if_pos e]
      show (if s < n then n - 1 else n) + 1 = _
      by_cases c2 : s < n
      · rw [if_pos c2, if_pos (by omega)]
        omega
      · rw [if_neg c2, if_neg (by omega)]
/-- how many written names -/
theorem count_to {rs : List (Int × Int)} (h : ∀ j, j < rs.length → 1 ≤ sAt rs j ∧ sAt rs j < (nAt rs j : Int)) : ∀ i, 1 ≤ i → i ≤ rs.length → ((pre rs i).filter (own rs)).length + i = sumTo rs i + 1
  | 0, z, _ => absurd z (by decide)
  | 1, _, h1 => by
    show (([] ++ row 0 (nAt rs 0)).filter (own rs)).length + 1 = 0 + nAt rs 0 + 1
    rw [List.nil_append, row0]
    omega
  | i + 2, _, h1 => by
    have ih := count_to h (i + 1) (by omega) (by omega)
    have hs := h (i + 1) (by omega)
    have hr := rowS rs i (sAt rs (i + 1)).toNat (by omega) (nAt rs (i + 1))
    rw [if_pos (by omega)] at hr
    show ((pre rs (i + 1) ++ row (i + 1) (nAt rs (i + 1))).filter (own rs)).length + (i + 2) = sumTo rs (i + 1) + nAt rs (i + 1) + 1
    rw [List.filter_append, List.length_append, hr]
    omega
theorem nAt_left {a b : List (Int × Int)} {j : Nat} (h : j < a.length) : nAt (a ++ b) j = nAt a j := by
  unfold nAt
  rw [List.getD_eq_getElem?_getD, List.getD_eq_getElem?_getD, List.getElem?_append_left h]
theorem nAt_right {a b : List (Int × Int)} {j : Nat} : nAt (a ++ b) (a.length + j) = nAt b j := by
  unfold nAt
  rw [List.getD_eq_getElem?_getD, List.getD_eq_getElem?_getD, List.getElem?_append_right (by omega), Nat.add_sub_cancel_left]
theorem sum_left {a b : List (Int × Int)} : ∀ i, i ≤ a.length → sumTo (a ++ b) i = sumTo a i
  | 0, _ => rfl
  | i + 1, h => by
    show sumTo (a ++ b) i + nAt (a ++ b) i = sumTo a i + nAt a i
    rw [sum_left i (by omega), nAt_left (by omega)]
theorem sum_right {a b : List (Int × Int)} : ∀ i, sumTo (a ++ b) (a.length + i) = sumTo a a.length + sumTo b i
  | 0 => by
    rw [Nat.add_zero, sum_left _ (Nat.le_refl _)]
    rfl
  | i + 1 => by
    show sumTo (a ++ b) (a.length + i) + nAt (a ++ b) (a.length + i) = sumTo a a.length + (sumTo b i + nAt b i)
    rw [sum_right i, nAt_right, Nat.add_assoc]
theorem names_joined {a b : List (Int × Int)} (ha : 1 ≤ a.length) (hb : 1 ≤ b.length) (h1 : ∀ j, j < a.length → 1 ≤ sAt a j ∧ sAt a j < (nAt a j : Int)) (h2 : ∀ j, j < b.length → 1 ≤ sAt b j ∧ sAt b j < (nAt b j : Int))
    (h3 : ∀ j, j < (a ++ b).length → 1 ≤ sAt (a ++ b) j ∧ sAt (a ++ b) j < (nAt (a ++ b) j : Int)) : (names (a ++ b)).length + 1 = (names a).length + (names b).length := by
  unfold names
  have e1 := count_to h1 a.length ha (Nat.le_refl _)
  have e2 := count_to h2 b.length hb (Nat.le_refl _)
  have e3 := count_to h3 (a ++ b).length (by rw [List.length_append]; omega) (Nat.le_refl _)
  have e4 := sum_right (a := a) (b := b) b.length
  rw [List.length_append] at e3 ⊢
  omega
end K1N

/-! enumerate over a tuple, one argument -/
namespace EnT
open PySem PySem.Spec PyProof.Rows L2
theorem made {v : Value} {o : Obj} {Hy : Heap → Prop} (B : Begins v o Hy) : Meets (Builtin.«enumerate.__new__» ⟨[.type "enumerate", v], []⟩) (fun _ R s => Hy s.heap ∧
      R (.ok (.ret (.ref (s.heap.push o).objs.size))) { s with heap := (s.heap.push o).push { cls := .type "enumerate", data := .fields #[.none, .bool false, .ref s.heap.objs.size, rawInt 0, .none, .none] } }) :=
  .of_wp fun prog w A R s z => by
    obtain ⟨hp, gs, dr, tk, os⟩ := s
    obtain ⟨z1, z2⟩ := z
    have sb := sub_enumerate
    have it1 : ∀ {A2 : Around} {E2 : Value → Shared → Prop} {Q2 : Value → Shared → Prop}, Q2 (.ref hp.objs.size) ⟨hp.push o, gs, dr, tk, os⟩ → wpAny (model prog w) A2 (pyIter v) Q2 E2 ⟨hp, gs, dr, tk, os⟩ :=
      fun y => B.iter prog w _ _ ⟨hp, gs, dr, tk, os⟩ _ z1 y
    wp_walk using it1
    refine wpAny_stack_any fun _ => wpAny_pure ?_
    split
    · rename_i c _ _ _ _ _
      cases (c == Value.type "enumerate")
      · wp_walk using it1
        exact ⟨_, rfl, z2⟩
      · wp_walk using it1
        exact ⟨_, rfl, z2⟩
    · wp_walk using it1
      exact ⟨_, rfl, z2⟩
section
variable {prog : Program} {w : World} {A : Around} {E : Value → Shared → Prop} {s : Shared}
theorem call_made {v : Value} {o : Obj} {Hy : Heap → Prop} {Q : Value → Shared → Prop} (B : Begins v o Hy) (h1 : Hy s.heap)
    (k : ∀ h2, IsEnum h2 (s.heap.objs.size + 1) s.heap.objs.size 0 .none → h2.get? s.heap.objs.size = some o → (∀ b u, s.heap.get? b = some u → h2.get? b = some u) → Q (.ref (s.heap.objs.size + 1)) { s with heap := h2 }) :
    wpAny (model prog w) A (call (.type "enumerate") [v]) Q E s := by
  refine callType_new F.called_enumerate (by decide) (F.typeCall_enumerate_1 _) (F.newCall_enumerate_1 _) (fun obj => F.args_object_init_2 obj _) F.entry_enumerate_new (made B) ⟨h1, ?_⟩
  have sz : (s.heap.push o).objs.size = s.heap.objs.size + 1 := by rw [Heap.size_push]
  show _ ∧ _
  rw [sz]
  have en := Heap.get?_push_size (s.heap.push o) (o := { cls := .type "enumerate", data := .fields #[.none, .bool false, .ref s.heap.objs.size, rawInt 0, .none, .none] }) rfl
  rw [sz] at en
  exact ⟨⟨_, en, rfl⟩, k _ en (Heap.get?_push_of_some _ (Heap.get?_push_size _ B.free)) fun b u y => Heap.get?_push_of_some _ (Heap.get?_push_of_some _ y)⟩
end
/-- the tuple at a, each item in a new pair with its number -/
def IteT (K : PySem.W.Frag) (a : Addr) : It :=
  ⟨fun i H => ∃ (ts : List V) (x : V), SqT K H a ts ∧ ts[i]? = some x, fun i H v H' => ∃ T x, v = .ref T ∧ H T = none ∧ H' = upd H T (.tup [.int (i : Nat), x]) ∧ ∀ ts, SqT K H a ts → ts[i]? = some x, fun i H => ∃ ts : List V, SqT K H a ts ∧ ts.length = i⟩
theorem tup_inj {X : Cx} {pins : List (Addr × Obj)} {σ : L2.St} {H : Hp} {s : Shared} {a : Addr} {xs ys : List V} (I : Inv X pins σ H s) (h1 : SqT X.K H a xs) (h2 : SqT X.K H a ys) : xs = ys := by
  obtain ⟨i1, r1, ⟨o1, g1, c1, n1, d1⟩, _⟩ := I.tuple h1
  obtain ⟨i2, r2, ⟨o2, g2, c2, n2, d2⟩, _⟩ := I.tuple h2
  rw [g1] at g2
  have e := Option.some.inj g2
  subst e
  rw [d1] at d2
  injection d2 with e1 _
  have e3 : i1 = i2 := by simpa using e1
  subst e3
  exact Vals.inj r1 r2
theorem turn {P : Program} {w : World} {K : PySem.W.Frag} {elts : List Expr} {kk : Nat} {tpos : Pos} (a e it : Addr) :
    Turn P w K (.Tuple elts kk tpos) (IteT K a) [e, it] e (fun i h => (∃ old, IsEnum h e it ((i : Nat) : Int) old) ∧ h.IsTupleIter it a i ∧ e ≠ it ∧ a ≠ e ∧ a ≠ it) where
  mem := by simp
  obj := fun i h st b hb => by
    obtain ⟨⟨old, he⟩, ⟨o, ho, hc, hd⟩, _⟩ := st
    rcases (show b = e ∨ b = it by simpa using hb) with z | z
    · rw [z]
      exact ⟨_, he, fun v q => nomatch q⟩
    · rw [z]
      exact ⟨o, ho, fun v q => by rw [hd] at q; cases q⟩
  keep := fun i h h' st k => by
    obtain ⟨⟨old, he⟩, ⟨o, ho, hc, hd⟩, n1, n2, n3⟩ := st
    exact ⟨⟨old, k e (by simp) _ he⟩, ⟨o, k it (by simp) _ ho, hc, hd⟩, n1, n2, n3⟩
  item := by
    intro X hP hw hK hc i pins s σ H E I hf st hg
    subst hP hw hK
    obtain ⟨⟨old, he⟩, hit, n1, n2, n3⟩ := st
    obtain ⟨xs, x, hq, hx⟩ := hg
    obtain ⟨its, rv, p, _⟩ := I.tuple hq
    obtain ⟨u, hu, ru⟩ := rv.get hx
    have hel : e < s.heap.objs.size := Heap.lt_size he
    have hil : it < s.heap.objs.size := by
      obtain ⟨_, q, _⟩ := hit
      exact Heap.lt_size q
    have hlt : i < its.toArray.size := by
      have := (List.getElem?_eq_some_iff.mp hu).1
      simpa using this
    have hh : X.A.in1.handled = none := I.ok.hd hc
    have DT := Draws.tuple (prog := X.prog) (w := X.w) hh it a n3 its.toArray
    refine wpAny_pyNext_enum_itemD DT he ⟨hit, p⟩ hlt n1 (by simp [n1, Ne.symm n2]) fun y h1 tk hy ho hst hT hsz hk => ?_
    have ey : y = u := by
      have q : its.toArray[i]? = some u := by simpa using hu
      exact Option.some.inj (hy.symm.trans q)
    subst ey
    refine ⟨_, rfl, wpAny_letOwnedTupleGo_enum (s := { s with heap := h1, toks := tk + 1 }) ho fun h2 he2 sb => ?_⟩
    have hT2 : h2.get? s.heap.objs.size = some { cls := .type "tuple", data := .seq #[.int i tk, y] } := (sb.2 _ (Nat.ne_of_gt hel)).trans hT
    have new : ObjOk X.prog X.w (upd H s.heap.objs.size (.tup [.int (i : Nat), x])) h2 s.heap.objs.size (.tup [.int (i : Nat), x]) :=
      ⟨show 2 ≤ sizeLine by decide, [.int i tk, y], .cons ⟨_, rfl⟩ (.cons ru .nil), ⟨_, hT2, rfl, _, rfl⟩⟩
    have I1 : Inv X pins σ (upd H s.heap.objs.size (.tup [.int (i : Nat), x])) { s with heap := h2, toks := tk + 1 } :=
      I.turnedNew (ch := [e, it]) (fun b ob hb q => (sb.2 b (fun z => hb (by simp [z]))).trans (hk b ob (fun z => hb (by simp [z])) (fun z => hb (by simp [z])) q)) hf (Nat.le_refl _) new
    obtain ⟨oi, g1, g2, g3⟩ := hst.1
    refine ⟨.ref s.heap.objs.size, _, I1, rfl, ⟨_, x, rfl, I.hok.fresh (Nat.le_refl _), rfl, fun ys hys => by rw [tup_inj I hys hq]; exact hx⟩, ⟨⟨y, ?_⟩, ⟨oi, (sb.2 it (Ne.symm n1)).trans g1, g2, g3⟩, n1, n2, n3⟩, fun b hb => ?_⟩
    · rw [show ((i + 1 : Nat) : Int) = (i : Int) + 1 by omega]
      exact he2
    · have hb2 : b < s.heap.objs.size := by
        rcases (show b = e ∨ b = it by simpa using hb) with z | z
        · rw [z]
          exact hel
        · rw [z]
          exact hil
      rw [upd_ne (Nat.ne_of_lt hb2)]
      exact (hf b hb).1
  done := by
    intro X hP hw hK hc i pins s σ H E I hf st hg
    subst hP hw hK
    obtain ⟨⟨old, he⟩, hit, n1, n2, n3⟩ := st
    obtain ⟨xs, hq, hx⟩ := hg
    obtain ⟨its, rv, p, _⟩ := I.tuple hq
    obtain ⟨f0, f1, f2, f3, f4, f5⟩ := hf it (by simp)
    have hl := rv.length
    have hn : its.toArray.size = i := by
      rw [List.size_toArray]
      omega
    have hh : X.A.in1.handled = none := I.ok.hd hc
    have DT := Draws.tuple (prog := X.prog) (w := X.w) hh it a n3 its.toArray
    refine wpAny_pyNext_enum_endD DT he ⟨?_, p⟩ fun h1 eb => ⟨rfl, I.turned (t' := s.toks) (fun b o hb q => eb b o hb q) f0 f1 f3 f4 f5⟩
    rw [hn]
    exact hit
  self := fun A i s Q E st h => by
    obtain ⟨⟨_, he⟩, _⟩ := st
    exact wpAny_pyIter_enum he h
def iEnumT (K : PySem.W.Frag) (ta : TA) : TI := fun σ H R => ta σ H fun vs H1 => ∃ a xs, vs = [.ref a] ∧ SqT K H1 a xs ∧ R (IteT K a) H1
theorem pi_enumT {X : Cx} {e : Expr} {ta : TA} {p pos tpos : Pos} {elts : List Expr} {kk : Nat} (hg : Gl X "enumerate") (hm : X.mg "enumerate" = none) (ha : PA X [e] ta) (hs : starEach [e] X.env = [(false, eval e X.env)] := by rfl) :
    PI X (.Tuple elts kk tpos) (.Call (.Name "enumerate" p) [e] [] pos) (iEnumT X.K ta) := by
  refine ⟨fun pins s σ H R I h => ?_⟩
  refine Call_ (ld_blt I hg hm boot_enumerate (PyProof.Rows.callWith_type1 (thn (ha.run pos pins s σ H _ I h) fun us s1 ⟨vs, H1, I1, r1, y1⟩ => ?_) hs rfl))
  obtain ⟨a, xs, ex, hq, q⟩ := y1
  subst ex
  cases r1 with
  | cons r rr =>
    cases rr
    cases r
    obtain ⟨its, rv, p2, _⟩ := I1.tuple hq
    have hal : a < s1.heap.objs.size := by
      obtain ⟨o, g, _⟩ := p2
      exact Heap.lt_size g
    refine call_made (begins_tuple a its.toArray) p2 fun h2 he hit hk => wpAny_pyIter_enum he ?_
    have I2 : Inv X pins σ H1 { s1 with heap := h2 } := I1.kept (t' := s1.toks) hk
    refine ⟨s1.heap.objs.size + 1, [s1.heap.objs.size + 1, s1.heap.objs.size], _, _, H1, rfl, I2, turn a (s1.heap.objs.size + 1) s1.heap.objs.size, ⟨⟨.none, he⟩, ⟨_, hit, rfl, rfl⟩, Nat.succ_ne_self _, Nat.ne_of_lt (Nat.lt_succ_of_lt hal), Nat.ne_of_lt hal⟩, fun b hb => ?_, q⟩
    have hle : s1.heap.objs.size ≤ b := by
      rcases (show b = s1.heap.objs.size + 1 ∨ b = s1.heap.objs.size by simpa using hb) with z | z
      · rw [z]
        exact Nat.le_add_right _ _
      · rw [z]
        exact Nat.le_refl _
    exact I1.fpOk hle (I1.hok.fresh hle)
end EnT

namespace K1
open PySem PySem.Spec PyProof.Rows L2 Evl
def topS (i : Nat) : Stmt := PySem.Challenge.pw_ringstairs_k38_whole_words_of_round_maps.main.body.getD i (.Pass ⟨0, 0, 0, 0⟩)
abbrev sWall : Stmt := topS 1
abbrev nWall : List Str := ["k"]
theorem scWall : FnScope nWall ["k"] (defScope sWall) := ⟨rfl, rfl, rfl, by decide +kernel, rfl, by decide +kernel, by decide +kernel⟩
abbrev sIsInteger : Stmt := topS 11
abbrev nIsInteger : List Str := ["value"]
theorem scIsInteger : FnScope nIsInteger ["value"] (defScope sIsInteger) := ⟨rfl, rfl, rfl, by decide +kernel, rfl, by decide +kernel, by decide +kernel⟩
abbrev sIsBetween : Stmt := topS 12
abbrev nIsBetween : List Str := ["value", "low", "high"]
theorem scIsBetween : FnScope nIsBetween ["value", "low", "high"] (defScope sIsBetween) := ⟨rfl, rfl, rfl, by decide +kernel, rfl, by decide +kernel, by decide +kernel⟩
abbrev sIsPair : Stmt := topS 13
abbrev nIsPair : List Str := ["value"]
theorem scIsPair : FnScope nIsPair ["value"] (defScope sIsPair) := ⟨rfl, rfl, rfl, by decide +kernel, rfl, by decide +kernel, by decide +kernel⟩
abbrev sIsRow : Stmt := topS 14
abbrev nIsRow : List Str := ["value", "many", "low", "high", "number"]
theorem scIsRow : FnScope nIsRow ["value", "many", "low", "high"] (defScope sIsRow) := ⟨rfl, rfl, rfl, by decide +kernel, rfl, by decide +kernel, by decide +kernel⟩
abbrev sCheckInteger : Stmt := topS 15
abbrev nCheckInteger : List Str := ["value"]
theorem scCheckInteger : FnScope nCheckInteger ["value"] (defScope sCheckInteger) := ⟨rfl, rfl, rfl, by decide +kernel, rfl, by decide +kernel, by decide +kernel⟩
abbrev sCheckBetween : Stmt := topS 16
abbrev nCheckBetween : List Str := ["value", "low", "high"]
theorem scCheckBetween : FnScope nCheckBetween ["value", "low", "high"] (defScope sCheckBetween) := ⟨rfl, rfl, rfl, by decide +kernel, rfl, by decide +kernel, by decide +kernel⟩
abbrev sCheckDigits : Stmt := topS 17
abbrev nCheckDigits : List Str := ["numbers", "number"]
theorem scCheckDigits : FnScope nCheckDigits ["numbers"] (defScope sCheckDigits) := ⟨rfl, rfl, rfl, by decide +kernel, rfl, by decide +kernel, by decide +kernel⟩
abbrev sIsRound : Stmt := topS 20
abbrev nIsRound : List Str := ["value", "many", "number"]
theorem scIsRound : FnScope nIsRound ["value"] (defScope sIsRound) := ⟨rfl, rfl, rfl, by decide +kernel, rfl, by decide +kernel, by decide +kernel⟩
abbrev sValueIn : Stmt := topS 22
abbrev nValueIn : List Str := ["values", "i", "rest"]
theorem scValueIn : FnScope nValueIn ["values", "i"] (defScope sValueIn) := ⟨rfl, rfl, rfl, by decide +kernel, rfl, by decide +kernel, by decide +kernel⟩
abbrev sShiftIn : Stmt := topS 23
abbrev nShiftIn : List Str := ["values", "many"]
theorem scShiftIn : FnScope nShiftIn ["values"] (defScope sShiftIn) := ⟨rfl, rfl, rfl, by decide +kernel, rfl, by decide +kernel, by decide +kernel⟩
abbrev sFallsIn : Stmt := topS 24
abbrev nFallsIn : List Str := ["values", "many", "late", "early"]
theorem scFallsIn : FnScope nFallsIn ["values"] (defScope sFallsIn) := ⟨rfl, rfl, rfl, by decide +kernel, rfl, by decide +kernel, by decide +kernel⟩
abbrev sValuesBack : Stmt := topS 25
abbrev nValuesBack : List Str := ["values", "many", "spots", "spot", "value", "rest"]
theorem scValuesBack : FnScope nValuesBack ["values"] (defScope sValuesBack) := ⟨rfl, rfl, rfl, by decide +kernel, rfl, by decide +kernel, by decide +kernel⟩
abbrev sAreEqual : Stmt := topS 26
abbrev nAreEqual : List Str := ["values", "others", "places", "i"]
theorem scAreEqual : FnScope nAreEqual ["values", "others"] (defScope sAreEqual) := ⟨rfl, rfl, rfl, by decide +kernel, rfl, by decide +kernel, by decide +kernel⟩
abbrev sToldRound : Stmt := topS 27
abbrev nToldRound : List Str := ["values"]
theorem scToldRound : FnScope nToldRound ["values"] (defScope sToldRound) := ⟨rfl, rfl, rfl, by decide +kernel, rfl, by decide +kernel, by decide +kernel⟩
abbrev sCheckMap : Stmt := topS 28
abbrev nCheckMap : List Str := ["p"]
theorem scCheckMap : FnScope nCheckMap ["p"] (defScope sCheckMap) := ⟨rfl, rfl, rfl, by decide +kernel, rfl, by decide +kernel, by decide +kernel⟩
abbrev sExchanged : Stmt := topS 29
abbrev nExchanged : List Str := ["values", "c", "many", "behind", "lift", "more"]
theorem scExchanged : FnScope nExchanged ["values", "c"] (defScope sExchanged) := ⟨rfl, rfl, rfl, by decide +kernel, rfl, by decide +kernel, by decide +kernel⟩
abbrev sCheckFalls : Stmt := topS 33
abbrev nCheckFalls : List Str := ["p"]
theorem scCheckFalls : FnScope nCheckFalls ["p"] (defScope sCheckFalls) := ⟨rfl, rfl, rfl, by decide +kernel, rfl, by decide +kernel, by decide +kernel⟩
abbrev sIsRising : Stmt := topS 34
abbrev nIsRising : List Str := ["values", "c"]
theorem scIsRising : FnScope nIsRising ["values", "c"] (defScope sIsRising) := ⟨rfl, rfl, rfl, by decide +kernel, rfl, by decide +kernel, by decide +kernel⟩
abbrev sRaisedBy : Stmt := topS 35
abbrev nRaisedBy : List Str := ["values", "letters", "c"]
theorem scRaisedBy : FnScope nRaisedBy ["values", "letters"] (defScope sRaisedBy) := ⟨rfl, rfl, rfl, by decide +kernel, rfl, by decide +kernel, by decide +kernel⟩
abbrev sFirstFall : Stmt := topS 36
abbrev nFirstFall : List Str := ["values", "c"]
theorem scFirstFall : FnScope nFirstFall ["values"] (defScope sFirstFall) := ⟨rfl, rfl, rfl, by decide +kernel, rfl, by decide +kernel, by decide +kernel⟩
abbrev sLettersIn : Stmt := topS 37
abbrev nLettersIn : List Str := ["values", "letters", "c"]
theorem scLettersIn : FnScope nLettersIn ["values"] (defScope sLettersIn) := ⟨rfl, rfl, rfl, by decide +kernel, rfl, by decide +kernel, by decide +kernel⟩
abbrev sToldGreedy : Stmt := topS 38
abbrev nToldGreedy : List Str := ["values", "product"]
theorem scToldGreedy : FnScope nToldGreedy ["values"] (defScope sToldGreedy) := ⟨rfl, rfl, rfl, by decide +kernel, rfl, by decide +kernel, by decide +kernel⟩
abbrev sIsWord : Stmt := topS 39
abbrev nIsWord : List Str := ["m", "value"]
theorem scIsWord : FnScope nIsWord ["m", "value"] (defScope sIsWord) := ⟨rfl, rfl, rfl, by decide +kernel, rfl, by decide +kernel, by decide +kernel⟩
abbrev sCheckWord : Stmt := topS 40
abbrev nCheckWord : List Str := ["m", "word"]
theorem scCheckWord : FnScope nCheckWord ["m", "word"] (defScope sCheckWord) := ⟨rfl, rfl, rfl, by decide +kernel, rfl, by decide +kernel, by decide +kernel⟩
abbrev sPlainValues : Stmt := topS 41
abbrev nPlainValues : List Str := ["m", "word", "values", "c", "i"]
theorem scPlainValues : FnScope nPlainValues ["m", "word"] (defScope sPlainValues) := ⟨rfl, rfl, rfl, by decide +kernel, rfl, by decide +kernel, by decide +kernel⟩
abbrev sMadeOf : Stmt := topS 42
abbrev nMadeOf : List Str := ["m", "word"]
theorem scMadeOf : FnScope nMadeOf ["m", "word"] (defScope sMadeOf) := ⟨rfl, rfl, rfl, by decide +kernel, rfl, by decide +kernel, by decide +kernel⟩
abbrev sGreedilyMade : Stmt := topS 43
abbrev nGreedilyMade : List Str := ["m", "word", "i"]
theorem scGreedilyMade : FnScope nGreedilyMade ["m", "word"] (defScope sGreedilyMade) := ⟨rfl, rfl, rfl, by decide +kernel, rfl, by decide +kernel, by decide +kernel⟩
abbrev sWordOf : Stmt := topS 44
abbrev nWordOf : List Str := ["p"]
theorem scWordOf : FnScope nWordOf ["p"] (defScope sWordOf) := ⟨rfl, rfl, rfl, by decide +kernel, rfl, by decide +kernel, by decide +kernel⟩
abbrev sIsWordOf : Stmt := topS 45
abbrev nIsWordOf : List Str := ["p", "value"]
theorem scIsWordOf : FnScope nIsWordOf ["p", "value"] (defScope sIsWordOf) := ⟨rfl, rfl, rfl, by decide +kernel, rfl, by decide +kernel, by decide +kernel⟩
abbrev sLDice : Stmt := topS 47
abbrev nLDice : List Str := ["_law_script", "_law_at_here", "_law_cell", "_law_great", "_law_left", "_law_mixed"]
theorem scLDice : FnScope nLDice ["_law_script", "_law_at_here"] (defScope sLDice) := ⟨rfl, rfl, rfl, by decide +kernel, rfl, by decide +kernel, by decide +kernel⟩
abbrev sLRoll : Stmt := topS 48
abbrev nLRoll : List Str := ["_law_dice_here", "_law_total", "_law_size", "_law_drawn", "_law_one", "_law_two"]
theorem scLRoll : FnScope nLRoll ["_law_dice_here", "_law_total"] (defScope sLRoll) := ⟨rfl, rfl, rfl, by decide +kernel, rfl, by decide +kernel, by decide +kernel⟩
abbrev sLOneOf : Stmt := topS 49
abbrev nLOneOf : List Str := ["_law_dice_here", "_law_items"]
theorem scLOneOf : FnScope nLOneOf ["_law_dice_here", "_law_items"] (defScope sLOneOf) := ⟨rfl, rfl, rfl, by decide +kernel, rfl, by decide +kernel, by decide +kernel⟩
abbrev sLAt : Stmt := topS 50
abbrev nLAt : List Str := ["_law_values", "_law_i", "_law_m"]
theorem scLAt : FnScope nLAt ["_law_values", "_law_i"] (defScope sLAt) := ⟨rfl, rfl, rfl, by decide +kernel, rfl, by decide +kernel, by decide +kernel⟩
abbrev sLAfter : Stmt := topS 51
abbrev nLAfter : List Str := ["_law_values", "_law_c", "_law_m", "_law_found"]
theorem scLAfter : FnScope nLAfter ["_law_values", "_law_c"] (defScope sLAfter) := ⟨rfl, rfl, rfl, by decide +kernel, rfl, by decide +kernel, by decide +kernel⟩
abbrev sLFalls : Stmt := topS 52
abbrev nLFalls : List Str := ["_law_values", "_law_m", "_law_found", "_law_i", "_law_j", "_law_gap"]
theorem scLFalls : FnScope nLFalls ["_law_values"] (defScope sLFalls) := ⟨rfl, rfl, rfl, by decide +kernel, rfl, by decide +kernel, by decide +kernel⟩
abbrev sLGreedyLetter : Stmt := topS 53
abbrev nLGreedyLetter : List Str := ["_law_values", "_law_c"]
theorem scLGreedyLetter : FnScope nLGreedyLetter ["_law_values", "_law_c"] (defScope sLGreedyLetter) := ⟨rfl, rfl, rfl, by decide +kernel, rfl, by decide +kernel, by decide +kernel⟩
abbrev sLPlainlyMade : Stmt := topS 54
abbrev nLPlainlyMade : List Str := ["_law_m", "_law_word", "_law_found", "_law_c", "_law_place"]
theorem scLPlainlyMade : FnScope nLPlainlyMade ["_law_m", "_law_word"] (defScope sLPlainlyMade) := ⟨rfl, rfl, rfl, by decide +kernel, rfl, by decide +kernel, by decide +kernel⟩
abbrev sLGreedily : Stmt := topS 55
abbrev nLGreedily : List Str := ["_law_m", "_law_word", "_law_found", "_law_busy", "_law_c", "_law_later", "_law_place"]
theorem scLGreedily : FnScope nLGreedily ["_law_m", "_law_word"] (defScope sLGreedily) := ⟨rfl, rfl, rfl, by decide +kernel, rfl, by decide +kernel, by decide +kernel⟩
abbrev sLIsWord : Stmt := topS 56
abbrev nLIsWord : List Str := ["_law_m", "_law_value", "_law_c"]
theorem scLIsWord : FnScope nLIsWord ["_law_m", "_law_value"] (defScope sLIsWord) := ⟨rfl, rfl, rfl, by decide +kernel, rfl, by decide +kernel, by decide +kernel⟩
abbrev sLSpoilt : Stmt := topS 57
abbrev nLSpoilt : List Str := ["_law_dice_here", "_law_m", "_law_word", "_law_t", "_law_letters", "_law_at_here", "_law_c", "_law_some"]
theorem scLSpoilt : FnScope nLSpoilt ["_law_dice_here", "_law_m", "_law_word"] (defScope sLSpoilt) := ⟨rfl, rfl, rfl, by decide +kernel, rfl, by decide +kernel, by decide +kernel⟩
abbrev sLRight : Stmt := topS 58
abbrev nLRight : List Str := ["_law_dice_here", "_law_m", "_law_turn", "_law_word", "_law_plain", "_law_made", "_law_busy", "_law_values", "_law_p", "_law_told", "_law_value", "_law_due"]
theorem scLRight : FnScope nLRight ["_law_dice_here"] (defScope sLRight) := ⟨rfl, rfl, rfl, by decide +kernel, rfl, by decide +kernel, by decide +kernel⟩
abbrev sLaw : Stmt := topS 59
abbrev nLaw : List Str := ["_law_script", "_law_at_here"]
theorem scLaw : FnScope nLaw ["_law_script"] (defScope sLaw) := ⟨rfl, rfl, rfl, by decide +kernel, rfl, by decide +kernel, by decide +kernel⟩
/-- a def of the text at its place, and how its arguments bind -/
structure DefAt (K : PySem.W.Frag) (mg : Str → Option Value) (x : Str) (st : Stmt) (ps : List Str) (f : Addr) (fd : FuncData) : Prop where
  F : Fun K x x st f fd
  g : mg x = some (.ref f)
  b : Binds K fd ps []
/-- what the top has written -/
structure Txt (K : PySem.W.Frag) (mg : Str → Option Value) : Prop where
  z_abs : mg "abs" = none
  z_all : mg "all" = none
  z_bool : mg "bool" = none
  z_int : mg "int" = none
  z_isinstance : mg "isinstance" = none
  z_len : mg "len" = none
  z_list : mg "list" = none
  z_max : mg "max" = none
  z_min : mg "min" = none
  z_range : mg "range" = none
  z_sorted : mg "sorted" = none
  z_sum : mg "sum" = none
  z_tuple : mg "tuple" = none
  v_BOUND : ∃ t, mg "BOUND" = some (.int (10 ^ 60) t)
  v_DIGITS : ∃ t, mg "DIGITS" = some (.int 60 t)
  v_MAX_ROUND : ∃ t, mg "MAX_ROUND" = some (.int 60 t)
  v_MAX_FALLS : ∃ t, mg "MAX_FALLS" = some (.int 1000 t)
  v_MAX_WORD : ∃ t, mg "MAX_WORD" = some (.int 2000 t)
  d_is_integer : ∃ f fd, DefAt K mg "is_integer" sIsInteger ["value"] f fd
  d_is_between : ∃ f fd, DefAt K mg "is_between" sIsBetween ["value", "low", "high"] f fd
  d_is_pair : ∃ f fd, DefAt K mg "is_pair" sIsPair ["value"] f fd
  d_is_row : ∃ f fd, DefAt K mg "is_row" sIsRow ["value", "many", "low", "high"] f fd
  d_check_between : ∃ f fd, DefAt K mg "check_between" sCheckBetween ["value", "low", "high"] f fd
  d_check_digits : ∃ f fd, DefAt K mg "check_digits" sCheckDigits ["numbers"] f fd
  d_is_round : ∃ f fd, DefAt K mg "is_round" sIsRound ["value"] f fd
  d_value_in : ∃ f fd, DefAt K mg "value_in" sValueIn ["values", "i"] f fd
  d_shift_in : ∃ f fd, DefAt K mg "shift_in" sShiftIn ["values"] f fd
  d_falls_in : ∃ f fd, DefAt K mg "falls_in" sFallsIn ["values"] f fd
  d_told_round : ∃ f fd, DefAt K mg "told_round" sToldRound ["values"] f fd
  d_check_map : ∃ f fd, DefAt K mg "check_map" sCheckMap ["p"] f fd
  d_exchanged : ∃ f fd, DefAt K mg "exchanged" sExchanged ["values", "c"] f fd
  d_check_falls : ∃ f fd, DefAt K mg "check_falls" sCheckFalls ["p"] f fd
  d_is_rising : ∃ f fd, DefAt K mg "is_rising" sIsRising ["values", "c"] f fd
  d_raised_by : ∃ f fd, DefAt K mg "raised_by" sRaisedBy ["values", "letters"] f fd
  d_first_fall : ∃ f fd, DefAt K mg "first_fall" sFirstFall ["values"] f fd
  d_letters_in : ∃ f fd, DefAt K mg "letters_in" sLettersIn ["values"] f fd
  d_told_greedy : ∃ f fd, DefAt K mg "told_greedy" sToldGreedy ["values"] f fd
  d_is_word : ∃ f fd, DefAt K mg "is_word" sIsWord ["m", "value"] f fd
  d_check_word : ∃ f fd, DefAt K mg "check_word" sCheckWord ["m", "word"] f fd
  d_plain_values : ∃ f fd, DefAt K mg "plain_values" sPlainValues ["m", "word"] f fd
  d_made_of : ∃ f fd, DefAt K mg "made_of" sMadeOf ["m", "word"] f fd
  d_greedily_made : ∃ f fd, DefAt K mg "greedily_made" sGreedilyMade ["m", "word"] f fd
  d_word_of : ∃ f fd, DefAt K mg "word_of" sWordOf ["p"] f fd
  d_is_word_of : ∃ f fd, DefAt K mg "is_word_of" sIsWordOf ["p", "value"] f fd
  d_l_dice : ∃ f fd, DefAt K mg "_law_dice" sLDice ["_law_script", "_law_at_here"] f fd
  d_l_roll : ∃ f fd, DefAt K mg "_law_roll" sLRoll ["_law_dice_here", "_law_total"] f fd
  d_l_one_of : ∃ f fd, DefAt K mg "_law_one_of" sLOneOf ["_law_dice_here", "_law_items"] f fd
  d_l_at : ∃ f fd, DefAt K mg "_law_at" sLAt ["_law_values", "_law_i"] f fd
  d_l_after : ∃ f fd, DefAt K mg "_law_after" sLAfter ["_law_values", "_law_c"] f fd
  d_l_falls : ∃ f fd, DefAt K mg "_law_falls" sLFalls ["_law_values"] f fd
  d_l_greedy_letter : ∃ f fd, DefAt K mg "_law_greedy_letter" sLGreedyLetter ["_law_values", "_law_c"] f fd
  d_l_plainly_made : ∃ f fd, DefAt K mg "_law_plainly_made" sLPlainlyMade ["_law_m", "_law_word"] f fd
  d_l_greedily : ∃ f fd, DefAt K mg "_law_greedily" sLGreedily ["_law_m", "_law_word"] f fd
  d_l_is_word : ∃ f fd, DefAt K mg "_law_is_word" sLIsWord ["_law_m", "_law_value"] f fd
  d_l_spoilt : ∃ f fd, DefAt K mg "_law_spoilt" sLSpoilt ["_law_dice_here", "_law_m", "_law_word"] f fd
  d_l_right : ∃ f fd, DefAt K mg "_law_right" sLRight ["_law_dice_here"] f fd
end K1

namespace K1
open PySem PySem.Spec PyProof.Rows L2 Evl
/-! ### great powers -/
def CPowW (i j : Int) : Prop := 0 ≤ j ∧ (Builtin.Int.intBits i : Int) * j ≤ 2 ^ 27
theorem op_powW {X : Cx} : OpR X (binaryOp .Pow) (rI CPowW fun i j => .int (i ^ j.toNat)) := opI fun _ _ _ _ _ _ _ hc q => pow_int hc.1 hc.2 q
/-! ### values that are looked at -/
/-- no int -/
inductive NotInt (K : PySem.W.Frag) (H : Hp) : V → Prop where
  | bl (b : Bool) : NotInt K H (.bl b)
  | non : NotInt K H .non
  | str (x : Str) : NotInt K H (.str x)
  | lst {a : Addr} {xs : List V} (e : H a = some (.lst xs)) : NotInt K H (.ref a)
  | tup {a : Addr} {xs : List V} (e : H a = some (.tup xs)) : NotInt K H (.ref a)
  | dK {a : Addr} {kvs : List (Key × V)} (e : H a = some (.dK kvs)) : NotInt K H (.ref a)
inductive IntB (K : PySem.W.Frag) (H : Hp) : V → Bool → Prop where
  | int (i : Int) : IntB K H (.int i) (decide (-(10 ^ 60) < i) && decide (i < 10 ^ 60))
  | no {x : V} (h : NotInt K H x) : IntB K H x false
/-- between two ints -/
inductive BtwB (K : PySem.W.Frag) (H : Hp) (lo hi : Int) : V → Bool → Prop where
  | int (i : Int) : BtwB K H lo hi (.int i) ((decide (-(10 ^ 60) < i) && decide (i < 10 ^ 60)) && (decide (lo ≤ i) && decide (i ≤ hi)))
  | no {x : V} (h : NotInt K H x) : BtwB K H lo hi x false
theorem NotInt.ty {K : PySem.W.Frag} {H : Hp} {x : V} (h : NotInt K H x) : ∃ t : Value, TyX K H x t ∧ ((PySem.W.kitOne K t (.type "int") = some false) ∨ (t = .type "bool")) := by
  cases h with
  | bl b => exact ⟨_, .base (.bl b), .inr rfl⟩
  | non => exact ⟨_, .base .non, .inl (kit_ty (by decide +kernel))⟩
  | str x => exact ⟨_, .base (.str x), .inl (kit_ty (by decide +kernel))⟩
  | lst e => exact ⟨_, .base (.lst e), .inl (kit_ty (by decide +kernel))⟩
  | tup e => exact ⟨_, .base (.tup e), .inl (kit_ty (by decide +kernel))⟩
  | dK e => exact ⟨_, .base (.dK e), .inl (kit_ty (by decide +kernel))⟩
theorem NotInt.mono {K : PySem.W.Frag} {H H' : Hp} {x : V} (e : Ex H H') (h : NotInt K H x) : NotInt K H' x := by
  cases h with
  | bl b => exact .bl b
  | non => exact .non
  | str x => exact .str x
  | lst q => exact .lst (e _ _ q)
  | tup q => exact .tup (e _ _ q)
  | dK q => exact .dK (e _ _ q)
section
variable {P : Program} {w : World} {K : PySem.W.Frag} {mg : Str → Option Value} {base : Heap}
def spIsInteger (K : PySem.W.Frag) : Sp := fun vs H Q _ => ∃ x b, vs = [x] ∧ IntB K H x b ∧ ∀ H', Ex H H' → Q (.bl b) H'
theorem ok_is_integer (T : Txt K mg) {f : Addr} {fd : FuncData} (D : DefAt K mg "is_integer" sIsInteger ["value"] f fd) : FnOk P w K mg base CX0 1 f fd ["value"] (spIsInteger K) := by
  refine D.F.ok scIsInteger (fun vs H Q E h => ?_) (fun cdv A outer s H vs Q E hr h => ?_)
  · obtain ⟨x, b, rfl, _⟩ := h
    rfl
  · obtain ⟨x, b, rfl, hb, q⟩ := h
    obtain ⟨tB, vB⟩ := T.v_BOUND
    refine ⟨_, pss_one (ps_ret (pe_and (pe_callB call_isi (by rfl) T.z_isinstance (by decide +kernel) (pa_cons (pv 0) (pa_cons (pe_bltn (v := .ty "int") (by rfl) T.z_int (by decide +kernel) rfl) pa_nil)))
      (pe_and (pe_not (pe_callB call_isi (by rfl) T.z_isinstance (by decide +kernel) (pa_cons (pv 0) (pa_cons (pe_bltn (v := .ty "bool") (by rfl) T.z_bool (by decide +kernel) rfl) pa_nil))))
      (pe_one (pe_chain op_lt op_lt (pe_un un_neg (pe_glob (v := .int (10 ^ 60)) rfl vB ⟨_, rfl⟩)) (pv 0) (pe_glob (v := .int (10 ^ 60)) rfl vB ⟨_, rfl⟩)))))), ?_⟩
    cases hb with
    | int i =>
      refine ⟨.int i, rfl, .int i, .ty "int", .type "int", .type "int", true, rfl, .ty _, .base (.int i), kit_ty (by decide +kernel), true, rfl, iteT ?_⟩
      refine ⟨.int i, rfl, .int i, .ty "bool", .type "int", .type "bool", false, rfl, .ty _, .base (.int i), kit_ty (by decide +kernel), false, rfl, true, rfl, iteT ?_⟩
      refine ⟨_, rfl, .int i, rfl, _, _, rfl, rfl, _, rfl, ite2 (fun c => ?_) (fun c => ?_)⟩
      · refine ⟨_, _, rfl, rfl, ?_⟩
        have e : decide (-(10 ^ 60) < i) = true := c
        rw [e, Bool.true_and] at q
        exact q _ (Ex.refl _)
      · have e : decide (-(10 ^ 60) < i) = false := Bool.eq_false_iff.mpr c
        rw [e, Bool.false_and] at q
        exact q _ (Ex.refl _)
    | no hn =>
      obtain ⟨t, ty, h | rfl⟩ := hn.ty
      · exact ⟨x, rfl, x, .ty "int", t, .type "int", false, rfl, .ty _, ty, h, false, rfl, iteF (q _ (Ex.refl _))⟩
      · refine ⟨x, rfl, x, .ty "int", .type "bool", .type "int", true, rfl, .ty _, ty, kit_ty (by decide +kernel), true, rfl, iteT ?_⟩
        exact ⟨x, rfl, x, .ty "bool", .type "bool", .type "bool", true, rfl, .ty _, ty, kit_ty (by decide +kernel), true, rfl, false, rfl, iteF (q _ (Ex.refl _))⟩
def spIsBetween (K : PySem.W.Frag) : Sp := fun vs H Q _ => ∃ x lo hi b, vs = [x, .int lo, .int hi] ∧ BtwB K H lo hi x b ∧ ∀ H', Ex H H' → Q (.bl b) H'
end
end K1

namespace K1
open PySem PySem.Spec PyProof.Rows L2 Evl
/-! ### the dice -/
def Dice (H : Hp) (d : Addr) : Prop := ∃ l m c : Int, H d = some (.lst [.int l, .int m, .int c])
/-- all but the dice is as it was -/
def Keep (d : Addr) (H H' : Hp) : Prop := ∀ b o, b ≠ d → H b = some o → H' b = some o
theorem Keep.refl (d : Addr) (H : Hp) : Keep d H H := fun _ _ _ h => h
theorem Keep.trans {d : Addr} {H H1 H2 : Hp} (a : Keep d H H1) (b : Keep d H1 H2) : Keep d H H2 := fun x o n h => b x o n (a x o n h)
theorem Keep.ex {d : Addr} {H H' : Hp} (e : Ex H H') : Keep d H H' := fun b o _ h => e b o h
theorem Keep.dice {d : Addr} {H : Hp} {o : HO} : Keep d H (upd H d o) := fun b u n h => by
  rw [upd_ne n]
  exact h
theorem Keep.new {d p : Addr} {H : Hp} {o : HO} (h : H p = none) : Keep d H (upd H p o) := .ex (.new h)
/-- a thing that H did not know may change -/
theorem Keep.mut {d p : Addr} {H H' : Hp} {o : HO} (e : Keep d H H') (h : H p = none) : Keep d H (upd H' p o) := fun b u n q => by
  rw [upd_ne (ne_of_none q h)]
  exact e b u n q
theorem Keep.free {d p : Addr} {H H' : Hp} (e : Keep d H H') (n : p ≠ d) (h : H' p = none) : H p = none := by
  cases q : H p with
  | none => rfl
  | some o =>
    rw [e p o n q] at h
    cases h
theorem Dice.ex {d : Addr} {H H' : Hp} (e : Ex H H') (h : Dice H d) : Dice H' d := by
  obtain ⟨l, m, c, q⟩ := h
  exact ⟨l, m, c, e _ _ q⟩
theorem Dice.upd {d p : Addr} {H : Hp} {o : HO} (n : d ≠ p) (h : Dice H d) : Dice (L2.upd H p o) d := by
  obtain ⟨l, m, c, q⟩ := h
  exact ⟨l, m, c, by rw [upd_ne n]; exact q⟩
theorem Dice.ne_new {d p : Addr} {H : Hp} (h : Dice H d) (n : H p = none) : d ≠ p := by
  obtain ⟨l, m, c, q⟩ := h
  exact ne_of_none q n
theorem Dice.ne_tup {d p : Addr} {H : Hp} {xs : List V} (h : Dice H d) (n : H p = some (.tup xs)) : p ≠ d := by
  obtain ⟨l, m, c, q⟩ := h
  exact ne_of n q (by intro z; cases z)
theorem Keep.tup {d p : Addr} {H H' : Hp} {xs : List V} (e : Keep d H H') (h : Dice H d) (n : H p = some (.tup xs)) : H' p = some (.tup xs) := e _ _ (h.ne_tup n) n
theorem wide_n {n : Int} (h : 1 ≤ n) (h2 : n ≤ 10 ^ 50) {i : Int} : CDivW i n := wide_div (b := 200) (by omega) (by omega) (by decide) (by decide)
section
variable {P : Program} {w : World} {K : PySem.W.Frag} {mg : Str → Option Value} {base : Heap}
def spRoll : Sp := fun vs H Q _ => ∃ (d : Addr) (n : Int), vs = [.ref d, .int n] ∧ Dice H d ∧ 1 ≤ n ∧ n ≤ 10 ^ 50 ∧ ∀ (r : Int) H', 0 ≤ r → r < n → Dice H' d → Keep d H H' → Q (.int r) H'
theorem ok_roll (T : Txt K mg) {f : Addr} {fd : FuncData} (D : DefAt K mg "_law_roll" sLRoll ["_law_dice_here", "_law_total"] f fd) : FnOk P w K mg base CX0 1 f fd ["_law_dice_here", "_law_total"] spRoll := by
  refine D.F.ok scLRoll (fun vs H Q E h => ?_) (fun cdv A outer s H vs Q E hr h => ?_)
  · obtain ⟨d, n, rfl, _⟩ := h
    rfl
  · obtain ⟨d, n, rfl, ⟨l, m, c, hd⟩, h1, h2, q⟩ := h
    refine ⟨_, pss_cons (ps_set (i := 2) scLRoll.nd rfl (.inl rfl) (pe_callTy call_int1 (by rfl) T.z_int (by decide +kernel) (pa_cons (pv 1) pa_nil)))
      (pss_cons (ps_if (pt_cmpR op_gt (pe_ix ix_list (pv 0) pe_int (fun _ _ => rfl)) pe_int (nomark _))
        (pss_cons (ps_set (i := 3) scLRoll.nd rfl (.inl rfl) (pe_op op_mod (pe_ix ix_list (pv 0) pe_int (fun _ _ => rfl)) (pv 2)))
        (pss_cons (ps_asg (pe_op op_fdivW (pe_ix ix_list (pv 0) pe_int (fun _ _ => rfl)) (pv 2)) (pg_sub (pv 0) pe_int set_list))
        (pss_one (ps_ret (pe_callTy call_int1 (by rfl) T.z_int (by decide +kernel) (pa_cons (pv 3) pa_nil)))))) pss_nil)
      (pss_cons (ps_asg (pe_op op_add (pe_ix ix_list (pv 0) pe_int (fun _ _ => rfl)) pe_int) (pg_sub (pv 0) pe_int set_list))
      (pss_cons (ps_set (i := 4) scLRoll.nd rfl (.inl rfl) (pe_op op_mod (pe_op op_add (pe_ix ix_list (pv 0) pe_int (fun _ _ => rfl)) (pe_op op_mul pe_int (pe_ix ix_list (pv 0) pe_int (fun _ _ => rfl)))) pe_int))
      (pss_cons (ps_set (i := 5) scLRoll.nd rfl (.inl rfl) (pe_op op_add (pe_op op_mul (pe_op op_mod (pe_op op_mul (pv 4) (pv 4)) pe_int) (pv 4)) (pe_op op_mul pe_int (pe_ix ix_list (pv 0) pe_int (fun _ _ => rfl)))))
      (pss_cons (ps_set (i := 5) scLRoll.nd rfl (.inl rfl) (pe_op op_mod (pv 5) pe_int))
      (pss_one (ps_ret (pe_callTy call_int1 (by rfl) T.z_int (by decide +kernel) (pa_cons (pe_op op_mod (pe_op op_fdiv (pv 5) pe_int) (pv 2)) pa_nil))))))))), ?_⟩
    refine ⟨.int n, rfl, .inl ⟨n, rfl, ?_⟩⟩
    have S0 : SqL K H d [.int l, .int m, .int c] := SqL.of hd
    refine ⟨.ref d, rfl, d, _, 0, .int l, rfl, rfl, S0, rfl, l, 0, rfl, rfl, _, rfl, ite2 (fun cc => ?_) (fun cc => ?_)⟩
    · refine ⟨.ref d, rfl, d, _, 0, .int l, rfl, rfl, S0, rfl, .int n, rfl, l, n, rfl, rfl, by omega, ?_⟩
      refine ⟨.ref d, rfl, d, _, 0, .int l, rfl, rfl, S0, rfl, .int n, rfl, l, n, rfl, rfl, wide_n h1 h2, .ref d, rfl, d, _, 0, 0, rfl, rfl, hd, rfl, ?_⟩
      refine ⟨_, rfl, .inl ⟨l % n, rfl, ?_⟩⟩
      exact q _ _ (Int.emod_nonneg _ (by omega)) (Int.emod_lt_of_pos _ (by omega)) ⟨_, _, _, upd_same⟩ Keep.dice
    · refine ⟨.ref d, rfl, d, _, 2, .int c, rfl, rfl, S0, rfl, c, 1, rfl, rfl, .ref d, rfl, d, _, 2, 2, rfl, rfl, hd, rfl, ?_⟩
      generalize hH1 : upd H d _ = H1
      have hd1 : H1 d = some (.lst [.int l, .int m, .int (c + 1)]) := by
        rw [← hH1]
        exact upd_same
      have k1 : Keep d H H1 := by
        rw [← hH1]
        exact Keep.dice
      have S1 : SqL K H1 d [.int l, .int m, .int (c + 1)] := SqL.of hd1
      refine ⟨.ref d, rfl, d, _, 1, .int m, rfl, rfl, S1, rfl, .ref d, rfl, d, _, 2, .int (c + 1), rfl, rfl, S1, rfl, _, _, rfl, rfl, .inl (by decide), _, _, rfl, rfl, _, _, rfl, rfl, by show (0 : Int) < _; decide, ?_⟩
      refine ⟨_, rfl, _, rfl, (m + 1000409 * (c + 1)) % 2305843009213693951, (m + 1000409 * (c + 1)) % 2305843009213693951, rfl, rfl, .inl (by constructor <;> omega), _, _, rfl, rfl, by show (0 : Int) < _; decide, _, rfl, _, (m + 1000409 * (c + 1)) % 2305843009213693951, rfl, rfl, .inr (by constructor <;> omega), ?_⟩
      refine ⟨.ref d, rfl, d, _, 2, .int (c + 1), rfl, rfl, S1, rfl, _, _, rfl, rfl, .inl (by decide), _, _, rfl, rfl, ?_⟩
      refine ⟨_, rfl, _, _, rfl, rfl, by show (0 : Int) < _; decide, ?_⟩
      refine ⟨_, rfl, _, _, rfl, rfl, ⟨by decide, by decide⟩, .int n, rfl, _, n, rfl, rfl, by omega, .inl ⟨_, rfl, ?_⟩⟩
      exact q _ _ (Int.emod_nonneg _ (by omega)) (Int.emod_lt_of_pos _ (by omega)) ⟨_, _, _, hd1⟩ k1
def spOneOf (K : PySem.W.Frag) : Sp := fun vs H Q _ => ∃ (d a : Addr) (xs : List V), vs = [.ref d, .ref a] ∧ Dice H d ∧ H a = some (.lst xs) ∧ a ≠ d ∧ 1 ≤ xs.length ∧ xs.length ≤ 1000 ∧ ∀ x H', x ∈ xs → Dice H' d → Keep d H H' → Q x H'
theorem ok_one_of (T : Txt K mg) {f : Addr} {fd : FuncData} (D : DefAt K mg "_law_one_of" sLOneOf ["_law_dice_here", "_law_items"] f fd) : FnOk P w K mg base CX0 2 f fd ["_law_dice_here", "_law_items"] (spOneOf K) := by
  refine D.F.ok scLOneOf (fun vs H Q E h => ?_) (fun cdv A outer s H vs Q E hr h => ?_)
  · obtain ⟨d, a, xs, rfl, _⟩ := h
    rfl
  · obtain ⟨d, a, xs, rfl, hd, ha, nad, h1, h2, q⟩ := h
    obtain ⟨f1, fd1, D1⟩ := T.d_l_roll
    refine ⟨_, pss_one (ps_ret (pe_ix ix_list (pv 1) (pe_call (ok_roll T D1) hr (by rfl) D1.g D1.F.kp D1.b .nil pass0 (pa_cons (pv 0) (pa_cons (pe_callB call_len_seq (by rfl) T.z_len PySem.boot_len (pa_cons (pv 1) pa_nil)) pa_nil))) (fun _ _ => rfl))), ?_⟩
    refine ⟨.ref a, rfl, .ref d, rfl, .ref a, rfl, a, xs, rfl, .inl (SqL.of ha), d, _, rfl, hd, by omega, by omega, fun r H1 r0 r1 hd1 k1 => ?_⟩
    have hx : xs[r.toNat]? = some (xs[r.toNat]'(by omega)) := List.getElem?_eq_getElem _
    refine ⟨a, xs, r, _, rfl, rfl, SqL.of (k1 _ _ nad ha), ?_, q (xs[r.toNat]'(by omega)) H1 (List.getElem_mem _) hd1 k1⟩
    exact at_of (show r = ((r.toNat : Nat) : Int) by omega) hx
/-- a drawn ring -/
def RingAt (H : Hp) (most : Int) (x : V) (n s : Int) : Prop := ∃ t, x = .ref t ∧ H t = some (.tup [.int n, .int s]) ∧ 2 ≤ n ∧ n ≤ most ∧ 1 ≤ s ∧ s < n
def spRing : Sp := fun vs H Q _ => ∃ (d : Addr) (most : Int), vs = [.ref d, .int most] ∧ Dice H d ∧ 2 ≤ most ∧ most ≤ 1000 ∧ ∀ x n s H', RingAt H' most x n s → Dice H' d → Keep d H H' → Q x H'
end
end K1

namespace K1
open PySem PySem.Spec PyProof.Rows L2 Evl
section
variable {P : Program} {w : World} {K : PySem.W.Frag} {mg : Str → Option Value} {base : Heap}
def spDice (K : PySem.W.Frag) : Sp := fun vs H Q _ => ∃ (a : Addr) (ns : List Int) (i : Nat), vs = [.ref a, .int i] ∧ SqL K H a (ns.map V.int) ∧ ∀ p H', H p = none → Ex H H' → Dice H' p → Q (.ref p) H'
theorem ok_dice (T : Txt K mg) {f : Addr} {fd : FuncData} (D : DefAt K mg "_law_dice" sLDice ["_law_script", "_law_at_here"] f fd) : FnOk P w K mg base CX0 1 f fd ["_law_script", "_law_at_here"] (spDice K) := by
  refine D.F.ok scLDice (fun vs H Q E h => ?_) (fun cdv A outer s H vs Q E hr h => ?_)
  · obtain ⟨d, n, i, rfl, _⟩ := h
    rfl
  · obtain ⟨a, ns, i, rfl, hS, q⟩ := h
    refine ⟨_, pss_cons (ps_set (i := 2) scLDice.nd rfl (.inl rfl) (pe_op op_add (pe_op op_mul pe_int (pv 1)) pe_int))
      (pss_cut (ps_if (pt_cmpR op_lt (pv 1) (pe_callB call_len_seq (by rfl) T.z_len PySem.boot_len (pa_cons (pv 0) pa_nil)) (nomark _))
        (pss_one (ps_set (i := 2) scLDice.nd rfl (.inl rfl) (pe_ix ix_list (pv 0) (pv 1) (fun _ _ => rfl)))) pss_nil)
      (pss_cons (ps_set (i := 3) scLDice.nd rfl (.inl rfl) (pe_op op_mod (pe_callTy call_int1 (by rfl) T.z_int (by decide +kernel) (pa_cons (pe_callB call_abs (by rfl) T.z_abs (by decide +kernel) (pa_cons (pv 2) pa_nil)) pa_nil)) (pe_op op_powW (pe_op op_pow pe_int pe_int) pe_int)))
      (pss_cons (ps_set (i := 4) scLDice.nd rfl (.inl rfl) (pe_op op_fdivW (pv 3) (pe_op op_pow pe_int pe_int)))
      (pss_cons (ps_set (i := 5) scLDice.nd rfl (.inl rfl) (pe_op op_add (pe_op op_add (pe_op op_add (pe_op op_mul (pe_op op_mod (pv 3) pe_int) pe_int) (pe_op op_mul pe_int (pv 1))) (pe_op op_mul pe_int (pe_callTy call_int1 (by rfl) T.z_int (by decide +kernel) (pa_cons (pe_cmpR op_lt (pv 2) pe_int (nomark _)) pa_nil)))) pe_int))
      (pss_one (ps_ret (pe_lst (pa_cons (pv 4) (pa_cons (pe_op op_mod (pv 5) pe_int) (pa_cons pe_int pa_nil))))))))) ), ?_⟩
    refine ⟨_, rfl, _, _, rfl, rfl, .inl (by decide), _, _, rfl, rfl, ?_⟩
    refine ⟨fun σ' H' => ∃ cell : Int, σ' = [some (.ref a), some (.int i), some (.int cell), none, none, none] ∧ H' = H, ?_, ?_⟩
    · refine ⟨_, rfl, .ref a, rfl, a, _, rfl, .inl hS, _, _, rfl, rfl, _, rfl, ite2 (fun c => ?_) (fun c => ⟨_, rfl, rfl⟩)⟩
      have c' : (i : Int) < ((ns.map V.int).length : Int) := of_decide_eq_true c
      rw [List.length_map] at c'
      have hx : (ns.map V.int)[i]? = some (.int (ns[i]'(by omega))) := by
        rw [List.getElem?_map, List.getElem?_eq_getElem (by omega)]
        rfl
      exact ⟨.ref a, rfl, _, rfl, a, _, _, _, rfl, rfl, hS, atI_nat hx, _, rfl, rfl⟩
    · rintro σ' H' ⟨cell, rfl, rfl⟩
      refine ⟨_, rfl, _, rfl, .inl ⟨_, rfl, _, _, rfl, rfl, ⟨by decide, by decide, by decide⟩, _, _, rfl, rfl, ⟨by decide, by decide +kernel⟩, _, _, rfl, rfl, by show (0 : Int) < (10 ^ Int.toNat 60) ^ Int.toNat 10; decide +kernel, ?_⟩⟩
      refine ⟨_, rfl, _, _, rfl, rfl, ⟨by decide, by decide, by decide⟩, _, _, rfl, rfl, wide_div (b := 60) (by decide +kernel) (by decide +kernel) (by decide) (by decide), ?_⟩
      refine ⟨_, rfl, _, _, rfl, rfl, by show (0 : Int) < _; decide, _, _, rfl, rfl, .inr (by decide), _, rfl, _, _, rfl, rfl, .inl (by decide), _, _, rfl, rfl, _, rfl, _, _, rfl, rfl, .inr ⟨_, rfl, _, _, rfl, rfl, .inl (by decide), _, _, rfl, rfl, _, _, rfl, rfl, ?_⟩⟩
      refine ⟨_, rfl, _, rfl, _, _, rfl, rfl, by show (0 : Int) < _; decide, by show 3 ≤ sizeLine; decide, fun p hp => ?_⟩
      exact q p _ hp (Ex.new hp) ⟨_, _, _, upd_same⟩
/-- the greatest common divisor -/
def spCommon : Sp := fun vs H Q _ => ∃ (a b : Nat), vs = [.int a, .int b] ∧ ∀ H', Ex H H' → Q (.int (Nat.gcd a b : Nat)) H'
/-- a drawn ring of one order -/
def spRingOf : Sp := fun vs H Q _ => ∃ (d : Addr) (k t : Int), vs = [.ref d, .int k, .int t] ∧ Dice H d ∧ 2 ≤ k ∧ k ≤ 100 ∧ 1 ≤ t ∧ t ≤ 1000 ∧ ∀ x n s H', RingAt H' (k * t) x n s → Dice H' d → Keep d H H' → Q x H'
end
end K1

namespace K1
open PySem PySem.Spec PyProof.Rows L2 Evl
/-! ### chains -/
theorem RingAt.keep {d : Addr} {H H' : Hp} {most n s : Int} {x : V} (e : Keep d H H') (h : Dice H d) (r : RingAt H most x n s) : RingAt H' most x n s := by
  obtain ⟨t, rfl, ht, q⟩ := r
  exact ⟨t, rfl, e.tup h ht, q⟩
theorem RingAt.ex {H H' : Hp} {most n s : Int} {x : V} (e : Ex H H') (r : RingAt H most x n s) : RingAt H' most x n s := by
  obtain ⟨t, rfl, ht, q⟩ := r
  exact ⟨t, rfl, e _ _ ht, q⟩
theorem RingAt.upd {H : Hp} {most n s : Int} {x : V} {p : Addr} {o : HO} (h : ∀ t, x = .ref t → t ≠ p) (r : RingAt H most x n s) : RingAt (upd H p o) most x n s := by
  obtain ⟨t, rfl, ht, q⟩ := r
  exact ⟨t, rfl, by rw [upd_ne (h t rfl)]; exact ht, q⟩
theorem RingAt.most {H : Hp} {m m' n s : Int} {x : V} (h : m ≤ m') (r : RingAt H m x n s) : RingAt H m' x n s := by
  obtain ⟨t, rfl, ht, q1, q2, q3, q4⟩ := r
  exact ⟨t, rfl, ht, q1, by omega, q3, q4⟩
/-- rings at values, one by one -/
abbrev RingsAt (H : Hp) (most : Int) (xs : List V) (rs : List (Int × Int)) : Prop := Paired (fun x (r : Int × Int) => RingAt H most x r.1 r.2) xs rs
theorem paired_snoc {α β : Type} {R : α → β → Prop} {x : α} {y : β} (h : R x y) : ∀ {xs : List α} {ys : List β}, Paired R xs ys → Paired R (xs ++ [x]) (ys ++ [y])
  | _, _, .nil => .cons h .nil
  | _, _, .cons r t => .cons r (paired_snoc h t)
theorem paired_imp {α β : Type} {R S : α → β → Prop} (h : ∀ x y, R x y → S x y) : ∀ {xs : List α} {ys : List β}, Paired R xs ys → Paired S xs ys
  | _, _, .nil => .nil
  | _, _, .cons r t => .cons (h _ _ r) (paired_imp h t)
theorem paired_append {α β : Type} {R : α → β → Prop} : ∀ {xs xs' : List α} {ys ys' : List β}, Paired R xs ys → Paired R xs' ys' → Paired R (xs ++ xs') (ys ++ ys')
  | _, _, _, _, .nil, s => s
  | _, _, _, _, .cons r t, s => .cons r (paired_append t s)
theorem paired_get {α β : Type} {R : α → β → Prop} : ∀ {xs : List α} {ys : List β} {i : Nat} {x : α}, Paired R xs ys → xs[i]? = some x → ∃ y, ys[i]? = some y ∧ R x y
  | _, _, _, _, .nil, e => by simp at e
  | _, _, 0, _, .cons r _, e => by simp at e; subst e; exact ⟨_, rfl, r⟩
  | _, _, i + 1, x, .cons _ t, e => by
    obtain ⟨u, h1, h2⟩ := paired_get (i := i) (x := x) t (by simpa using e)
    exact ⟨u, by simpa using h1, h2⟩
theorem paired_len {α β : Type} {R : α → β → Prop} {xs : List α} {ys : List β} (h : Paired R xs ys) : xs.length = ys.length := Paired.length h
section
variable {P : Program} {w : World} {K : PySem.W.Frag} {mg : Str → Option Value} {base : Heap}
def spChain : Sp := fun vs H Q _ => ∃ (d : Addr) (g most : Int), vs = [.ref d, .int g, .int most] ∧ Dice H d ∧ 1 ≤ g ∧ g ≤ 100 ∧ 2 ≤ most ∧ most ≤ 60 ∧
  ∀ p xs rs H', H' p = some (.tup xs) → RingsAt H' most xs rs → (xs.length : Int) = g → Dice H' d → Keep d H H' → Q (.ref p) H'
/-- what stands behind i rings of the list at D -/
def ChW (d Dl : Addr) (H : Hp) (most : Int) (i : Nat) (H' : Hp) : Prop := ∃ xs rs, H' Dl = some (.lst xs) ∧ RingsAt H' most xs rs ∧ xs.length = i ∧ Keep d H H' ∧ Dice H' d
theorem ChW.turn {d Dl : Addr} {H H' H2 : Hp} {most n s : Int} {x : V} {i : Nat} (W : ChW d Dl H most i H') (ndl : d ≠ Dl) (hD0 : H Dl = none) (k : Keep d H' H2) (hd : Dice H2 d) (r : RingAt H2 most x n s) (hi : i < 1000) :
    ∃ acc, H2 Dl = some (.lst acc) ∧ acc.length < sizeLine ∧ ChW d Dl H most (i + 1) (upd H2 Dl (.lst (acc ++ [x]))) := by
  obtain ⟨xs, rs, a1, a2, a3, a4, a5⟩ := W
  have e1 : H2 Dl = some (.lst xs) := k _ _ ndl.symm a1
  have nt : ∀ {y : V} {n s : Int}, RingAt H2 most y n s → RingAt (upd H2 Dl (.lst (xs ++ [x]))) most y n s := fun {y n s} q => q.upd fun t ht => by
    obtain ⟨t', rfl, ht', _⟩ := q
    cases ht
    exact ne_of ht' e1 (by intro z; cases z)
  refine ⟨xs, e1, small1000 (by omega), xs ++ [x], rs ++ [(n, s)], upd_same, paired_snoc (R := fun x (r : Int × Int) => RingAt (upd H2 Dl (.lst (xs ++ [_]))) most x r.1 r.2) (y := (n, s)) (nt r) (paired_imp (R := fun x (r : Int × Int) => RingAt H' most x r.1 r.2) (fun y r' q => nt (q.keep k a5)) a2), ?_, (a4.trans k).mut hD0, hd.upd ndl⟩
  rw [List.length_append, a3]
  rfl
end
end K1

namespace K1
open PySem PySem.Spec PyProof.Rows L2 Evl
/-! ### judges of rings and chains -/
/-- no tuple -/
inductive NotTup (K : PySem.W.Frag) (H : Hp) : V → Prop where
  | bl (b : Bool) : NotTup K H (.bl b)
  | non : NotTup K H .non
  | int (i : Int) : NotTup K H (.int i)
  | str (x : Str) : NotTup K H (.str x)
  | lst {a : Addr} {xs : List V} (e : H a = some (.lst xs)) : NotTup K H (.ref a)
  | dK {a : Addr} {kvs : List (Key × V)} (e : H a = some (.dK kvs)) : NotTup K H (.ref a)
theorem NotTup.ty {K : PySem.W.Frag} {H : Hp} {x : V} (h : NotTup K H x) : ∃ t : Value, TyX K H x t ∧ PySem.W.kitOne K t (.type "tuple") = some false := by
  cases h with
  | bl b => exact ⟨_, .base (.bl b), (kit_ty (by decide +kernel))⟩
  | non => exact ⟨_, .base .non, (kit_ty (by decide +kernel))⟩
  | int x => exact ⟨_, .base (.int x), (kit_ty (by decide +kernel))⟩
  | str x => exact ⟨_, .base (.str x), (kit_ty (by decide +kernel))⟩
  | lst e => exact ⟨_, .base (.lst e), (kit_ty (by decide +kernel))⟩
  | dK e => exact ⟨_, .base (.dK e), (kit_ty (by decide +kernel))⟩
theorem NotTup.mono {K : PySem.W.Frag} {H H' : Hp} {x : V} (e : Ex H H') (h : NotTup K H x) : NotTup K H' x := by
  cases h with
  | bl b => exact .bl b
  | non => exact .non
  | int x => exact .int x
  | str x => exact .str x
  | lst q => exact .lst (e _ _ q)
  | dK q => exact .dK (e _ _ q)
theorem BtwB.mono {K : PySem.W.Frag} {H H' : Hp} {lo hi : Int} {x : V} {b : Bool} (e : Ex H H') (h : BtwB K H lo hi x b) : BtwB K H' lo hi x b := by
  cases h with
  | int i => exact .int i
  | no h => exact .no (h.mono e)
theorem BtwB.yes {K : PySem.W.Frag} {H : Hp} {lo hi i : Int} (h1 : lo ≤ i) (h2 : i ≤ hi) (h3 : -(10 ^ 60) < i) (h4 : i < 10 ^ 60) : BtwB K H lo hi (.int i) true := by
  have := BtwB.int (K := K) (H := H) (lo := lo) (hi := hi) i
  rw [decide_eq_true h1, decide_eq_true h2, decide_eq_true h3, decide_eq_true h4] at this
  exact this
theorem BtwB.out {K : PySem.W.Frag} {H : Hp} {lo hi i : Int} (h1 : ¬ (lo ≤ i ∧ i ≤ hi)) : BtwB K H lo hi (.int i) false := by
  have := BtwB.int (K := K) (H := H) (lo := lo) (hi := hi) i
  have e : (decide (lo ≤ i) && decide (i ≤ hi)) = false := by
    by_cases c : lo ≤ i
    · have c2 : ¬ i ≤ hi := fun z => h1 ⟨c, z⟩
      rw [decide_eq_false c2, Bool.and_false]
    · rw [decide_eq_false c, Bool.false_and]
  rw [e, Bool.and_false] at this
  exact this
inductive PairB (K : PySem.W.Frag) (H : Hp) : V → Bool → Prop where
  | no {x : V} (h : NotTup K H x) : PairB K H x false
  | tup {a : Addr} {xs : List V} (e : H a = some (.tup xs)) : PairB K H (.ref a) (decide (xs.length = 2))
inductive RingB (K : PySem.W.Frag) (H : Hp) : V → Bool → Prop where
  | no {x : V} (h : NotTup K H x) : RingB K H x false
  | len {a : Addr} {xs : List V} (e : H a = some (.tup xs)) (h : xs.length ≠ 2) : RingB K H (.ref a) false
  | first {a : Addr} {x y : V} (e : H a = some (.tup [x, y])) (h : BtwB K H 2 60 x false) : RingB K H (.ref a) false
  | both {a : Addr} {n : Int} {y : V} {b : Bool} (e : H a = some (.tup [.int n, y])) (h1 : 2 ≤ n) (h2 : n ≤ 60) (h : BtwB K H 1 (n - 1) y b) : RingB K H (.ref a) b
theorem RingB.mono {K : PySem.W.Frag} {H H' : Hp} {x : V} {b : Bool} (e : Ex H H') (h : RingB K H x b) : RingB K H' x b := by
  cases h with
  | no h => exact .no (h.mono e)
  | len q h => exact .len (e _ _ q) h
  | first q h => exact .first (e _ _ q) (h.mono e)
  | both q h1 h2 h => exact .both (e _ _ q) h1 h2 (h.mono e)
inductive ChainB (K : PySem.W.Frag) (H : Hp) : V → Bool → Prop where
  | no {x : V} (h : NotTup K H x) : ChainB K H x false
  | len {a : Addr} {xs : List V} (e : H a = some (.tup xs)) (h : ¬ (1 ≤ xs.length ∧ xs.length ≤ 12)) : ChainB K H (.ref a) false
  | tup {a : Addr} {xs : List V} {bs : List Bool} (e : H a = some (.tup xs)) (h : 1 ≤ xs.length ∧ xs.length ≤ 12) (hb : Paired (RingB K H) xs bs) : ChainB K H (.ref a) (bs.all id)
theorem RingAt.ring {K : PySem.W.Frag} {H : Hp} {most n s : Int} {x : V} (h : RingAt H most x n s) (hm : most ≤ 60) : RingB K H x true := by
  obtain ⟨t, rfl, ht, h1, h2, h3, h4⟩ := h
  exact .both ht h1 (by omega) (.yes h3 (by omega) (by omega) (by omega))
section
variable {P : Program} {w : World} {K : PySem.W.Frag} {mg : Str → Option Value} {base : Heap}
def spIsPair (K : PySem.W.Frag) : Sp := fun vs H Q _ => ∃ x b, vs = [x] ∧ PairB K H x b ∧ ∀ H', Ex H H' → Q (.bl b) H'
def spIsRing (K : PySem.W.Frag) : Sp := fun vs H Q _ => ∃ x b, vs = [x] ∧ RingB K H x b ∧ ∀ H', Ex H H' → Q (.bl b) H'
def spIsChain (K : PySem.W.Frag) : Sp := fun vs H Q _ => ∃ x b, vs = [x] ∧ ChainB K H x b ∧ ∀ H', Ex H H' → Q (.bl b) H'
end
end K1

namespace K1
open PySem PySem.Spec PyProof.Rows L2 Evl
/-! ### orders and diagonals -/
section
variable {P : Program} {w : World} {K : PySem.W.Frag} {mg : Str → Option Value} {base : Heap}
def spCheckInteger (K : PySem.W.Frag) : Sp := fun vs H Q _ => ∃ i : Int, vs = [.int i] ∧ -(10 ^ 60) < i ∧ i < 10 ^ 60 ∧ ∀ H', Ex H H' → Q .non H'
theorem ok_check_integer (T : Txt K mg) {f : Addr} {fd : FuncData} (D : DefAt K mg "check_integer" sCheckInteger ["value"] f fd) : FnOk P w K mg base CX0 2 f fd ["value"] (spCheckInteger K) := by
  refine D.F.ok scCheckInteger (fun vs H Q E h => ?_) (fun cdv A outer s H vs Q E hr h => ?_)
  · obtain ⟨x, rfl, _⟩ := h
    rfl
  · obtain ⟨i, rfl, h1, h2, q⟩ := h
    obtain ⟨f1, fd1, D1⟩ := T.d_is_integer
    refine ⟨_, pss_one (ps_if (pt_not (pt_val (pe_call (ok_is_integer T D1) hr (by rfl) D1.g D1.F.kp D1.b .nil pass0 (pa_cons (pv 0) pa_nil)))) pss_never pss_nil), ?_⟩
    refine ⟨_, rfl, .int i, true, rfl, ?_, fun H1 e1 => ⟨true, rfl, iteF (q _ e1)⟩⟩
    have := IntB.int (K := K) (H := H) i
    rw [decide_eq_true h1, decide_eq_true h2] at this
    exact this
def spCheckRing (K : PySem.W.Frag) : Sp := fun vs H Q _ => ∃ x, vs = [x] ∧ RingB K H x true ∧ ∀ H', Ex H H' → Q .non H'
def spCheckChain (K : PySem.W.Frag) : Sp := fun vs H Q _ => ∃ x, vs = [x] ∧ ChainB K H x true ∧ ∀ H', Ex H H' → Q .non H'
def spOrderOf : Sp := fun vs H Q _ => ∃ x n s, vs = [x] ∧ RingAt H 60 x n s ∧ ∀ H', Ex H H' → Q (.int (K1M.ord n.natAbs s.natAbs : Nat)) H'
def spLets : Sp := fun vs H Q _ => ∃ x n s p c, vs = [x, .int p, .int c] ∧ RingAt H 60 x n s ∧ ∀ H', Ex H H' → Q (.bl (decide ((c * s - p) % n = 0))) H'
def spDoesLet : Sp := fun vs H Q _ => ∃ x n s p c, vs = [x, .int p, .int c] ∧ RingAt H 60 x n s ∧ 0 ≤ p ∧ p < n ∧ -(10 ^ 60) < c ∧ c < 10 ^ 60 ∧ ∀ H', Ex H H' → Q (.bl (decide ((c * s) % n = p))) H'
end
end K1

/-! plain mathematics of heaps: heights of columns that do not ascend -/
namespace HM
def hAt (h : List Nat) (c : Nat) : Nat := h.getD c 0
theorem hAt_lt {h : List Nat} {c : Nat} (hc : c < h.length) : h[c]? = some (hAt h c) := by
  unfold hAt
  rw [List.getD_eq_getElem?_getD, List.getElem?_eq_getElem hc]
  rfl
theorem hAt_ge {h : List Nat} {c : Nat} (hc : h.length ≤ c) : hAt h c = 0 := by
  unfold hAt
  rw [List.getD_eq_getElem?_getD, List.getElem?_eq_none hc]
  rfl
structure IsHeap (h : List Nat) : Prop where
  pos : ∀ c, c < h.length → 0 < hAt h c
  fall : ∀ c, hAt h (c + 1) ≤ hAt h c
theorem IsHeap.nil : IsHeap [] := ⟨fun c hc => absurd hc (Nat.not_lt_zero c), fun c => by rw [hAt_ge (Nat.zero_le _), hAt_ge (Nat.zero_le _)]; exact Nat.le_refl _⟩
theorem IsHeap.le {h : List Nat} (H : IsHeap h) {c : Nat} : ∀ {d : Nat}, c ≤ d → hAt h d ≤ hAt h c
  | 0, hd => by
    have : c = 0 := by omega
    rw [this]
    exact Nat.le_refl _
  | d + 1, hd => by
    by_cases e : c = d + 1
    · rw [e]
      exact Nat.le_refl _
    · exact Nat.le_trans (H.fall d) (H.le (by omega))
/-- two heaps with the same heights are one -/
theorem heap_ext {h h' : List Nat} (H : IsHeap h) (H' : IsHeap h') (e : ∀ c, hAt h c = hAt h' c) : h = h' := by
  have l : h.length = h'.length := by
    rcases Nat.lt_trichotomy h.length h'.length with q | q | q
    · have a := H'.pos _ q
      rw [← e, hAt_ge (Nat.le_refl _)] at a
      omega
    · exact q
    · have a := H.pos _ q
      rw [e, hAt_ge (Nat.le_refl _)] at a
      omega
  refine List.ext_getElem? fun c => ?_
  by_cases hc : c < h.length
  · rw [hAt_lt hc, hAt_lt (by omega), e]
  · rw [List.getElem?_eq_none (by omega), List.getElem?_eq_none (by omega)]
/-- a square can be added on top of the column -/
def opn (h : List Nat) (c : Nat) : Bool := decide (c = 0) || decide (hAt h c < hAt h (c - 1))
theorem opn_le {h : List Nat} {c : Nat} (o : opn h c = true) : c ≤ h.length := by
  unfold opn at o
  by_cases hc : c ≤ h.length
  · exact hc
  · rw [decide_eq_false (show ¬ c = 0 by omega), hAt_ge (show h.length ≤ c by omega), hAt_ge (show h.length ≤ c - 1 by omega)] at o
    exact absurd o (by decide)
theorem opn_lt {h : List Nat} {c : Nat} (o : opn h (c + 1) = true) : hAt h (c + 1) < hAt h c := by
  unfold opn at o
  rw [decide_eq_false (show ¬ c + 1 = 0 by omega), Bool.false_or] at o
  exact of_decide_eq_true o
def b2n (b : Bool) : Nat := if b = true then 1 else 0
theorem b2n_le (b : Bool) : b2n b ≤ 1 := by cases b <;> decide
def grow (h : List Nat) (g : Nat → Bool) : List Nat := (List.range h.length).map (fun c => hAt h c + b2n (g c)) ++ (if g h.length = true then [1] else [])
theorem grow_len (h : List Nat) (g : Nat → Bool) : (grow h g).length = h.length + b2n (g h.length) := by
  unfold grow b2n
  rw [List.length_append, List.length_map, List.length_range]
  split <;> rfl
theorem hAt_grow {h : List Nat} {g : Nat → Bool} (hg : ∀ c, g c = true → opn h c = true) (c : Nat) : hAt (grow h g) c = hAt h c + b2n (g c) := by
  unfold hAt
  rw [List.getD_eq_getElem?_getD, List.getD_eq_getElem?_getD]
  unfold grow
  by_cases hc : c < h.length
  · rw [List.getElem?_append_left (by rw [List.length_map, List.length_range]; exact hc), List.getElem?_map, List.getElem?_range hc, hAt_lt hc]
    rfl
  · rw [List.getElem?_append_right (by rw [List.length_map, List.length_range]; omega), List.length_map, List.length_range, List.getElem?_eq_none (show h.length ≤ c by omega)]
    by_cases e : c = h.length
    · subst e
      rw [Nat.sub_self]
      unfold b2n
      by_cases q : g h.length = true
      · rw [if_pos q, if_pos q]
        rfl
      · rw [if_neg q, if_neg q]
        rfl
    · have q : g c = false := by
        cases q : g c with
        | false => rfl
        | true => exact absurd (opn_le (hg c q)) (by omega)
      rw [q]
      have l : (if g h.length = true then [1] else []).length ≤ 1 := by split <;> decide
      rw [List.getElem?_eq_none (by omega)]
      rfl
theorem grow_heap {h : List Nat} {g : Nat → Bool} (H : IsHeap h) (hg : ∀ c, g c = true → opn h c = true) : IsHeap (grow h g) := by
  refine ⟨fun c hc => ?_, fun c => ?_⟩
  · rw [hAt_grow hg]
    rw [grow_len] at hc
    by_cases q : c < h.length
    · have := H.pos c q
      omega
    · have : c = h.length := by
        have := b2n_le (g h.length)
        omega
      subst this
      omega
  · rw [hAt_grow hg, hAt_grow hg]
    have := H.fall c
    cases q : g (c + 1) with
    | false =>
      show hAt h (c + 1) + 0 ≤ _
      omega
    | true =>
      have := opn_lt (hg _ q)
      show hAt h (c + 1) + 1 ≤ _
      omega
/-- heights and one more, 0, with some more -/
def hts (h : List Nat) (f : Nat → Nat) : List Nat := (List.range (h.length + 1)).map fun c => hAt h c + f c
theorem hts_len (h : List Nat) (f : Nat → Nat) : (hts h f).length = h.length + 1 := by
  unfold hts
  rw [List.length_map, List.length_range]
theorem hts_get {h : List Nat} {f : Nat → Nat} {c : Nat} (hc : c ≤ h.length) : (hts h f)[c]? = some (hAt h c + f c) := by
  unfold hts
  rw [List.getElem?_map, List.getElem?_range (by omega)]
  rfl
theorem hts_zero (h : List Nat) : h ++ [0] = hts h fun _ => 0 := by
  refine List.ext_getElem? fun c => ?_
  by_cases q : c < h.length
  · rw [List.getElem?_append_left q, hAt_lt q, hts_get (by omega)]
    rfl
  · by_cases e : c = h.length
    · subst e
      rw [List.getElem?_append_right (Nat.le_refl _), Nat.sub_self, hts_get (Nat.le_refl _), hAt_ge (Nat.le_refl _)]
      rfl
    · rw [List.getElem?_eq_none (by rw [List.length_append]; show h.length + 1 ≤ c; omega), List.getElem?_eq_none (by rw [hts_len]; omega)]
def cnt (cols : List Nat) (c : Nat) : Nat := (cols.filter fun d => d == c).length
theorem cnt_snoc (cols : List Nat) (d c : Nat) : cnt (cols ++ [d]) c = cnt cols c + b2n (d == c) := by
  unfold cnt
  rw [List.filter_append, List.length_append]
  cases q : (d == c) with
  | true =>
    rw [List.filter_cons, if_pos q]
    rfl
  | false =>
    rw [List.filter_cons, if_neg (by rw [q]; decide)]
    rfl
theorem hts_set {h : List Nat} {cols : List Nat} {d : Nat} (hd : d ≤ h.length) : (hts h (cnt cols)).set d (hAt h d + cnt cols d + 1) = hts h (cnt (cols ++ [d])) := by
  refine List.ext_getElem? fun c => ?_
  rw [List.getElem?_set]
  by_cases e : d = c
  · subst e
    rw [if_pos rfl, if_pos (by rw [hts_len]; omega), hts_get hd, cnt_snoc]
    show some _ = some (hAt h d + (cnt cols d + b2n (d == d)))
    rw [beq_self_eq_true]
    rfl
  · rw [if_neg e]
    by_cases q : c ≤ h.length
    · rw [hts_get q, hts_get q, cnt_snoc]
      have : (d == c) = false := by simpa using e
      rw [this]
      rfl
    · rw [List.getElem?_eq_none (by rw [hts_len]; omega), List.getElem?_eq_none (by rw [hts_len]; omega)]
theorem range_filter_cnt (n : Nat) (g : Nat → Bool) (c : Nat) : cnt ((List.range n).filter g) c = b2n (decide (c < n) && g c) := by
  induction n with
  | zero => rfl
  | succ n ih =>
    rw [List.range_succ, List.filter_append]
    have e : cnt ((List.range n).filter g ++ [n].filter g) c = cnt ((List.range n).filter g) c + cnt ([n].filter g) c := by
      unfold cnt
      rw [List.filter_append, List.length_append]
    rw [e, ih]
    by_cases q : g n = true
    · have : [n].filter g = [n] := by
        rw [List.filter_cons, if_pos q]
        rfl
      rw [this]
      unfold cnt
      by_cases z : n = c
      · subst z
        rw [List.filter_cons, if_pos (beq_self_eq_true n), decide_eq_false (Nat.lt_irrefl n), decide_eq_true (Nat.lt_succ_self n), q]
        rfl
      · rw [List.filter_cons, if_neg (show ¬ (n == c) = true by simpa using z)]
        have : decide (c < n) = decide (c < n + 1) := decide_eq_decide.mpr (by omega)
        rw [this]
        rfl
    · have : [n].filter g = [] := by
        rw [List.filter_cons, if_neg q]
        rfl
      rw [this]
      by_cases z : c = n
      · subst z
        have : g c = false := by simpa using q
        rw [this, Bool.and_false, Bool.and_false]
        rfl
      · have : decide (c < n) = decide (c < n + 1) := decide_eq_decide.mpr (by omega)
        rw [this]
        rfl
/-- what heaped makes of columns -/
theorem hts_filter {h : List Nat} (hp : ∀ c, c < h.length → 0 < hAt h c) {g : Nat → Bool} {f : Nat → Nat} (hf : ∀ c, c ≤ h.length → f c = b2n (g c)) : (hts h f).filter (fun x => decide (0 < x)) = grow h g := by
  unfold hts grow
  rw [List.range_succ, List.map_append, List.filter_append]
  have e1 : ((List.range h.length).map fun c => hAt h c + f c).filter (fun x => decide (0 < x)) = (List.range h.length).map fun c => hAt h c + b2n (g c) := by
    have e : ((List.range h.length).map fun c => hAt h c + f c) = (List.range h.length).map fun c => hAt h c + b2n (g c) := by
      refine List.map_congr_left fun c hc => ?_
      rw [hf c (Nat.le_of_lt (List.mem_range.mp hc))]
    rw [e]
    refine List.filter_eq_self.mpr fun x hx => ?_
    obtain ⟨c, hc, rfl⟩ := List.mem_map.mp hx
    have := hp c (List.mem_range.mp hc)
    exact decide_eq_true (by omega)
  rw [e1]
  congr 1
  show [hAt h h.length + f h.length].filter _ = _
  rw [hAt_ge (Nat.le_refl _), hf _ (Nat.le_refl _)]
  unfold b2n
  by_cases q : g h.length = true
  · rw [if_pos q, if_pos q]
    rfl
  · rw [if_neg q, if_neg q]
    rfl
/-- the diagonal of the square on top -/
def dg (h : List Nat) (c : Nat) : Int := (c : Int) - (hAt h c : Int)
theorem dg_lt {h : List Nat} (H : IsHeap h) {c d : Nat} (hcd : c < d) : dg h c < dg h d := by
  unfold dg
  have := H.le (Nat.le_of_lt hcd)
  omega
theorem dg_inj {h : List Nat} (H : IsHeap h) {c d : Nat} (e : dg h c = dg h d) : c = d := by
  rcases Nat.lt_trichotomy c d with q | q | q
  · have := dg_lt H q
    omega
  · exact q
  · have := dg_lt H q
    omega
theorem dg_two {h : List Nat} (H : IsHeap h) {c d : Nat} (hcd : c < d) (o : opn h d = true) : dg h c + 2 ≤ dg h d := by
  obtain ⟨e, rfl⟩ : ∃ e, d = e + 1 := ⟨d - 1, by omega⟩
  have a := opn_lt o
  have b := H.le (show c ≤ e by omega)
  unfold dg
  omega
def oc (h : List Nat) : List Nat := (List.range (h.length + 1)).filter (opn h)
theorem oc_mem {h : List Nat} {c : Nat} : c ∈ oc h ↔ opn h c = true := by
  unfold oc
  rw [List.mem_filter, List.mem_range]
  exact ⟨fun z => z.2, fun z => ⟨Nat.lt_succ_of_le (opn_le z), z⟩⟩
end HM

/-! own rules: xs[i] op= e of a list; range(n) as a value, walked later -/
namespace LX
open PySem PySem.Spec PyProof.Rows L2
section
variable {X : Cx}
/-- xs[i] by values, 0 ≤ i -/
def rGetL (K : PySem.W.Frag) : V → V → Hp → VK → Prop := fun o i H Q => ∃ (a : Addr) (ys : List V) (j : Nat) (v : V), o = .ref a ∧ i = .int (j : Int) ∧ SqL K H a ys ∧ ys[j]? = some v ∧ Q v H
theorem get_list : PGet X (rGetL X.K) := by
  intro pins s σ H o i ov iv Q I ro ri h
  obtain ⟨a, ys, j, v, rfl, rfl, hq, hv, q⟩ := h
  cases ro
  obtain ⟨t, rfl⟩ := ri
  obtain ⟨its, r, pl, hz⟩ := I.list hq
  obtain ⟨u, hu, ru⟩ := r.get hv
  have hn := line63
  have hj := (List.getElem?_eq_some_iff.mp hu).1
  have hl := r.length
  exact wpAny_getItem_list pl.isList (by omega) (by omega) (by simpa using hu) ⟨v, H, I, ru, q⟩
/-- range(n), a new range object -/
theorem cr_range1 : CallR X (.type "range") (fun vs H Q => ∃ j, vs = [V.int j] ∧ ∀ p, H p = none → Q (.ref p) (upd H p (.rng 0 j))) := by
  intro pins s σ H vs us Q I r h
  obtain ⟨j, rfl, q⟩ := h
  obtain ⟨u1, rfl, rj⟩ := vals1 r
  obtain ⟨t, rfl⟩ := rj
  have nw : ObjOk X.prog X.w (upd H s.heap.objs.size (.rng 0 j)) (s.heap.push { cls := .type "range", data := .fields #[.int 0 s.toks, .int j t, .int 1 (s.toks + 1)] }) s.heap.objs.size (.rng 0 j) := ⟨s.toks, t, s.toks + 1, Heap.get?_push_size _ rfl⟩
  exact call_range_1 ⟨.ref s.heap.objs.size, _, I.laid (t' := s.toks + 1 + 1) (fun b o e => Heap.get?_push_of_some _ e) (Nat.le_refl _) nw, rfl, q _ (I.hok.fresh (Nat.le_refl _))⟩
/-- a range object that stands, walked -/
def iRngV (te : TE) : TI := fun σ H R => te σ H fun x H1 => ∃ (p : Addr) (lo hi : Int), x = .ref p ∧ H1 p = some (.rng lo hi) ∧ (-(2 ^ 62) ≤ lo ∧ lo < 2 ^ 62 ∧ -(2 ^ 62) ≤ hi ∧ hi < 2 ^ 62) ∧ R (Itr lo (hi - lo).toNat) H1
theorem pi_rngV {tg e : Expr} {te : TE} (he : PE X e te) : PI X tg e (iRngV te) := by
  refine ⟨fun pins s σ H R I h => ?_⟩
  refine thn (he.run pins s σ H _ I h) fun u s1 ⟨x, H1, I1, r1, p, lo, hi, ex, hp, ⟨b1, b2, b3, b4⟩, q⟩ => ?_
  subst ex
  obtain rfl : u = Value.ref p := r1
  obtain ⟨t, u, v, g⟩ := (show ObjOk X.prog X.w H1 s1.heap p (.rng lo hi) from I1.hok p _ hp)
  refine wpAny_pyIter_range (s := s1) g (small_one b1 b2 b3 b4) ?_
  refine ⟨s1.heap.objs.size, [s1.heap.objs.size], _, _, H1, rfl, I1.kept (t' := s1.toks) fun b o e => Heap.get?_push_of_some _ e, turn_range _ lo (hi - lo).toNat, ?_, fun b hb => ?_, q⟩
  · have e1 : lo + ((0 : Nat) : Int) * 1 = lo := by simp
    have e2 : (((hi - lo).toNat : Nat) : Int) - ((0 : Nat) : Int) = Builtin.Range.rangeSize lo hi 1 := by
      rw [rangeSize_one]
      split <;> omega
    show IsRangeIter _ _ (lo + ((0 : Nat) : Int) * 1) ((((hi - lo).toNat : Nat) : Int) - ((0 : Nat) : Int)) 1
    rw [e1, e2]
    exact Heap.get?_push_size _ rfl
  · obtain rfl : b = s1.heap.objs.size := by simpa using hb
    exact I1.fpOk (Nat.le_refl _) (I1.hok.fresh (Nat.le_refl _))
end
end LX

namespace K1
open PySem PySem.Spec PyProof.Rows L2 Evl HM LX
/-! ### heaps -/
def hv (h : List Nat) : List V := h.map fun (n : Nat) => V.int (n : Int)
theorem hv_len (h : List Nat) : (hv h).length = h.length := List.length_map ..
theorem hv_get {h : List Nat} {c : Nat} (hc : c < h.length) : (hv h)[c]? = some (V.int (hAt h c : Int)) := by
  unfold hv
  rw [List.getElem?_map, hAt_lt hc]
  rfl
def HeapAt (H : Hp) (p : Addr) (h : List Nat) : Prop := H p = some (.tup (hv h))
/-- a heap that the package takes -/
structure Good (h : List Nat) : Prop where
  heap : IsHeap h
  len : h.length ≤ 60
  top : hAt h 0 ≤ 60
theorem Good.all {h : List Nat} (G : Good h) (c : Nat) : hAt h c ≤ 60 := Nat.le_trans (G.heap.le (Nat.zero_le c)) G.top
section
variable {P : Program} {w : World} {K : PySem.W.Frag} {mg : Str → Option Value} {base : Heap}
def spCheckBetween (K : PySem.W.Frag) : Sp := fun vs H Q _ => ∃ i lo hi : Int, vs = [.int i, .int lo, .int hi] ∧ lo ≤ i ∧ i ≤ hi ∧ -(10 ^ 60) < i ∧ i < 10 ^ 60 ∧ ∀ H', Ex H H' → Q .non H'
def spIsHeap (K : PySem.W.Frag) : Sp := fun vs H Q _ => ∃ p h, vs = [.ref p] ∧ HeapAt H p h ∧ Good h ∧ ∀ H', Ex H H' → Q (.bl true) H'
def spCheckHeap (K : PySem.W.Frag) : Sp := fun vs H Q _ => ∃ p h, vs = [.ref p] ∧ HeapAt H p h ∧ Good h ∧ ∀ H', Ex H H' → Q .non H'
def spHeightAt : Sp := fun vs H Q _ => ∃ p h, ∃ c : Nat, vs = [.ref p, .int (c : Int)] ∧ HeapAt H p h ∧ ∀ H', Ex H H' → Q (.int (hAt h c : Int)) H'
/-- the list of columns -/
def spOpenColumns : Sp := fun vs H Q _ => ∃ p h, vs = [.ref p] ∧ HeapAt H p h ∧ h.length ≤ 100 ∧ ∀ a H', Ex H H' → H a = none → H' a = some (.lst (hv (oc h))) → Q (.ref a) H'
theorem oc_snoc (h : List Nat) (i : Nat) : ((List.range (i + 1)).filter (opn h)) = ((List.range i).filter (opn h)) ++ (if opn h i = true then [i] else []) := by
  rw [List.range_succ, List.filter_append]
  by_cases q : opn h i = true
  · rw [if_pos q, List.filter_cons, if_pos q]
    rfl
  · rw [if_neg q, List.filter_cons, if_neg q]
    rfl
theorem hv_snoc (l : List Nat) (c : Nat) : hv (l ++ [c]) = hv l ++ [V.int (c : Int)] := by
  unfold hv
  rw [List.map_append]
  rfl
end
end K1

namespace K1
open PySem PySem.Spec PyProof.Rows L2 Evl HM LX
theorem hv_set {l : List Nat} {d x : Nat} : (hv l).set d (V.int (x : Int)) = hv (l.set d x) := by
  unfold hv
  rw [List.map_set]
theorem hv_at {l : List Nat} {i x : Nat} (h : l[i]? = some x) : (hv l)[i]? = some (V.int (x : Int)) := by
  unfold hv
  rw [List.getElem?_map, h]
  rfl
theorem hv_inv {l : List Nat} {i : Nat} {v : V} (h : (hv l)[i]? = some v) : ∃ x, l[i]? = some x ∧ v = V.int (x : Int) := by
  unfold hv at h
  rw [List.getElem?_map] at h
  cases e : l[i]? with
  | none =>
    rw [e] at h
    cases h
  | some x =>
    rw [e] at h
    exact ⟨x, rfl, (Option.some.inj h).symm⟩
theorem take_filter_snoc {α : Type} {l : List α} {i : Nat} {x : α} (g : α → Bool) (h : l[i]? = some x) : (l.take (i + 1)).filter g = (l.take i).filter g ++ (if g x = true then [x] else []) := by
  rw [List.take_add_one, h, List.filter_append]
  show _ ++ [x].filter g = _
  by_cases q : g x = true
  · rw [if_pos q, List.filter_cons, if_pos q]
    rfl
  · rw [if_neg q, List.filter_cons, if_neg q]
    rfl
section
variable {P : Program} {w : World} {K : PySem.W.Frag} {mg : Str → Option Value} {base : Heap}
def spHeaped : Sp := fun vs H Q _ => ∃ p a h cols, vs = [.ref p, .ref a] ∧ HeapAt H p h ∧ H a = some (.lst (hv cols)) ∧ h.length ≤ 100 ∧ (∀ c ∈ cols, c ≤ h.length) ∧
  ∀ r H', Ex H H' → HeapAt H' r ((hts h (cnt cols)).filter fun x => decide (0 < x)) → Q (.ref r) H'
/-- which columns a ring with a place adds to -/
def gl (h : List Nat) (n s q : Int) (c : Nat) : Bool := opn h c && decide ((dg h c * s - q) % n = 0)
theorem gl_opn {h : List Nat} {n s q : Int} (c : Nat) (z : gl h n s q c = true) : opn h c = true := by
  unfold gl at z
  exact (Bool.and_eq_true_iff.mp z).1
def spGrownBy : Sp := fun vs H Q _ => ∃ p h x n s q, vs = [.ref p, x, .int q] ∧ HeapAt H p h ∧ IsHeap h ∧ h.length ≤ 100 ∧ RingAt H 60 x n s ∧ ∀ r H', Ex H H' → HeapAt H' r (grow h (gl h n s q)) → Q (.ref r) H'
end
end K1

/-! own walks: comprehensions and loops over zip and enumerate of tuples, zip of lists of any lengths -/
namespace ZW
open PySem PySem.Spec PyProof.Rows L2
theorem lc_zipT {K : PySem.W.Frag} {a b : Addr} {xs ys : List V} {n : Nat} {g : TG} {tt : TT} {te : TE} {vs : List Nat} {σ : L2.St} {H1 : Hp} {D : Addr} {Qd : Hp → Prop} (hx : n ≤ xs.length) (hy : n ≤ ys.length) (hn : xs.length ≤ n ∨ ys.length ≤ n)
    (Pv : Nat → Hp → Prop) (h0 : Pv 0 (upd H1 D (.lst []))) (hq : ∀ i H, Pv i H → SqT K H a xs ∧ SqT K H b ys)
    (hs : ∀ i x y T H, i < n → xs[i]? = some x → ys[i]? = some y → Pv i H → H T = none → g (.ref T) (wipe σ vs) (upd H T (.tup [x, y])) fun σ2 H2 => wipe σ2 vs = wipe σ vs ∧ tt σ2 H2 fun c H3 =>
      if c = true then te σ2 H3 fun z H4 => ∃ acc, H4 D = some (.lst acc) ∧ acc.length < sizeLine ∧ Pv (i + 1) (upd H4 D (.lst (acc ++ [z]))) else Pv (i + 1) H3) (hd : ∀ H, Pv n H → Qd H) :
    ∃ W : Nat → Nat → Hp → Prop, (∃ m, W 0 m (upd H1 D (.lst []))) ∧ ∀ i m H, W i m H →
      ((RZ.ItzT K a b).stop i H ∧ Qd H) ∨ ((RZ.ItzT K a b).go i H ∧ ∃ Nx : Hp → Prop, (∀ H', Nx H' → ∃ m', m' < m ∧ W (i + 1) m' H') ∧ ∀ v H', (RZ.ItzT K a b).yld i H v H' → g v (wipe σ vs) H' fun σ2 H2 => wipe σ2 vs = wipe σ vs ∧ tt σ2 H2 fun c H3 =>
        if c = true then te σ2 H3 fun z H4 => ∃ acc, H4 D = some (.lst acc) ∧ acc.length < sizeLine ∧ Nx (upd H4 D (.lst (acc ++ [z]))) else Nx H3) := by
  refine ⟨fun i m H => m = n - i ∧ i ≤ n ∧ Pv i H, ⟨n, (Nat.sub_zero n).symm, Nat.zero_le _, h0⟩, ?_⟩
  rintro i m H ⟨rfl, hi, p⟩
  obtain ⟨qa, qb⟩ := hq i H p
  by_cases hlt : i < n
  · have e1 : xs[i]? = some (xs[i]'(by omega)) := List.getElem?_eq_getElem _
    have e2 : ys[i]? = some (ys[i]'(by omega)) := List.getElem?_eq_getElem _
    refine .inr ⟨⟨xs, ys, _, _, qa, qb, e1, e2⟩, Pv (i + 1), fun H' p' => ⟨n - (i + 1), by omega, rfl, hlt, p'⟩, fun v H' hy' => ?_⟩
    obtain ⟨T, x, y, rfl, nT, rfl, fx, fy⟩ := hy'
    exact hs i x y T H hlt (fx _ qa) (fy _ qb) p nT
  · have e : i = n := by omega
    subst e
    exact .inl ⟨⟨xs, ys, qa, qb, by omega⟩, hd H p⟩
theorem for_zipT {K : PySem.W.Frag} {a b : Addr} {xs ys : List V} {n : Nat} {g : TG} {tb : TS} {D : Ends} {σ : L2.St} {H : Hp} (hx : n ≤ xs.length) (hy : n ≤ ys.length) (hn : xs.length ≤ n ∨ ys.length ≤ n)
    (Pv : Nat → L2.St → Hp → Prop) (h0 : Pv 0 σ H) (hq : ∀ i σ H, Pv i σ H → SqT K H a xs ∧ SqT K H b ys)
    (hs : ∀ i x y T σ H, i < n → xs[i]? = some x → ys[i]? = some y → Pv i σ H → H T = none → g (.ref T) σ (upd H T (.tup [x, y])) fun σ2 H2 => tb { D with nx := Pv (i + 1), ct := Pv (i + 1), bk := D.nx } σ2 H2) (hd : ∀ σ H, Pv n σ H → D.nx σ H) :
    ∃ W : Nat → Nat → L2.St → Hp → Prop, (∃ m, W 0 m σ H) ∧ ∀ i m σ H, W i m σ H →
      ((RZ.ItzT K a b).stop i H ∧ D.nx σ H) ∨ ((RZ.ItzT K a b).go i H ∧ ∃ N : L2.St → Hp → Prop, (∀ σ' H', N σ' H' → ∃ m', m' < m ∧ W (i + 1) m' σ' H') ∧ ∀ v H', (RZ.ItzT K a b).yld i H v H' → g v σ H' fun σ2 H2 => tb { D with nx := N, ct := N, bk := D.nx } σ2 H2) := by
  refine ⟨fun i m σ H => m = n - i ∧ i ≤ n ∧ Pv i σ H, ⟨n, (Nat.sub_zero n).symm, Nat.zero_le _, h0⟩, ?_⟩
  rintro i m σ H ⟨rfl, hi, p⟩
  obtain ⟨qa, qb⟩ := hq i σ H p
  by_cases hlt : i < n
  · have e1 : xs[i]? = some (xs[i]'(by omega)) := List.getElem?_eq_getElem _
    have e2 : ys[i]? = some (ys[i]'(by omega)) := List.getElem?_eq_getElem _
    refine .inr ⟨⟨xs, ys, _, _, qa, qb, e1, e2⟩, Pv (i + 1), fun σ' H' p' => ⟨n - (i + 1), by omega, rfl, hlt, p'⟩, fun v H' hy' => ?_⟩
    obtain ⟨T, x, y, rfl, nT, rfl, fx, fy⟩ := hy'
    exact hs i x y T σ H hlt (fx _ qa) (fy _ qb) p nT
  · have e : i = n := by omega
    subst e
    exact .inl ⟨⟨xs, ys, qa, qb, by omega⟩, hd σ H p⟩
theorem lc_zipL {K : PySem.W.Frag} {a b : Addr} {xs ys : List V} {n : Nat} {g : TG} {tt : TT} {te : TE} {vs : List Nat} {σ : L2.St} {H1 : Hp} {D : Addr} {Qd : Hp → Prop} (hx : n ≤ xs.length) (hy : n ≤ ys.length) (hn : xs.length ≤ n ∨ ys.length ≤ n)
    (Pv : Nat → Hp → Prop) (h0 : Pv 0 (upd H1 D (.lst []))) (hq : ∀ i H, Pv i H → SqL K H a xs ∧ SqL K H b ys)
    (hs : ∀ i x y T H, i < n → xs[i]? = some x → ys[i]? = some y → Pv i H → H T = none → g (.ref T) (wipe σ vs) (upd H T (.tup [x, y])) fun σ2 H2 => wipe σ2 vs = wipe σ vs ∧ tt σ2 H2 fun c H3 =>
      if c = true then te σ2 H3 fun z H4 => ∃ acc, H4 D = some (.lst acc) ∧ acc.length < sizeLine ∧ Pv (i + 1) (upd H4 D (.lst (acc ++ [z]))) else Pv (i + 1) H3) (hd : ∀ H, Pv n H → Qd H) :
    ∃ W : Nat → Nat → Hp → Prop, (∃ m, W 0 m (upd H1 D (.lst []))) ∧ ∀ i m H, W i m H →
      ((Itz K a b).stop i H ∧ Qd H) ∨ ((Itz K a b).go i H ∧ ∃ Nx : Hp → Prop, (∀ H', Nx H' → ∃ m', m' < m ∧ W (i + 1) m' H') ∧ ∀ v H', (Itz K a b).yld i H v H' → g v (wipe σ vs) H' fun σ2 H2 => wipe σ2 vs = wipe σ vs ∧ tt σ2 H2 fun c H3 =>
        if c = true then te σ2 H3 fun z H4 => ∃ acc, H4 D = some (.lst acc) ∧ acc.length < sizeLine ∧ Nx (upd H4 D (.lst (acc ++ [z]))) else Nx H3) := by
  refine ⟨fun i m H => m = n - i ∧ i ≤ n ∧ Pv i H, ⟨n, (Nat.sub_zero n).symm, Nat.zero_le _, h0⟩, ?_⟩
  rintro i m H ⟨rfl, hi, p⟩
  obtain ⟨qa, qb⟩ := hq i H p
  by_cases hlt : i < n
  · have e1 : xs[i]? = some (xs[i]'(by omega)) := List.getElem?_eq_getElem _
    have e2 : ys[i]? = some (ys[i]'(by omega)) := List.getElem?_eq_getElem _
    refine .inr ⟨⟨xs, ys, _, _, qa, qb, e1, e2⟩, Pv (i + 1), fun H' p' => ⟨n - (i + 1), by omega, rfl, hlt, p'⟩, fun v H' hy' => ?_⟩
    obtain ⟨T, x, y, rfl, nT, rfl, fx, fy⟩ := hy'
    exact hs i x y T H hlt (fx _ qa) (fy _ qb) p nT
  · have e : i = n := by omega
    subst e
    exact .inl ⟨⟨xs, ys, qa, qb, by omega⟩, hd H p⟩
theorem for_zipL {K : PySem.W.Frag} {a b : Addr} {xs ys : List V} {n : Nat} {g : TG} {tb : TS} {D : Ends} {σ : L2.St} {H : Hp} (hx : n ≤ xs.length) (hy : n ≤ ys.length) (hn : xs.length ≤ n ∨ ys.length ≤ n)
    (Pv : Nat → L2.St → Hp → Prop) (h0 : Pv 0 σ H) (hq : ∀ i σ H, Pv i σ H → SqL K H a xs ∧ SqL K H b ys)
    (hs : ∀ i x y T σ H, i < n → xs[i]? = some x → ys[i]? = some y → Pv i σ H → H T = none → g (.ref T) σ (upd H T (.tup [x, y])) fun σ2 H2 => tb { D with nx := Pv (i + 1), ct := Pv (i + 1), bk := D.nx } σ2 H2) (hd : ∀ σ H, Pv n σ H → D.nx σ H) :
    ∃ W : Nat → Nat → L2.St → Hp → Prop, (∃ m, W 0 m σ H) ∧ ∀ i m σ H, W i m σ H →
      ((Itz K a b).stop i H ∧ D.nx σ H) ∨ ((Itz K a b).go i H ∧ ∃ N : L2.St → Hp → Prop, (∀ σ' H', N σ' H' → ∃ m', m' < m ∧ W (i + 1) m' σ' H') ∧ ∀ v H', (Itz K a b).yld i H v H' → g v σ H' fun σ2 H2 => tb { D with nx := N, ct := N, bk := D.nx } σ2 H2) := by
  refine ⟨fun i m σ H => m = n - i ∧ i ≤ n ∧ Pv i σ H, ⟨n, (Nat.sub_zero n).symm, Nat.zero_le _, h0⟩, ?_⟩
  rintro i m σ H ⟨rfl, hi, p⟩
  obtain ⟨qa, qb⟩ := hq i σ H p
  by_cases hlt : i < n
  · have e1 : xs[i]? = some (xs[i]'(by omega)) := List.getElem?_eq_getElem _
    have e2 : ys[i]? = some (ys[i]'(by omega)) := List.getElem?_eq_getElem _
    refine .inr ⟨⟨xs, ys, _, _, qa, qb, e1, e2⟩, Pv (i + 1), fun σ' H' p' => ⟨n - (i + 1), by omega, rfl, hlt, p'⟩, fun v H' hy' => ?_⟩
    obtain ⟨T, x, y, rfl, nT, rfl, fx, fy⟩ := hy'
    exact hs i x y T σ H hlt (fx _ qa) (fy _ qb) p nT
  · have e : i = n := by omega
    subst e
    exact .inl ⟨⟨xs, ys, qa, qb, by omega⟩, hd σ H p⟩
theorem for_enumT {K : PySem.W.Frag} {a : Addr} {xs : List V} {g : TG} {tb : TS} {D : Ends} {σ : L2.St} {H : Hp} (Pv : Nat → L2.St → Hp → Prop) (h0 : Pv 0 σ H) (hq : ∀ i σ H, Pv i σ H → SqT K H a xs)
    (hs : ∀ i x T σ H, xs[i]? = some x → Pv i σ H → H T = none → g (.ref T) σ (upd H T (.tup [.int (i : Nat), x])) fun σ2 H2 => tb { D with nx := Pv (i + 1), ct := Pv (i + 1), bk := D.nx } σ2 H2) (hd : ∀ σ H, Pv xs.length σ H → D.nx σ H) :
    ∃ W : Nat → Nat → L2.St → Hp → Prop, (∃ m, W 0 m σ H) ∧ ∀ i m σ H, W i m σ H →
      ((EnT.IteT K a).stop i H ∧ D.nx σ H) ∨ ((EnT.IteT K a).go i H ∧ ∃ N : L2.St → Hp → Prop, (∀ σ' H', N σ' H' → ∃ m', m' < m ∧ W (i + 1) m' σ' H') ∧ ∀ v H', (EnT.IteT K a).yld i H v H' → g v σ H' fun σ2 H2 => tb { D with nx := N, ct := N, bk := D.nx } σ2 H2) := by
  refine ⟨fun i m σ H => m = xs.length - i ∧ i ≤ xs.length ∧ Pv i σ H, ⟨xs.length, (Nat.sub_zero _).symm, Nat.zero_le _, h0⟩, ?_⟩
  rintro i m σ H ⟨rfl, hi, p⟩
  have qa := hq i σ H p
  by_cases hlt : i < xs.length
  · have e1 : xs[i]? = some (xs[i]'hlt) := List.getElem?_eq_getElem _
    refine .inr ⟨⟨xs, _, qa, e1⟩, Pv (i + 1), fun σ' H' p' => ⟨xs.length - (i + 1), by omega, rfl, hlt, p'⟩, fun v H' hy' => ?_⟩
    obtain ⟨T, x, rfl, nT, rfl, fx⟩ := hy'
    exact hs i x T σ H (fx _ qa) p nT
  · have e : i = xs.length := by omega
    subst e
    exact .inl ⟨⟨xs, qa, rfl⟩, hd σ H p⟩
theorem lc_enumT {K : PySem.W.Frag} {a : Addr} {xs : List V} {g : TG} {tt : TT} {te : TE} {vs : List Nat} {σ : L2.St} {H1 : Hp} {D : Addr} {Qd : Hp → Prop} (Pv : Nat → Hp → Prop) (h0 : Pv 0 (upd H1 D (.lst []))) (hq : ∀ i H, Pv i H → SqT K H a xs)
    (hs : ∀ i x T H, xs[i]? = some x → Pv i H → H T = none → g (.ref T) (wipe σ vs) (upd H T (.tup [.int (i : Nat), x])) fun σ2 H2 => wipe σ2 vs = wipe σ vs ∧ tt σ2 H2 fun c H3 =>
      if c = true then te σ2 H3 fun z H4 => ∃ acc, H4 D = some (.lst acc) ∧ acc.length < sizeLine ∧ Pv (i + 1) (upd H4 D (.lst (acc ++ [z]))) else Pv (i + 1) H3) (hd : ∀ H, Pv xs.length H → Qd H) :
    ∃ W : Nat → Nat → Hp → Prop, (∃ m, W 0 m (upd H1 D (.lst []))) ∧ ∀ i m H, W i m H →
      ((EnT.IteT K a).stop i H ∧ Qd H) ∨ ((EnT.IteT K a).go i H ∧ ∃ Nx : Hp → Prop, (∀ H', Nx H' → ∃ m', m' < m ∧ W (i + 1) m' H') ∧ ∀ v H', (EnT.IteT K a).yld i H v H' → g v (wipe σ vs) H' fun σ2 H2 => wipe σ2 vs = wipe σ vs ∧ tt σ2 H2 fun c H3 =>
        if c = true then te σ2 H3 fun z H4 => ∃ acc, H4 D = some (.lst acc) ∧ acc.length < sizeLine ∧ Nx (upd H4 D (.lst (acc ++ [z]))) else Nx H3) := by
  refine ⟨fun i m H => m = xs.length - i ∧ i ≤ xs.length ∧ Pv i H, ⟨xs.length, (Nat.sub_zero _).symm, Nat.zero_le _, h0⟩, ?_⟩
  rintro i m H ⟨rfl, hi, p⟩
  have qa := hq i H p
  by_cases hlt : i < xs.length
  · have e1 : xs[i]? = some (xs[i]'hlt) := List.getElem?_eq_getElem _
    refine .inr ⟨⟨xs, _, qa, e1⟩, Pv (i + 1), fun H' p' => ⟨xs.length - (i + 1), by omega, rfl, hlt, p'⟩, fun v H' hy' => ?_⟩
    obtain ⟨T, x, rfl, nT, rfl, fx⟩ := hy'
    exact hs i x T H (fx _ qa) p nT
  · have e : i = xs.length := by omega
    subst e
    exact .inl ⟨⟨xs, qa, rfl⟩, hd H p⟩
end ZW

namespace K1
open PySem PySem.Spec PyProof.Rows L2 Evl HM LX ZW
theorem grow_good {h : List Nat} {g : Nat → Bool} (G : IsHeap h) (h1 : h.length < 60) (h2 : hAt h 0 < 60) (hg : ∀ c, g c = true → opn h c = true) : Good (grow h g) := by
  refine ⟨grow_heap G hg, ?_, ?_⟩
  · rw [grow_len]
    have := b2n_le (g h.length)
    omega
  · rw [hAt_grow hg]
    have := b2n_le (g 0)
    omega
/-- ints of a tuple of places -/
def PlacesT (H : Hp) (a : Addr) (ps : List Int) : Prop := H a = some (.tup (ps.map V.int))
/-- the heaps behind each ring -/
def hseq (rs : List (Int × Int)) (ps : List Int) : Nat → List Nat
  | 0 => []
  | i + 1 => grow (hseq rs ps i) (gl (hseq rs ps i) (K1N.nAt rs i) (K1N.sAt rs i) (ps.getD i 0))
theorem hseq_ok (rs : List (Int × Int)) (ps : List Int) : ∀ i, IsHeap (hseq rs ps i) ∧ (hseq rs ps i).length ≤ i ∧ hAt (hseq rs ps i) 0 ≤ i
  | 0 => ⟨IsHeap.nil, Nat.le_refl _, Nat.le_refl _⟩
  | i + 1 => by
    obtain ⟨a, b, c⟩ := hseq_ok rs ps i
    refine ⟨grow_heap a gl_opn, ?_, ?_⟩
    · show (grow _ _).length ≤ _
      rw [grow_len]
      have := b2n_le (gl (hseq rs ps i) (K1N.nAt rs i) (K1N.sAt rs i) (ps.getD i 0) (hseq rs ps i).length)
      omega
    · show hAt (grow _ _) 0 ≤ _
      rw [hAt_grow gl_opn]
      have := b2n_le (gl (hseq rs ps i) (K1N.nAt rs i) (K1N.sAt rs i) (ps.getD i 0) 0)
      omega
theorem rings_nth4 {H : Hp} {most : Int} {xs : List V} {rs : List (Int × Int)} (h : RingsAt H most xs rs) {j : Nat} {x : V} (hx : xs[j]? = some x) : RingAt H most x (K1N.nAt rs j : Int) (K1N.sAt rs j) := by
  obtain ⟨r, hr, q⟩ := paired_get h hx
  have e : rs.getD j (0, 0) = r := by
    rw [List.getD_eq_getElem?_getD, hr]
    rfl
  obtain ⟨t, e1, e2, e3, e4, e5, e6⟩ := id q
  unfold K1N.nAt K1N.sAt
  rw [e, show ((r.1.toNat : Nat) : Int) = r.1 by omega]
  exact q
theorem rings_ex4 {H H' : Hp} {most : Int} {xs : List V} {rs : List (Int × Int)} (e : Ex H H') (h : RingsAt H most xs rs) : RingsAt H' most xs rs := paired_imp (fun _ _ z => RingAt.ex e z) h
theorem rings_chain4 {K : PySem.W.Frag} {H : Hp} {a : Addr} {xs : List V} {rs : List (Int × Int)} (h : RingsAt H 60 xs rs) (ha : H a = some (.tup xs)) (h1 : 1 ≤ xs.length) (h2 : xs.length ≤ 12) : ChainB K H (.ref a) true := by
  have p : ∀ {xs : List V} {rs : List (Int × Int)}, RingsAt H 60 xs rs → Paired (RingB K H) xs (List.replicate xs.length true) := by
    intro xs rs h
    induction h with
    | nil => exact .nil
    | cons r _ ih => exact .cons (RingAt.ring r (Int.le_refl _)) ih
  have q := ChainB.tup (K := K) ha ⟨h1, h2⟩ (p h)
  rw [show (List.replicate xs.length true).all id = true by simp] at q
  exact q
section
variable {P : Program} {w : World} {K : PySem.W.Frag} {mg : Str → Option Value} {base : Heap}
def spGrown : Sp := fun vs H Q _ => ∃ p h x n s q, vs = [.ref p, x, .int q] ∧ HeapAt H p h ∧ IsHeap h ∧ h.length < 60 ∧ hAt h 0 < 60 ∧ RingAt H 60 x n s ∧ 0 ≤ q ∧ q < n ∧ ∀ r H', Ex H H' → HeapAt H' r (grow h (gl h n s q)) → Q (.ref r) H'
def spCheckPlaces (K : PySem.W.Frag) : Sp := fun vs H Q _ => ∃ c a xs rs ps, vs = [.ref c, .ref a] ∧ H c = some (.tup xs) ∧ RingsAt H 60 xs rs ∧ xs.length ≤ 12 ∧ PlacesT H a ps ∧ ps.length = xs.length ∧ (∀ j : Nat, j < ps.length → 0 ≤ ps.getD j 0 ∧ ps.getD j 0 < (K1N.nAt rs j : Int)) ∧ ∀ H', Ex H H' → Q .non H'
def spLiesTold (K : PySem.W.Frag) : Sp := fun vs H Q E => spCheckPlaces K vs H (fun _ H' => Q (.bl true) H') E
/-- the list of the heaps -/
def spHeapsOf : Sp := fun vs H Q _ => ∃ c a xs rs ps, vs = [.ref c, .ref a] ∧ H c = some (.tup xs) ∧ RingsAt H 60 xs rs ∧ xs.length ≤ 12 ∧ PlacesT H a ps ∧ ps.length = xs.length ∧
  ∀ (p : Addr) (as : List Addr) (H' : Hp), Ex H H' → H p = none → H' p = some (.lst (as.map V.ref)) → as.length = xs.length + 1 → (∀ i b, as[i]? = some b → HeapAt H' b (hseq rs ps i)) → Q (.ref p) H'
end
end K1

namespace K1
open PySem PySem.Spec PyProof.Rows L2 Evl HM LX ZW
theorem at_end {as : List Addr} {g : Nat} (h : as.length = g + 1) : atI (as.map V.ref) (-1) = some (V.ref (as[g]'(by omega))) := by
  have e : as = as.take g ++ [as[g]'(by omega)] := by
    have := List.take_append_getElem (l := as) (i := g) (by omega)
    rw [this, List.take_of_length_le (by omega)]
  have e2 : as.map V.ref = (as.take g).map V.ref ++ [V.ref (as[g]'(by omega))] := by
    conv => lhs; rw [e]
    rw [List.map_append]
    rfl
  rw [e2]
  exact atI_last _ _
section
variable {P : Program} {w : World} {K : PySem.W.Frag} {mg : Str → Option Value} {base : Heap}
def spHeapOf : Sp := fun vs H Q _ => ∃ c a xs rs ps, vs = [.ref c, .ref a] ∧ H c = some (.tup xs) ∧ RingsAt H 60 xs rs ∧ (1 ≤ xs.length ∧ xs.length ≤ 12) ∧ PlacesT H a ps ∧ ps.length = xs.length ∧ (∀ j : Nat, j < ps.length → 0 ≤ ps.getD j 0 ∧ ps.getD j 0 < (K1N.nAt rs j : Int)) ∧
  ∀ (b : Addr) H', Ex H H' → HeapAt H' b (hseq rs ps xs.length) → Q (.ref b) H'
def spHeapsAlong : Sp := fun vs H Q _ => ∃ c a xs rs ps, vs = [.ref c, .ref a] ∧ H c = some (.tup xs) ∧ RingsAt H 60 xs rs ∧ (1 ≤ xs.length ∧ xs.length ≤ 12) ∧ PlacesT H a ps ∧ ps.length = xs.length ∧ (∀ j : Nat, j < ps.length → 0 ≤ ps.getD j 0 ∧ ps.getD j 0 < (K1N.nAt rs j : Int)) ∧
  ∀ (r : Addr) (as : List Addr) H', Ex H H' → H' r = some (.tup (as.map V.ref)) → as.length = xs.length + 1 → (∀ i b, as[i]? = some b → HeapAt H' b (hseq rs ps i)) → Q (.ref r) H'
/-- how many squares the first columns have -/
def sumT (h : List Nat) : Nat → Nat
  | 0 => 0
  | i + 1 => sumT h i + hAt h i
theorem sumT_le {h : List Nat} (G : Good h) : ∀ i, sumT h i ≤ 60 * i
  | 0 => Nat.le_refl _
  | i + 1 => by
    show sumT h i + hAt h i ≤ _
    have := sumT_le G i
    have := G.all i
    omega
def spSquares : Sp := fun vs H Q _ => ∃ p h, vs = [.ref p] ∧ HeapAt H p h ∧ Good h ∧ ∀ r ys H', Ex H H' → H' r = some (.tup ys) → ys.length = sumT h h.length → Q (.ref r) H'
end
end K1

namespace K1
open PySem PySem.Spec PyProof.Rows L2 Evl HM LX ZW
/-! ### data: ints in lists and tuples -/
theorem dp_ints {K : PySem.W.Frag} {H : Hp} : ∀ ns : List Int, DpAll K H (ns.map V.int) (ns.map PyData.int)
  | [] => .nil
  | n :: r => .cons (.int n) (dp_ints r)
theorem can_ints : ∀ l : List Int, PyData.canLayAll0 (l.map PyData.int) = true
  | [] => rfl
  | b :: r => by simp [PyData.canLayAll0, PyData.canLay0, can_ints r]
theorem shaped_intsL (ns : List Int) : SeqAt.shaped (.list (ns.map PyData.int)) = true := by
  induction ns with
  | nil => rfl
  | cons b r ih => exact ih
theorem depth_ints : ∀ l : List Int, PyData.depthAll (l.map PyData.int) ≤ 60
  | [] => by decide
  | b :: r => by
    have := depth_ints r
    simp only [List.map_cons, PyData.depthAll, PyData.depth]
    omega
theorem shaped_intsT (ns : List Int) : SeqAt.shaped (.tuple (ns.map PyData.int)) = true := by
  unfold SeqAt.shaped
  have h1 : (PyData.tuple (ns.map PyData.int)).canLay0 = true := by simp [PyData.canLay0, can_ints ns]
  have h2 : (PyData.tuple (ns.map PyData.int)).depth ≤ 64 := by
    have := depth_ints ns
    simp only [PyData.depth]
    omega
  rw [h1, decide_eq_true h2]
  rfl
theorem eqv_intsL (ns : List Int) : PyData.eqv (.list (ns.map PyData.int)) (.list (ns.map PyData.int)) = true := SeqAt.eqv_refl _ (by simp [PyData.canLay0, can_ints ns])
theorem eqv_intsT (ns : List Int) : PyData.eqv (.tuple (ns.map PyData.int)) (.tuple (ns.map PyData.int)) = true := SeqAt.eqv_refl _ (by simp [PyData.canLay0, can_ints ns])
theorem eqv_nil : PyData.eqv (.list []) (.list []) = true := eqv_intsL []
theorem eqv_consnil (d : PyData) (ds : List PyData) : PyData.eqv (.list (d :: ds)) (.list []) = false := by simp [PyData.eqv, PyData.eqvAll]
theorem erase_perm {ls : List Int} {i : Nat} {y : Int} (h : ls[i]? = some y) : ls.Perm (y :: ls.eraseIdx i) := by
  induction ls generalizing i with
  | nil => simp at h
  | cons x r ih =>
    cases i with
    | zero =>
      obtain rfl := Option.some.inj h
      exact .refl _
    | succ i =>
      have := ih (i := i) h
      exact (List.Perm.cons x this).trans (List.Perm.swap y x _)
theorem map_erase {α β : Type} (g : α → β) : ∀ (ls : List α) (i : Nat), (ls.eraseIdx i).map g = (ls.map g).eraseIdx i
  | [], _ => rfl
  | _ :: _, 0 => rfl
  | x :: r, i + 1 => congrArg (g x :: ·) (map_erase g r i)
section
variable {P : Program} {w : World} {K : PySem.W.Frag} {mg : Str → Option Value} {base : Heap}
def spMixed : Sp := fun vs H Q _ => ∃ (d a : Addr) (ns : List Int), vs = [.ref d, .ref a] ∧ Dice H d ∧ H a = some (.lst (ns.map V.int)) ∧ ns.length ≤ 1000 ∧
  ∀ (p : Addr) (ms : List Int) H', p ≠ d → ms.Perm ns → H' p = some (.lst (ms.map V.int)) → Dice H' d → Keep d H H' → Q (.ref p) H'
end
end K1

/-! the map of a chain: exchanges of neighbours, ring by ring; what it counts; plain mathematics -/
namespace MP
/-- exchanged where they rise -/
def stepP (M : Int → Bool) (f : Int → Int) (i : Int) : Int := if M i = true then max (f i) (f (i + 1)) else if M (i - 1) = true then min (f (i - 1)) (f i) else f i
/-- no two neighbours -/
def Sparse (M : Int → Bool) : Prop := ∀ i, M i = true → M (i + 1) = false
theorem Sparse.ahead {M : Int → Bool} (S : Sparse M) {i : Int} (h : M i = true) : M (i - 1) = false := by
  cases q : M (i - 1) with
  | false => rfl
  | true =>
    have := S _ q
    rw [show i - 1 + 1 = i by omega, h] at this
    cases this
theorem stepP_at {M : Int → Bool} {f : Int → Int} {i : Int} (h : M i = true) : stepP M f i = max (f i) (f (i + 1)) := if_pos h
theorem stepP_next {M : Int → Bool} (S : Sparse M) {f : Int → Int} {i : Int} (h : M i = true) : stepP M f (i + 1) = min (f i) (f (i + 1)) := by
  unfold stepP
  rw [if_neg (by rw [S i h]; decide), show i + 1 - 1 = i by omega, if_pos h]
theorem stepP_none {M : Int → Bool} {f : Int → Int} (h : ∀ i, M i = false) : stepP M f = f := by
  funext i
  unfold stepP
  rw [if_neg (by rw [h]; decide), if_neg (by rw [h]; decide)]
/-- the map, the last ring first -/
def pmap : List (Int → Bool) → (Int → Int) → Int → Int
  | [], f => f
  | M :: Ms, f => stepP M (pmap Ms f)
theorem pmap_bound {e : Int} : ∀ (Ms : List (Int → Bool)) (i : Int), i + e - Ms.length ≤ pmap Ms (fun i => i + e) i ∧ pmap Ms (fun i => i + e) i ≤ i + e + Ms.length
  | [], i => by
    show i + e - 0 ≤ i + e ∧ i + e ≤ i + e + 0
    omega
  | M :: Ms, i => by
    have h0 := pmap_bound (e := e) Ms i
    have h1 := pmap_bound (e := e) Ms (i + 1)
    have h2 := pmap_bound (e := e) Ms (i - 1)
    rw [List.length_cons]
    show i + e - ((Ms.length + 1 : Nat) : Int) ≤ stepP M _ i ∧ stepP M _ i ≤ i + e + ((Ms.length + 1 : Nat) : Int)
    unfold stepP
    split
    · omega
    · split
      · omega
      · omega
/-- each value once -/
def Bij (f : Int → Int) : Prop := ∀ t, ∃ i, f i = t ∧ ∀ j, f j = t → j = i
theorem Bij.inj {f : Int → Int} (B : Bij f) {i j : Int} (h : f i = f j) : i = j := by
  obtain ⟨k, _, h2⟩ := B (f i)
  rw [h2 i rfl, h2 j h.symm]
/-- where the value comes from -/
def sw (M : Int → Bool) (f : Int → Int) (i : Int) : Int := if M i = true then (if f i < f (i + 1) then i + 1 else i) else if M (i - 1) = true then (if f (i - 1) < f i then i - 1 else i) else i
theorem step_sw (M : Int → Bool) (f : Int → Int) (i : Int) : stepP M f i = f (sw M f i) := by
  unfold stepP sw
  by_cases m : M i = true
  · rw [if_pos m, if_pos m]
    split <;> omega
  · rw [if_neg m, if_neg m]
    by_cases m2 : M (i - 1) = true
    · rw [if_pos m2, if_pos m2]
      split <;> omega
    · rw [if_neg m2, if_neg m2]
theorem sw_sw {M : Int → Bool} (S : Sparse M) (f : Int → Int) (i : Int) : sw M f (sw M f i) = i := by
  by_cases m : M i = true
  · by_cases c : f i < f (i + 1)
    · have e : sw M f i = i + 1 := by
        unfold sw
        rw [if_pos m, if_pos c]
      rw [e]
      unfold sw
      rw [if_neg (by rw [S i m]; decide), show i + 1 - 1 = i by omega, if_pos m, if_pos c]
    · have e : sw M f i = i := by
        unfold sw
        rw [if_pos m, if_neg c]
      rw [e, e]
  · by_cases m2 : M (i - 1) = true
    · by_cases c : f (i - 1) < f i
      · have e : sw M f i = i - 1 := by
          unfold sw
          rw [if_neg m, if_pos m2, if_pos c]
        rw [e]
        unfold sw
        rw [if_pos m2, show i - 1 + 1 = i by omega, if_pos c]
      · have e : sw M f i = i := by
          unfold sw
          rw [if_neg m, if_pos m2, if_neg c]
        rw [e, e]
    · have e : sw M f i = i := by
        unfold sw
        rw [if_neg m, if_neg m2]
      rw [e, e]
theorem bij_step {M : Int → Bool} (S : Sparse M) {f : Int → Int} (B : Bij f) : Bij (stepP M f) := by
  intro t
  obtain ⟨i, hi, u⟩ := B t
  refine ⟨sw M f i, by rw [step_sw, sw_sw S, hi], fun j hj => ?_⟩
  rw [step_sw] at hj
  have := u _ hj
  rw [← this, sw_sw S]
theorem bij_pmap {e : Int} : ∀ Ms : List (Int → Bool), (∀ M ∈ Ms, Sparse M) → Bij (pmap Ms fun i => i + e)
  | [], _ => fun t => ⟨t - e, by show t - e + e = t; omega, fun j hj => by have : j + e = t := hj; omega⟩
  | M :: Ms, h => bij_step (h M (List.mem_cons_self ..)) (bij_pmap Ms fun N hN => h N (List.mem_cons_of_mem _ hN))
/-! ### what is counted -/
def opN (M : Int → Bool) (F : Int → Int) (v : Int) : Int := if M v = true then min (F (v - 1) + 1) (F (v + 1)) else F v
def opE (M : Int → Bool) (E : Int → Int) (v : Int) : Int := if M v = true then min (E (v + 1) + 1) (E (v - 1)) else E v
def Up (F : Int → Int) : Prop := ∀ v, F (v - 1) ≤ F v ∧ F v ≤ F (v - 1) + 1
def Down (E : Int → Int) : Prop := ∀ v, E v ≤ E (v - 1) ∧ E (v - 1) ≤ E v + 1
def ind (b : Int) (f : Int → Int) (v : Int) : Int := if -b ≤ f v then 1 else 0
/-- F counts the values of f from -b on -/
def Counts (b : Int) (f F : Int → Int) : Prop := ∀ v, F v - F (v - 1) = ind b f v
theorem Counts.up {b : Int} {f F : Int → Int} (C : Counts b f F) : Up F := fun v => by
  have := C v
  unfold ind at this
  split at this <;> omega
theorem counts_step {M : Int → Bool} (S : Sparse M) {b : Int} {f F : Int → Int} (C : Counts b f F) : Counts b (stepP M f) (opN M F) := fun v => by
  have c0 : F v - F (v - 1) = if -b ≤ f v then 1 else 0 := C v
  have c1 : F (v + 1) - F (v + 1 - 1) = if -b ≤ f (v + 1) then 1 else 0 := C (v + 1)
  have c2 : F (v - 1) - F (v - 1 - 1) = if -b ≤ f (v - 1) then 1 else 0 := C (v - 1)
  rw [show v + 1 - 1 = v by omega] at c1
  rw [show v - 1 - 1 = v - 2 by omega] at c2
  show opN M F v - opN M F (v - 1) = if -b ≤ stepP M f v then 1 else 0
  by_cases m : M v = true
  · have e1 : opN M F v = min (F (v - 1) + 1) (F (v + 1)) := if_pos m
    have e2 : opN M F (v - 1) = F (v - 1) := if_neg (by rw [S.ahead m]; decide)
    rw [e1, e2, stepP_at m]
    split at c0 <;> split at c1 <;> split <;> omega
  · have e1 : opN M F v = F v := if_neg m
    rw [e1]
    by_cases m2 : M (v - 1) = true
    · have e2 : opN M F (v - 1) = min (F (v - 1 - 1) + 1) (F (v - 1 + 1)) := if_pos m2
      have e3 := stepP_next S (f := f) m2
      rw [show v - 1 + 1 = v by omega] at e3
      rw [e2, show v - 1 - 1 = v - 2 by omega, show v - 1 + 1 = v by omega, e3]
      split at c0 <;> split at c2 <;> split <;> omega
    · have e2 : opN M F (v - 1) = F (v - 1) := if_neg m2
      have e3 : stepP M f v = f v := by
        unfold stepP
        rw [if_neg m, if_neg m2]
      rw [e2, e3]
      exact c0
def napp : List (Int → Bool) → (Int → Int) → Int → Int
  | [], F => F
  | M :: Ms, F => opN M (napp Ms F)
theorem counts_pmap {b : Int} {f F : Int → Int} (C : Counts b f F) : ∀ Ms : List (Int → Bool), (∀ M ∈ Ms, Sparse M) → Counts b (pmap Ms f) (napp Ms F)
  | [], _ => C
  | M :: Ms, h => counts_step (h M (List.mem_cons_self ..)) (counts_pmap C Ms fun N hN => h N (List.mem_cons_of_mem _ hN))
/-- the beginning: all from V + 1 on -/
def base (V v : Int) : Int := max 0 (v - V)
theorem counts_base {b e : Int} : Counts b (fun i => i + e) (base (-b - e - 1)) := fun v => by
  show max 0 (v - (-b - e - 1)) - max 0 (v - 1 - (-b - e - 1)) = if -b ≤ v + e then 1 else 0
  split <;> omega
theorem napp_low {V : Int} : ∀ (Ms : List (Int → Bool)) (v : Int), 0 ≤ napp Ms (base V) v ∧ (v ≤ V - Ms.length → napp Ms (base V) v = 0)
  | [], v => by
    show 0 ≤ base V v ∧ (v ≤ V - 0 → base V v = 0)
    unfold base
    omega
  | M :: Ms, v => by
    have h0 := napp_low (V := V) Ms v
    have h1 := napp_low (V := V) Ms (v + 1)
    have h2 := napp_low (V := V) Ms (v - 1)
    rw [List.length_cons]
    show 0 ≤ opN M _ v ∧ (v ≤ V - ((Ms.length + 1 : Nat) : Int) → opN M _ v = 0)
    unfold opN
    split
    · constructor
      · omega
      · intro h
        have := h1.2 (by omega)
        omega
    · exact ⟨h0.1, fun h => h0.2 (by omega)⟩
theorem opE_down {M : Int → Bool} (S : Sparse M) {E : Int → Int} (D : Down E) : Down (opE M E) := fun v => by
  have d0 := D v
  have d1 := D (v + 1)
  have d2 := D (v - 1)
  rw [show v + 1 - 1 = v by omega] at d1
  rw [show v - 1 - 1 = v - 2 by omega] at d2
  unfold opE
  rw [show v - 1 - 1 = v - 2 by omega, show v - 1 + 1 = v by omega]
  by_cases m : M v = true
  · rw [if_pos m, if_neg (by rw [S.ahead m]; decide)]
    omega
  · rw [if_neg m]
    split <;> omega
/-- one ring may be counted at either side -/
theorem pair {M : Int → Bool} (S : Sparse M) {E F : Int → Int} (D : Down E) (U : Up F) (B : Int) : (∀ v, B ≤ opE M E v + F v) ↔ ∀ v, B ≤ E v + opN M F v := by
  constructor
  · intro h v
    by_cases m : M v = true
    · have h1 := h (v - 1)
      have h2 := h (v + 1)
      have mp : ¬ M (v - 1) = true := by rw [S.ahead m]; decide
      have mn : ¬ M (v + 1) = true := by rw [S v m]; decide
      unfold opE at h1 h2
      rw [if_neg mp] at h1
      rw [if_neg mn] at h2
      unfold opN
      rw [if_pos m]
      have d0 := D v
      have d1 := D (v + 1)
      rw [show v + 1 - 1 = v by omega] at d1
      omega
    · have h1 := h v
      unfold opE at h1
      rw [if_neg m] at h1
      unfold opN
      rw [if_neg m]
      exact h1
  · intro h v
    by_cases m : M v = true
    · have h1 := h (v - 1)
      have h2 := h (v + 1)
      have mp : ¬ M (v - 1) = true := by rw [S.ahead m]; decide
      have mn : ¬ M (v + 1) = true := by rw [S v m]; decide
      unfold opN at h1 h2
      rw [if_neg mp] at h1
      rw [if_neg mn] at h2
      unfold opE
      rw [if_pos m]
      have d0 := U v
      have d1 := U (v + 1)
      rw [show v + 1 - 1 = v by omega] at d1
      omega
    · have h1 := h v
      unfold opN at h1
      rw [if_neg m] at h1
      unfold opE
      rw [if_neg m]
      exact h1
theorem opN_up {M : Int → Bool} (S : Sparse M) {F : Int → Int} (U : Up F) : Up (opN M F) := fun v => by
  have d0 := U v
  have d1 := U (v + 1)
  have d2 := U (v - 1)
  rw [show v + 1 - 1 = v by omega] at d1
  rw [show v - 1 - 1 = v - 2 by omega] at d2
  unfold opN
  rw [show v - 1 - 1 = v - 2 by omega, show v - 1 + 1 = v by omega]
  by_cases m : M v = true
  · rw [if_pos m, if_neg (by rw [S.ahead m]; decide)]
    omega
  · rw [if_neg m]
    split <;> omega
theorem napp_up {F : Int → Int} (U : Up F) : ∀ Ms : List (Int → Bool), (∀ M ∈ Ms, Sparse M) → Up (napp Ms F)
  | [], _ => U
  | M :: Ms, h => opN_up (h M (List.mem_cons_self ..)) (napp_up U Ms fun N hN => h N (List.mem_cons_of_mem _ hN))
def eapp : List (Int → Bool) → (Int → Int) → Int → Int
  | [], E => E
  | M :: Ms, E => eapp Ms (opE M E)
theorem pairs {F : Int → Int} (U : Up F) (B : Int) : ∀ (Ms : List (Int → Bool)) (E : Int → Int), (∀ M ∈ Ms, Sparse M) → Down E → ((∀ v, B ≤ E v + napp Ms F v) ↔ ∀ v, B ≤ eapp Ms E v + F v)
  | [], _, _, _ => Iff.rfl
  | M :: Ms, E, h, D => by
    have S := h M (List.mem_cons_self ..)
    have h' : ∀ N ∈ Ms, Sparse N := fun N hN => h N (List.mem_cons_of_mem _ hN)
    exact (pair S D (napp_up U Ms h') B).symm.trans (pairs U B Ms (opE M E) h' (opE_down S D))
theorem up_far {F : Int → Int} (U : Up F) : ∀ (n : Nat) (v : Int), F (v - n) ≤ F v ∧ F v ≤ F (v - n) + n
  | 0, v => by
    rw [show v - ((0 : Nat) : Int) = v by omega]
    omega
  | n + 1, v => by
    have h := up_far U n v
    have q := U (v - n)
    rw [show v - ((n + 1 : Nat) : Int) = v - n - 1 by omega]
    omega
theorem down_far {E : Int → Int} (D : Down E) : ∀ (n : Nat) (v : Int), E v ≤ E (v - n) ∧ E (v - n) ≤ E v + n
  | 0, v => by
    rw [show v - ((0 : Nat) : Int) = v by omega]
    omega
  | n + 1, v => by
    have h := down_far D n v
    have q := D (v - n)
    rw [show v - ((n + 1 : Nat) : Int) = v - n - 1 by omega]
    omega
theorem end_left {F : Int → Int} (U : Up F) (a B : Int) : (∀ v, B ≤ max 0 (a - v) + F v) ↔ B ≤ F a := by
  constructor
  · intro h
    have := h a
    omega
  · intro h v
    by_cases c : v ≤ a
    · have := up_far U (a - v).toNat a
      rw [show a - ((a - v).toNat : Int) = v by omega] at this
      omega
    · have := up_far U (v - a).toNat v
      rw [show v - ((v - a).toNat : Int) = a by omega] at this
      omega
theorem end_right {E : Int → Int} (D : Down E) (V B : Int) : (∀ v, B ≤ E v + base V v) ↔ B ≤ E V := by
  unfold base
  constructor
  · intro h
    have := h V
    omega
  · intro h v
    by_cases c : v ≤ V
    · have := down_far D (V - v).toNat V
      rw [show V - ((V - v).toNat : Int) = v by omega] at this
      omega
    · have := down_far D (v - V).toNat v
      rw [show v - ((v - V).toNat : Int) = V by omega] at this
      omega
theorem eapp_down : ∀ (Ms : List (Int → Bool)) (E : Int → Int), (∀ M ∈ Ms, Sparse M) → Down E → Down (eapp Ms E)
  | [], _, _, D => D
  | M :: Ms, E, h, D => eapp_down Ms (opE M E) (fun N hN => h N (List.mem_cons_of_mem _ hN)) (opE_down (h M (List.mem_cons_self ..)) D)
theorem up_base (V : Int) : Up (base V) := fun v => by
  unfold base
  omega
def start (a v : Int) : Int := max 0 (a - v)
theorem down_start (a : Int) : Down (start a) := fun v => by
  unfold start
  omega
/-- by the map, and from the other end -/
theorem both_ends (Ms : List (Int → Bool)) (h : ∀ M ∈ Ms, Sparse M) (a V : Int) : napp Ms (base V) a = eapp Ms (start a) V := by
  have U := napp_up (up_base V) Ms h
  have D := eapp_down Ms (start a) h (down_start a)
  have k : ∀ B, B ≤ napp Ms (base V) a ↔ B ≤ eapp Ms (start a) V := fun B =>
    (end_left U a B).symm.trans ((pairs (up_base V) B Ms (start a) h (down_start a)).trans (end_right D V B))
  have h1 := (k (napp Ms (base V) a)).mp (Int.le_refl _)
  have h2 := (k (eapp Ms (start a) V)).mpr (Int.le_refl _)
  omega
theorem eapp_snoc (M : Int → Bool) : ∀ (Ms : List (Int → Bool)) (E : Int → Int), eapp (Ms ++ [M]) E = opE M (eapp Ms E)
  | [], _ => rfl
  | N :: Ms, E => eapp_snoc M Ms (opE N E)
/-! ### windows -/
/-- a row of values from low on -/
def win (f : Int → Int) (low : Int) (n : Nat) : List Int := (List.range n).map fun (k : Nat) => f (low + k)
theorem win_len (f : Int → Int) (low : Int) (n : Nat) : (win f low n).length = n := by simp [win]
theorem win_get {f : Int → Int} {low : Int} {n k : Nat} (h : k < n) : (win f low n)[k]? = some (f (low + k)) := by
  unfold win
  rw [List.getElem?_map, List.getElem?_range h]
  rfl
/-- the row is that of f, but for e places at both ends -/
def Near (vs : List Int) (f : Int → Int) (low : Int) (n e : Nat) : Prop := vs.length = n ∧ ∀ k : Nat, e ≤ k → k + e < n → vs[k]? = some (f (low + k))
/-- exchanged at the places of M ahead of B -/
def part (M : Int → Bool) (low : Int) (vs : List Int) (B : Nat) : List Int := (List.range vs.length).map fun (k : Nat) =>
  if M (low + k) = true ∧ k + 1 < vs.length ∧ k < B then max (vs.getD k 0) (vs.getD (k + 1) 0)
  else if 1 ≤ k ∧ M (low + k - 1) = true ∧ k - 1 < B then min (vs.getD (k - 1) 0) (vs.getD k 0) else vs.getD k 0
theorem part_len (M : Int → Bool) (low : Int) (vs : List Int) (B : Nat) : (part M low vs B).length = vs.length := by simp [part]
theorem part_get {M : Int → Bool} {low : Int} {vs : List Int} {B k : Nat} (h : k < vs.length) : (part M low vs B).getD k 0 =
    if M (low + k) = true ∧ k + 1 < vs.length ∧ k < B then max (vs.getD k 0) (vs.getD (k + 1) 0)
    else if 1 ≤ k ∧ M (low + k - 1) = true ∧ k - 1 < B then min (vs.getD (k - 1) 0) (vs.getD k 0) else vs.getD k 0 := by
  unfold part
  rw [List.getD_eq_getElem?_getD, List.getElem?_map, List.getElem?_range h]
  rfl
theorem list_ext {a b : List Int} (h : a.length = b.length) (e : ∀ k, k < a.length → a.getD k 0 = b.getD k 0) : a = b := by
  refine List.ext_getElem h fun k h1 h2 => ?_
  have := e k h1
  rw [List.getD_eq_getElem?_getD, List.getD_eq_getElem?_getD, List.getElem?_eq_getElem h1, List.getElem?_eq_getElem h2] at this
  exact this
theorem part_zero {M : Int → Bool} {low : Int} {vs : List Int} : part M low vs 0 = vs := list_ext (part_len ..) fun k hk => by
  rw [part_len] at hk
  rw [part_get hk, if_neg (by omega), if_neg (by omega)]
/-- no place of M from B to B2 -/
theorem part_skip {M : Int → Bool} {low : Int} {vs : List Int} {B B2 : Nat} (hB : B ≤ B2) (no : ∀ k : Nat, B ≤ k → k < B2 → k + 1 < vs.length → M (low + k) = false) : part M low vs B2 = part M low vs B := list_ext (by rw [part_len, part_len]) fun k hk => by
  rw [part_len] at hk
  rw [part_get hk, part_get hk]
  have e1 : (M (low + k) = true ∧ k + 1 < vs.length ∧ k < B2) ↔ (M (low + k) = true ∧ k + 1 < vs.length ∧ k < B) := by
    constructor
    · intro c
      refine ⟨c.1, c.2.1, Nat.lt_of_not_le fun q => ?_⟩
      have := no k q c.2.2 c.2.1
      rw [c.1] at this
      cases this
    · intro c
      exact ⟨c.1, c.2.1, by omega⟩
  have e2 : (1 ≤ k ∧ M (low + k - 1) = true ∧ k - 1 < B2) ↔ (1 ≤ k ∧ M (low + k - 1) = true ∧ k - 1 < B) := by
    constructor
    · intro c
      refine ⟨c.1, c.2.1, Nat.lt_of_not_le fun q => ?_⟩
      have h1 := c.1
      have := no (k - 1) q c.2.2 (by omega)
      rw [show low + ((k - 1 : Nat) : Int) = low + k - 1 by omega, c.2.1] at this
      cases this
    · intro c
      exact ⟨c.1, c.2.1, by omega⟩
  simp only [e1, e2]
theorem getD_set {l : List Int} {i k : Nat} {v : Int} (hi : i < l.length) : (l.set i v).getD k 0 = if k = i then v else l.getD k 0 := by
  rw [List.getD_eq_getElem?_getD, List.getElem?_set]
  by_cases c : i = k
  · subst c
    rw [if_pos rfl, if_pos rfl, if_pos hi]
    rfl
  · rw [if_neg c, if_neg (Ne.symm c), List.getD_eq_getElem?_getD]
/-- one exchange, at a place of M -/
theorem part_next {M : Int → Bool} (S : Sparse M) {low : Int} {vs : List Int} {B : Nat} (hB : B + 1 < vs.length) (m : M (low + B) = true) :
    (part M low vs B).getD B 0 = vs.getD B 0 ∧ (part M low vs B).getD (B + 1) 0 = vs.getD (B + 1) 0 ∧
    part M low vs (B + 1) = ((part M low vs B).set B (max (vs.getD B 0) (vs.getD (B + 1) 0))).set (B + 1) (min (vs.getD B 0) (vs.getD (B + 1) 0)) := by
  have mp : ¬ M (low + B - 1) = true := by rw [S.ahead m]; decide
  have mn : ¬ M (low + B + 1) = true := by rw [S _ m]; decide
  refine ⟨?_, ?_, list_ext (by rw [part_len, List.length_set, List.length_set, part_len]) fun k hk => ?_⟩
  · rw [part_get (by omega), if_neg (by omega), if_neg (fun q => mp q.2.1)]
  · rw [part_get hB, if_neg (by omega), if_neg (by omega)]
  · rw [part_len] at hk
    rw [getD_set (by rw [List.length_set, part_len]; exact hB), getD_set (by rw [part_len]; omega), part_get hk]
    by_cases k1 : k = B + 1
    · subst k1
      rw [if_pos rfl, if_neg (fun q => by omega), if_pos ⟨by omega, by rw [show low + ((B + 1 : Nat) : Int) - 1 = low + B by omega]; exact m, by omega⟩]
      rfl
    · rw [if_neg k1]
      by_cases k2 : k = B
      · subst k2
        rw [if_pos rfl, if_pos ⟨m, hB, by omega⟩]
      · rw [if_neg k2, part_get hk]
        have e1 : (M (low + k) = true ∧ k + 1 < vs.length ∧ k < B + 1) ↔ (M (low + k) = true ∧ k + 1 < vs.length ∧ k < B) := by
          constructor
          · intro c
            exact ⟨c.1, c.2.1, by omega⟩
          · intro c
            exact ⟨c.1, c.2.1, by omega⟩
        have e2 : (1 ≤ k ∧ M (low + k - 1) = true ∧ k - 1 < B + 1) ↔ (1 ≤ k ∧ M (low + k - 1) = true ∧ k - 1 < B) := by
          constructor
          · intro c
            exact ⟨c.1, c.2.1, by omega⟩
          · intro c
            exact ⟨c.1, c.2.1, by omega⟩
        simp only [e1, e2]
/-- a whole ring -/
theorem near_step {M : Int → Bool} {vs : List Int} {f : Int → Int} {low : Int} {n e : Nat} (h : Near vs f low n e) {B : Nat} (hB : n ≤ B + 1) : Near (part M low vs B) (stepP M f) low n (e + 1) := by
  obtain ⟨h1, h2⟩ := h
  refine ⟨by rw [part_len, h1], fun k k1 k2 => ?_⟩
  have gd : ∀ j : Nat, e ≤ j → j + e < n → vs.getD j 0 = f (low + j) := fun j a b => by
    rw [List.getD_eq_getElem?_getD, h2 j a b]
    rfl
  have hk : k < (part M low vs B).length := by rw [part_len]; omega
  have e1 : (part M low vs B)[k]? = some ((part M low vs B).getD k 0) := by
    rw [List.getD_eq_getElem?_getD, List.getElem?_eq_getElem hk]
    rfl
  rw [e1, part_get (by omega)]
  congr 1
  rw [gd k (by omega) (by omega), gd (k + 1) (by omega) (by omega), gd (k - 1) (by omega) (by omega)]
  unfold stepP
  rw [show low + ((k + 1 : Nat) : Int) = low + k + 1 by omega, show low + ((k - 1 : Nat) : Int) = low + k - 1 by omega]
  by_cases m : M (low + k) = true
  · rw [if_pos ⟨m, by omega, by omega⟩, if_pos m]
  · rw [if_neg (fun q => m q.1), if_neg m]
    by_cases m2 : M (low + k - 1) = true
    · rw [if_pos ⟨by omega, m2, by omega⟩, if_pos m2]
    · rw [if_neg (fun q => m2 q.2.1), if_neg m2]
theorem near_more {vs : List Int} {f : Int → Int} {low : Int} {n e e2 : Nat} (h : Near vs f low n e) (he : e ≤ e2) : Near vs f low n e2 := ⟨h.1, fun k a b => h.2 k (by omega) (by omega)⟩
theorem near_win (f : Int → Int) (low : Int) (n : Nat) : Near (win f low n) f low n 0 := ⟨win_len .., fun k _ h => win_get (by omega)⟩
/-- the inner part -/
theorem near_cut {vs : List Int} {f : Int → Int} {low : Int} {n e : Nat} (h : Near vs f low n e) (hn : 2 * e ≤ n) : (vs.drop e).take (n - 2 * e) = win f (low + e) (n - 2 * e) := by
  refine List.ext_getElem? fun k => ?_
  by_cases c : k < n - 2 * e
  · rw [List.getElem?_take_of_lt c, List.getElem?_drop, h.2 (e + k) (by omega) (by omega), win_get c]
    congr 2
    omega
  · rw [List.getElem?_eq_none (by rw [List.length_take]; omega), List.getElem?_eq_none (by rw [win_len]; omega)]
/-- how many of a row are from -b on -/
theorem count_win {b : Int} {f F : Int → Int} (C : Counts b f F) (low : Int) : ∀ n : Nat, (((win f low n).filter fun x => decide (x ≥ -b)).length : Int) = F (low + n - 1) - F (low - 1)
  | 0 => by
    rw [show low + ((0 : Nat) : Int) - 1 = low - 1 by omega]
    show ((0 : Nat) : Int) = _
    omega
  | n + 1 => by
    have ih := count_win C low n
    have c := C (low + n)
    have e : win f low (n + 1) = win f low n ++ [f (low + n)] := by
      unfold win
      rw [List.range_succ, List.map_append]
      rfl
    rw [e, List.filter_append, List.length_append, show low + ((n + 1 : Nat) : Int) - 1 = low + n by omega]
    unfold ind at c
    by_cases q : -b ≤ f (low + n)
    · rw [if_pos q] at c
      rw [List.filter_cons_of_pos (by simpa using q), List.filter_nil, List.length_singleton]
      omega
    · rw [if_neg q] at c
      rw [List.filter_cons_of_neg (by simpa using q), List.filter_nil, List.length_nil]
      omega
/-- two ascending rows with the same members -/
theorem asc_ext : ∀ {a b : List Int}, a.Pairwise (· < ·) → b.Pairwise (· < ·) → (∀ x, x ∈ a ↔ x ∈ b) → a = b
  | [], [], _, _, _ => rfl
  | [], y :: _, _, _, h => absurd ((h y).mpr (List.mem_cons_self ..)) (by simp)
  | x :: _, [], _, _, h => absurd ((h x).mp (List.mem_cons_self ..)) (by simp)
  | x :: a, y :: b, ha, hb, h => by
    obtain ⟨ha1, ha2⟩ := List.pairwise_cons.mp ha
    obtain ⟨hb1, hb2⟩ := List.pairwise_cons.mp hb
    have e : x = y := by
      have h1 := (h x).mp (List.mem_cons_self ..)
      have h2 := (h y).mpr (List.mem_cons_self ..)
      rcases List.mem_cons.mp h1 with e | h1
      · exact e
      · rcases List.mem_cons.mp h2 with e | h2
        · exact e.symm
        · have := hb1 x h1
          have := ha1 y h2
          omega
    subst e
    refine congrArg (x :: ·) (asc_ext ha2 hb2 fun z => ⟨fun q => ?_, fun q => ?_⟩)
    · rcases List.mem_cons.mp ((h z).mp (List.mem_cons_of_mem _ q)) with e | q2
      · subst e
        have := ha1 z q
        omega
      · exact q2
    · rcases List.mem_cons.mp ((h z).mpr (List.mem_cons_of_mem _ q)) with e | q2
      · subst e
        have := hb1 z q
        omega
      · exact q2
theorem asc_of_sorted {a : List Int} (h : a.Pairwise (· ≤ ·)) (n : a.Nodup) : a.Pairwise (· < ·) := by
  refine List.Pairwise.imp₂ (fun x y (h1 : x ≤ y) (h2 : x ≠ y) => by omega) h n
end MP

set_option exponentiation.threshold 400
namespace K1
open MP
section
def sumL {α : Type} (l : List α) (f : α → Int) : Int := (l.map f).sum
theorem sumL_nil {α : Type} (f : α → Int) : sumL [] f = 0 := rfl
theorem sumL_cons {α : Type} (x : α) (l : List α) (f : α → Int) : sumL (x :: l) f = f x + sumL l f := by
  unfold sumL
  rw [List.map_cons, List.sum_cons]
theorem sumL_app {α : Type} : ∀ (l m : List α) (f : α → Int), sumL (l ++ m) f = sumL l f + sumL m f
  | [], m, f => by rw [List.nil_append, sumL_nil, Int.zero_add]
  | x :: l, m, f => by rw [List.cons_append, sumL_cons, sumL_cons, sumL_app l m f, Int.add_assoc]
theorem sumL_congr {α : Type} {f g : α → Int} : ∀ {l : List α}, (∀ x ∈ l, f x = g x) → sumL l f = sumL l g
  | [], _ => rfl
  | x :: l, h => by rw [sumL_cons, sumL_cons, h x (List.mem_cons_self ..), sumL_congr fun y hy => h y (List.mem_cons_of_mem _ hy)]
theorem sumL_perm {α : Type} {l m : List α} (f : α → Int) (h : l.Perm m) : sumL l f = sumL m f := by
  induction h with
  | nil => rfl
  | cons x _ ih => rw [sumL_cons, sumL_cons, ih]
  | swap x y l => rw [sumL_cons, sumL_cons, sumL_cons, sumL_cons]; omega
  | trans _ _ i1 i2 => exact i1.trans i2
theorem sumL_add {α : Type} (f g : α → Int) : ∀ l : List α, sumL l (fun x => f x + g x) = sumL l f + sumL l g
  | [] => rfl
  | x :: l => by rw [sumL_cons, sumL_cons, sumL_cons, sumL_add f g l]; omega
theorem sumL_zero {α : Type} : ∀ l : List α, sumL l (fun _ => 0) = 0
  | [] => rfl
  | x :: l => by rw [sumL_cons, sumL_zero l]; rfl
theorem sumL_mul {α : Type} (c : Int) (f : α → Int) : ∀ l : List α, sumL l (fun x => c * f x) = c * sumL l f
  | [] => by rw [sumL_nil, sumL_nil, Int.mul_zero]
  | x :: l => by rw [sumL_cons, sumL_cons, sumL_mul c f l, Int.mul_add]
theorem sumL_swap {α β : Type} (f : α → β → Int) (m : List β) : ∀ l : List α, sumL l (fun x => sumL m fun y => f x y) = sumL m fun y => sumL l fun x => f x y
  | [] => by
    rw [sumL_nil]
    exact (sumL_zero m).symm
  | x :: l => by
    rw [sumL_cons, sumL_swap f m l, ← sumL_add]
    exact sumL_congr fun y _ => (sumL_cons x l (fun x => f x y)).symm
theorem sumL_map {α β : Type} (f : β → Int) (g : α → β) (l : List α) : sumL (l.map g) f = sumL l fun x => f (g x) := by
  unfold sumL
  rw [List.map_map]
  rfl
theorem sumL_if {α : Type} (p : α → Bool) (c : Int) : ∀ l : List α, sumL l (fun x => if p x = true then c else 0) = ((l.filter p).length : Int) * c
  | [] => by simp [sumL_nil]
  | x :: l => by
    rw [sumL_cons, sumL_if p c l, List.filter_cons]
    split
    · rw [List.length_cons, Int.natCast_succ, Int.add_mul]
      omega
    · omega
theorem sumL_one {α : Type} : ∀ l : List α, sumL l (fun _ => 1) = (l.length : Int)
  | [] => rfl
  | x :: l => by rw [sumL_cons, sumL_one l, List.length_cons]; omega
theorem sumL_nn {α : Type} {f : α → Int} : ∀ {l : List α}, (∀ x ∈ l, 0 ≤ f x) → 0 ≤ sumL l f
  | [], _ => Int.le_refl _
  | x :: l, h => by
    rw [sumL_cons]
    have := h x (List.mem_cons_self ..)
    have := sumL_nn (l := l) fun y hy => h y (List.mem_cons_of_mem _ hy)
    omega
end
end K1

/-! round maps: periodic maps, their sums, their counts; plain mathematics -/
namespace K1
open MP
def Per (m : Int) (f : Int → Int) : Prop := ∀ i, f (i + m) = f i + m
def PerM (m : Int) (M : Int → Bool) : Prop := ∀ i, M (i + m) = M i
theorem per_step {m : Int} {M : Int → Bool} {f : Int → Int} (pM : PerM m M) (pf : Per m f) : Per m (stepP M f) := fun i => by
  unfold stepP
  rw [pM i, show i + m + 1 = (i + 1) + m by omega, show i + m - 1 = (i - 1) + m by omega, pM (i - 1), pf i, pf (i + 1), pf (i - 1)]
  split
  · omega
  · split <;> omega
theorem per_pmap {m e : Int} : ∀ Ms : List (Int → Bool), (∀ M ∈ Ms, PerM m M) → Per m (pmap Ms fun i => i + e)
  | [], _ => fun i => by
    show i + m + e = i + e + m
    omega
  | M :: Ms, h => per_step (h M (List.mem_cons_self ..)) (per_pmap Ms fun N hN => h N (List.mem_cons_of_mem _ hN))
/-- what an exchange gives to the right -/
def gx (M : Int → Bool) (f : Int → Int) (i : Int) : Int := if M i = true then max 0 (f (i + 1) - f i) else 0
theorem step_diff {M : Int → Bool} (S : Sparse M) (f : Int → Int) (i : Int) : stepP M f i = f i + (gx M f i - gx M f (i - 1)) := by
  unfold stepP gx
  rw [show i - 1 + 1 = i by omega]
  by_cases m : M i = true
  · rw [if_pos m, if_pos m, if_neg (by rw [S.ahead m]; decide)]
    omega
  · rw [if_neg m, if_neg m]
    by_cases m2 : M (i - 1) = true
    · rw [if_pos m2, if_pos m2]
      omega
    · rw [if_neg m2, if_neg m2]
      omega
theorem tele (g : Int → Int) : ∀ n : Nat, sumL (List.range n) (fun (i : Nat) => g (i : Int) - g ((i : Int) - 1)) = g ((n : Int) - 1) - g (-1)
  | 0 => by
    show (0 : Int) = g (0 - 1) - g (-1)
    rw [show (0 : Int) - 1 = -1 by omega]
    omega
  | n + 1 => by
    rw [List.range_succ, sumL_app, tele g n, sumL_cons, sumL_nil, show ((n + 1 : Nat) : Int) - 1 = (n : Int) by omega]
    omega
theorem sum_step {m : Nat} {M : Int → Bool} {f : Int → Int} (S : Sparse M) (pM : PerM m M) (pf : Per m f) : sumL (List.range m) (fun (i : Nat) => stepP M f (i : Int)) = sumL (List.range m) fun (i : Nat) => f (i : Int) := by
  rw [show sumL (List.range m) (fun (i : Nat) => stepP M f (i : Int)) = sumL (List.range m) (fun (i : Nat) => f (i : Int) + (gx M f (i : Int) - gx M f ((i : Int) - 1))) from sumL_congr fun i _ => step_diff S f i, sumL_add, tele]
  have : gx M f ((m : Int) - 1) = gx M f (-1) := by
    unfold gx
    have p1 := pM (-1)
    have p2 := pf (-1)
    have p3 := pf (-1 + 1)
    rw [show (m : Int) - 1 = -1 + m by omega, p1, show (-1 : Int) + m + 1 = -1 + 1 + m by omega, p2, p3]
    split <;> omega
  omega
theorem sum_pmap {m : Nat} {e : Int} : ∀ Ms : List (Int → Bool), (∀ M ∈ Ms, Sparse M ∧ PerM m M) → sumL (List.range m) (fun (i : Nat) => pmap Ms (fun i => i + e) (i : Int)) = sumL (List.range m) fun (i : Nat) => (i : Int) + e
  | [], _ => rfl
  | M :: Ms, h => by
    obtain ⟨h1, h2⟩ := h M (List.mem_cons_self ..)
    have hr := fun N hN => h N (List.mem_cons_of_mem _ hN)
    show sumL (List.range m) (fun (i : Nat) => stepP M (pmap Ms fun i => i + e) (i : Int)) = _
    rw [sum_step h1 h2 (per_pmap Ms fun N hN => (hr N hN).2)]
    exact sum_pmap Ms hr
theorem qle {m p q : Int} (hm : 0 < m) (h : m * p < m * q + m) : p ≤ q := by
  have : m * p < m * (q + 1) := by rw [Int.mul_add, Int.mul_one]; exact h
  have := Int.lt_of_mul_lt_mul_left this (Int.le_of_lt hm)
  omega
theorem qlo {m : Int} (hm : 0 < m) (x : Int) : m * (x / m) ≤ x := Int.mul_ediv_self_le (by omega)
theorem qhi {m : Int} (hm : 0 < m) (x : Int) : x < m * (x / m) + m := Int.lt_mul_ediv_self_add hm
theorem q_eq {m x q : Int} (hm : 0 < m) (h1 : m * q ≤ x) (h2 : x < m * q + m) : x / m = q := by
  have a := qlo hm x
  have b := qhi hm x
  exact Int.le_antisymm (qle hm (by omega)) (qle hm (by omega))
/-- how many are counted -/
def cntR (m : Nat) (f : Int → Int) (a b : Int) : Int := sumL (List.range m) fun (r : Nat) => max 0 ((a - (r : Int)) / (m : Int) + (b + f (r : Int)) / (m : Int) + 1)
theorem per_mul {m : Int} {f : Int → Int} (pf : Per m f) : ∀ (n : Nat) (i : Int), f (i + m * (n : Int)) = f i + m * (n : Int)
  | 0, i => by
    show f (i + m * 0) = f i + m * 0
    rw [Int.mul_zero, Int.add_zero, Int.add_zero]
  | n + 1, i => by
    rw [show i + m * ((n + 1 : Nat) : Int) = (i + m * (n : Int)) + m by rw [Int.natCast_add, Int.mul_add]; show i + (m * n + m * 1) = _; omega, pf, per_mul pf n, Int.natCast_add, Int.mul_add]
    show _ = f i + (m * n + m * 1)
    omega
theorem per_q {m : Int} {f : Int → Int} (pf : Per m f) (i q : Int) : f (i + m * q) = f i + m * q := by
  rcases Int.le_total 0 q with h | h
  · obtain ⟨n, rfl⟩ : ∃ n : Nat, q = n := ⟨q.toNat, by omega⟩
    exact per_mul pf n i
  · obtain ⟨n, rfl⟩ : ∃ n : Nat, q = -(n : Int) := ⟨(-q).toNat, by omega⟩
    have := per_mul pf n (i + m * -(n : Int))
    rw [show i + m * -(n : Int) + m * (n : Int) = i by rw [Int.mul_neg]; omega] at this
    rw [Int.mul_neg] at this ⊢
    omega
theorem sumL_one_at {f g : Nat → Int} {j : Nat} {v : Int} : ∀ {n : Nat}, j < n → (∀ x, x < n → f x = g x + if x = j then v else 0) → sumL (List.range n) f = sumL (List.range n) g + v
  | 0, h, _ => absurd h (Nat.not_lt_zero _)
  | n + 1, h, e => by
    rw [List.range_succ, sumL_app, sumL_app, sumL_cons, sumL_cons, sumL_nil, sumL_nil, e n (by omega)]
    by_cases z : n = j
    · rw [if_pos z, show sumL (List.range n) f = sumL (List.range n) g from sumL_congr fun x hx => by
        have := List.mem_range.mp hx
        rw [e x (by omega), if_neg (by omega), Int.add_zero]]
      omega
    · rw [if_neg z, sumL_one_at (n := n) (by omega) fun x hx => e x (by omega)]
      omega
theorem cnt_step {m : Nat} (hm : 1 ≤ m) {f : Int → Int} (pf : Per m f) (a b : Int) : cntR m f a b - cntR m f (a - 1) b = if -b ≤ f a then 1 else 0 := by
  have m0 : (0 : Int) < m := by omega
  have ra := Int.emod_nonneg a (show (m : Int) ≠ 0 by omega)
  have rb := Int.emod_lt_of_pos a m0
  obtain ⟨r, hr⟩ : ∃ r : Nat, (r : Int) = a % (m : Int) := ⟨(a % (m : Int)).toNat, by omega⟩
  obtain ⟨q, hq⟩ : ∃ q, q = a / (m : Int) := ⟨_, rfl⟩
  have ea : a = (r : Int) + m * q := by
    rw [hr, hq]
    have := Int.mul_ediv_add_emod a m
    omega
  have fa : f a = f (r : Int) + m * q := by
    rw [ea, per_q pf]
  unfold cntR
  rw [sumL_one_at (j := r) (v := if -b ≤ f a then 1 else 0) (show r < m by omega) (g := fun (r : Nat) => max 0 ((a - 1 - (r : Int)) / (m : Int) + (b + f (r : Int)) / (m : Int) + 1)) fun x hx => ?_]
  · omega
  · obtain ⟨t, ht⟩ : ∃ t, t = (b + f (x : Int)) / (m : Int) := ⟨_, rfl⟩
    rw [← ht]
    by_cases z : x = r
    · subst z
      rw [if_pos rfl]
      have e1 : (a - (x : Int)) / (m : Int) = q := q_eq m0 (by omega) (by omega)
      have e2 : (a - 1 - (x : Int)) / (m : Int) = q - 1 := q_eq m0 (by rw [Int.mul_sub]; omega) (by rw [Int.mul_sub]; omega)
      rw [e1, e2]
      have l := qlo m0 (b + f (x : Int))
      have h := qhi m0 (b + f (x : Int))
      rw [← ht] at l h
      by_cases y : -b ≤ f a
      · rw [if_pos y]
        have : 0 ≤ q + t := by
          refine qle m0 ?_
          rw [Int.mul_zero, Int.mul_add]
          omega
        omega
      · rw [if_neg y]
        have : q + t ≤ -1 := by
          refine qle m0 ?_
          rw [Int.mul_add]
          omega
        omega
    · rw [if_neg z]
      have e : (a - (x : Int)) / (m : Int) = (a - 1 - (x : Int)) / (m : Int) := by
        have l := qlo m0 (a - (x : Int))
        have h := qhi m0 (a - (x : Int))
        symm
        refine q_eq m0 ?_ (by omega)
        rcases Int.lt_or_le (m * ((a - (x : Int)) / m)) (a - x) with y | y
        · omega
        · exfalso
          have e3 : (r : Int) - x = m * ((a - (x : Int)) / m - q) := by rw [Int.mul_sub]; omega
          rcases Int.lt_trichotomy ((a - (x : Int)) / m - q) 0 with w | w | w
          · have := Int.mul_le_mul_of_nonneg_left (show (a - (x : Int)) / m - q ≤ -1 by omega) (Int.le_of_lt m0)
            omega
          · rw [w, Int.mul_zero] at e3
            omega
          · have := Int.mul_le_mul_of_nonneg_left (show 1 ≤ (a - (x : Int)) / m - q by omega) (Int.le_of_lt m0)
            omega
      rw [e]
      omega
theorem cnt_low {m : Nat} (hm : 1 ≤ m) {f : Int → Int} {tot : Int} (fb : ∀ i, f i ≤ i + tot) {a b : Int} (h : a + b + tot + m < 0) : cntR m f a b = 0 := by
  have m0 : (0 : Int) < m := by omega
  unfold cntR
  rw [show sumL (List.range m) (fun (r : Nat) => max 0 ((a - (r : Int)) / (m : Int) + (b + f (r : Int)) / (m : Int) + 1)) = sumL (List.range m) fun _ => 0 from sumL_congr fun r _ => ?_, sumL_zero]
  have l1 := qlo m0 (a - (r : Int))
  have l2 := qlo m0 (b + f (r : Int))
  have := fb (r : Int)
  have : (a - (r : Int)) / (m : Int) + (b + f (r : Int)) / (m : Int) ≤ -2 := by
    refine qle m0 ?_
    rw [Int.mul_add]
    omega
  omega
theorem cnt_all {m : Nat} (hm : 1 ≤ m) {f : Int → Int} (pf : Per m f) {tot : Int} (fb : ∀ i, f i ≤ i + tot) {b : Int} {h : Int → Int} (hs : ∀ a, h a - h (a - 1) = if -b ≤ f a then 1 else 0) (hl : ∀ a, a < -tot - b → h a = 0) (a : Int) : cntR m f a b = h a := by
  have go : ∀ n : Nat, cntR m f (-tot - b - m - 1 + n) b = h (-tot - b - m - 1 + n) := fun n => by
    induction n with
    | zero => rw [cnt_low hm fb (by omega), hl _ (by omega)]
    | succ n ih =>
      have s1 := cnt_step hm pf (-tot - b - m - 1 + ((n + 1 : Nat) : Int)) b
      have s2 := hs (-tot - b - m - 1 + ((n + 1 : Nat) : Int))
      rw [show -tot - b - m - 1 + ((n + 1 : Nat) : Int) - 1 = -tot - b - m - 1 + (n : Int) by omega] at s1 s2
      omega
  by_cases z : -tot - b - m - 1 ≤ a
  · obtain ⟨n, hn⟩ : ∃ n : Nat, a = -tot - b - m - 1 + n := ⟨(a - (-tot - b - m - 1)).toNat, by omega⟩
    rw [hn]
    exact go n
  · rw [cnt_low hm fb (by omega), hl _ (by omega)]
end K1

/-! how often a round map falls: one exchange adds one at the most; plain mathematics -/
namespace K1
open MP
/-- falls of two classes -/
def dd (m : Int) (f : Int → Int) (i j : Int) : Int := (f j - f i) / m - (j - i) / m
theorem div_q {m : Int} (hm : 0 < m) (x q : Int) : (x + m * q) / m = x / m + q := by
  rw [Int.add_mul_ediv_left _ _ (by omega)]
theorem dd_mod {m : Int} (hm : 0 < m) {f : Int → Int} (pf : Per m f) (i j p q : Int) : dd m f (i + m * p) (j + m * q) = dd m f i j := by
  unfold dd
  rw [per_q pf, per_q pf, show f j + m * q - (f i + m * p) = (f j - f i) + m * (q - p) by rw [Int.mul_sub]; omega, show j + m * q - (i + m * p) = (j - i) + m * (q - p) by rw [Int.mul_sub]; omega, div_q hm, div_q hm]
  omega
theorem neg_div {m x : Int} (hm : 0 < m) (h : x % m ≠ 0) : (-x) / m = -(x / m) - 1 := by
  have a := Int.mul_ediv_add_emod x m
  have b := Int.emod_nonneg x (show m ≠ 0 by omega)
  have c := Int.emod_lt_of_pos x hm
  refine q_eq hm ?_ ?_
  · rw [Int.mul_sub, Int.mul_neg]
    omega
  · rw [Int.mul_sub, Int.mul_neg]
    omega
theorem dd_sym {m : Int} (hm : 0 < m) {f : Int → Int} {i j : Int} (h1 : (f j - f i) % m ≠ 0) (h2 : (j - i) % m ≠ 0) : dd m f j i = -dd m f i j := by
  unfold dd
  rw [show f i - f j = -(f j - f i) by omega, show i - j = -(j - i) by omega, neg_div hm h1, neg_div hm h2]
  omega
def ab (x : Int) : Int := (x.natAbs : Int)
theorem ab_neg (x : Int) : ab (-x) = ab x := by unfold ab; rw [Int.natAbs_neg]
theorem ab_add (x y : Int) : ab (x + y) ≤ ab x + ab y := by unfold ab; omega
/-- a sum over a triangle -/
def tri (m : Nat) (h : Nat → Nat → Int) : Int := sumL (List.range m) fun j => sumL (List.range j) fun i => h i j
def sqr (m : Nat) (h : Nat → Nat → Int) : Int := sumL (List.range m) fun i => sumL (List.range m) fun j => if i = j then 0 else h i j
theorem sqr_tri {h : Nat → Nat → Int} : ∀ m : Nat, (∀ i j, i < m → j < m → i ≠ j → h i j = h j i) → sqr m h = 2 * tri m h
  | 0, _ => rfl
  | m + 1, s => by
    have ih := sqr_tri m fun i j hi hj => s i j (by omega) (by omega)
    unfold sqr tri at ih ⊢
    rw [List.range_succ, sumL_app, sumL_app, sumL_cons, sumL_cons, sumL_nil, sumL_nil]
    rw [show sumL (List.range m) (fun i => sumL (List.range m ++ [m]) fun j => if i = j then 0 else h i j) = sumL (List.range m) (fun i => (sumL (List.range m) fun j => if i = j then 0 else h i j) + h i m) from sumL_congr fun i hi => by
      have := List.mem_range.mp hi
      rw [sumL_app, sumL_cons, sumL_nil, if_neg (by omega), Int.add_zero]]
    rw [sumL_add, ih, sumL_app, sumL_cons, sumL_nil, if_pos rfl]
    rw [show sumL (List.range m) (fun j => if m = j then 0 else h m j) = sumL (List.range m) (fun j => h j m) from sumL_congr fun j hj => by
      have := List.mem_range.mp hj
      rw [if_neg (by omega), s m j (by omega) (by omega) (by omega)]]
    omega
/-- the program's count -/
def fallsR (m : Nat) (f : Int → Int) : Int := tri m fun i j => ab ((f (j : Int) - f (i : Int)) / (m : Int))
theorem dd_in {m : Nat} {f : Int → Int} {i j : Nat} (hij : i < j) (hj : j < m) : dd m f i j = (f (j : Int) - f (i : Int)) / (m : Int) := by
  unfold dd
  rw [Int.ediv_eq_zero_of_lt (a := (j : Int) - (i : Int)) (by omega) (by omega)]
  omega
/-- no two places of a class -/
def Inj (m : Int) (f : Int → Int) : Prop := ∀ i j, (f j - f i) % m = 0 → (j - i) % m = 0
theorem inj_of {m : Int} {f : Int → Int} (pf : Per m f) (hi : ∀ i j, f i = f j → i = j) : Inj m f := fun i j h => by
  obtain ⟨q, hq⟩ := Int.dvd_of_emod_eq_zero h
  have := hi j (i + m * q) (by rw [per_q pf]; omega)
  rw [this, show i + m * q - i = m * q by omega]
  exact Int.mul_emod_right m q
theorem small_mod {m : Nat} {i j : Nat} (hi : i < m) (hj : j < m) (h : i ≠ j) : ((j : Int) - (i : Int)) % (m : Int) ≠ 0 := fun z => by
  obtain ⟨q, hq⟩ := Int.dvd_of_emod_eq_zero z
  rcases Int.lt_trichotomy q 0 with w | w | w
  · have := Int.mul_le_mul_of_nonneg_left (show q ≤ -1 by omega) (show (0 : Int) ≤ m by omega)
    omega
  · rw [w, Int.mul_zero] at hq
    omega
  · have := Int.mul_le_mul_of_nonneg_left (show 1 ≤ q by omega) (show (0 : Int) ≤ m by omega)
    omega
def sq2 (m : Nat) (f : Int → Int) : Int := sqr m fun i j => ab (dd m f i j)
theorem sq2_falls {m : Nat} (hm : 1 ≤ m) {f : Int → Int} (I : Inj m f) : sq2 m f = 2 * fallsR m f := by
  unfold sq2
  rw [sqr_tri m fun i j hi hj ne => by
    have h2 := small_mod hi hj ne
    have h1 : (f (j : Int) - f (i : Int)) % (m : Int) ≠ 0 := fun z => h2 (I _ _ z)
    rw [dd_sym (by omega) h1 h2, ab_neg]]
  congr 1
  unfold tri fallsR tri
  refine sumL_congr fun j hj => sumL_congr fun i hi => ?_
  have := List.mem_range.mp hj
  have := List.mem_range.mp hi
  show ab (dd m f i j) = ab _
  rw [dd_in (by omega) (by omega)]
theorem nodup_perm2 {l m : List Nat} (hl : l.Nodup) (hm : m.Nodup) (h : ∀ x, x ∈ l ↔ x ∈ m) : l.Perm m := (List.perm_ext_iff_of_nodup hl hm).mpr h
theorem invol_perm {n : Nat} {s : Nat → Nat} (h1 : ∀ i, i < n → s i < n) (h2 : ∀ i, i < n → s (s i) = i) : ((List.range n).map s).Perm (List.range n) := by
  refine nodup_perm2 ?_ List.nodup_range fun q => ?_
  · refine List.pairwise_map.mpr (List.Pairwise.imp_of_mem (fun {a b} ha hb ne e => ne ?_) List.nodup_range)
    have ha := h2 a (List.mem_range.mp ha)
    have hb := h2 b (List.mem_range.mp hb)
    rw [e] at ha
    omega
  · rw [List.mem_map, List.mem_range]
    constructor
    · rintro ⟨p, hp, rfl⟩
      exact h1 p (List.mem_range.mp hp)
    · intro hq
      exact ⟨s q, List.mem_range.mpr (h1 q hq), h2 q hq⟩
theorem sw_per {m : Int} {M : Int → Bool} {f : Int → Int} (pM : PerM m M) (pf : Per m f) : Per m (sw M f) := fun i => by
  unfold sw
  rw [pM i, show i + m + 1 = (i + 1) + m by omega, show i + m - 1 = (i - 1) + m by omega, pM (i - 1), pf i, pf (i + 1), pf (i - 1)]
  split
  · split <;> split <;> omega
  · split
    · split <;> split <;> omega
    · omega
theorem sw_near (M : Int → Bool) (f : Int → Int) (i : Int) : i - 1 ≤ sw M f i ∧ sw M f i ≤ i + 1 := by
  unfold sw
  split
  · split <;> omega
  · split
    · split <;> omega
    · omega
theorem sw_moved {M : Int → Bool} {f : Int → Int} {i : Int} (h : sw M f i ≠ i) : M i = true ∨ M (i - 1) = true := by
  unfold sw at h
  by_cases a : M i = true
  · exact .inl a
  · rw [if_neg a] at h
    by_cases b : M (i - 1) = true
    · exact .inr b
    · rw [if_neg b] at h
      exact absurd rfl h
theorem at_most {l : List Nat} (nd : l.Nodup) (p : Nat → Prop) [DecidablePred p] (h : ∀ x ∈ l, ∀ y ∈ l, p x → p y → x = y) : sumL l (fun x => if p x then 1 else 0) ≤ 1 := by
  induction l with
  | nil => exact (by decide : (0 : Int) ≤ 1)
  | cons x l ih =>
    rw [sumL_cons]
    rw [List.nodup_cons] at nd
    by_cases z : p x
    · rw [if_pos z, show sumL l (fun x => if p x then (1 : Int) else 0) = sumL l fun _ => 0 from sumL_congr fun y hy => if_neg fun w => nd.1 (by rw [h x (List.mem_cons_self ..) y (List.mem_cons_of_mem _ hy) z w]; exact hy), sumL_zero]
      omega
    · rw [if_neg z]
      have := ih nd.2 fun a ha b hb => h a (List.mem_cons_of_mem _ ha) b (List.mem_cons_of_mem _ hb)
      omega
theorem sumL_le {α : Type} {f g : α → Int} : ∀ {l : List α}, (∀ x ∈ l, f x ≤ g x) → sumL l f ≤ sumL l g
  | [], _ => Int.le_refl _
  | x :: l, h => by
    rw [sumL_cons, sumL_cons]
    have := h x (List.mem_cons_self ..)
    have := sumL_le (l := l) fun y hy => h y (List.mem_cons_of_mem _ hy)
    omega
/-- the places of a period at which an exchange may be -/
def cntM (m : Nat) (M : Int → Bool) : Int := sumL (List.range m) fun (i : Nat) => if M (i : Int) = true then 1 else 0
theorem cntM_back {m : Nat} (hm : 1 ≤ m) {M : Int → Bool} (pM : PerM m M) : sumL (List.range m) (fun (i : Nat) => if M ((i : Int) - 1) = true then (1 : Int) else 0) = cntM m M := by
  have t := tele (fun i => if M i = true then (1 : Int) else 0) m
  have p := pM (-1)
  rw [show (-1 : Int) + m = (m : Int) - 1 by omega] at p
  rw [p] at t
  have e : sumL (List.range m) (fun (i : Nat) => if M (i : Int) = true then (1 : Int) else 0) = sumL (List.range m) (fun (i : Nat) => (if M ((i : Int) - 1) = true then (1 : Int) else 0) + ((if M (i : Int) = true then (1 : Int) else 0) - if M ((i : Int) - 1) = true then (1 : Int) else 0)) := sumL_congr fun i _ => by omega
  unfold cntM
  rw [e, sumL_add, t]
  omega
theorem div_near {m : Int} (hm : 2 ≤ m) {x y : Int} (h1 : x - 2 ≤ y) (h2 : y ≤ x + 2) : x / m - 1 ≤ y / m ∧ y / m ≤ x / m + 1 := by
  have m0 : 0 < m := by omega
  have a := qlo m0 x
  have b := qhi m0 x
  have c := qlo m0 y
  have d := qhi m0 y
  constructor
  · refine qle m0 ?_
    rw [Int.mul_sub]
    omega
  · refine qle m0 ?_
    rw [Int.mul_add]
    omega
/-- the order of two classes changes only where they are exchanged -/
theorem swap_only {m : Int} (hm : 2 ≤ m) {M : Int → Bool} {f : Int → Int} (I : Inj m (sw M f)) {i j : Int} (hij : (j - i) % m ≠ 0) :
    ab ((sw M f j - sw M f i) / m - (j - i) / m) ≤ if sw M f i ≠ i ∧ (j - sw M f i) % m = 0 then 1 else 0 := by
  have m0 : 0 < m := by omega
  have n1 := sw_near M f i
  have n2 := sw_near M f j
  have dn := div_near hm (x := j - i) (y := sw M f j - sw M f i) (by omega) (by omega)
  have hs : (sw M f j - sw M f i) % m ≠ 0 := fun z => hij (I _ _ z)
  by_cases e : (sw M f j - sw M f i) / m = (j - i) / m
  · rw [e, show (j - i) / m - (j - i) / m = 0 by omega]
    show (0 : Int) ≤ _
    split <;> omega
  · have one : ab ((sw M f j - sw M f i) / m - (j - i) / m) ≤ 1 := by
      unfold ab
      omega
    have a := qlo m0 (j - i)
    have b := qhi m0 (j - i)
    have c := qlo m0 (sw M f j - sw M f i)
    have d := qhi m0 (sw M f j - sw M f i)
    have nz : m * ((j - i) / m) ≠ j - i := fun z => hij (by rw [← z]; exact Int.mul_emod_right _ _)
    have nz2 : m * ((sw M f j - sw M f i) / m) ≠ sw M f j - sw M f i := fun z => hs (by rw [← z]; exact Int.mul_emod_right _ _)
    have fin : sw M f i ≠ i ∧ (j - sw M f i) % m = 0 := by
      rcases Int.lt_or_lt_of_ne e with w | w
      · have e2 : (sw M f j - sw M f i) / m = (j - i) / m - 1 := by omega
        rw [e2, Int.mul_sub, Int.mul_one] at d
        have : sw M f i = i + 1 ∧ m * ((j - i) / m) = j - (i + 1) := by omega
        refine ⟨by omega, ?_⟩
        rw [this.1, ← this.2]
        exact Int.mul_emod_right _ _
      · have e2 : (sw M f j - sw M f i) / m = (j - i) / m + 1 := by omega
        rw [e2, Int.mul_add, Int.mul_one] at c nz2
        have : sw M f i = i - 1 ∧ m * ((j - i) / m) + m = j - (i - 1) := by omega
        refine ⟨by omega, ?_⟩
        rw [this.1, ← this.2, show m * ((j - i) / m) + m = m * ((j - i) / m + 1) by rw [Int.mul_add, Int.mul_one]]
        exact Int.mul_emod_right _ _
    rw [if_pos fin]
    exact one
/-- one ring adds so much at the most -/
theorem falls_step {m : Nat} (hm : 2 ≤ m) {M : Int → Bool} {f : Int → Int} (S : Sparse M) (pM : PerM m M) (pf : Per m f) (hi : ∀ i j, f i = f j → i = j) (hi2 : ∀ i j, stepP M f i = stepP M f j → i = j) : fallsR m (stepP M f) ≤ fallsR m f + cntM m M := by
  have m0 : (0 : Int) < m := by omega
  have I1 := inj_of pf hi
  have I2 := inj_of (per_step pM pf) hi2
  have sp := sw_per pM pf
  have I3 : Inj m (sw M f) := inj_of sp fun i j e => by
    have := sw_sw S f i
    rw [e, sw_sw S f j] at this
    exact this.symm
  have r1 := sq2_falls (by omega) I1
  have r2 := sq2_falls (by omega) I2
  -- the places, changed
  obtain ⟨s, hs⟩ : ∃ s : Nat → Nat, ∀ i, s i = (sw M f (i : Int) % (m : Int)).toNat := ⟨fun i => (sw M f (i : Int) % (m : Int)).toNat, fun _ => rfl⟩
  have sv : ∀ i, (s i : Int) = sw M f (i : Int) + m * (-(sw M f (i : Int) / (m : Int))) := fun i => by
    have a := Int.emod_nonneg (sw M f (i : Int)) (show (m : Int) ≠ 0 by omega)
    have b := Int.mul_ediv_add_emod (sw M f (i : Int)) m
    rw [hs, Int.toNat_of_nonneg a, Int.mul_neg]
    omega
  have s1 : ∀ i, i < m → s i < m := fun i _ => by
    have a := Int.emod_nonneg (sw M f (i : Int)) (show (m : Int) ≠ 0 by omega)
    have b := Int.emod_lt_of_pos (sw M f (i : Int)) m0
    rw [hs]
    omega
  have s2 : ∀ i, i < m → s (s i) = i := fun i hi => by
    rw [hs, sv i, per_q sp, sw_sw S, Int.add_mul_emod_self_left, Int.emod_eq_of_lt (by omega) (by omega)]
    rfl
  have pm := invol_perm s1 s2
  have sne : ∀ i j, i < m → j < m → i ≠ j → s i ≠ s j := fun i j a b c d => c (by rw [← s2 i a, d, s2 j b])
  have same : sqr m (fun i j => ab (dd m f (s i) (s j))) = sq2 m f := by
    unfold sq2 sqr
    refine Eq.trans ?_ (sumL_perm _ pm)
    rw [sumL_map]
    refine sumL_congr fun i hi => ?_
    refine Eq.trans ?_ (sumL_perm _ pm)
    rw [sumL_map]
    refine sumL_congr fun j hj => ?_
    have hi := List.mem_range.mp hi
    have hj := List.mem_range.mp hj
    by_cases e : i = j
    · rw [if_pos e, if_pos (by rw [e])]
    · rw [if_neg e, if_neg (sne i j hi hj e)]
  have key : sq2 m (stepP M f) ≤ sq2 m f + sumL (List.range m) (fun (i : Nat) => sumL (List.range m) fun (j : Nat) => if sw M f (i : Int) ≠ i ∧ ((j : Int) - sw M f (i : Int)) % (m : Int) = 0 then 1 else 0) := by
    rw [← same]
    unfold sq2 sqr
    rw [← sumL_add]
    refine sumL_le fun i hi => ?_
    rw [← sumL_add]
    refine sumL_le fun j hj => ?_
    have hi := List.mem_range.mp hi
    have hj := List.mem_range.mp hj
    by_cases e : i = j
    · rw [if_pos e, if_pos e]
      split <;> omega
    · rw [if_neg e, if_neg e]
      have sm := small_mod hi hj e
      have so := swap_only (show (2 : Int) ≤ m by omega) I3 sm
      have e2 : dd m (stepP M f) i j = dd m f (s i) (s j) + ((sw M f (j : Int) - sw M f (i : Int)) / (m : Int) - ((j : Int) - (i : Int)) / (m : Int)) := by
        rw [sv i, sv j, dd_mod m0 pf]
        unfold dd
        rw [step_sw, step_sw]
        omega
      have := ab_add (dd m f (s i) (s j)) ((sw M f (j : Int) - sw M f (i : Int)) / (m : Int) - ((j : Int) - (i : Int)) / (m : Int))
      rw [← e2] at this
      dsimp only
      omega
  have cnt : sumL (List.range m) (fun (i : Nat) => sumL (List.range m) fun (j : Nat) => if sw M f (i : Int) ≠ i ∧ ((j : Int) - sw M f (i : Int)) % (m : Int) = 0 then (1 : Int) else 0) ≤ 2 * cntM m M := by
    have b := cntM_back (by omega) pM
    have : sumL (List.range m) (fun (i : Nat) => sumL (List.range m) fun (j : Nat) => if sw M f (i : Int) ≠ i ∧ ((j : Int) - sw M f (i : Int)) % (m : Int) = 0 then (1 : Int) else 0) ≤ sumL (List.range m) (fun (i : Nat) => (if M (i : Int) = true then (1 : Int) else 0) + if M ((i : Int) - 1) = true then (1 : Int) else 0) := sumL_le fun i hi => by
      by_cases mv : sw M f (i : Int) ≠ i
      · have le1 := at_most List.nodup_range (fun (j : Nat) => sw M f (i : Int) ≠ i ∧ ((j : Int) - sw M f (i : Int)) % (m : Int) = 0) (l := List.range m) fun x hx y hy px py => by
          refine Classical.byContradiction fun ne => small_mod (List.mem_range.mp hx) (List.mem_range.mp hy) ne ?_
          obtain ⟨p, hp⟩ := Int.dvd_of_emod_eq_zero px.2
          obtain ⟨q, hq⟩ := Int.dvd_of_emod_eq_zero py.2
          rw [show (y : Int) - (x : Int) = m * (q - p) by rw [Int.mul_sub]; omega]
          exact Int.mul_emod_right _ _
        rcases sw_moved mv with z | z
        · rw [if_pos z]
          split <;> omega
        · rw [if_pos z]
          split <;> omega
      · rw [show sumL (List.range m) (fun (j : Nat) => if sw M f (i : Int) ≠ i ∧ ((j : Int) - sw M f (i : Int)) % (m : Int) = 0 then (1 : Int) else 0) = sumL (List.range m) fun _ => 0 from sumL_congr fun j _ => if_neg fun z => mv z.1, sumL_zero]
        split <;> split <;> omega
    rw [sumL_add, b] at this
    unfold cntM at this b ⊢
    omega
  omega
theorem ab_zero {m : Nat} (e : Int) : fallsR m (fun i => i + e) = 0 := by
  unfold fallsR tri
  rw [show sumL (List.range m) (fun (j : Nat) => sumL (List.range j) fun (i : Nat) => ab (((j : Int) + e - ((i : Int) + e)) / (m : Int))) = sumL (List.range m) fun _ => 0 from sumL_congr fun j hj => by
    rw [show sumL (List.range j) (fun (i : Nat) => ab (((j : Int) + e - ((i : Int) + e)) / (m : Int))) = sumL (List.range j) fun _ => 0 from sumL_congr fun i hi => by
      have := List.mem_range.mp hj
      have := List.mem_range.mp hi
      rw [show (j : Int) + e - ((i : Int) + e) = (j : Int) - i by omega, Int.ediv_eq_zero_of_lt (by omega) (by omega)]
      rfl, sumL_zero], sumL_zero]
theorem bij_inj {f : Int → Int} (B : Bij f) : ∀ i j, f i = f j → i = j := fun _ _ h => B.inj h
theorem falls_pmap {m : Nat} (hm : 2 ≤ m) {e : Int} : ∀ Ms : List (Int → Bool), (∀ M ∈ Ms, Sparse M ∧ PerM m M) → fallsR m (pmap Ms fun i => i + e) ≤ sumL Ms (cntM m)
  | [], _ => by
    show fallsR m (fun i => i + e) ≤ 0
    rw [ab_zero]
    omega
  | M :: Ms, h => by
    obtain ⟨h1, h2⟩ := h M (List.mem_cons_self ..)
    have hr := fun N hN => h N (List.mem_cons_of_mem _ hN)
    have ih := falls_pmap hm (e := e) Ms hr
    have b1 := bij_pmap (e := e) Ms fun N hN => (hr N hN).1
    have st := falls_step hm h1 h2 (per_pmap (e := e) Ms fun N hN => (hr N hN).2) (bij_inj b1) (bij_inj (bij_step h1 b1))
    rw [sumL_cons]
    show fallsR m (stepP M (pmap Ms fun i => i + e)) ≤ _
    omega
/-- steps of k: so many in a period -/
theorem cnt_steps {M : Int → Bool} {c : Int} {k : Nat} (hk : 1 ≤ k) (per : ∀ i, M i = true → (i - c) % (k : Int) = 0) : ∀ q : Nat, cntM (k * q) M ≤ q
  | 0 => by
    rw [Nat.mul_zero]
    exact Int.le_refl _
  | q + 1 => by
    have ih := cnt_steps hk per q
    unfold cntM at ih ⊢
    rw [Nat.mul_add, Nat.mul_one, List.range_add, sumL_app, sumL_map]
    have := at_most (l := List.range k) List.nodup_range (fun (x : Nat) => M (((k * q + x : Nat)) : Int) = true) fun x hx y hy px py => by
      refine Classical.byContradiction fun ne => small_mod (List.mem_range.mp hx) (List.mem_range.mp hy) ne ?_
      obtain ⟨p, hp⟩ := Int.dvd_of_emod_eq_zero (per _ px)
      obtain ⟨t, ht⟩ := Int.dvd_of_emod_eq_zero (per _ py)
      rw [show (y : Int) - (x : Int) = k * (t - p) by rw [Int.mul_sub]; omega]
      exact Int.mul_emod_right _ _
    omega
end K1

/-! tables of round maps: sums of floors, inverses, Riemann-Roch of a round map; plain mathematics -/
namespace K1
open MP
/-- a row of values as a round map -/
def fOf (vs : List Int) (i : Int) : Int := vs.getD (i % (vs.length : Int)).toNat 0 + i - i % (vs.length : Int)
theorem fOf_per (vs : List Int) : Per (vs.length : Int) (fOf vs) := fun i => by
  unfold fOf
  rw [Int.add_emod_right]
  omega
theorem fOf_nat {vs : List Int} {i : Nat} (h : i < vs.length) : fOf vs (i : Int) = vs.getD i 0 := by
  unfold fOf
  rw [Int.emod_eq_of_lt (by omega) (by omega), Int.toNat_natCast]
  omega
theorem row_fOf (vs : List Int) : (List.range vs.length).map (fun (i : Nat) => fOf vs (i : Int)) = vs := by
  refine List.ext_getElem? fun i => ?_
  rw [List.getElem?_map]
  by_cases h : i < vs.length
  · rw [List.getElem?_range h, List.getElem?_eq_getElem h]
    show some (fOf vs (i : Int)) = _
    rw [fOf_nat h, List.getD_eq_getElem?_getD, List.getElem?_eq_getElem h]
    rfl
  · rw [List.getElem?_eq_none (by rw [List.length_range]; omega), List.getElem?_eq_none (by omega)]
    rfl
/-- its rests are all rests -/
def PermR (m : Nat) (f : Int → Int) : Prop := ((List.range m).map fun (i : Nat) => f (i : Int) % (m : Int)).Perm ((List.range m).map fun (i : Nat) => (i : Int))
theorem bij_of_perm {m : Nat} (hm : 1 ≤ m) {f : Int → Int} (pf : Per m f) (p : PermR m f) : Bij f := fun t => by
  have m0 : (0 : Int) < m := by omega
  have a := Int.emod_nonneg t (show (m : Int) ≠ 0 by omega)
  have b := Int.emod_lt_of_pos t m0
  have mem : t % (m : Int) ∈ (List.range m).map fun (i : Nat) => f (i : Int) % (m : Int) := p.mem_iff.mpr (List.mem_map.mpr ⟨(t % (m : Int)).toNat, List.mem_range.mpr (by omega), by omega⟩)
  obtain ⟨r, hr, e⟩ := List.mem_map.mp mem
  have hr := List.mem_range.mp hr
  obtain ⟨q, hq⟩ := Int.dvd_of_emod_eq_zero (Int.emod_eq_emod_iff_emod_sub_eq_zero.mp e.symm)
  refine ⟨(r : Int) + m * q, by rw [per_q pf]; omega, fun j hj => ?_⟩
  have aj := Int.emod_nonneg j (show (m : Int) ≠ 0 by omega)
  have bj := Int.emod_lt_of_pos j m0
  have cj := Int.mul_ediv_add_emod j m
  obtain ⟨s, hs⟩ : ∃ s : Nat, (s : Int) = j % (m : Int) := ⟨(j % (m : Int)).toNat, by omega⟩
  have ej : j = (s : Int) + m * (j / (m : Int)) := by omega
  have fj : f j = f (s : Int) + m * (j / (m : Int)) := by
    have := per_q pf (s : Int) (j / (m : Int))
    rw [← ej] at this
    exact this
  have nd : ((List.range m).map fun (i : Nat) => f (i : Int) % (m : Int)).Nodup := (p.nodup_iff).mpr (List.pairwise_map.mpr (List.Pairwise.imp (fun {a b} ne e => ne (by omega)) List.nodup_range))
  have rs : r = s := by
    have e2 : f (r : Int) % (m : Int) = f (s : Int) % (m : Int) := by
      rw [e, ← hj, fj, Int.add_mul_emod_self_left]
    have h1 : ((List.range m).map fun (i : Nat) => f (i : Int) % (m : Int))[r]? = some (f (r : Int) % (m : Int)) := by
      rw [List.getElem?_map, List.getElem?_range hr]
      rfl
    have h2 : ((List.range m).map fun (i : Nat) => f (i : Int) % (m : Int))[s]? = some (f (r : Int) % (m : Int)) := by
      rw [List.getElem?_map, List.getElem?_range (show s < m by omega), e2]
      rfl
    refine (List.getElem?_inj (by rw [List.length_map, List.length_range]; exact hr) nd).mp (h1.trans h2.symm)
  rw [ej, ← rs]
  have : m * (j / (m : Int)) = m * q := by
    rw [hj, ← rs] at fj
    omega
  omega
theorem rests_of {m : Nat} (hm : 1 ≤ m) {f : Int → Int} (pf : Per m f) (B : Bij f) : PermR m f := by
  have m0 : (0 : Int) < m := by omega
  have I := inj_of pf (bij_inj B)
  have nd : ((List.range m).map fun (i : Nat) => f (i : Int) % (m : Int)).Nodup := by
    refine List.pairwise_map.mpr (List.Pairwise.imp_of_mem (fun {a b} ha hb ne e => ?_) List.nodup_range)
    refine small_mod (List.mem_range.mp ha) (List.mem_range.mp hb) ne (I _ _ ?_)
    rw [Int.sub_emod, e, Int.sub_self]
    rfl
  refine (List.perm_ext_iff_of_nodup nd (List.pairwise_map.mpr (List.Pairwise.imp (fun {a b} ne e => ne (by omega)) List.nodup_range))).mpr fun x => ⟨fun hx => ?_, fun hx => ?_⟩
  · obtain ⟨i, _, rfl⟩ := List.mem_map.mp hx
    have a := Int.emod_nonneg (f (i : Int)) (show (m : Int) ≠ 0 by omega)
    have b := Int.emod_lt_of_pos (f (i : Int)) m0
    exact List.mem_map.mpr ⟨(f (i : Int) % (m : Int)).toNat, List.mem_range.mpr (by omega), by omega⟩
  obtain ⟨r, hr, rfl⟩ := List.mem_map.mp hx
  have hr := List.mem_range.mp hr
  obtain ⟨i, hi, _⟩ := B (r : Int)
  have a := Int.emod_nonneg i (show (m : Int) ≠ 0 by omega)
  have b := Int.emod_lt_of_pos i m0
  have c := Int.mul_ediv_add_emod i m
  refine List.mem_map.mpr ⟨(i % (m : Int)).toNat, List.mem_range.mpr (by omega), ?_⟩
  rw [Int.toNat_of_nonneg a, show i % (m : Int) = i + m * (-(i / (m : Int))) by rw [Int.mul_neg]; omega, per_q pf, hi, Int.add_mul_emod_self_left, Int.emod_eq_of_lt (by omega) (by omega)]
/-- sums of floors -/
theorem floor_up {m : Nat} (hm : 1 ≤ m) (x : Int) : sumL (List.range m) (fun (r : Nat) => (x + (r : Int)) / (m : Int)) = x := by
  have m0 : (0 : Int) < m := by omega
  have step : ∀ y : Int, sumL (List.range m) (fun (r : Nat) => (y + 1 + (r : Int)) / (m : Int)) = sumL (List.range m) (fun (r : Nat) => (y + (r : Int)) / (m : Int)) + 1 := fun y => by
    have t := tele (fun i => (y + 1 + i) / (m : Int)) m
    rw [show sumL (List.range m) (fun (r : Nat) => (y + 1 + (r : Int)) / (m : Int)) = sumL (List.range m) (fun (r : Nat) => (y + (r : Int)) / (m : Int) + ((y + 1 + (r : Int)) / (m : Int) - (y + 1 + ((r : Int) - 1)) / (m : Int))) from sumL_congr fun r _ => by
      rw [show y + 1 + ((r : Int) - 1) = y + (r : Int) by omega]
      omega, sumL_add, t, show y + 1 + ((m : Int) - 1) = y + m * 1 by omega, div_q m0, show y + 1 + -1 = y by omega]
    omega
  have zero : sumL (List.range m) (fun (r : Nat) => ((0 : Int) + (r : Int)) / (m : Int)) = 0 := by
    rw [show sumL (List.range m) (fun (r : Nat) => ((0 : Int) + (r : Int)) / (m : Int)) = sumL (List.range m) fun _ => 0 from sumL_congr fun r hr => by
      have := List.mem_range.mp hr
      rw [Int.zero_add, Int.ediv_eq_zero_of_lt (by omega) (by omega)], sumL_zero]
  have up : ∀ n : Nat, sumL (List.range m) (fun (r : Nat) => ((n : Int) + (r : Int)) / (m : Int)) = n := fun n => by
    induction n with
    | zero => exact zero
    | succ n ih =>
      have := step (n : Int)
      rw [ih] at this
      rw [show ((n + 1 : Nat) : Int) = (n : Int) + 1 by omega]
      exact this
  have dn : ∀ n : Nat, sumL (List.range m) (fun (r : Nat) => (-(n : Int) + (r : Int)) / (m : Int)) = -(n : Int) := fun n => by
    induction n with
    | zero => exact zero
    | succ n ih =>
      have := step (-((n + 1 : Nat) : Int))
      rw [show -((n + 1 : Nat) : Int) + 1 = -(n : Int) by omega, ih] at this
      omega
  rcases Int.le_total 0 x with h | h
  · obtain ⟨n, rfl⟩ : ∃ n : Nat, x = n := ⟨x.toNat, by omega⟩
    exact up n
  · obtain ⟨n, rfl⟩ : ∃ n : Nat, x = -(n : Int) := ⟨(-x).toNat, by omega⟩
    exact dn n
theorem sumL_rev (f : Nat → Int) : ∀ m : Nat, sumL (List.range m) (fun r => f (m - 1 - r)) = sumL (List.range m) f
  | 0 => rfl
  | m + 1 => by
    have ih := sumL_rev f m
    rw [List.range_succ_eq_map, sumL_cons, sumL_map, ← List.range_succ_eq_map, List.range_succ, sumL_app, sumL_cons, sumL_nil]
    rw [show sumL (List.range m) (fun r => f (m + 1 - 1 - (r + 1))) = sumL (List.range m) (fun r => f (m - 1 - r)) from sumL_congr fun r _ => by rw [show m + 1 - 1 - (r + 1) = m - 1 - r by omega], ih, show m + 1 - 1 - 0 = m by omega]
    omega
theorem floor_dn {m : Nat} (hm : 1 ≤ m) (a : Int) : sumL (List.range m) (fun (r : Nat) => (a - (r : Int)) / (m : Int)) = a - m + 1 := by
  rw [← floor_up hm (a - m + 1), ← sumL_rev (fun (r : Nat) => (a - (m : Int) + 1 + (r : Int)) / (m : Int))]
  refine sumL_congr fun r hr => ?_
  have := List.mem_range.mp hr
  rw [show a - (m : Int) + 1 + ((m - 1 - r : Nat) : Int) = a - (r : Int) by omega]
/-- the shift -/
def shf (m : Nat) (f : Int → Int) : Int := sumL (List.range m) fun (r : Nat) => f (r : Int) / (m : Int)
theorem sum_perm {m : Nat} {f : Int → Int} (p : PermR m f) (h : Int → Int) : sumL (List.range m) (fun (r : Nat) => h (f (r : Int) % (m : Int))) = sumL (List.range m) fun (r : Nat) => h (r : Int) := by
  have a := sumL_perm h p
  rw [sumL_map, sumL_map] at a
  exact a
theorem shf_sum {m : Nat} {f : Int → Int} (p : PermR m f) : (sumL (List.range m) fun (r : Nat) => f (r : Int)) = (sumL (List.range m) fun (r : Nat) => (r : Int)) + m * shf m f := by
  have a := sum_perm p (fun x => x)
  unfold shf
  rw [← a, ← sumL_mul, ← sumL_add]
  refine sumL_congr fun r _ => ?_
  have := Int.mul_ediv_add_emod (f (r : Int)) m
  omega
theorem floor_f {m : Nat} (hm : 1 ≤ m) {f : Int → Int} (p : PermR m f) (b : Int) : sumL (List.range m) (fun (r : Nat) => (b + f (r : Int)) / (m : Int)) = b + shf m f := by
  have m0 : (0 : Int) < m := by omega
  have a := sum_perm p (fun x => (b + x) / (m : Int))
  rw [floor_up hm b] at a
  unfold shf
  rw [← a, ← sumL_add]
  refine sumL_congr fun r _ => ?_
  have := Int.mul_ediv_add_emod (f (r : Int)) m
  rw [← div_q m0]
  congr 1
  omega
/-- far on, all are counted -/
theorem cnt_high {m : Nat} (hm : 1 ≤ m) {f : Int → Int} (p : PermR m f) {a b : Int} (h : ∀ r : Nat, r < m → -1 ≤ a + b + f (r : Int) - (r : Int)) : cntR m f a b = a + b + 1 + shf m f := by
  have m0 : (0 : Int) < m := by omega
  unfold cntR
  rw [show sumL (List.range m) (fun (r : Nat) => max 0 ((a - (r : Int)) / (m : Int) + (b + f (r : Int)) / (m : Int) + 1)) = sumL (List.range m) (fun (r : Nat) => (a - (r : Int)) / (m : Int) + ((b + f (r : Int)) / (m : Int) + 1)) from sumL_congr fun r hr => ?_]
  · rw [sumL_add, sumL_add, floor_dn hm, floor_f hm p, sumL_one, List.length_range]
    omega
  · have hr := List.mem_range.mp hr
    have h1 := h r hr
    have a1 := qhi m0 (a - (r : Int))
    have a2 := qhi m0 (b + f (r : Int))
    have : -1 ≤ (a - (r : Int)) / (m : Int) + (b + f (r : Int)) / (m : Int) := by
      refine qle m0 ?_
      rw [Int.mul_add]
      omega
    omega
theorem cnt_none {m : Nat} (hm : 1 ≤ m) {f : Int → Int} {a b : Int} (h : ∀ r : Nat, r < m → a + b + f (r : Int) - (r : Int) ≤ -1) : cntR m f a b = 0 := by
  have m0 : (0 : Int) < m := by omega
  unfold cntR
  rw [show sumL (List.range m) (fun (r : Nat) => max 0 ((a - (r : Int)) / (m : Int) + (b + f (r : Int)) / (m : Int) + 1)) = sumL (List.range m) fun _ => 0 from sumL_congr fun r hr => ?_, sumL_zero]
  have h1 := h r (List.mem_range.mp hr)
  have l1 := qlo m0 (a - (r : Int))
  have l2 := qlo m0 (b + f (r : Int))
  have : (a - (r : Int)) / (m : Int) + (b + f (r : Int)) / (m : Int) ≤ -1 := by
    refine qle m0 ?_
    rw [Int.mul_add]
    omega
  omega
/-- one step up -/
theorem cnt_bstep {m : Nat} (hm : 1 ≤ m) {f : Int → Int} (pf : Per m f) (I : Inj m f) {a b i : Int} (hi : f i = -b) : cntR m f a b - cntR m f a (b - 1) = if i ≤ a then 1 else 0 := by
  have m0 : (0 : Int) < m := by omega
  have ra := Int.emod_nonneg i (show (m : Int) ≠ 0 by omega)
  have rb := Int.emod_lt_of_pos i m0
  have rc := Int.mul_ediv_add_emod i m
  obtain ⟨r, hr⟩ : ∃ r : Nat, (r : Int) = i % (m : Int) := ⟨(i % (m : Int)).toNat, by omega⟩
  obtain ⟨q, hq⟩ : ∃ q, q = i / (m : Int) := ⟨_, rfl⟩
  rw [← hq] at rc
  have ei : i = (r : Int) + m * q := by omega
  have fr : f (r : Int) = -b - m * q := by
    rw [ei, per_q pf] at hi
    omega
  unfold cntR
  rw [sumL_one_at (j := r) (v := if i ≤ a then 1 else 0) (show r < m by omega) (g := fun (r : Nat) => max 0 ((a - (r : Int)) / (m : Int) + (b - 1 + f (r : Int)) / (m : Int) + 1)) fun x hx => ?_]
  · omega
  · obtain ⟨t, ht⟩ : ∃ t, t = (a - (x : Int)) / (m : Int) := ⟨_, rfl⟩
    rw [← ht]
    by_cases z : x = r
    · subst z
      rw [if_pos rfl]
      have e1 : (b + f (x : Int)) / (m : Int) = -q := q_eq m0 (by rw [Int.mul_neg]; omega) (by rw [Int.mul_neg]; omega)
      have e2 : (b - 1 + f (x : Int)) / (m : Int) = -q - 1 := q_eq m0 (by rw [Int.mul_sub, Int.mul_neg]; omega) (by rw [Int.mul_sub, Int.mul_neg]; omega)
      rw [e1, e2]
      have l := qlo m0 (a - (x : Int))
      have h := qhi m0 (a - (x : Int))
      rw [← ht] at l h
      by_cases y : i ≤ a
      · rw [if_pos y]
        have : q ≤ t := qle m0 (by omega)
        omega
      · rw [if_neg y]
        have : t ≤ q - 1 := by
          refine qle m0 ?_
          rw [Int.mul_sub]
          omega
        omega
    · rw [if_neg z]
      have e : (b + f (x : Int)) / (m : Int) = (b - 1 + f (x : Int)) / (m : Int) := by
        have l := qlo m0 (b + f (x : Int))
        have h := qhi m0 (b + f (x : Int))
        symm
        refine q_eq m0 ?_ (by omega)
        rcases Int.lt_or_le (m * ((b + f (x : Int)) / m)) (b + f (x : Int)) with y | y
        · omega
        · exfalso
          have e3 : f (x : Int) - f (r : Int) = m * ((b + f (x : Int)) / m + q) := by rw [Int.mul_add]; omega
          have e4 := I (r : Int) (x : Int) (by rw [e3]; exact Int.mul_emod_right _ _)
          exact small_mod (show r < m by omega) hx (fun e => z e.symm) e4
      rw [e]
      omega
/-- Riemann-Roch of a round map and its inverse -/
theorem cnt_inv {m : Nat} (hm : 1 ≤ m) {f g : Int → Int} (pf : Per m f) (p : PermR m f) (pg : Per m g) (inv : ∀ x, f (g x) = x) (a b : Int) : cntR m g a b = cntR m f (-b - 1) (-a - 1) + a + b + 1 - shf m f := by
  have B := bij_of_perm hm pf p
  have I := inj_of pf (bij_inj B)
  have st : ∀ a : Int, (cntR m f (-b - 1) (-a - 1) + a + b + 1 - shf m f) - (cntR m f (-b - 1) (-(a - 1) - 1) + (a - 1) + b + 1 - shf m f) = if -b ≤ g a then 1 else 0 := fun a => by
    have h := cnt_bstep hm pf I (a := -b - 1) (b := -a) (i := g a) (by rw [inv]; omega)
    rw [show -(a - 1) - 1 = -a by omega]
    by_cases z : g a ≤ -b - 1
    · rw [if_pos z] at h
      rw [if_neg (show ¬ -b ≤ g a by omega)]
      omega
    · rw [if_neg z] at h
      rw [if_pos (show -b ≤ g a by omega)]
      omega
  -- far to the left
  have bd : ∀ (h : Int → Int), ∃ W : Int, 0 ≤ W ∧ ∀ r : Nat, r < m → -W ≤ h (r : Int) - (r : Int) ∧ h (r : Int) - (r : Int) ≤ W := fun h => by
    refine ⟨sumL (List.range m) fun (r : Nat) => ab (h (r : Int) - (r : Int)), sumL_nn fun _ _ => by unfold ab; omega, fun r hr => ?_⟩
    have : ab (h (r : Int) - (r : Int)) ≤ sumL (List.range m) fun (r : Nat) => ab (h (r : Int) - (r : Int)) := by
      obtain ⟨u, hu⟩ : ∃ u : Nat → Int, u = fun (x : Nat) => if x = r then 0 else ab (h (x : Int) - (x : Int)) := ⟨_, rfl⟩
      have := sumL_one_at (f := fun (x : Nat) => ab (h (x : Int) - (x : Int))) (g := u) (v := ab (h (r : Int) - (r : Int))) hr fun x _ => by
        rw [hu]
        by_cases z : x = r
        · subst z
          dsimp only
          rw [if_pos rfl, if_pos rfl, Int.zero_add]
        · dsimp only
          rw [if_neg z, if_neg z, Int.add_zero]
      have nn : 0 ≤ sumL (List.range m) u := sumL_nn fun x _ => by
        rw [hu]
        dsimp only
        split
        · omega
        · unfold ab; omega
      omega
    have k : ∀ y : Int, -ab y ≤ y ∧ y ≤ ab y := fun y => by unfold ab; omega
    have := k (h (r : Int) - (r : Int))
    omega
  obtain ⟨W1, w10, hW1⟩ := bd f
  obtain ⟨W2, w20, hW2⟩ := bd g
  have far : ∀ a : Int, a + b + W1 + W2 + 1 < 0 → cntR m g a b = cntR m f (-b - 1) (-a - 1) + a + b + 1 - shf m f := fun a ha => by
    rw [cnt_none hm fun r hr => by have := hW2 r hr; omega, cnt_high hm p fun r hr => by have := hW1 r hr; omega]
    omega
  have go : ∀ n : Nat, cntR m g (-b - W1 - W2 - 2 + n) b = cntR m f (-b - 1) (-(-b - W1 - W2 - 2 + n) - 1) + (-b - W1 - W2 - 2 + n) + b + 1 - shf m f := fun n => by
    induction n with
    | zero => exact far _ (by omega)
    | succ n ih =>
      have s1 := cnt_step hm pg (-b - W1 - W2 - 2 + ((n + 1 : Nat) : Int)) b
      have s2 := st (-b - W1 - W2 - 2 + ((n + 1 : Nat) : Int))
      rw [show -b - W1 - W2 - 2 + ((n + 1 : Nat) : Int) - 1 = -b - W1 - W2 - 2 + (n : Int) by omega] at s1 s2
      omega
  by_cases z : -b - W1 - W2 - 2 ≤ a
  · obtain ⟨n, hn⟩ : ∃ n : Nat, a = -b - W1 - W2 - 2 + n := ⟨(a - (-b - W1 - W2 - 2)).toNat, by omega⟩
    rw [hn]
    exact go n
  · exact far _ (by omega)
end K1

/-! plain mathematics of heaps, continued: growing column by column, tries, squares added in any order -/
namespace HM
theorem range_hAt (h : List Nat) : (List.range h.length).map (hAt h) = h := by
  refine List.ext_getElem? fun c => ?_
  by_cases q : c < h.length
  · rw [List.getElem?_map, List.getElem?_range q, hAt_lt q]
    rfl
  · rw [List.getElem?_eq_none (by rw [List.length_map, List.length_range]; omega), List.getElem?_eq_none (by omega)]
/-- grown at the first columns -/
def fr (h : List Nat) (g : Nat → Bool) (i : Nat) : List Nat := (List.range h.length).map (fun c => hAt h c + b2n (decide (c < i) && g c)) ++ (if (decide (h.length < i) && g h.length) = true then [1] else [])
theorem fr_zero (h : List Nat) (g : Nat → Bool) : fr h g 0 = h := by
  unfold fr
  rw [decide_eq_false (Nat.not_lt_zero _), Bool.false_and, if_neg (by decide), List.append_nil]
  conv => rhs; rw [← range_hAt h]
  refine List.map_congr_left fun c _ => ?_
  rw [decide_eq_false (Nat.not_lt_zero _), Bool.false_and]
  rfl
theorem fr_end (h : List Nat) (g : Nat → Bool) : fr h g (h.length + 1) = grow h g := by
  unfold fr grow
  rw [decide_eq_true (Nat.lt_succ_self _), Bool.true_and]
  congr 1
  refine List.map_congr_left fun c hc => ?_
  rw [decide_eq_true (show c < h.length + 1 from Nat.lt_succ_of_lt (List.mem_range.mp hc)), Bool.true_and]
theorem fr_skip {h : List Nat} {g : Nat → Bool} {i : Nat} (q : g i = false) : fr h g (i + 1) = fr h g i := by
  have e : ∀ c, (decide (c < i + 1) && g c) = (decide (c < i) && g c) := fun c => by
    by_cases z : c = i
    · subst z
      rw [q, Bool.and_false, Bool.and_false]
    · have : decide (c < i + 1) = decide (c < i) := decide_eq_decide.mpr (by omega)
      rw [this]
  unfold fr
  rw [e]
  congr 1
  exact List.map_congr_left fun c _ => by rw [e]
theorem fr_low {h : List Nat} {g : Nat → Bool} {i : Nat} (hi : i ≤ h.length) : fr h g i = (List.range h.length).map (fun c => hAt h c + b2n (decide (c < i) && g c)) := by
  unfold fr
  rw [decide_eq_false (show ¬ h.length < i by omega), Bool.false_and, if_neg (by decide), List.append_nil]
theorem fr_low_len {h : List Nat} {g : Nat → Bool} {i : Nat} (hi : i ≤ h.length) : (fr h g i).length = h.length := by
  rw [fr_low hi, List.length_map, List.length_range]
theorem fr_set {h : List Nat} {g : Nat → Bool} {i : Nat} (hi : i < h.length) (q : g i = true) : (fr h g i).set i (hAt h i + 1) = fr h g (i + 1) := by
  rw [fr_low (show i ≤ h.length by omega), fr_low (show i + 1 ≤ h.length by omega)]
  refine List.ext_getElem? fun c => ?_
  rw [List.getElem?_set]
  by_cases e : i = c
  · subst e
    rw [if_pos rfl, if_pos (by rw [List.length_map, List.length_range]; exact hi), List.getElem?_map, List.getElem?_range hi]
    show some _ = some (hAt h i + b2n (decide (i < i + 1) && g i))
    rw [decide_eq_true (Nat.lt_succ_self i), q]
    rfl
  · rw [if_neg e, List.getElem?_map, List.getElem?_map]
    have : decide (c < i + 1) = decide (c < i) := decide_eq_decide.mpr (by omega)
    by_cases l : c < h.length
    · rw [List.getElem?_range l]
      show some (hAt h c + b2n (decide (c < i) && g c)) = some (hAt h c + b2n (decide (c < i + 1) && g c))
      rw [this]
    · rw [List.getElem?_eq_none (by rw [List.length_range]; omega)]
      rfl
theorem fr_app {h : List Nat} {g : Nat → Bool} (q : g h.length = true) : fr h g h.length ++ [1] = fr h g (h.length + 1) := by
  rw [fr_end, fr_low (Nat.le_refl _)]
  unfold grow
  rw [if_pos q]
  congr 1
  refine List.map_congr_left fun c hc => ?_
  rw [decide_eq_true (List.mem_range.mp hc), Bool.true_and]
/-! ### tries -/
def Falls (ns : List Int) : Prop := (∀ j, j + 1 < ns.length → ns.getD (j + 1) 0 ≤ ns.getD j 0) ∧ ∀ y ∈ ns, (0 : Int) ≤ y
/-- heights with 0 behind them, one changed -/
def chg (h : List Nat) (st : Int) (c : Nat) : List Int := (List.range (h.length + 1)).map fun x => (hAt h x : Int) + (if x = c then st else 0)
theorem chg_len (h : List Nat) (st : Int) (c : Nat) : (chg h st c).length = h.length + 1 := by
  unfold chg
  rw [List.length_map, List.length_range]
theorem chg_get {h : List Nat} {st : Int} {c x : Nat} (hx : x ≤ h.length) : (chg h st c).getD x 0 = (hAt h x : Int) + (if x = c then st else 0) := by
  unfold chg
  rw [List.getD_eq_getElem?_getD, List.getElem?_map, List.getElem?_range (by omega)]
  rfl
/-- columns at which a try leaves a heap -/
def tr (h : List Nat) (st : Int) (c : Nat) : Bool := if st = 1 then opn h c else decide (hAt h (c + 1) < hAt h c)
theorem chg_falls {h : List Nat} (H : IsHeap h) {st : Int} (hst : st = 1 ∨ st = -1) {c : Nat} (hc : c ≤ h.length) : Falls (chg h st c) ↔ tr h st c = true := by
  have hm : ∀ y, y ∈ chg h st c → ∃ x, x ≤ h.length ∧ y = (hAt h x : Int) + (if x = c then st else 0) := fun y hy => by
    unfold chg at hy
    obtain ⟨x, hx, rfl⟩ := List.mem_map.mp hy
    exact ⟨x, Nat.le_of_lt_succ (List.mem_range.mp hx), rfl⟩
  have hm2 : ∀ x, x ≤ h.length → (hAt h x : Int) + (if x = c then st else 0) ∈ chg h st c := fun x hx => List.mem_map.mpr ⟨x, List.mem_range.mpr (Nat.lt_succ_of_le hx), rfl⟩
  rcases hst with rfl | rfl
  · unfold tr
    rw [if_pos rfl]
    constructor
    · rintro ⟨f1, f2⟩
      unfold opn
      by_cases z : c = 0
      · rw [decide_eq_true z, Bool.true_or]
      · have a := f1 (c - 1) (by rw [chg_len]; omega)
        rw [show c - 1 + 1 = c by omega, chg_get hc, chg_get (by omega), if_pos rfl, if_neg (by omega)] at a
        rw [decide_eq_true (show hAt h c < hAt h (c - 1) by omega), Bool.or_true]
    · intro o
      refine ⟨fun j hj => ?_, fun y hy => ?_⟩
      · rw [chg_len] at hj
        rw [chg_get (show j + 1 ≤ h.length by omega), chg_get (show j ≤ h.length by omega)]
        have := H.fall j
        by_cases z : j + 1 = c
        · subst z
          have := opn_lt o
          rw [if_pos rfl, if_neg (by omega)]
          omega
        · rw [if_neg z]
          split <;> omega
      · obtain ⟨x, _, rfl⟩ := hm y hy
        split <;> omega
  · unfold tr
    rw [if_neg (by decide)]
    constructor
    · rintro ⟨f1, f2⟩
      by_cases z : c = h.length
      · have := f2 _ (hm2 c hc)
        rw [if_pos rfl, z, hAt_ge (Nat.le_refl _)] at this
        exact absurd this (by decide)
      · have a := f1 c (by rw [chg_len]; omega)
        rw [chg_get (by omega), chg_get hc, if_pos rfl, if_neg (by omega)] at a
        exact decide_eq_true (by omega)
    · intro o
      have o' := of_decide_eq_true o
      refine ⟨fun j hj => ?_, fun y hy => ?_⟩
      · rw [chg_len] at hj
        rw [chg_get (show j + 1 ≤ h.length by omega), chg_get (show j ≤ h.length by omega)]
        have := H.fall j
        by_cases z : j = c
        · subst z
          rw [if_pos rfl, if_neg (by omega)]
          omega
        · rw [if_neg z]
          split <;> omega
      · obtain ⟨x, _, rfl⟩ := hm y hy
        split
        · next z =>
          subst z
          omega
        · omega
def tv (h : List Nat) (st : Int) (c : Nat) : Int := if st = 1 then dg h c else dg h c + 1
def trs (h : List Nat) (st : Int) (i : Nat) : List Int := ((List.range i).filter (tr h st)).map (tv h st)
theorem tv_lt {h : List Nat} (H : IsHeap h) {st : Int} {c d : Nat} (hcd : c < d) : tv h st c < tv h st d := by
  have := dg_lt H hcd
  unfold tv
  split <;> omega
theorem range_lt (n : Nat) : (List.range n).Pairwise (· < ·) := List.pairwise_lt_range
theorem trs_sorted {h : List Nat} (H : IsHeap h) (st : Int) (i : Nat) : (trs h st i).Pairwise (· ≤ ·) := by
  unfold trs
  refine List.pairwise_map.mpr ?_
  refine ((range_lt i).filter _).imp fun {a b} hab => ?_
  have := tv_lt H (st := st) hab
  omega
theorem sorted_eq : ∀ {a b : List Int}, a.Perm b → a.Pairwise (· ≤ ·) → b.Pairwise (· ≤ ·) → a = b
  | [], b, p, _, _ => (List.nil_perm.mp p).symm
  | x :: a, [], p, _, _ => absurd p.length_eq (by simp)
  | x :: a, y :: b, p, ha, hb => by
    have e : x = y := by
      have h1 : y ∈ x :: a := p.mem_iff.mpr List.mem_cons_self
      have h2 : x ∈ y :: b := p.mem_iff.mp List.mem_cons_self
      rcases List.mem_cons.mp h1 with z | z
      · exact z.symm
      · rcases List.mem_cons.mp h2 with u | u
        · exact u
        · have q1 := (List.pairwise_cons.mp ha).1 y z
          have q2 := (List.pairwise_cons.mp hb).1 x u
          omega
    subst e
    rw [sorted_eq ((List.perm_cons x).mp p) (List.pairwise_cons.mp ha).2 (List.pairwise_cons.mp hb).2]
theorem trs_add (h : List Nat) : trs h 1 (h.length + 1) = (oc h).map (dg h) := by
  have e : tr h 1 = opn h := funext fun c => if_pos rfl
  have e2 : tv h 1 = dg h := funext fun c => if_pos rfl
  unfold trs oc
  rw [e, e2]
theorem trs_sub (h : List Nat) : trs h (-1) (h.length + 1) = ((List.range h.length).filter fun c => decide (hAt h (c + 1) < hAt h c)).map fun c => dg h c + 1 := by
  have e : tr h (-1) = fun c => decide (hAt h (c + 1) < hAt h c) := funext fun c => if_neg (by decide)
  have e2 : tv h (-1) = fun c => dg h c + 1 := funext fun c => if_neg (by decide)
  unfold trs
  rw [e, e2, List.range_succ, List.filter_append, List.filter_cons, if_neg (by rw [hAt_ge (Nat.le_refl h.length)]; simp)]
  simp
theorem oc_two {h : List Nat} (H : IsHeap h) : ((oc h).map (dg h)).Pairwise (fun a b => a + 2 ≤ b) := by
  refine List.pairwise_map.mpr ?_
  unfold oc
  have : ((List.range (h.length + 1)).filter (opn h)).Pairwise (fun a b => a < b) := (range_lt _).filter _
  refine (List.Pairwise.and_mem.mp this).imp fun {a b} hab => ?_
  exact dg_two H hab.2.2 (List.mem_filter.mp hab.2.1).2
theorem two_next {l : List Int} (h : l.Pairwise (fun a b => a + 2 ≤ b)) {i : Nat} {x y : Int} (hx : l[i]? = some x) (hy : l[i + 1]? = some y) : x + 2 ≤ y := by
  obtain ⟨h1, rfl⟩ := List.getElem?_eq_some_iff.mp hx
  obtain ⟨h2, rfl⟩ := List.getElem?_eq_some_iff.mp hy
  exact List.pairwise_iff_getElem.mp h i (i + 1) h1 h2 (by omega)
/-! ### squares added in any order -/
def adm (h : List Nat) (ms : List Int) (i : Nat) (c : Nat) : Bool := opn h c && decide (dg h c ∈ ms.take i)
theorem adm_opn {h : List Nat} {ms : List Int} {i : Nat} (c : Nat) (z : adm h ms i c = true) : opn h c = true := by
  unfold adm at z
  exact (Bool.and_eq_true_iff.mp z).1
theorem adm_zero (h : List Nat) (ms : List Int) : grow h (adm h ms 0) = h := by
  have e : adm h ms 0 = fun _ => false := funext fun c => by
    unfold adm
    rw [List.take_zero, decide_eq_false (by simp), Bool.and_false]
  rw [e]
  unfold grow
  rw [if_neg (show ¬ false = true by decide), List.append_nil]
  exact range_hAt h
theorem grow_opn {h : List Nat} {g : Nat → Bool} (hg : ∀ c, g c = true → opn h c = true) {c : Nat} (o : opn h c = true) (q : g c = false) : opn (grow h g) c = true := by
  unfold opn
  by_cases z : c = 0
  · rw [decide_eq_true z, Bool.true_or]
  · obtain ⟨e, rfl⟩ : ∃ e, c = e + 1 := ⟨c - 1, by omega⟩
    have a := opn_lt o
    have b : hAt (grow h g) (e + 1) < hAt (grow h g) (e + 1 - 1) := by
      rw [hAt_grow hg, hAt_grow hg, q, show e + 1 - 1 = e by omega]
      have : b2n false = 0 := rfl
      omega
    rw [decide_eq_true b, Bool.or_true]
theorem grow_dg {h : List Nat} {g : Nat → Bool} (hg : ∀ c, g c = true → opn h c = true) {c : Nat} (q : g c = false) : dg (grow h g) c = dg h c := by
  unfold dg
  rw [hAt_grow hg, q]
  rfl
theorem adm_no {h : List Nat} (_ : IsHeap h) {ms : List Int} (nd : ms.Nodup) {i c : Nat} (hi : ms[i]? = some (dg h c)) : adm h ms i c = false := by
  unfold adm
  have : ¬ dg h c ∈ ms.take i := fun z => by
    obtain ⟨j, hj, e⟩ := List.getElem_of_mem z
    rw [List.length_take] at hj
    obtain ⟨hi', e'⟩ := List.getElem?_eq_some_iff.mp hi
    rw [List.getElem_take] at e
    have := (List.nodup_iff_pairwise_ne.mp nd)
    have := List.pairwise_iff_getElem.mp this j i (by omega) hi' (by omega)
    exact this (e.trans e'.symm)
  rw [decide_eq_false this, Bool.and_false]
theorem adm_next {h : List Nat} (H : IsHeap h) {ms : List Int} (nd : ms.Nodup) {i c : Nat} (o : opn h c = true) (hi : ms[i]? = some (dg h c)) {g1 : Nat → Bool} (hg1 : ∀ x, g1 x = (c == x)) :
    grow (grow h (adm h ms i)) g1 = grow h (adm h ms (i + 1)) := by
  have no := adm_no H nd hi
  have h1 : IsHeap (grow h (adm h ms i)) := grow_heap H adm_opn
  have o1 : ∀ x, g1 x = true → opn (grow h (adm h ms i)) x = true := fun x z => by
    rw [hg1] at z
    have e : c = x := by simpa using z
    subst e
    exact grow_opn adm_opn o no
  refine heap_ext (grow_heap h1 o1) (grow_heap H adm_opn) fun x => ?_
  rw [hAt_grow o1, hAt_grow adm_opn, hAt_grow adm_opn, hg1]
  by_cases e : c = x
  · subst e
    have yes : adm h ms (i + 1) c = true := by
      unfold adm
      rw [o, List.take_add_one, hi, decide_eq_true (by simp)]
      rfl
    rw [no, yes, beq_self_eq_true]
    rfl
  · have e2 : (c == x) = false := by simpa using e
    have e3 : adm h ms (i + 1) x = adm h ms i x := by
      unfold adm
      have : (dg h x ∈ ms.take (i + 1)) ↔ dg h x ∈ ms.take i := by
        rw [List.take_add_one, hi, List.mem_append]
        constructor
        · rintro (z | z)
          · exact z
          · have : dg h x = dg h c := by simpa using z
            exact absurd (dg_inj H this).symm e
        · exact Or.inl
      rw [decide_eq_decide.mpr this]
    rw [e2, e3]
    rfl
end HM

/-! own rule: sum of a tuple of ints -/
namespace ST
open PySem PySem.Spec PyProof.Rows L2
section
variable {prog : Program} {w : World} {A : Around} {E : Value → Shared → Prop} {s : Shared} {l : Addr}
theorem sum_tup {xs : Array (Int × Tok)} {Q : Value → Shared → Prop} (hh : A.handled = none) (hl : s.heap.IsTuple l (intItems xs))
    (h : ∀ h' tk t', (∀ b o, s.heap.get? b = some o → h'.get? b = some o) → Q (.int (preSum (numAt xs) xs.size) t') { s with heap := h', toks := tk }) :
    wpAny (model prog w) A (call (.builtin "sum") [.ref l]) Q E s := by
  have hlt : l < s.heap.objs.size := by
    obtain ⟨_, e, _⟩ := hl
    exact Heap.lt_size e
  refine call_sum_walkG (wpAny_pyIter_tuple hl ?_)
  refine ⟨_, _, _, _, _, _, numAt xs, rfl, Walks.tuple (A := A.in1) hh s.heap.objs.size l (Nat.ne_of_lt hlt) (intItems xs), ⟨⟨_, Heap.get?_push_size _ rfl, rfl, rfl⟩, hl.push _⟩, fun b hb => ?_, (fun _ _ => intItems_at), fun h' tk t' hk => ?_⟩
  · show b < (s.heap.push _).objs.size
    rw [Heap.size_push]
    rcases List.mem_cons.mp hb with rfl | hb
    · exact Nat.lt_succ_self _
    · rcases List.mem_cons.mp hb with rfl | hb
      · exact Nat.lt_succ_of_lt hlt
      · cases hb
  · have := h h' tk t' fun b o e => by
      refine hk b o (fun hm => ?_) (Heap.get?_push_of_some _ e)
      rcases List.mem_cons.mp hm with e1 | hm
      · exact absurd (e1 ▸ Heap.lt_size e) (Nat.lt_irrefl _)
      · cases hm
    simpa [intItems] using this
theorem sum_tupR {its : List Value} {ns : List Int} {Q : Value → Shared → Prop} (hh : A.handled = none) (hl : s.heap.IsTuple l its.toArray) (hi : IntsAre its ns)
    (h : ∀ h' tk t', (∀ b o, s.heap.get? b = some o → h'.get? b = some o) → Q (.int ns.sum t') { s with heap := h', toks := tk }) : wpAny (model prog w) A (call (.builtin "sum") [.ref l]) Q E s := by
  obtain ⟨xs, e⟩ := hi.allInts.items
  have hn : numsOf (intItems xs).toList = ns := by rw [← e]; exact hi.numsOf
  rw [nums_intItems] at hn
  rw [e] at hl
  refine sum_tup hh hl fun h' tk t' hk => ?_
  have := h h' tk t' hk
  rw [preSum_eq, List.take_of_length_le (by simp), hn]
  exact this
end
section
variable {X : Cx}
def rSumT (K : PySem.W.Frag) : List V → Hp → VK → Prop := fun vs H Q => ∃ (a : Addr) (ns : List Int), vs = [V.ref a] ∧ SqT K H a (ns.map V.int) ∧ Q (.int ns.sum) H
theorem cr_sumT (hc : X.calm = true) : CallR X (.builtin "sum") (rSumT X.K) := by
  intro pins s σ H vs us Q I r h
  obtain ⟨a, ns, rfl, hs, q⟩ := h
  obtain ⟨its, rv, hl, _⟩ := I.tuple hs
  rw [Vals.ref1 r]
  exact sum_tupR (I.ok.hd hc) hl rv.ints fun h' tk t' hk => ⟨.int _, H, I.kept hk, ⟨_, rfl⟩, q⟩
end
end ST

/-! own rule: sum of a range object from 0 on -/
namespace SR
open PySem PySem.Spec PyProof.Rows L2
theorem size0 {n : Nat} (h : n ≤ 1000) : Builtin.Range.rangeSize 0 n 1 = n := by
  unfold Builtin.Range.rangeSize
  split <;> omega
theorem pre_list : ∀ n : Nat, preSum (fun i => (i : Int)) n = ((List.range n).map fun (i : Nat) => (i : Int)).sum
  | 0 => rfl
  | n + 1 => by
    rw [List.range_succ, List.map_append, List.sum_append, ← pre_list n]
    show preSum (fun i => (i : Int)) n + (n : Int) = preSum (fun i => (i : Int)) n + ((n : Int) + 0)
    omega
section
variable {prog : Program} {w : World} {A : Around} {E : Value → Shared → Prop} {s : Shared} {a : Addr}
theorem sum_rng {n : Nat} {t u v : Tok} {Q : Value → Shared → Prop} (hh : A.handled = none) (hn : n ≤ 1000) (hl : IsRange s.heap a 0 n 1 t u v)
    (h : ∀ h' tk t', (∀ b o, s.heap.get? b = some o → h'.get? b = some o) → Q (.int (preSum (fun i => (i : Int)) n) t') { s with heap := h', toks := tk }) :
    wpAny (model prog w) A (call (.builtin "sum") [.ref a]) Q E s := by
  refine call_sum_walkG (wpAny_pyIter_range hl ?_ ?_)
  · unfold Builtin.Range.small
    rw [size0 hn]
    unfold Builtin.Range.rangeFitsLong
    simp only [Bool.and_eq_true, decide_eq_true_eq, Bool.or_eq_true, beq_iff_eq, gt_iff_lt]
    refine ⟨⟨⟨⟨?_, ?_⟩, ?_⟩, ?_⟩, ?_⟩
    all_goals first | omega | (right; rw [if_pos (by decide)]; simp only [Bool.and_eq_true, decide_eq_true_eq]; omega) | decide
  · refine ⟨_, _, _, _, _, _, fun i => (i : Int), rfl, Walks.range (A := A.in1) hh s.heap.objs.size 0 1 n, ?_, fun b hb => ?_, fun i v hv => ?_, fun h' tk t' hk => ?_⟩
    · show Heap.get? _ _ = _
      rw [size0 hn]
      rw [Heap.get?_push_size _ rfl]
      congr 5
    · show b < (s.heap.push _).objs.size
      rw [Heap.size_push, List.mem_singleton.mp hb]
      exact Nat.lt_succ_self _
    · obtain ⟨t, rfl⟩ := hv
      exact ⟨t, by rw [Int.mul_one, Int.zero_add]⟩
    · refine h h' tk t' fun b o e => ?_
      refine hk b o (fun hm => ?_) (Heap.get?_push_of_some _ e)
      exact absurd (List.mem_singleton.mp hm ▸ Heap.lt_size e) (Nat.lt_irrefl _)
end
section
variable {X : Cx}
def rSumR : List V → Hp → VK → Prop := fun vs H Q => ∃ (a : Addr) (n : Nat), vs = [V.ref a] ∧ H a = some (.rng 0 (n : Int)) ∧ n ≤ 1000 ∧ Q (.int ((List.range n).map fun (i : Nat) => (i : Int)).sum) H
theorem cr_sumR (hc : X.calm = true) : CallR X (.builtin "sum") rSumR := by
  intro pins s σ H vs us Q I r h
  obtain ⟨a, n, rfl, ha, hn, q⟩ := h
  obtain ⟨t, u, v, e⟩ := (show ObjOk X.prog X.w H s.heap a (.rng 0 (n : Int)) from I.hok a _ ha)
  rw [Vals.ref1 r]
  refine sum_rng (I.ok.hd hc) hn e fun h' tk t' hk => ⟨.int _, H, I.kept hk, ⟨_, rfl⟩, ?_⟩
  rw [pre_list]
  exact q
end
end SR

/-! own rules: a comprehension of two clauses, by two walks -/
namespace L2
open PySem PySem.Spec PyProof.Rows
section
variable {J : It} {n : Nat} {G : Hp → Prop} {Y : Nat → Hp → V → Hp → Prop}
/-- the outer clause: Pv by the turn and the heap (the new list at D within) -/
theorem lc2_out (w : Walk J n G Y) {g g1 : TG} {tt tt1 : TT} {wi1 : TI} {te : TE} {vs vs1 : List Nat} {σ : St} {H1 : Hp} {D : Addr} {Qd : Hp → Prop} (Pv : Nat → Hp → Prop) (h0 : Pv 0 (upd H1 D (.lst []))) (hG : ∀ i H, i ≤ n → Pv i H → G H)
    (hs : ∀ i x H H', i < n → Pv i H → Y i H x H' → g x (wipe σ vs) H' fun σ2 H2 => wipe σ2 vs = wipe σ vs ∧ tt σ2 H2 fun b H3 =>
      if b = true then wi1 σ2 H3 fun J1 H4 => ∃ W1 : Nat → Nat → Hp → Prop, (∃ m, W1 0 m H4) ∧ ∀ j k H, W1 j k H →
      (J1.stop j H ∧ Pv (i + 1) H) ∨ (J1.go j H ∧ ∃ Nx1 : Hp → Prop, (∀ H', Nx1 H' → ∃ k', k' < k ∧ W1 (j + 1) k' H') ∧ ∀ x H', J1.yld j H x H' → g1 x (wipe σ2 vs1) H' fun σ3 H5 => wipe σ3 vs1 = wipe σ2 vs1 ∧ tt1 σ3 H5 fun b H6 =>
        if b = true then te σ3 H6 fun y H7 => ∃ acc, H7 D = some (.lst acc) ∧ acc.length < sizeLine ∧ Nx1 (upd H7 D (.lst (acc ++ [y]))) else Nx1 H6)
      else Pv (i + 1) H3) (hd : ∀ H, Pv n H → Qd H) :
    ∃ W : Nat → Nat → Hp → Prop, (∃ m, W 0 m (upd H1 D (.lst []))) ∧ ∀ i m H, W i m H →
      (J.stop i H ∧ Qd H) ∨ (J.go i H ∧ ∃ Nx : Hp → Prop, (∀ H', Nx H' → ∃ m', m' < m ∧ W (i + 1) m' H') ∧ ∀ x H', J.yld i H x H' → g x (wipe σ vs) H' fun σ2 H2 => wipe σ2 vs = wipe σ vs ∧ tt σ2 H2 fun b H3 =>
        if b = true then wi1 σ2 H3 fun J1 H4 => ∃ W1 : Nat → Nat → Hp → Prop, (∃ m, W1 0 m H4) ∧ ∀ j k H, W1 j k H →
      (J1.stop j H ∧ Nx H) ∨ (J1.go j H ∧ ∃ Nx1 : Hp → Prop, (∀ H', Nx1 H' → ∃ k', k' < k ∧ W1 (j + 1) k' H') ∧ ∀ x H', J1.yld j H x H' → g1 x (wipe σ2 vs1) H' fun σ3 H5 => wipe σ3 vs1 = wipe σ2 vs1 ∧ tt1 σ3 H5 fun b H6 =>
        if b = true then te σ3 H6 fun y H7 => ∃ acc, H7 D = some (.lst acc) ∧ acc.length < sizeLine ∧ Nx1 (upd H7 D (.lst (acc ++ [y]))) else Nx1 H6)
        else Nx H3) := by
  refine ⟨fun i m H => m = n - i ∧ i ≤ n ∧ Pv i H, ⟨n, by simp, Nat.zero_le _, h0⟩, ?_⟩
  rintro i m H ⟨rfl, hi, p⟩
  have q := hG i H hi p
  by_cases hlt : i < n
  · refine .inr ⟨w.goes i H hlt q, Pv (i + 1), fun H' p' => ⟨n - (i + 1), by omega, rfl, hlt, p'⟩, fun x H' y => hs i x H H' hlt p (w.yields i H x H' hlt q y)⟩
  · have e : i = n := by omega
    subst e
    exact .inl ⟨w.stops H q, hd H p⟩
/-- the inner clause -/
theorem lc2_in {J1 : It} {n1 : Nat} {G1 : Hp → Prop} {Y1 : Nat → Hp → V → Hp → Prop} (w : Walk J1 n1 G1 Y1) {g1 : TG} {tt1 : TT} {te : TE} {vs1 : List Nat} {σ2 : St} {H4 : Hp} {D : Addr} {Nx : Hp → Prop} (Pv : Nat → Hp → Prop) (h0 : Pv 0 H4) (hG : ∀ i H, i ≤ n1 → Pv i H → G1 H)
    (hs : ∀ j x H H', j < n1 → Pv j H → Y1 j H x H' → g1 x (wipe σ2 vs1) H' fun σ3 H5 => wipe σ3 vs1 = wipe σ2 vs1 ∧ tt1 σ3 H5 fun b H6 =>
        if b = true then te σ3 H6 fun y H7 => ∃ acc, H7 D = some (.lst acc) ∧ acc.length < sizeLine ∧ Pv (j + 1) (upd H7 D (.lst (acc ++ [y]))) else Pv (j + 1) H6) (hd : ∀ H, Pv n1 H → Nx H) :
    ∃ W1 : Nat → Nat → Hp → Prop, (∃ m, W1 0 m H4) ∧ ∀ j k H, W1 j k H →
      (J1.stop j H ∧ Nx H) ∨ (J1.go j H ∧ ∃ Nx1 : Hp → Prop, (∀ H', Nx1 H' → ∃ k', k' < k ∧ W1 (j + 1) k' H') ∧ ∀ x H', J1.yld j H x H' → g1 x (wipe σ2 vs1) H' fun σ3 H5 => wipe σ3 vs1 = wipe σ2 vs1 ∧ tt1 σ3 H5 fun b H6 =>
        if b = true then te σ3 H6 fun y H7 => ∃ acc, H7 D = some (.lst acc) ∧ acc.length < sizeLine ∧ Nx1 (upd H7 D (.lst (acc ++ [y]))) else Nx1 H6) := by
  refine ⟨fun i m H => m = n1 - i ∧ i ≤ n1 ∧ Pv i H, ⟨n1, by simp, Nat.zero_le _, h0⟩, ?_⟩
  rintro i m H ⟨rfl, hi, p⟩
  have q := hG i H hi p
  by_cases hlt : i < n1
  · refine .inr ⟨w.goes i H hlt q, Pv (i + 1), fun H' p' => ⟨n1 - (i + 1), by omega, rfl, hlt, p'⟩, fun x H' y => hs i x H H' hlt p (w.yields i H x H' hlt q y)⟩
  · have e : i = n1 := by omega
    subst e
    exact .inl ⟨w.stops H q, hd H p⟩
/-- both clauses without tests -/
theorem lc2_outY (w : Walk J n G Y) {g g1 : TG} {tt1 : TT} {wi1 : TI} {te : TE} {vs vs1 : List Nat} {σ : St} {H1 : Hp} {D : Addr} {Qd : Hp → Prop} (Pv : Nat → Hp → Prop) (h0 : Pv 0 (upd H1 D (.lst []))) (hG : ∀ i H, i ≤ n → Pv i H → G H)
    (hs : ∀ i x H H', i < n → Pv i H → Y i H x H' → g x (wipe σ vs) H' fun σ2 H2 => wipe σ2 vs = wipe σ vs ∧ wi1 σ2 H2 fun J1 H4 => ∃ W1 : Nat → Nat → Hp → Prop, (∃ m, W1 0 m H4) ∧ ∀ j k H, W1 j k H →
      (J1.stop j H ∧ Pv (i + 1) H) ∨ (J1.go j H ∧ ∃ Nx1 : Hp → Prop, (∀ H', Nx1 H' → ∃ k', k' < k ∧ W1 (j + 1) k' H') ∧ ∀ x H', J1.yld j H x H' → g1 x (wipe σ2 vs1) H' fun σ3 H5 => wipe σ3 vs1 = wipe σ2 vs1 ∧ tt1 σ3 H5 fun b H6 =>
        if b = true then te σ3 H6 fun y H7 => ∃ acc, H7 D = some (.lst acc) ∧ acc.length < sizeLine ∧ Nx1 (upd H7 D (.lst (acc ++ [y]))) else Nx1 H6)) (hd : ∀ H, Pv n H → Qd H) :
    ∃ W : Nat → Nat → Hp → Prop, (∃ m, W 0 m (upd H1 D (.lst []))) ∧ ∀ i m H, W i m H →
      (J.stop i H ∧ Qd H) ∨ (J.go i H ∧ ∃ Nx : Hp → Prop, (∀ H', Nx H' → ∃ m', m' < m ∧ W (i + 1) m' H') ∧ ∀ x H', J.yld i H x H' → g x (wipe σ vs) H' fun σ2 H2 => wipe σ2 vs = wipe σ vs ∧ tYes σ2 H2 fun b H3 =>
        if b = true then wi1 σ2 H3 fun J1 H4 => ∃ W1 : Nat → Nat → Hp → Prop, (∃ m, W1 0 m H4) ∧ ∀ j k H, W1 j k H →
      (J1.stop j H ∧ Nx H) ∨ (J1.go j H ∧ ∃ Nx1 : Hp → Prop, (∀ H', Nx1 H' → ∃ k', k' < k ∧ W1 (j + 1) k' H') ∧ ∀ x H', J1.yld j H x H' → g1 x (wipe σ2 vs1) H' fun σ3 H5 => wipe σ3 vs1 = wipe σ2 vs1 ∧ tt1 σ3 H5 fun b H6 =>
        if b = true then te σ3 H6 fun y H7 => ∃ acc, H7 D = some (.lst acc) ∧ acc.length < sizeLine ∧ Nx1 (upd H7 D (.lst (acc ++ [y]))) else Nx1 H6)
        else Nx H3) := lc2_out (tt := tYes) w Pv h0 hG hs hd
theorem lc2_inY {J1 : It} {n1 : Nat} {G1 : Hp → Prop} {Y1 : Nat → Hp → V → Hp → Prop} (w : Walk J1 n1 G1 Y1) {g1 : TG} {te : TE} {vs1 : List Nat} {σ2 : St} {H4 : Hp} {D : Addr} {Nx : Hp → Prop} (Pv : Nat → Hp → Prop) (h0 : Pv 0 H4) (hG : ∀ i H, i ≤ n1 → Pv i H → G1 H)
    (hs : ∀ j x H H', j < n1 → Pv j H → Y1 j H x H' → g1 x (wipe σ2 vs1) H' fun σ3 H5 => wipe σ3 vs1 = wipe σ2 vs1 ∧ te σ3 H5 fun y H7 => ∃ acc, H7 D = some (.lst acc) ∧ acc.length < sizeLine ∧ Pv (j + 1) (upd H7 D (.lst (acc ++ [y])))) (hd : ∀ H, Pv n1 H → Nx H) :
    ∃ W1 : Nat → Nat → Hp → Prop, (∃ m, W1 0 m H4) ∧ ∀ j k H, W1 j k H →
      (J1.stop j H ∧ Nx H) ∨ (J1.go j H ∧ ∃ Nx1 : Hp → Prop, (∀ H', Nx1 H' → ∃ k', k' < k ∧ W1 (j + 1) k' H') ∧ ∀ x H', J1.yld j H x H' → g1 x (wipe σ2 vs1) H' fun σ3 H5 => wipe σ3 vs1 = wipe σ2 vs1 ∧ tYes σ3 H5 fun b H6 =>
        if b = true then te σ3 H6 fun y H7 => ∃ acc, H7 D = some (.lst acc) ∧ acc.length < sizeLine ∧ Nx1 (upd H7 D (.lst (acc ++ [y]))) else Nx1 H6) := lc2_in (tt1 := tYes) w Pv h0 hG hs hd
/-- one clause without a test -/
theorem lc_itY (w : Walk J n G Y) {g : TG} {te : TE} {vs : List Nat} {σ : St} {H1 : Hp} {D : Addr} {Qd : Hp → Prop} (Pv : Nat → Hp → Prop) (h0 : Pv 0 (upd H1 D (.lst []))) (hG : ∀ i H, i ≤ n → Pv i H → G H)
    (hs : ∀ i x H H', i < n → Pv i H → Y i H x H' → g x (wipe σ vs) H' fun σ2 H2 => wipe σ2 vs = wipe σ vs ∧ te σ2 H2 fun y H4 => ∃ acc, H4 D = some (.lst acc) ∧ acc.length < sizeLine ∧ Pv (i + 1) (upd H4 D (.lst (acc ++ [y])))) (hd : ∀ H, Pv n H → Qd H) :
    ∃ W : Nat → Nat → Hp → Prop, (∃ m, W 0 m (upd H1 D (.lst []))) ∧ ∀ i m H, W i m H →
      (J.stop i H ∧ Qd H) ∨ (J.go i H ∧ ∃ Nx : Hp → Prop, (∀ H', Nx H' → ∃ m', m' < m ∧ W (i + 1) m' H') ∧ ∀ x H', J.yld i H x H' → g x (wipe σ vs) H' fun σ2 H2 => wipe σ2 vs = wipe σ vs ∧ tYes σ2 H2 fun b H3 =>
        if b = true then te σ2 H3 fun y H4 => ∃ acc, H4 D = some (.lst acc) ∧ acc.length < sizeLine ∧ Nx (upd H4 D (.lst (acc ++ [y]))) else Nx H3) := lc_it (tt := tYes) w Pv h0 hG hs hd
end
end L2

/-! own rules: slices of a tuple and sums of tuples, whole or empty ones too, by what stands afterwards -/
namespace TE
open PySem PySem.Spec PyProof.Rows L2 Evl
section
variable {X : Cx}
def rSlE : V → Option Int → Option Int → Hp → VK → Prop := fun x lo hi H Q => ∃ a xs, x = .ref a ∧ H a = some (.tup xs) ∧ ∀ p H', Ex H H' → H' p = some (.tup (cutV xs lo hi)) → Q (.ref p) H'
theorem sl_tupE : SlR X rSlE := by
  intro pins s σ H x v vl vu lo hi sl Q I rx hs pl pu h
  obtain ⟨a, xs, rfl, hx, q⟩ := h
  refine sl_tupA pins s σ H _ v vl vu lo hi sl Q I rx hs pl pu ⟨a, xs, rfl, SqT.of hx, fun w => q a H (Ex.refl _) ?_, fun _ p hp => q p _ (Ex.new hp) upd_same⟩
  obtain ⟨w1, w2⟩ := w
  have e : cutV xs lo hi = xs := by
    unfold cutV
    rw [w1, w2, List.drop_zero, Nat.sub_zero, List.take_length]
  rw [e]
  exact hx
def rCatE : R2 := fun x y H Q => ∃ a b xs ys, x = .ref a ∧ y = .ref b ∧ H a = some (.tup xs) ∧ H b = some (.tup ys) ∧ xs.length + ys.length ≤ sizeLine ∧ ∀ p H', Ex H H' → H' p = some (.tup (xs ++ ys)) → Q (.ref p) H'
theorem op_catE : OpR X (binaryOp .Add) rCatE := by
  intro pins s σ H x y v u Q I rx ry h
  obtain ⟨a, b, xs, ys, rfl, rfl, ha, hb, hz, q⟩ := h
  refine op_catA pins s σ H _ _ v u Q I rx ry ⟨a, b, xs, ys, rfl, rfl, SqT.of ha, SqT.of hb, hz, fun e => q b H (Ex.refl _) ?_, fun _ e => q a H (Ex.refl _) ?_, fun _ _ p hp => q p _ (Ex.new hp) upd_same⟩
  · rw [e, List.nil_append]
    exact hb
  · rw [e, List.append_nil]
    exact ha
end
end TE

set_option exponentiation.threshold 400
namespace K1
open PySem PySem.Spec PyProof.Rows L2 Evl HM LX MP
def rowF (m : Nat) (f : Int → Int) : List Int := (List.range m).map fun (i : Nat) => f (i : Int)
theorem rowF_len (m : Nat) (f : Int → Int) : (rowF m f).length = m := by simp [rowF]
theorem rowF_get {m : Nat} {f : Int → Int} {i : Nat} (h : i < m) : ((rowF m f).map V.int)[i]? = some (.int (f (i : Int))) := by
  unfold rowF
  rw [List.map_map, List.getElem?_map, List.getElem?_range h]
  rfl
theorem rowF_sum (m : Nat) (f : Int → Int) : (rowF m f).sum = sumL (List.range m) fun (i : Nat) => f (i : Int) := rfl
def fac (F : Nat → Nat → Int) (i j : Nat) : List Int := ((List.range i).map fun l => (List.range l).map (F l)).flatten ++ (List.range j).map (F i)
theorem fac0 (F : Nat → Nat → Int) (i : Nat) : fac F i 0 = ((List.range i).map fun l => (List.range l).map (F l)).flatten := List.append_nil _
theorem facS (F : Nat → Nat → Int) (i : Nat) : fac F i i = fac F (i + 1) 0 := by
  rw [fac0, List.range_succ, List.map_append, List.flatten_append]
  show _ = _ ++ ((List.range i).map (F i) ++ [])
  rw [List.append_nil]
  rfl
theorem facN (F : Nat → Nat → Int) (i j : Nat) : fac F i (j + 1) = fac F i j ++ [F i j] := by
  unfold fac
  rw [List.range_succ, List.map_append, ← List.append_assoc]
  rfl
theorem facL (F : Nat → Nat → Int) : ∀ i, i ≤ 60 → (fac F i 0).length ≤ 60 * i
  | 0, _ => Nat.le_refl _
  | i + 1, hi => by
    have h1 := facL F i (by omega)
    rw [← facS]
    rw [fac0] at h1
    unfold fac
    rw [List.length_append, List.length_map, List.length_range]
    omega
theorem facLj (F : Nat → Nat → Int) (i j : Nat) (hi : i ≤ 60) (hj : j ≤ 60) : (fac F i j).length ≤ 60 * i + j := by
  have h1 := facL F i hi
  rw [fac0] at h1
  unfold fac
  rw [List.length_append, List.length_map, List.length_range]
  omega
theorem fac_sumL (F : Nat → Nat → Int) : ∀ n : Nat, (fac F n 0).sum = sumL (List.range n) fun i => sumL (List.range i) (F i)
  | 0 => rfl
  | n + 1 => by
    have ih := fac_sumL F n
    rw [fac0] at ih
    rw [← facS]
    unfold fac
    rw [List.sum_append, ih, List.range_succ, sumL_app, sumL_cons, sumL_nil, Int.add_zero]
    rfl
theorem ab_if (x : Int) : ab x = if x < 0 then -x else x := by
  unfold ab
  split <;> omega
section
variable {P : Program} {w : World} {K : PySem.W.Frag} {mg : Str → Option Value} {base : Heap}
def RowAt (H : Hp) (p : Addr) (m : Nat) (f : Int → Int) : Prop := H p = some (.tup ((rowF m f).map V.int)) ∧ 1 ≤ m ∧ m ≤ 60
def spShiftIn : Sp := fun vs H Q _ => ∃ (p : Addr) (m : Nat) (f : Int → Int), vs = [.ref p] ∧ RowAt H p m f ∧ ∀ H', Ex H H' → Q (.int (((sumL (List.range m) fun (i : Nat) => f (i : Int)) - sumL (List.range m) fun (i : Nat) => (i : Int)) / (m : Int))) H'
theorem ok_shift_in (T : Txt K mg) {f : Addr} {fd : FuncData} (D : DefAt K mg "shift_in" sShiftIn ["values"] f fd) : FnOk P w K mg base CX0 1 f fd ["values"] spShiftIn := by
  refine D.F.ok scShiftIn (fun vs H Q E h => ?_) (fun cdv A outer s₀ H vs Q E hr h => ?_)
  · obtain ⟨p, m, f, rfl, _⟩ := h
    rfl
  · obtain ⟨p, m, f, rfl, ⟨hp, m1, m60⟩, kQ⟩ := h
    refine ⟨_, pss_cons (ps_set (i := 1) scShiftIn.nd rfl (.inl rfl) (pe_callB call_len_seq (by rfl) T.z_len PySem.boot_len (pa_cons (pv 0) pa_nil)))
      (pss_one (ps_ret (pe_op op_fdiv (pe_op op_sub (pe_callB (ST.cr_sumT rfl) (by rfl) T.z_sum (by decide +kernel) (pa_cons (pv 0) pa_nil)) (pe_callB (SR.cr_sumR rfl) (by rfl) T.z_sum (by decide +kernel) (pa_cons (pe_callTy cr_range1 (by rfl) T.z_range (by decide +kernel) (pa_cons (pv 1) pa_nil)) pa_nil))) (pv 1)))), ?_⟩
    have ll : ((rowF m f).map V.int).length = m := by rw [List.length_map, rowF_len]
    refine ⟨_, rfl, p, _, rfl, .inr (SqT.of hp), ?_⟩
    rw [ll]
    refine ⟨_, rfl, p, _, rfl, SqT.of hp, _, rfl, _, rfl, fun g hg => ⟨g, m, rfl, upd_same, by omega, _, _, rfl, rfl, _, rfl, _, _, rfl, rfl, ⟨by omega, by omega⟩, ?_⟩⟩
    exact kQ _ (Ex.new hg)
def spFallsIn : Sp := fun vs H Q _ => ∃ (p : Addr) (m : Nat) (f : Int → Int), vs = [.ref p] ∧ RowAt H p m f ∧ ∀ H', Ex H H' → Q (.int (fallsR m f)) H'
theorem ok_falls_in (T : Txt K mg) {f : Addr} {fd : FuncData} (D : DefAt K mg "falls_in" sFallsIn ["values"] f fd) : FnOk P w K mg base CX0 1 f fd ["values"] spFallsIn := by
  refine D.F.ok scFallsIn (fun vs H Q E h => ?_) (fun cdv A outer s₀ H vs Q E hr h => ?_)
  · obtain ⟨p, m, f, rfl, _⟩ := h
    rfl
  · obtain ⟨p, m, f, rfl, ⟨hp, m1, m60⟩, kQ⟩ := h
    refine ⟨_, pss_cons (ps_set (i := 1) scFallsIn.nd rfl (.inr rfl) (pe_callB call_len_seq (by rfl) T.z_len PySem.boot_len (pa_cons (pv 0) pa_nil)))
      (pss_one (ps_ret (pe_callB (cr_sum rfl) (by rfl) T.z_sum (by decide +kernel) (pa_cons (pe_lc2 (own := [("late", 2), ("early", 3)]) (vs1 := [3]) (g := gName 2) (g1 := gName 3) (tt := tYes) (tt1 := tYes) (wi1 := iRng1 (tCons (tVar 2) tNil)) rfl scFallsIn.nd (pi_range1 (by rfl) T.z_range (pa_cons (pv 1) pa_nil))
        (blkOk_by (N := nFallsIn) (sc := defScope sFallsIn) (by decide +kernel)) (by decide) (fun _ _ _ _ _ => (pg_name (i := 2) scFallsIn.nd rfl (.inl rfl))) (fun _ _ _ _ _ => pts_nil) (fun _ _ _ _ _ => (pi_range1 (by rfl) T.z_range (pa_cons (pv 2) pa_nil))) (fun _ _ _ _ _ => (pg_name (i := 3) scFallsIn.nd rfl (.inl rfl))) (fun _ _ _ _ _ => pts_nil) (fun _ _ _ _ _ => (pe_callB call_abs (by rfl) T.z_abs (by decide +kernel) (pa_cons (pe_op op_fdiv (pe_op op_sub (pe_ix (show IxR _ (rIxT K) from ix_tup) (pv 0) (pv 2) (fun _ _ => rfl)) (pe_ix (show IxR _ (rIxT K) from ix_tup) (pv 0) (pv 3) (fun _ _ => rfl))) (pv 1)) pa_nil)))) pa_nil)))), ?_⟩
    have ll : ((rowF m f).map V.int).length = m := by rw [List.length_map, rowF_len]
    refine ⟨_, rfl, p, _, rfl, .inr (SqT.of hp), ?_⟩
    rw [ll]
    obtain ⟨F, hF⟩ : ∃ F : Nat → Nat → Int, F = fun (i j : Nat) => ab ((f (i : Int) - f (j : Int)) / (m : Int)) := ⟨_, rfl⟩
    refine ⟨_, rfl, _, rfl, by omega, by omega, fun D hD => ?_⟩
    refine ⟨fun i k H' => i ≤ m ∧ k = m - i ∧ H' D = some (.lst ((fac F i 0).map V.int)) ∧ Ex H H', ⟨m, Nat.zero_le _, rfl, upd_same, Ex.new hD⟩, fun i k H' hW => ?_⟩
    obtain ⟨hi, rfl, a1, a2⟩ := hW
    by_cases hlt : i < m
    · refine .inr ⟨(show i < ((m : Int)).toNat by omega), fun H2 => H2 D = some (.lst ((fac F (i + 1) 0).map V.int)) ∧ Ex H H2, fun H2 z => ⟨m - (i + 1), by omega, by omega, rfl, z.1, z.2⟩, fun v H2 hy => ?_⟩
      obtain ⟨rfl, rfl⟩ := hy
      rw [show (0 : Int) + (i : Int) = ((i : Nat) : Int) by omega]
      refine ⟨rfl, ?_⟩
      dsimp only [tYes]
      rw [if_pos rfl]
      refine ⟨_, rfl, _, rfl, by omega, by omega, ?_⟩
      refine ⟨fun j k' H6 => j ≤ i ∧ k' = i - j ∧ H6 D = some (.lst ((fac F i j).map V.int)) ∧ Ex H H6, ⟨i, Nat.zero_le _, rfl, a1, a2⟩, fun j k' H6 hW1 => ?_⟩
      obtain ⟨hj, rfl, b1, b2⟩ := hW1
      by_cases hjl : j < i
      · refine .inr ⟨(show j < ((i : Int)).toNat by omega), fun H7 => H7 D = some (.lst ((fac F i (j + 1)).map V.int)) ∧ Ex H H7, fun H7 z => ⟨i - (j + 1), by omega, by omega, rfl, z.1, z.2⟩, fun v H7 hy => ?_⟩
        obtain ⟨rfl, rfl⟩ := hy
        rw [show (0 : Int) + (j : Int) = ((j : Nat) : Int) by omega]
        refine ⟨rfl, ?_⟩
        dsimp only [tYes]
        rw [if_pos rfl]
        have gb6 := b2 _ _ hp
        refine ⟨_, rfl, _, rfl, p, _, _, .int (f (i : Int)), rfl, rfl, SqT.of gb6, atI_nat (rowF_get hlt), _, rfl, _, rfl, p, _, _, .int (f (j : Int)), rfl, rfl, SqT.of gb6, atI_nat (rowF_get (by omega)), _, _, rfl, rfl, _, rfl, _, (m : Int), rfl, rfl, ⟨by omega, by omega⟩, _, rfl, _, b1, ?_, ?_, Ex.mut b2 hD⟩
        · rw [List.length_map]
          have := facLj F i j (by omega) (by omega)
          exact Nat.lt_of_le_of_lt (show _ ≤ 3700 by omega) (by decide)
        · rw [upd_same, facN, List.map_append, hF, ← ab_if]
          rfl
      · refine .inl ⟨(show ((i : Int)).toNat ≤ j by omega), ?_, b2⟩
        have : j = i := by omega
        subst this
        rw [← facS]
        exact b1
    · have hie : i = m := by omega
      subst hie
      refine .inl ⟨(show ((i : Int)).toNat ≤ i by omega), D, fac F i 0, rfl, SqL.of a1, ?_⟩
      rw [fac_sumL, hF]
      exact kQ _ a2
end
end K1

set_option exponentiation.threshold 400
namespace K1
open PySem PySem.Spec PyProof.Rows L2 Evl HM LX MP ZW
theorem row_snoc (m : Nat) (f : Int → Int) : (List.range (m + 1)).map (fun (i : Nat) => f (i : Int)) = (List.range m).map (fun (i : Nat) => f (i : Int)) ++ [f (m : Int)] := by
  rw [List.range_succ, List.map_append]
  rfl
section
variable {P : Program} {w : World} {K : PySem.W.Frag} {mg : Str → Option Value} {base : Heap}
def spIsRound (K : PySem.W.Frag) : Sp := fun vs H Q _ => ∃ (p : Addr) (m : Nat) (f : Int → Int), vs = [.ref p] ∧ RowAt H p m f ∧ (∀ i : Nat, i < m → -(10 ^ 60) < f (i : Int) ∧ f (i : Int) < 10 ^ 60) ∧ ((List.range m).map fun (i : Nat) => f (i : Int) % (m : Int)).Perm ((List.range m).map fun (i : Nat) => (i : Int)) ∧ ∀ H', Ex H H' → Q (.bl true) H'
theorem ok_is_round (T : Txt K mg) {f : Addr} {fd : FuncData} (D : DefAt K mg "is_round" sIsRound ["value"] f fd) : FnOk P w K mg base CX0 2 f fd ["value"] (spIsRound K) := by
  refine D.F.ok scIsRound (fun vs H Q E h => ?_) (fun cdv A outer s₀ H vs Q E hr h => ?_)
  · obtain ⟨p, m, f, rfl, _⟩ := h
    rfl
  · obtain ⟨p, m, f, rfl, ⟨hp, m1, m60⟩, fb, pm, kQ⟩ := h
    obtain ⟨f1, fd1, D1⟩ := T.d_is_integer
    obtain ⟨tMAX_ROUND, vMAX_ROUND⟩ := T.v_MAX_ROUND
    have hr1 : Room 1 _ := hr.mono (by decide)
    refine ⟨_, pss_cons (ps_if (PW.pt (pw_or (pt_not (pt_val (pe_callB call_isi (by rfl) T.z_isinstance (by decide +kernel) (pa_cons (pv 0) (pa_cons (pe_bltn (v := .ty "tuple") (by rfl) T.z_tuple (by decide +kernel) rfl) pa_nil)))))
          (pw_or1 (pt_not (pt_chain op_le op_le pe_int (pe_callB call_len_seq (by rfl) T.z_len PySem.boot_len (pa_cons (pv 0) pa_nil)) (pe_glob (v := .int 60) rfl vMAX_ROUND ⟨_, rfl⟩)))))) (pss_one (ps_ret pe_bl)) pss_nil)
      (pss_cons (ps_if (pt_not (pt_val (pe_callB (cr_all rfl) (by rfl) T.z_all (by decide +kernel) (pa_cons (pe_lc (own := [("number", 2)]) (g := gName 2) (tt := tYes) rfl scIsRound.nd (pi_tup (pv 0))
        (blkOk_by (N := nIsRound) (sc := defScope sIsRound) (by decide +kernel)) (fun _ _ _ _ _ => (pg_name (i := 2) scIsRound.nd rfl (.inl rfl))) (fun _ _ _ _ _ => pts_nil)
        (fun _ _ _ _ _ => (pe_call (ok_is_integer T D1) hr1 (by rfl) D1.g D1.F.kp D1.b .nil pass0 (pa_cons (pv 2) pa_nil)))) pa_nil)))) (pss_one (ps_ret pe_bl)) pss_nil)
      (pss_cons (ps_set (i := 1) scIsRound.nd rfl (.inr rfl) (pe_callB call_len_seq (by rfl) T.z_len PySem.boot_len (pa_cons (pv 0) pa_nil)))
      (pss_one (ps_ret (pe_cmpR (op_eqD hr.units) (pe_callB (cr_sortedI) (by rfl) T.z_sorted (by decide +kernel) (pa_cons (pe_lc (own := [("number", 2)]) (g := gName 2) (tt := tYes) rfl scIsRound.nd (pi_tup (pv 0))
        (blkOk_by (N := nIsRound) (sc := defScope sIsRound) (by decide +kernel)) (fun _ _ _ _ _ => (pg_name (i := 2) scIsRound.nd rfl (.inl rfl))) (fun _ _ _ _ _ => pts_nil)
        (fun _ _ _ _ _ => (pe_op op_mod (pv 2) (pv 1)))) pa_nil)) (pe_listRg rfl (by rfl) T.z_list (prg_1 (by rfl) T.z_range (pv 1))) (nomark _)))))), ?_⟩
    have ll : ((rowF m f).map V.int).length = m := by rw [List.length_map, rowF_len]
    refine ⟨_, rfl, .ref p, .ty "tuple", .type "tuple", .type "tuple", true, rfl, .ty _, .base (.tup hp), kit_ty (by decide +kernel), true, rfl, iteF ?_⟩
    refine ⟨_, rfl, p, _, rfl, .inr (SqT.of hp), _, _, rfl, rfl, _, rfl, ?_⟩
    rw [ll, decide_eq_true (show (1 : Int) ≤ (m : Int) by omega)]
    refine iteT ⟨_, _, rfl, rfl, _, rfl, ?_⟩
    rw [decide_eq_true (show (m : Int) ≤ 60 by omega)]
    refine iteF ?_
    refine ⟨_, rfl, p, rfl, ⟨_, SqT.of hp⟩, fun Dl hD => ?_⟩
    refine lc_tup (K := K) (a := p) (xs := (rowF m f).map V.int) (fun i H' => H' Dl = some (.lst ((List.replicate i true).map V.bl)) ∧ Ex H H') ⟨upd_same, Ex.new hD⟩ (fun i H' _ hp2 => SqT.of (hp2.2 _ _ hp)) (fun i x H' hx hp2 => ?_) (fun H1 hp2 => ?_)
    · obtain ⟨w1, w2⟩ := hp2
      have hi : i < m := by
        have := (List.getElem?_eq_some_iff.mp hx).1
        rw [ll] at this
        exact this
      rw [rowF_get hi] at hx
      obtain rfl := Option.some.inj hx
      obtain ⟨b1, b2⟩ := fb i hi
      have ib : IntB K H' (.int (f (i : Int))) true := by
        have := IntB.int (K := K) (H := H') (f (i : Int))
        rw [decide_eq_true b1, decide_eq_true b2] at this
        exact this
      refine ⟨rfl, ?_⟩
      dsimp only [tYes]
      rw [if_pos rfl]
      refine ⟨_, rfl, _, true, rfl, ib, fun H3 e3 => ⟨_, e3 _ _ w1, ?_, ?_, Ex.mut (w2.trans e3) hD⟩⟩
      · rw [List.length_map, List.length_replicate]
        exact small1000 (by omega)
      · rw [upd_same, List.replicate_succ', List.map_append]
        rfl
    obtain ⟨w1, w2⟩ := hp2
    rw [ll] at w1
    refine ⟨Dl, _, rfl, SqL.of w1, true, ?_, iteF ?_⟩
    · rw [List.all_eq_true.mpr (fun x hx => by rw [(List.mem_replicate.mp hx).2]; rfl)]
    have hp1 := w2 _ _ hp
    refine ⟨_, rfl, p, _, rfl, .inr (SqT.of hp1), ?_⟩
    rw [ll]
    refine ⟨_, rfl, p, rfl, ⟨_, SqT.of hp1⟩, fun D2 hD2 => ?_⟩
    refine lc_tup (K := K) (a := p) (xs := (rowF m f).map V.int) (fun i H' => H' D2 = some (.lst (((List.range i).map fun (x : Nat) => f (x : Int) % (m : Int)).map V.int)) ∧ Ex H1 H') ⟨upd_same, Ex.new hD2⟩ (fun i H' _ hp2 => SqT.of (hp2.2 _ _ hp1)) (fun i x H' hx hp2 => ?_) (fun H2 hp2 => ?_)
    · obtain ⟨v1, v2⟩ := hp2
      have hi : i < m := by
        have := (List.getElem?_eq_some_iff.mp hx).1
        rw [ll] at this
        exact this
      rw [rowF_get hi] at hx
      obtain rfl := Option.some.inj hx
      refine ⟨rfl, ?_⟩
      dsimp only [tYes]
      rw [if_pos rfl]
      refine ⟨_, rfl, _, rfl, _, _, rfl, rfl, (show (0 : Int) < m by omega), _, v1, ?_, ?_, Ex.mut v2 hD2⟩
      · rw [List.length_map, List.length_map, List.length_range]
        exact small1000 (by omega)
      · rw [upd_same, row_snoc (f := fun x => f x % (m : Int)), List.map_append]
        rfl
    obtain ⟨v1, v2⟩ := hp2
    rw [ll] at v1
    refine ⟨D2, _, rfl, SqL.of v1, fun ns q pns asc hq => ?_⟩
    have xq := Ex.new (o := .lst (ns.map V.int)) hq
    have nse : ns = (List.range m).map fun (i : Nat) => (i : Int) := sorted_eq (pns.trans pm) asc (List.pairwise_map.mpr (List.Pairwise.imp (fun {a b} h => by omega) List.pairwise_lt_range))
    have gq : (upd H2 q (.lst (ns.map V.int))) q = some (.lst (((List.range m).map fun (i : Nat) => (i : Int)).map V.int)) := by rw [upd_same, nse]
    refine ⟨_, rfl, (m : Int), rfl, RgOk.of_le (by omega) (by omega) (by omega) (by omega), fun g hg => ?_⟩
    have xg := Ex.new (o := .lst (rgV 0 (m : Int))) hg
    have eg : rgV 0 (m : Int) = ((List.range m).map fun (i : Nat) => (i : Int)).map V.int := by
      unfold rgV
      rw [show ((m : Int) - 0).toNat = m by omega, List.map_map]
      refine List.map_congr_left fun i _ => ?_
      show V.int (0 + (i : Int)) = V.int (i : Int)
      rw [Int.zero_add]
    have gg : (upd (upd H2 q (.lst (ns.map V.int))) g (.lst (rgV 0 (m : Int)))) g = some (.lst (((List.range m).map fun (i : Nat) => (i : Int)).map V.int)) := by rw [upd_same, eg]
    refine ⟨_, _, .lst (SqL.of (xg _ _ gq)) (dp_ints _), .lst (SqL.of gg) (dp_ints _), shaped_intsL _, shaped_intsL _, ?_⟩
    rw [eqv_intsL]
    exact kQ _ (((w2.trans v2).trans xq).trans xg)
end
end K1

/-! own rule: name = {k: v for ..}, keys ints or texts -/
namespace DI
open PySem PySem.Spec PyProof.Rows L2
theorem ps_setDcK {X : Cx} {i : Nat} {y : Str} {py : Pos} {kx vx tg iter : Expr} {ifs : List Expr} {scope : Scope} {own : List (Str × Nat)} {pos spos : Pos} {wi : TI} {g : TG} {tt : TT} {tk tv : TE} (hc : X.calm = true) (hN : X.N.Nodup) (hy : X.N[i]? = some y) (hyl : X.env.scope.names.lookup y = some .local)
    (hsw : swapsWith (.DictComp kx vx [⟨tg, iter, ifs, 0⟩] scope pos) (some (.Name y py)) spos.line X.env = pure true) (hi : PI X tg iter wi) (ok : BlkOk X.N X.env.scope scope own)
    (hg : ∀ (s : Shared) (H : Hp) (C : Addr) (cl : List (Str × Addr)) (fp : List Addr), PG (X.blk s H scope (compEnvC scope cl C X.env) fp) tg g) (ht : ∀ (s : Shared) (H : Hp) (C : Addr) (cl : List (Str × Addr)) (fp : List Addr), PTs (X.blk s H scope (compEnvC scope cl C X.env) fp) ifs tt)
    (hk : ∀ (s : Shared) (H : Hp) (C : Addr) (cl : List (Str × Addr)) (fp : List Addr), PE (X.blk s H scope (compEnvC scope cl C X.env) fp) kx tk)
    (he : ∀ (s : Shared) (H : Hp) (C : Addr) (cl : List (Str × Addr)) (fp : List Addr), PE (X.blk s H scope (compEnvC scope cl C X.env) fp) vx tv) (hs : ∀ x, foldedSetIterable iter X.env x = pure x := by intro _; rfl) :
    PS X (.Assign [.Name y py] (.DictComp kx vx [⟨tg, iter, ifs, 0⟩] scope pos) spos) (tAsg (tDc wi g tt tk tv (own.map (·.2))) (gName i)) := by
  refine ⟨fun pins s σ H D I h => ?_⟩
  rw [exec_Assign_Name_used _ _ _ _ hsw]
  refine wpAny_bind (wpAny_standAt (wpAny_bind ?_))
  show wpAny _ X.A (do let _ ← comprehension (.DictComp kx vx [⟨tg, iter, ifs, 0⟩] scope pos) scope X.env (firstIterPos [⟨tg, iter, ifs, 0⟩] pos) newDict false (eval iter X.env) (some (assign (.Name y py) X.env))) _ _ s
  have h : tDc wi g tt tk tv (own.map (·.2)) σ H (fun x H1 => gName i x σ H1 D.nx) := h
  refine wpAny_bind (thn (dc_core (Qf := fun _ s' => SP X pins D .next s') hc hN I hi ok hg ht hk he hs h fun L C s' m H' I' q hn f => ?_) fun _ s' hq => wpAny_pure (wpAny_pure hq))
  show wpAny _ _ (assign (.Name y py) X.env (.ref L)) _ _ _
  refine wpAny_assign_Name (store_ok2 (v := V.ref L) I' hN hy (.inl hyl) rfl (fun s2 I2 ⟨a, sb, ha⟩ => ?_) (.inr hyl))
  obtain ⟨f0, f1, f2, f3, f4, f5⟩ := f
  have haC : C ≠ a := by
    rcases ha with z | z
    · rw [z]; exact f1
    · exact fun e => f4 y a z e.symm
  refine ⟨m, hn.sameBut sb haC, fun h3 sb3 => ?_⟩
  exact ⟨_, H', I2.turned (t' := s2.toks) (fun b o hb e => (sb3.2 b hb).trans e) f0 f1 f3 f4 f5, q⟩
theorem swd_true {kx vx : Expr} {gs : List Comprehension} {scope : Scope} {pos py : Pos} {y : Str} {l : Nat} {env : Env} (hk : env.scope.kind = .function) (hy : env.scope.names.lookup y = some .local) (hl : (py.line == pos.line) = true)
    (ha : (scope.names.any fun (n, k) => n == y && (k == .local || k == .cell)) = false) : swapsWith (.DictComp kx vx gs scope pos) (some (.Name y py)) l env = pure true := by
  have ky : env.kindOf y = some .local := hy
  have hb : env.blockKind = .function := by unfold Env.blockKind; rw [hk]; rfl
  unfold swapsWith
  simp only [hb, ky, ha, Expr.pos, hl]
  rfl
end DI
namespace DI
open PySem PySem.Spec PyProof.Rows L2
theorem dcK_it {J : It} {n : Nat} {G : Hp → Prop} {Y : Nat → Hp → V → Hp → Prop} (w : Walk J n G Y) {g : TG} {tt : TT} {tk tv : TE} {vs : List Nat} {σ : L2.St} {H1 : Hp} {D : Addr} {Qd : Hp → Prop} (Pv : Nat → Hp → Prop) (h0 : Pv 0 (upd H1 D (.dK []))) (hG : ∀ i H, i ≤ n → Pv i H → G H)
    (hs : ∀ i x H H', i < n → Pv i H → Y i H x H' → g x (wipe σ vs) H' fun σ2 H2 => wipe σ2 vs = wipe σ vs ∧ tt σ2 H2 fun b H3 =>
      if b = true then tk σ2 H3 fun y H4 => tv σ2 H4 fun z H5 => ∃ kvs k, y = kV k ∧ H5 D = some (.dK kvs) ∧ kvs.length < sizeLine ∧ Pv (i + 1) (upd H5 D (.dK (putK kvs k z))) else Pv (i + 1) H3) (hd : ∀ H, Pv n H → Qd H) :
    ∃ W : Nat → Nat → Hp → Prop, (∃ m, W 0 m (upd H1 D (.dK []))) ∧ ∀ i m H, W i m H →
      (J.stop i H ∧ Qd H) ∨ (J.go i H ∧ ∃ Nx : Hp → Prop, (∀ H', Nx H' → ∃ m', m' < m ∧ W (i + 1) m' H') ∧ ∀ x H', J.yld i H x H' → g x (wipe σ vs) H' fun σ2 H2 => wipe σ2 vs = wipe σ vs ∧ tt σ2 H2 fun b H3 =>
        if b = true then tk σ2 H3 fun y H4 => tv σ2 H4 fun z H5 => ∃ kvs k, y = kV k ∧ H5 D = some (.dK kvs) ∧ kvs.length < sizeLine ∧ Nx (upd H5 D (.dK (putK kvs k z))) else Nx H3) := by
  refine ⟨fun i m H => m = n - i ∧ i ≤ n ∧ Pv i H, ⟨n, (Nat.sub_zero n).symm, Nat.zero_le _, h0⟩, ?_⟩
  rintro i m H ⟨rfl, hi, p⟩
  by_cases c : i < n
  · exact .inr ⟨w.goes i H c (hG i H hi p), Pv (i + 1), fun H' p' => ⟨n - (i + 1), by omega, rfl, c, p'⟩, fun x H' y => hs i x H H' c p (w.yields i H x H' c (hG i H hi p) y)⟩
  · have e : i = n := by omega
    subst e
    exact .inl ⟨w.stops H (hG i H hi p), hd H p⟩
end DI

set_option exponentiation.threshold 400
namespace K1
open PySem PySem.Spec PyProof.Rows L2 Evl HM LX MP ZW
theorem rest_at {m : Nat} (hm : 1 ≤ m) (i : Int) : ∃ r : Nat, (r : Int) = i % (m : Int) ∧ r < m := by
  have a := Int.emod_nonneg i (show (m : Int) ≠ 0 by omega)
  have b := Int.emod_lt_of_pos i (show (0 : Int) < m by omega)
  exact ⟨(i % (m : Int)).toNat, by omega, by omega⟩
theorem rest_val {m : Nat} {f : Int → Int} (pf : Per m f) (i : Int) : f (i % (m : Int)) + i - i % (m : Int) = f i := by
  have c := Int.mul_ediv_add_emod i m
  have e := per_q pf (i % (m : Int)) (i / (m : Int))
  rw [show i % (m : Int) + m * (i / (m : Int)) = i by omega] at e
  omega
theorem walk_enumT {K : PySem.W.Frag} {a : Addr} {xs : List V} : Walk (EnT.IteT K a) xs.length (fun H => SqT K H a xs) (YPair (fun i => some (.int (i : Nat))) (fun i => xs[i]?)) :=
  ⟨fun i _ hi q => ⟨xs, xs[i], q, by simp [hi]⟩, fun _ q => ⟨xs, q, rfl⟩, fun i H v H' _ q y => by
    obtain ⟨T, x, h1, h2, h3, h4⟩ := y
    exact ⟨T, .int (i : Nat), x, h1, h2, h3, rfl, h4 xs q⟩⟩
section
variable {P : Program} {w : World} {K : PySem.W.Frag} {mg : Str → Option Value} {base : Heap}
def spValueIn : Sp := fun vs H Q _ => ∃ (p : Addr) (m : Nat) (f : Int → Int) (i : Int), vs = [.ref p, .int i] ∧ RowAt H p m f ∧ Per m f ∧ ∀ H', Ex H H' → Q (.int (f i)) H'
theorem ok_value_in (T : Txt K mg) {f : Addr} {fd : FuncData} (D : DefAt K mg "value_in" sValueIn ["values", "i"] f fd) : FnOk P w K mg base CX0 1 f fd ["values", "i"] spValueIn := by
  refine D.F.ok scValueIn (fun vs H Q E h => ?_) (fun cdv A outer s₀ H vs Q E hr h => ?_)
  · obtain ⟨p, m, f, i, rfl, _⟩ := h
    rfl
  · obtain ⟨p, m, f, i, rfl, ⟨hp, m1, m60⟩, pf, kQ⟩ := h
    refine ⟨_, pss_cons (ps_set (i := 2) scValueIn.nd rfl (.inl rfl) (pe_op op_mod (pv 1) (pe_callB call_len_seq (by rfl) T.z_len PySem.boot_len (pa_cons (pv 0) pa_nil))))
      (pss_one (ps_ret (pe_op op_sub (pe_op op_add (pe_ix ix_tup (pv 0) (pv 2) (fun _ _ => rfl)) (pv 1)) (pv 2)))), ?_⟩
    have ll : ((rowF m f).map V.int).length = m := by rw [List.length_map, rowF_len]
    obtain ⟨r, hr', rm⟩ := rest_at m1 i
    refine ⟨_, rfl, _, rfl, p, _, rfl, .inr (SqT.of hp), ?_⟩
    rw [ll]
    refine ⟨_, _, rfl, rfl, (show (0 : Int) < m by omega), ?_⟩
    refine ⟨_, rfl, _, rfl, p, _, _, .int (f (r : Int)), rfl, rfl, SqT.of hp, at_of hr'.symm (rowF_get rm), _, rfl, _, _, rfl, rfl, _, rfl, _, _, rfl, rfl, ?_⟩
    have e := rest_val pf i
    rw [hr']
    show Q (V.int (f (i % (m : Int)) + i - i % (m : Int))) H
    rw [e]
    exact kQ _ (Ex.refl _)
def spCheckDigits : Sp := fun vs H Q _ => ∃ (l : Addr) (ns : List Int), vs = [.ref l] ∧ H l = some (.lst (ns.map V.int)) ∧ ns.length ≤ 60 ∧ (∀ z ∈ ns, -(10 ^ 60) < z ∧ z < 10 ^ 60) ∧ ∀ H', Ex H H' → Q .non H'
theorem ok_check_digits (T : Txt K mg) {f : Addr} {fd : FuncData} (D : DefAt K mg "check_digits" sCheckDigits ["numbers"] f fd) : FnOk P w K mg base CX0 2 f fd ["numbers"] spCheckDigits := by
  refine D.F.ok scCheckDigits (fun vs H Q E h => ?_) (fun cdv A outer s₀ H vs Q E hr h => ?_)
  · obtain ⟨l, ns, rfl, _⟩ := h
    rfl
  · obtain ⟨l, ns, rfl, hl, n60, nb, kQ⟩ := h
    obtain ⟨f1, fd1, D1⟩ := T.d_is_integer
    have hr1 : Room 1 _ := hr.mono (by decide)
    refine ⟨_, pss_one (ps_if (pt_not (pt_val (pe_callB (cr_all rfl) (by rfl) T.z_all (by decide +kernel) (pa_cons (pe_lc (own := [("number", 1)]) (g := gName 1) (tt := tYes) rfl scCheckDigits.nd (pi_list (pv 0))
        (blkOk_by (N := nCheckDigits) (sc := defScope sCheckDigits) (by decide +kernel)) (fun _ _ _ _ _ => (pg_name (i := 1) scCheckDigits.nd rfl (.inl rfl))) (fun _ _ _ _ _ => pts_nil)
        (fun _ _ _ _ _ => (pe_call (ok_is_integer T D1) hr1 (by rfl) D1.g D1.F.kp D1.b .nil pass0 (pa_cons (pv 1) pa_nil)))) pa_nil)))) pss_never pss_nil), ?_⟩
    refine ⟨_, rfl, l, rfl, ⟨_, SqL.of hl⟩, fun Dl hD => ?_⟩
    refine lc_list (K := K) (a := l) (xs := ns.map V.int) (fun i H' => H' Dl = some (.lst ((List.replicate i true).map V.bl)) ∧ Ex H H') ⟨upd_same, Ex.new hD⟩ (fun i H' _ hp2 => SqL.of (hp2.2 _ _ hl)) (fun i x H' hx hp2 => ?_) (fun H1 hp2 => ?_)
    · obtain ⟨w1, w2⟩ := hp2
      obtain ⟨z, hz, rfl⟩ : ∃ z, ns[i]? = some z ∧ V.int z = x := by
        rw [List.getElem?_map] at hx
        exact Option.map_eq_some_iff.mp hx
      have hi : i < ns.length := (List.getElem?_eq_some_iff.mp hz).1
      obtain ⟨b1, b2⟩ := nb z (List.mem_of_getElem? hz)
      have ib : IntB K H' (.int z) true := by
        have := IntB.int (K := K) (H := H') z
        rw [decide_eq_true b1, decide_eq_true b2] at this
        exact this
      refine ⟨rfl, ?_⟩
      dsimp only [tYes]
      rw [if_pos rfl]
      refine ⟨_, rfl, _, true, rfl, ib, fun H3 e3 => ⟨_, e3 _ _ w1, ?_, ?_, Ex.mut (w2.trans e3) hD⟩⟩
      · rw [List.length_map, List.length_replicate]
        exact small1000 (by omega)
      · rw [upd_same, List.replicate_succ', List.map_append]
        rfl
    obtain ⟨w1, w2⟩ := hp2
    refine ⟨Dl, _, rfl, SqL.of w1, true, ?_, iteF (kQ _ w2)⟩
    rw [List.all_eq_true.mpr (fun x hx => by rw [(List.mem_replicate.mp hx).2]; rfl)]
/-- the inverse, by rests -/
def spValuesBack : Sp := fun vs H Q _ => ∃ (p : Addr) (m : Nat) (f : Int → Int), vs = [.ref p] ∧ RowAt H p m f ∧ Per m f ∧ PermR m f ∧ ∀ (l : Addr) (ns : List Int) H', Ex H H' → H' l = some (.lst (ns.map V.int)) → ns.length = m → (∀ r : Nat, r < m → ∃ s : Nat, s < m ∧ f (s : Int) % (m : Int) = r ∧ ns.getD r 0 = (s : Int) + r - f (s : Int)) → Q (.ref l) H'
end
end K1

/-! inverse rows, exchanged rows; plain mathematics -/
namespace K1
open MP
/-- a row by rests is the inverse -/
structure InvOf (m : Nat) (f g : Int → Int) : Prop where
  per : Per m g
  perm : PermR m g
  back : ∀ x, f (g x) = x
theorem inv_of {m : Nat} (hm : 1 ≤ m) {f : Int → Int} (pf : Per m f) (p : PermR m f) {ns : List Int} (l : ns.length = m) (h : ∀ r : Nat, r < m → ∃ s : Nat, s < m ∧ f (s : Int) % (m : Int) = r ∧ ns.getD r 0 = (s : Int) + r - f (s : Int)) : InvOf m f (fOf ns) := by
  have m0 : (0 : Int) < m := by omega
  have pg : Per m (fOf ns) := by
    have := fOf_per ns
    rw [l] at this
    exact this
  have B := bij_of_perm hm pf p
  have back : ∀ x, f (fOf ns x) = x := fun x => by
    have a := Int.emod_nonneg x (show (m : Int) ≠ 0 by omega)
    have b := Int.emod_lt_of_pos x m0
    have c := Int.mul_ediv_add_emod x m
    obtain ⟨r, hr⟩ : ∃ r : Nat, (r : Int) = x % (m : Int) := ⟨(x % (m : Int)).toNat, by omega⟩
    obtain ⟨s, s1, s2, s3⟩ := h r (by omega)
    have d := Int.mul_ediv_add_emod (f (s : Int)) m
    have e : fOf ns x = (s : Int) + m * (x / (m : Int) - f (s : Int) / (m : Int)) := by
      have e1 := per_q pg (r : Int) (x / (m : Int))
      rw [show (r : Int) + m * (x / (m : Int)) = x by omega] at e1
      rw [e1, fOf_nat (by omega), s3, Int.mul_sub]
      omega
    rw [e, per_q pf, Int.mul_sub]
    omega
  refine ⟨pg, rests_of hm pg fun t => ⟨f t, B.inj (by rw [back]), fun j hj => by rw [← hj, back]⟩, back⟩
/-- neighbours exchanged -/
def exch (vs : List Int) (at_ : Nat) : List Int :=
  if at_ + 1 < vs.length then (vs.set at_ (vs.getD (at_ + 1) 0)).set (at_ + 1) (vs.getD at_ 0)
  else ((vs.set at_ (vs.getD 0 0 + vs.length)).set 0 (vs.getD at_ 0 - vs.length))
theorem exch_len (vs : List Int) (a : Nat) : (exch vs a).length = vs.length := by
  unfold exch
  split <;> simp
theorem getD_set2 {l : List Int} {i k : Nat} {v : Int} (hi : i < l.length) : (l.set i v).getD k 0 = if k = i then v else l.getD k 0 := by
  rw [List.getD_eq_getElem?_getD, List.getD_eq_getElem?_getD, List.getElem?_set]
  by_cases z : k = i
  · subst z
    rw [if_pos rfl, if_pos rfl, if_pos hi]
    rfl
  · rw [if_neg (fun y => z y.symm), if_neg z]
/-- the exchanged map: values of neighbours, places too -/
def Swp (m : Nat) (a i : Int) : Int := if (i - a) % (m : Int) = 0 then i + 1 else if (i - a - 1) % (m : Int) = 0 then i - 1 else i
theorem exch_fOf {vs : List Int} {a : Nat} (h2 : 2 ≤ vs.length) (ha : a < vs.length) (i : Nat) (hi : i < vs.length) : (exch vs a).getD i 0 = fOf vs (Swp vs.length a i) := by
  obtain ⟨m, hm⟩ : ∃ m, m = vs.length := ⟨_, rfl⟩
  rw [← hm] at h2 ha hi ⊢
  have pf : Per m (fOf vs) := by
    have := fOf_per vs
    rw [← hm] at this
    exact this
  have nat : ∀ j : Nat, j < m → fOf vs (j : Int) = vs.getD j 0 := fun j hj => fOf_nat (by omega)
  have zer : ∀ x : Int, -(m : Int) < x → x < m → (x % (m : Int) = 0 ↔ x = 0) := fun x h1 h2 => ⟨fun z => by
    obtain ⟨q, hq⟩ := Int.dvd_of_emod_eq_zero z
    rcases Int.lt_trichotomy q 0 with w | w | w
    · have := Int.mul_le_mul_of_nonneg_left (show q ≤ -1 by omega) (show (0 : Int) ≤ m by omega)
      omega
    · rw [w, Int.mul_zero] at hq
      exact hq
    · have := Int.mul_le_mul_of_nonneg_left (show 1 ≤ q by omega) (show (0 : Int) ≤ m by omega)
      omega, fun z => by rw [z]; rfl⟩
  unfold exch Swp
  by_cases c : a + 1 < m
  · rw [if_pos (by omega), getD_set2 (by rw [List.length_set]; omega), getD_set2 (by omega)]
    by_cases z : i = a
    · subst z
      rw [if_neg (by omega), if_pos rfl, if_pos ((zer _ (by omega) (by omega)).mpr (by omega)), show (i : Int) + 1 = ((i + 1 : Nat) : Int) by omega, nat _ (by omega)]
    · rw [if_neg (show ¬ ((i : Int) - a) % (m : Int) = 0 from fun y => z (by have := (zer _ (by omega) (by omega)).mp y; omega))]
      by_cases z2 : i = a + 1
      · subst z2
        rw [if_pos rfl, if_pos ((zer _ (by omega) (by omega)).mpr (by omega)), show ((a + 1 : Nat) : Int) - 1 = (a : Int) by omega, nat _ (by omega)]
      · rw [if_neg z2, if_neg z]
        by_cases z3 : ((i : Int) - a - 1) % (m : Int) = 0
        · exfalso
          by_cases z4 : (i : Int) - a - 1 = -(m : Int)
          · omega
          · have := (zer _ (by omega) (by omega)).mp z3
            omega
        · rw [if_neg z3, nat _ hi]
  · have am : a + 1 = m := by omega
    rw [if_neg (by omega), getD_set2 (by rw [List.length_set]; omega), getD_set2 (by omega), ← hm]
    by_cases z : i = 0
    · subst z
      rw [if_pos rfl, if_neg (show ¬ (((0 : Nat) : Int) - a) % (m : Int) = 0 from fun y => by have := (zer _ (by omega) (by omega)).mp y; omega), if_pos (by rw [show ((0 : Nat) : Int) - a - 1 = 0 + m * (-1) by omega, Int.add_mul_emod_self_left]; rfl)]
      have := pf (((0 : Nat) : Int) - 1)
      rw [show ((0 : Nat) : Int) - 1 + m = (a : Int) by omega, nat _ ha] at this
      omega
    · rw [if_neg z]
      by_cases z2 : i = a
      · subst z2
        rw [if_pos rfl, if_pos ((zer _ (by omega) (by omega)).mpr (by omega)), show (i : Int) + 1 = ((0 : Nat) : Int) + m by omega, pf, nat _ (by omega)]
      · rw [if_neg z2, if_neg (show ¬ ((i : Int) - a) % (m : Int) = 0 from fun y => z2 (by have := (zer _ (by omega) (by omega)).mp y; omega))]
        by_cases z3 : ((i : Int) - a - 1) % (m : Int) = 0
        · exfalso
          by_cases z4 : (i : Int) - a - 1 = -(m : Int)
          · omega
          · have := (zer _ (by omega) (by omega)).mp z3
            omega
        · rw [if_neg z3, nat _ hi]
end K1

/-! drawn round maps; plain mathematics -/
namespace K1
open MP
theorem swp_per {m : Nat} (a : Int) : Per m (Swp m a) := fun i => by
  unfold Swp
  rw [show i + (m : Int) - a = (i - a) + m by omega, show (i - a) + (m : Int) - 1 = (i - a - 1) + m by omega, Int.add_emod_right, Int.add_emod_right]
  split
  · omega
  · split <;> omega
theorem swp_near (m : Nat) (a i : Int) : i - 1 ≤ Swp m a i ∧ Swp m a i ≤ i + 1 := by
  unfold Swp
  split
  · omega
  · split <;> omega
theorem mod_one {m : Nat} (hm : 2 ≤ m) {x : Int} (h : x % (m : Int) = 0) : (x + 1) % (m : Int) ≠ 0 ∧ (x - 1) % (m : Int) ≠ 0 := by
  have k : ∀ y : Int, y % (m : Int) = 0 → (y + 1) % (m : Int) ≠ 0 := fun y hy z => by
    have := Int.emod_eq_emod_iff_emod_sub_eq_zero.mp (hy.trans z.symm)
    rw [show y - (y + 1) = -1 by omega] at this
    obtain ⟨q, hq⟩ := Int.dvd_of_emod_eq_zero this
    rcases Int.lt_trichotomy q 0 with w | w | w
    · have := Int.mul_le_mul_of_nonneg_left (show q ≤ -1 by omega) (show (0 : Int) ≤ m by omega)
      omega
    · rw [w, Int.mul_zero] at hq
      omega
    · have := Int.mul_le_mul_of_nonneg_left (show 1 ≤ q by omega) (show (0 : Int) ≤ m by omega)
      omega
  refine ⟨k x h, fun z => ?_⟩
  have := k (x - 1) z
  rw [show x - 1 + 1 = x by omega] at this
  exact this h
theorem swp_swp {m : Nat} (hm : 2 ≤ m) (a i : Int) : Swp m a (Swp m a i) = i := by
  by_cases z : (i - a) % (m : Int) = 0
  · have e : Swp m a i = i + 1 := by unfold Swp; rw [if_pos z]
    rw [e]
    unfold Swp
    have := (mod_one hm z).1
    rw [if_neg (by rw [show i + 1 - a = i - a + 1 by omega]; exact this), if_pos (by rw [show i + 1 - a - 1 = i - a by omega]; exact z)]
    omega
  · by_cases z2 : (i - a - 1) % (m : Int) = 0
    · have e : Swp m a i = i - 1 := by unfold Swp; rw [if_neg z, if_pos z2]
      rw [e]
      unfold Swp
      rw [if_pos (by rw [show i - 1 - a = i - a - 1 by omega]; exact z2)]
      omega
    · have e : Swp m a i = i := by unfold Swp; rw [if_neg z, if_neg z2]
      rw [e, e]
theorem exch_all {vs : List Int} {a : Nat} (h2 : 2 ≤ vs.length) (ha : a < vs.length) (i : Int) : fOf (exch vs a) i = fOf vs (Swp vs.length a i) := by
  have m0 : (0 : Int) < vs.length := by omega
  have x := Int.emod_nonneg i (show (vs.length : Int) ≠ 0 by omega)
  have b := Int.emod_lt_of_pos i m0
  have c := Int.mul_ediv_add_emod i vs.length
  obtain ⟨r, hr⟩ : ∃ r : Nat, (r : Int) = i % (vs.length : Int) := ⟨(i % (vs.length : Int)).toNat, by omega⟩
  have pe : Per vs.length (fOf (exch vs a)) := by
    have := fOf_per (exch vs a)
    rw [exch_len] at this
    exact this
  have ei : i = (r : Int) + vs.length * (i / (vs.length : Int)) := by omega
  rw [ei, per_q pe, per_q (swp_per (a : Int)), per_q (fOf_per vs), fOf_nat (by rw [exch_len]; omega), exch_fOf h2 ha r (by omega)]
structure Rnd (vs : List Int) (t k : Int) : Prop where
  perm : PermR vs.length (fOf vs)
  sh : shf vs.length (fOf vs) = t
  near : ∀ i, -k ≤ fOf vs i - i - t ∧ fOf vs i - i - t ≤ k
theorem rnd_exch {vs : List Int} {t k : Int} {a : Nat} (R : Rnd vs t k) (h2 : 2 ≤ vs.length) (ha : a < vs.length) : Rnd (exch vs a) t (k + 1) := by
  have pv := fOf_per vs
  have pe : Per vs.length (fOf (exch vs a)) := by
    have := fOf_per (exch vs a)
    rw [exch_len] at this
    exact this
  have B := bij_of_perm (show 1 ≤ vs.length by omega) pv R.perm
  have B2 : Bij (fOf (exch vs a)) := fun t => by
    obtain ⟨i, h1, h3⟩ := B t
    refine ⟨Swp vs.length a i, by rw [exch_all h2 ha, swp_swp h2, h1], fun j hj => ?_⟩
    rw [exch_all h2 ha] at hj
    rw [← h3 _ hj, swp_swp h2]
  have p2 := rests_of (show 1 ≤ vs.length by omega) pe B2
  have sums : (sumL (List.range vs.length) fun (r : Nat) => fOf (exch vs a) (r : Int)) = sumL (List.range vs.length) fun (r : Nat) => fOf vs (r : Int) := by
    obtain ⟨d, hd⟩ : ∃ d : Int → Int, d = fun i => if (i - a) % (vs.length : Int) = 0 then fOf vs (i + 1) - fOf vs i else 0 := ⟨_, rfl⟩
    have step : ∀ i : Int, fOf (exch vs a) i = fOf vs i + (d i - d (i - 1)) := fun i => by
      rw [exch_all h2 ha, hd]
      unfold Swp
      dsimp only
      rw [show i - 1 + 1 = i by omega, show i - 1 - (a : Int) = i - a - 1 by omega]
      by_cases z : (i - a) % (vs.length : Int) = 0
      · rw [if_pos z, if_pos z, if_neg (mod_one h2 z).2]
        omega
      · rw [if_neg z, if_neg z]
        by_cases z2 : (i - a - 1) % (vs.length : Int) = 0
        · rw [if_pos z2, if_pos z2]
          omega
        · rw [if_neg z2, if_neg z2]
          omega
    rw [show sumL (List.range vs.length) (fun (r : Nat) => fOf (exch vs a) (r : Int)) = sumL (List.range vs.length) (fun (r : Nat) => fOf vs (r : Int) + (d (r : Int) - d ((r : Int) - 1))) from sumL_congr fun r _ => step r, sumL_add, tele]
    have : d ((vs.length : Int) - 1) = d (-1) := by
      rw [hd]
      dsimp only
      have p1 := pv (-1)
      have p3 := pv (-1 + 1)
      rw [show (vs.length : Int) - 1 - a = (-1 - a) + vs.length by omega, Int.add_emod_right, show (vs.length : Int) - 1 + 1 = -1 + 1 + vs.length by omega, p3, show (vs.length : Int) - 1 = -1 + vs.length by omega, p1]
      split <;> omega
    omega
  have s1 := shf_sum R.perm
  have s2 := shf_sum p2
  refine ⟨by rw [exch_len]; exact p2, ?_, fun i => ?_⟩
  · rw [exch_len, ← R.sh]
    have e : (vs.length : Int) * shf vs.length (fOf (exch vs a)) = vs.length * shf vs.length (fOf vs) := by omega
    exact Int.eq_of_mul_eq_mul_left (by omega) e
  · rw [exch_all h2 ha]
    have := R.near (Swp vs.length a i)
    have := swp_near vs.length a i
    omega
theorem rnd_plain {m : Nat} (hm : 1 ≤ m) (t : Int) : Rnd ((List.range m).map fun (i : Nat) => (i : Int) + t) t 0 := by
  obtain ⟨vs, hv⟩ : ∃ vs, vs = (List.range m).map fun (i : Nat) => (i : Int) + t := ⟨_, rfl⟩
  have l : vs.length = m := by rw [hv, List.length_map, List.length_range]
  have f : ∀ i, fOf vs i = i + t := fun i => by
    have x := Int.emod_nonneg i (show (m : Int) ≠ 0 by omega)
    have b := Int.emod_lt_of_pos i (show (0 : Int) < m by omega)
    unfold fOf
    rw [l]
    have : vs.getD (i % (m : Int)).toNat 0 = i % (m : Int) + t := by
      rw [List.getD_eq_getElem?_getD, hv, List.getElem?_map, List.getElem?_range (by omega)]
      show (((i % (m : Int)).toNat : Nat) : Int) + t = _
      omega
    omega
  rw [← hv]
  have pv := fOf_per vs
  rw [l] at pv
  have p := rests_of hm pv fun u => ⟨u - t, by rw [f]; omega, fun j hj => by rw [f] at hj; omega⟩
  refine ⟨by rw [l]; exact p, ?_, fun i => by rw [f]; omega⟩
  rw [l]
  unfold shf
  rw [← floor_up hm t]
  exact sumL_congr fun r _ => by rw [f, Int.add_comm]
/-- great ones: each rest once -/
theorem great_perm {vs rs : List Int} {m : Nat} (l : vs.length = m) (hm : 1 ≤ m) (e : vs.map (fun x => x % (m : Int)) = rs) (p : rs.Perm ((List.range m).map fun (i : Nat) => (i : Int))) : PermR m (fOf vs) := by
  unfold PermR
  have : ((List.range m).map fun (i : Nat) => fOf vs (i : Int) % (m : Int)) = rs := by
    have a := row_fOf vs
    rw [l] at a
    rw [← e]
    conv => rhs; rw [← a]
    rw [List.map_map]
    rfl
  rw [this]
  exact p
end K1

/-! a round map seen on a round that is a multiple of its own -/
namespace K1
open MP
theorem sumL_block (g : Nat → Int) (m : Nat) : ∀ k : Nat, sumL (List.range (k * m)) g = sumL (List.range k) fun q => sumL (List.range m) fun r => g (r + m * q)
  | 0 => by
    rw [Nat.zero_mul]
    rfl
  | k + 1 => by
    rw [Nat.add_mul, Nat.one_mul, List.range_add, sumL_app, sumL_block g m k, List.range_succ, sumL_app, sumL_map]
    congr 1
    rw [sumL_cons, sumL_nil, Int.add_zero]
    refine sumL_congr fun r _ => ?_
    rw [Nat.add_comm, Nat.mul_comm]
/-- Hermite -/
theorem hermite {m k : Nat} (hm : 1 ≤ m) (hk : 1 ≤ k) (x : Int) : sumL (List.range k) (fun (q : Nat) => (x + (m : Int) * (q : Int)) / ((k * m : Nat) : Int)) = x / (m : Int) := by
  rw [← floor_up hk (x / (m : Int))]
  refine sumL_congr fun q _ => ?_
  rw [Int.natCast_mul, Int.mul_comm (k : Int), ← Int.ediv_ediv_of_nonneg (by omega), Int.add_mul_ediv_left _ _ (by omega)]
theorem per_wide {m : Nat} {f : Int → Int} (pf : Per m f) (k : Nat) : Per ((k * m : Nat) : Int) f := fun i => by
  rw [Int.natCast_mul, Int.mul_comm, per_mul pf]
theorem perm_wide {m k : Nat} (hm : 1 ≤ m) (hk : 1 ≤ k) {f : Int → Int} (pf : Per m f) (p : PermR m f) : PermR (k * m) f :=
  rests_of (Nat.mul_pos hk hm) (per_wide pf k) (bij_of_perm hm pf p)
theorem cast_at {m : Nat} {f : Int → Int} (pf : Per m f) (r q : Nat) : f ((r + m * q : Nat) : Int) = f (r : Int) + (m : Int) * (q : Int) := by
  rw [Int.natCast_add, Int.natCast_mul, per_mul pf]
theorem shf_wide {m k : Nat} (hm : 1 ≤ m) (hk : 1 ≤ k) {f : Int → Int} (pf : Per m f) : shf (k * m) f = shf m f := by
  unfold shf
  rw [sumL_block, sumL_swap]
  refine sumL_congr fun r _ => ?_
  rw [← hermite hm hk (f (r : Int))]
  refine sumL_congr fun q _ => ?_
  rw [cast_at pf]
theorem per_top {m : Nat} (hm : 1 ≤ m) {f : Int → Int} (pf : Per m f) : ∃ tot, 0 ≤ tot ∧ ∀ i, f i ≤ i + tot := by
  have fin : ∀ n : Nat, ∃ t : Int, 0 ≤ t ∧ ∀ r : Nat, r < n → f (r : Int) ≤ (r : Int) + t := by
    intro n
    induction n with
    | zero => exact ⟨0, by omega, fun r h => by omega⟩
    | succ n ih =>
      obtain ⟨t, t0, ht⟩ := ih
      refine ⟨max t (f (n : Int) - n), by omega, fun r h => ?_⟩
      rcases Nat.lt_succ_iff_lt_or_eq.mp h with h | rfl
      · have := ht r h
        omega
      · omega
  obtain ⟨t, t0, ht⟩ := fin m
  refine ⟨t, t0, fun i => ?_⟩
  have e := Int.emod_add_mul_ediv i m
  have r0 := Int.emod_nonneg i (show (m : Int) ≠ 0 by omega)
  have r1 := Int.emod_lt_of_pos i (show (0 : Int) < m by omega)
  have q := per_q pf (i % (m : Int)) (i / (m : Int))
  rw [e] at q
  have h := ht (i % (m : Int)).toNat (by omega)
  rw [Int.toNat_of_nonneg r0] at h
  omega
theorem cnt_wide {m k : Nat} (hm : 1 ≤ m) (hk : 1 ≤ k) {f : Int → Int} (pf : Per m f) (a b : Int) : cntR (k * m) f a b = cntR m f a b := by
  obtain ⟨tot, t0, fb⟩ := per_top hm pf
  have hM : 1 ≤ k * m := Nat.mul_pos hk hm
  refine (cnt_all hm pf (tot := tot + ((k * m : Nat) : Int)) (fun i => ?_) (b := b) (h := fun a => cntR (k * m) f a b) (fun a => cnt_step hM (per_wide pf k) a b) (fun a h => cnt_low hM fb (by omega)) a).symm
  have := fb i
  omega
theorem ab_sum {l : List Nat} {x y : Nat → Int} (h : (∀ i ∈ l, x i ≤ y i) ∨ ∀ i ∈ l, y i ≤ x i) : sumL l (fun i => ab (x i - y i)) = ab (sumL l x - sumL l y) := by
  have neg : ∀ f : Nat → Int, sumL l (fun i => -f i) = -sumL l f := fun f => by
    rw [show (fun i => -f i) = fun i => (-1) * f i from funext fun i => by omega, sumL_mul]
    omega
  have sub : ∀ f g : Nat → Int, sumL l (fun i => f i - g i) = sumL l f - sumL l g := fun f g => by
    rw [show (fun i => f i - g i) = fun i => f i + -g i from funext fun i => by omega, sumL_add, neg]
    omega
  rcases h with h | h
  · have e : sumL l (fun i => ab (x i - y i)) = sumL l fun i => y i - x i := sumL_congr fun i hi => by
      have := h i hi
      unfold ab
      omega
    have nn : 0 ≤ sumL l fun i => y i - x i := sumL_nn fun i hi => by have := h i hi; omega
    rw [e, sub] at *
    unfold ab
    omega
  · have e : sumL l (fun i => ab (x i - y i)) = sumL l fun i => x i - y i := sumL_congr fun i hi => by
      have := h i hi
      unfold ab
      omega
    have nn : 0 ≤ sumL l fun i => x i - y i := sumL_nn fun i hi => by have := h i hi; omega
    rw [e, sub] at *
    unfold ab
    omega
theorem row_wide {m k : Nat} (hm : 1 ≤ m) (hk : 1 ≤ k) {f : Int → Int} (pf : Per m f) (r s p : Nat) :
    sumL (List.range k) (fun q => ab (dd ((k * m : Nat) : Int) f ((r + m * p : Nat) : Int) ((s + m * q : Nat) : Int))) = ab (dd (m : Int) f (r : Int) (s : Int)) := by
  have hM : 0 < ((k * m : Nat) : Int) := by
    have := Nat.mul_pos hk hm
    omega
  unfold dd
  rw [ab_sum (x := fun q => (f ((s + m * q : Nat) : Int) - f ((r + m * p : Nat) : Int)) / ((k * m : Nat) : Int)) (y := fun q => (((s + m * q : Nat) : Int) - ((r + m * p : Nat) : Int)) / ((k * m : Nat) : Int)) ?_]
  · have e1 := hermite hm hk (f (s : Int) - f ((r + m * p : Nat) : Int))
    have e2 := hermite hm hk ((s : Int) - ((r + m * p : Nat) : Int))
    rw [show (fun (q : Nat) => (f ((s + m * q : Nat) : Int) - f ((r + m * p : Nat) : Int)) / ((k * m : Nat) : Int)) = fun (q : Nat) => (f (s : Int) - f ((r + m * p : Nat) : Int) + (m : Int) * (q : Int)) / ((k * m : Nat) : Int) from funext fun q => by rw [cast_at pf s q]; congr 1; omega, e1,
      show (fun (q : Nat) => (((s + m * q : Nat) : Int) - ((r + m * p : Nat) : Int)) / ((k * m : Nat) : Int)) = fun (q : Nat) => ((s : Int) - ((r + m * p : Nat) : Int) + (m : Int) * (q : Int)) / ((k * m : Nat) : Int) from funext fun q => by rw [Int.natCast_add s, Int.natCast_mul m q]; congr 1; omega, e2]
    rw [cast_at pf r p, Int.natCast_add r, Int.natCast_mul m p, show f (s : Int) - (f (r : Int) + (m : Int) * (p : Int)) = (f (s : Int) - f (r : Int)) + (m : Int) * (-(p : Int)) by rw [Int.mul_neg]; omega,
      show (s : Int) - ((r : Int) + (m : Int) * (p : Int)) = ((s : Int) - (r : Int)) + (m : Int) * (-(p : Int)) by rw [Int.mul_neg]; omega, Int.add_mul_ediv_left _ _ (by omega), Int.add_mul_ediv_left _ _ (by omega)]
    congr 1
    omega
  · have c : ∀ q : Nat, f ((s + m * q : Nat) : Int) = f (s : Int) + (m : Int) * (q : Int) := cast_at pf s
    have c2 : ∀ q : Nat, ((s + m * q : Nat) : Int) = (s : Int) + (m : Int) * (q : Int) := fun q => by rw [Int.natCast_add, Int.natCast_mul]
    rcases Int.le_total (f (s : Int) - f ((r + m * p : Nat) : Int)) ((s : Int) - ((r + m * p : Nat) : Int)) with h | h
    · exact .inl fun q _ => Int.ediv_le_ediv hM (by rw [c, c2]; omega)
    · exact .inr fun q _ => Int.ediv_le_ediv hM (by rw [c, c2]; omega)
theorem sqr_full {h : Nat → Nat → Int} (h0 : ∀ i, h i i = 0) (m : Nat) : sqr m h = sumL (List.range m) fun i => sumL (List.range m) fun j => h i j := by
  unfold sqr
  refine sumL_congr fun i _ => sumL_congr fun j _ => ?_
  by_cases e : i = j
  · rw [if_pos e, e, h0]
  · rw [if_neg e]
theorem dd_self (m : Int) (f : Int → Int) (i : Int) : ab (dd m f i i) = 0 := by
  unfold dd ab
  rw [Int.sub_self, Int.sub_self]
  omega
theorem falls_wide {m k : Nat} (hm : 1 ≤ m) (hk : 1 ≤ k) {f : Int → Int} (pf : Per m f) (p : PermR m f) : fallsR (k * m) f = k * fallsR m f := by
  have hM : 1 ≤ k * m := Nat.mul_pos hk hm
  have B := bij_inj (bij_of_perm hm pf p)
  have s1 := sq2_falls hm (inj_of pf B)
  have s2 := sq2_falls hM (inj_of (per_wide pf k) B)
  have e : sq2 (k * m) f = k * sq2 m f := by
    unfold sq2
    rw [sqr_full (fun i => dd_self _ _ _), sqr_full (fun i => dd_self _ _ _), sumL_block]
    rw [sumL_congr (g := fun (q : Nat) => sumL (List.range m) fun (r : Nat) => sumL (List.range m) fun (s : Nat) => ab (dd (m : Int) f (r : Int) (s : Int))) fun q _ => sumL_congr fun r _ => ?_]
    · rw [show (fun (q : Nat) => sumL (List.range m) fun (r : Nat) => sumL (List.range m) fun (s : Nat) => ab (dd (m : Int) f (r : Int) (s : Int))) = fun (_ : Nat) => (sumL (List.range m) fun (r : Nat) => sumL (List.range m) fun (s : Nat) => ab (dd (m : Int) f (r : Int) (s : Int))) * 1 from funext fun _ => (Int.mul_one _).symm, sumL_mul, sumL_one, List.length_range, Int.mul_comm]
    · rw [sumL_block, sumL_swap]
      exact sumL_congr fun s _ => row_wide hm hk pf r s q
  have : 2 * fallsR (k * m) f = 2 * (k * fallsR m f) := by
    rw [← s2, e, s1, Int.mul_left_comm]
  omega
/-- two periodic maps that agree on a common round agree everywhere -/
theorem eq_all {n : Nat} (hn : 1 ≤ n) {f g : Int → Int} (pf : Per n f) (pg : Per n g) (h : ∀ i : Nat, i < n → f (i : Int) = g (i : Int)) (x : Int) : f x = g x := by
  have e := Int.emod_add_mul_ediv x n
  have r0 := Int.emod_nonneg x (show (n : Int) ≠ 0 by omega)
  have r1 := Int.emod_lt_of_pos x (show (0 : Int) < n by omega)
  have q1 := per_q pf (x % (n : Int)) (x / (n : Int))
  have q2 := per_q pg (x % (n : Int)) (x / (n : Int))
  rw [e] at q1 q2
  have z := h (x % (n : Int)).toNat (by omega)
  rw [Int.toNat_of_nonneg r0] at z
  omega
theorem per_dvd {m n : Nat} {f : Int → Int} (pf : Per m f) (d : m ∣ n) : Per (n : Int) f := by
  obtain ⟨c, rfl⟩ := d
  rw [Nat.mul_comm]
  exact per_wide pf c
end K1

/-! own rules: ~x of an instance of an own class -/
namespace OW
open PySem PySem.Spec PyProof.Rows L2
section
variable {X : Cx} {CX : CXT} {n : Nat} {C g : Addr} {sp : Sp} {E : XK}
def rInvOwn (C : Addr) (sp : Sp) (E : XK) : V → Hp → VK → Prop := fun x H Q => ∃ a dx fs, x = .ref a ∧ H a = some (.ins C dx fs) ∧ sp [.ref a] H Q E
theorem un_invOwn (hs : PySem.W.findIn X.K (.ref C) "__invert__" = some (some (.ref g))) (hf : PySem.W.isFn X.K (.ref g) = true) (F : FnR X.prog X.w X.K X.mg X.base CX n g sp) (hr : Room n X.A) (hx : Passes CX X E) : UnR X (unaryOp .Invert) (rInvOwn C sp E) := by
  intro pins s σ H x v Q I rx h
  obtain ⟨a, dx, fs, rfl, ea, q⟩ := h
  obtain rfl : v = Value.ref a := rx
  obtain ⟨mA, O, _, _, _, _⟩ := ins_get I.hok ea
  obtain ⟨od, J, _⟩ := O.look
  obtain ⟨m, hF⟩ := I.fr
  exact PySem.W.ksp_inv hF I.ok.mod.kin J hs hf (wpAny_call (run_fnR (us := [.ref a]) (vs := [.ref a]) F hr hx I (.cons rfl .nil) q))
end
end OW

/-! own rules: ==, !=, binary operators and len of instances of own classes -/
namespace OW2
open PySem PySem.Spec PyProof.Rows L2
open Builtin
section
variable {M : Model} {prog : Program} {w : World} {A : Around} {E : Value → Shared → Prop} {s : Shared} {K : PySem.W.Frag} {x C f : Addr} {ox : Obj} {od : Option Obj}
theorem ifBound_objNe {args : List Value} {Q : Option Value → Shared → Prop} (X : K.In s.heap) (I : PySem.W.InstAt s.heap x ox C od) (hs : PySem.W.findIn K (.ref C) "__ne__" = some (some (.builtin "object.__ne__")))
    (h : wpAny M A (call (.builtin "object.__ne__") (.ref x :: args)) (fun v => Q (some v)) E s) : wpAny M A (callSpecialIfBound? (.ref x) "__ne__" args) Q E s := by
  simp only [callSpecialIfBound?, bindSpecialIfBound?]
  refine wpAny_holding (wpAny_bind (wpAny_bind (wpAny_bind (I.type.here ((PySem.W.looks_findIn X hs).here ?_)))))
  refine wpAny_bind (wpAny_askSetting (wpAny_ite ?_))
  have fin : wpAny M A (call (.builtin "object.__ne__") ([.ref x] ++ args) >>= fun v => pure (some v)) Q E s := wpAny_bind (wpAny_mono h (fun v s' h' => wpAny_pure h') fun _ _ h' => h')
  split
  · exact wpAny_bind (wpAny_of_eq (F.cmp_object.ne.bind _) (wpAny_pure (by exact fin)))
  · exact wpAny_tryCatch (wpAny_bind (wpAny_of_eq (F.cmp_object.ne.bind _) (wpAny_pure (by exact fin))))
theorem entry_ne {b : Value} {Q : Fin → Shared → Prop} (hu : A.units < cLine) (X : K.In s.heap) (I : PySem.W.InstAt s.heap x ox C od) (hs : PySem.W.findIn K (.ref C) "__eq__" = some (some (.ref f))) (hf : PySem.W.isFn K (.ref f) = true)
    (h : wpAny (model prog w) A (call (.ref f) [.ref x, b]) (fun v s' => ∃ r, v = .bool r ∧ Q (.done (.ret (.bool (!r)))) s') E s) : wpAny (model prog w) A (Builtin.«object.__ne__» ⟨[.ref x, b], []⟩) Q E s := by
  unfold Builtin.«object.__ne__»
  repeat (first
    | with_reducible refine wpAny_cRoomFor hu ?_
    | (refine wpAny_bind (m := callSpecialIfBound? (.ref x) (Str.ofString "__eq__") [b])
        (PySem.W.ifBound_K X I hs hf (wpAny_mono h (fun r s' hr => by
          obtain ⟨b, rfl, hq⟩ := hr
          repeat (first | exact hq | exact wpAny_pure hq | exact wpAny_truthy_bool hq | (refine wpAny_bind (m := truthy (.bool _)) (wpAny_truthy_bool ?_)) | wp_step)) fun _ _ e => e)))
    | wp_step)
theorem try_ne {b : Value} {Q : Option Value → Shared → Prop} (hu : A.units + 1 < cLine) (X : K.In s.heap) (I : PySem.W.InstAt s.heap x ox C od) (hn : PySem.W.findIn K (.ref C) "__ne__" = some (some (.builtin "object.__ne__"))) (hm : PySem.W.mroIn K C (.type "object") = some true)
    (hs : PySem.W.findIn K (.ref C) "__eq__" = some (some (.ref f))) (hf : PySem.W.isFn K (.ref f) = true)
    (h : wpAny (model prog w) A.in1 (call (.ref f) [.ref x, b]) (fun v s' => ∃ r, v = .bool r ∧ Q (some (.bool (!r))) s') E s) : wpAny (model prog w) A (tryCompare (.ref x) "__ne__" b) Q E s := by
  unfold tryCompare
  refine wpAny_bind (ifBound_objNe X I hn (wpAny_call (codeAny_call_builtin F.cmp_object.ne.plain F.cmpEntry_ne (PySem.W.check_slot F.cmpKind_ne F.cmpSplit_ne (I.type.andThen (PySem.W.looks_mroIn X hm)) (F.cmpArgs_ne _ _)
    (entry_ne (A := A.in1) hu X I hs hf (wpAny_mono h (fun v s' hv => ?_) fun _ _ e => e))))))
  obtain ⟨b, rfl, hq⟩ := hv
  first | exact ⟨b, rfl, wpAny_pure hq⟩ | exact ⟨b, rfl, wpAny_pure (wpAny_pure hq)⟩ | exact ⟨b, rfl, hq⟩
theorem ne_K {b tb : Value} {Q : Value → Shared → Prop} (hu : A.units + 1 < cLine) (X : K.In s.heap) (I : PySem.W.InstAt s.heap x ox C od) (hb : PySem.W.Looks (model prog w) s.heap (typeOf b) tb) (hnf : PySem.W.notFirst K C tb = true)
    (hn : PySem.W.findIn K (.ref C) "__ne__" = some (some (.builtin "object.__ne__"))) (hm : PySem.W.mroIn K C (.type "object") = some true) (hs : PySem.W.findIn K (.ref C) "__eq__" = some (some (.ref f))) (hf : PySem.W.isFn K (.ref f) = true)
    (h : wpAny (model prog w) A.in1 (call (.ref f) [.ref x, b]) (fun v s' => ∃ r, v = .bool r ∧ Q (.bool (!r)) s') E s) : wpAny (model prog w) A (richCompare .NotEq (.ref x) b) Q E s := by
  have one : wpAny (model prog w) A (tryCompare (.ref x) "__ne__" b) (fun r s' => ∃ q, r = some (.bool (!q)) ∧ Q (.bool (!q)) s') E s :=
    try_ne hu X I hn hm hs hf (wpAny_mono h (fun v s' hv => by obtain ⟨r, rfl, q⟩ := hv; exact ⟨r, rfl, r, rfl, q⟩) fun _ _ e => e)
  unfold richCompare
  simp only [oneThing_ref]
  refine wpAny_holding (wpAny_bind (wpAny_cRoomFor (Nat.lt_of_succ_lt hu) ?_))
  rw [cmpInfo_NotEq]
  dsimp only
  refine wpAny_bind (I.type.here (wpAny_bind (hb.here ?_)))
  split
  · rename_i q
    have e : PySem.W.subIn K tb (.ref C) = some false := by
      rcases Bool.or_eq_true_iff.mp hnf with e | e
      · rw [beq_iff_eq.mp e] at q; simp at q
      · exact beq_iff_eq.mp e
    refine wpAny_bind ((PySem.W.looks_subIn X e).here ?_)
    simp only [Bool.false_eq_true, if_false]
    refine wpAny_bind (wpAny_mono one (fun r s' z => ?_) fun _ _ e => e)
    obtain ⟨v, rfl, hq⟩ := z
    exact wpAny_pure hq
  · refine wpAny_bind (wpAny_pure ?_)
    simp only [Bool.false_eq_true, if_false]
    refine wpAny_bind (wpAny_mono one (fun r s' z => ?_) fun _ _ e => e)
    obtain ⟨v, rfl, hq⟩ := z
    exact wpAny_pure hq
end
section
variable {X : Cx} {CX : CXT} {n : Nat} {C g : Addr} {sp : Sp} {E : XK}
/-- x == y, x an instance of the class at C, y of any kind that isinstance knows -/
def rEqOwn (K : PySem.W.Frag) (C : Addr) (sp : Sp) (E : XK) : R2 := fun x y H Q => ∃ a dx fs t, x = .ref a ∧ H a = some (.ins C dx fs) ∧ TyX K H y t ∧ PySem.W.notFirst K C t = true ∧ sp [.ref a, y] H Q E
theorem op_eqOwn (hs : PySem.W.findIn X.K (.ref C) "__eq__" = some (some (.ref g))) (hf : PySem.W.isFn X.K (.ref g) = true) (F : FnR X.prog X.w X.K X.mg X.base CX n g sp) (hr : Room n X.A) (hx : Passes CX X E) : OpR X (compareOp .Eq) (rEqOwn X.K C sp E) := by
  intro pins s σ H x y v u Q I rx ry h
  obtain ⟨a, dx, fs, t, rfl, ea, ty, hn, q⟩ := h
  obtain rfl : v = Value.ref a := rx
  obtain ⟨mA, O, _, _, _, _⟩ := ins_get I.hok ea
  obtain ⟨od, J, _⟩ := O.look
  obtain ⟨m, hF⟩ := I.fr
  obtain ⟨P, kx, hP, _⟩ := kit_of I ry ty
  show wpAny _ _ (richCompare .Eq (.ref a) u) _ _ _
  refine PySem.W.cmp_K (op := .Eq) (tb := t) hr.units0 hF I.ok.mod.kin J (kx.ty _ _ I.kIn hP) hn hs hf ?_
  refine wpAny_mono (wpAny_call (run_fnR (us := [.ref a, u]) (vs := [.ref a, y]) F hr hx I (.cons rfl (.cons ry .nil)) q)) (fun w s' z => ?_) fun _ _ x => x
  obtain ⟨z', H', I', rz, qz⟩ := z
  exact SlX.cmpback rz ⟨z', H', I', rz, qz⟩
/-- x != y, where the class has an == of its own and no != -/
def rNeOwn (K : PySem.W.Frag) (C : Addr) (sp : Sp) (E : XK) : R2 := fun x y H Q => ∃ a dx fs t, x = .ref a ∧ H a = some (.ins C dx fs) ∧ TyX K H y t ∧ PySem.W.notFirst K C t = true ∧ sp [.ref a, y] H (fun z H' => ∃ b, z = .bl b ∧ Q (.bl (!b)) H') E
theorem op_neOwn (hne : PySem.W.findIn X.K (.ref C) "__ne__" = some (some (.builtin "object.__ne__"))) (hm : PySem.W.mroIn X.K C (.type "object") = some true) (hs : PySem.W.findIn X.K (.ref C) "__eq__" = some (some (.ref g))) (hf : PySem.W.isFn X.K (.ref g) = true)
    (F : FnR X.prog X.w X.K X.mg X.base CX n g sp) (hr : Room (n + 1) X.A) (hx : Passes CX X E) : OpR X (compareOp .NotEq) (rNeOwn X.K C sp E) := by
  intro pins s σ H x y v u Q I rx ry h
  obtain ⟨a, dx, fs, t, rfl, ea, ty, hn, q⟩ := h
  obtain rfl : v = Value.ref a := rx
  obtain ⟨mA, O, _, _, _, _⟩ := ins_get I.hok ea
  obtain ⟨od, J, _⟩ := O.look
  obtain ⟨P, kx, hP, _⟩ := kit_of I ry ty
  show wpAny _ _ (richCompare .NotEq (.ref a) u) _ _ _
  have hu : X.A.units + 1 < cLine := hr.in1.units0
  refine ne_K hu I.kIn J (kx.ty _ _ I.kIn hP) hn hne hm hs hf ?_
  refine wpAny_mono (wpAny_call (SlX.run_at (us := [.ref a, u]) (ws := [.ref a, y]) F hr.in1 I.env0.in1 hx I (.cons rfl (.cons ry .nil)) q)) (fun w s' z => ?_) fun _ _ x => x
  obtain ⟨z', H', I', rz, b, ez, qz⟩ := z
  subst ez
  cases (show w = Value.bool b from rz)
  exact ⟨b, rfl, .bl (!b), H', I', rfl, qz⟩
/-- x op y of two instances of the class at C -/
def rBinOwn (C : Addr) (sp : Sp) (E : XK) : R2 := fun x y H Q => ∃ a dx fs b dy gs, x = .ref a ∧ y = .ref b ∧ H a = some (.ins C dx fs) ∧ H b = some (.ins C dy gs) ∧ sp [.ref a, .ref b] H Q E
theorem op_binOwn {op : Operator} (hc : PySem.W.selfFirst X.K C = true) (hs : PySem.W.findIn X.K (.ref C) (PySem.dunder op.info.2) = some (some (.ref g))) (hf : PySem.W.isFn X.K (.ref g) = true) (F : FnR X.prog X.w X.K X.mg X.base CX n g sp) (hr : Room n X.A) (hx : Passes CX X E) :
    OpR X (binaryOp op) (rBinOwn C sp E) := by
  intro pins s σ H x y v u Q I rx ry h
  obtain ⟨a, dx, fs, b, dy, gs, rfl, rfl, ea, eb, q⟩ := h
  obtain rfl : v = Value.ref a := rx
  obtain rfl : u = Value.ref b := ry
  obtain ⟨mA, O, _, _, _, _⟩ := ins_get I.hok ea
  obtain ⟨od, J, _⟩ := O.look
  obtain ⟨mB, O', _, _, _, _⟩ := ins_get I.hok eb
  obtain ⟨od', J', _⟩ := O'.look
  obtain ⟨m, hF⟩ := I.fr
  refine PySem.W.binop_K hF I.ok.mod.kin J J'.type hc hs hf ?_
  refine wpAny_mono (wpAny_call (run_fnR (us := [.ref a, .ref b]) (vs := [.ref a, .ref b]) F hr hx I (.cons rfl (.cons rfl .nil)) q)) (fun w s' z => ?_) fun _ _ x => x
  obtain ⟨z', H', I', rz, qz⟩ := z
  exact SlX.cmpback rz ⟨z', H', I', rz, qz⟩
/-- len(x) -/
def rLenOwn (C : Addr) (sp : Sp) (E : XK) : List V → Hp → VK → Prop := fun xs H Q => ∃ a dx fs, xs = [V.ref a] ∧ H a = some (.ins C dx fs) ∧ sp [.ref a] H (fun z H' => ∃ k : Int, z = .int k ∧ 0 ≤ k ∧ k < 2 ^ 63 ∧ Q (.int k) H') E
theorem call_lenOwn (hs : PySem.W.findIn X.K (.ref C) "__len__" = some (some (.ref g))) (hf : PySem.W.isFn X.K (.ref g) = true) (F : FnR X.prog X.w X.K X.mg X.base CX n g sp) (hr : Room (n + 1) X.A) (hx : Passes CX X E) : CallR X (.builtin "len") (rLenOwn C sp E) := by
  intro pins s σ H xs us Q I r h
  obtain ⟨a, dx, fs, rfl, ea, q⟩ := h
  obtain ⟨u, rfl, ru⟩ := r.one
  cases (show u = Value.ref a from ru)
  obtain ⟨mA, O, _, _, _, _⟩ := ins_get I.hok ea
  obtain ⟨od, J, _⟩ := O.look
  obtain ⟨m, hF⟩ := I.fr
  refine PySem.W.len_K hF I.ok.mod.kin J hs hf (wpAny_mono (wpAny_call (SlX.run_at (us := [.ref a]) (ws := [.ref a]) F hr.in1 I.env0.in1 hx I (.cons rfl .nil) q)) (fun w s' z => ?_) fun _ _ x => x)
  obtain ⟨z', H', I', rz, k, ez, h0, h1, qz⟩ := z
  subst ez
  obtain ⟨t, e⟩ := (show ∃ t, w = Value.int k t from rz)
  cases e
  exact ⟨⟨h0, h1⟩, .int k, H', I'.tok _, ⟨_, rfl⟩, qz⟩
end
end OW2

/-! math.lcm of two small ints; a range object, kept under a name, walked -/
namespace RL
open PySem PySem.Spec PyProof.Rows L2
section
variable {X : Cx}
def rLcm : List V → Hp → VK → Prop := fun vs H Q => ∃ a b : Nat, vs = [.int (a : Int), .int (b : Int)] ∧ 1 ≤ a ∧ a ≤ 1000 ∧ 1 ≤ b ∧ b ≤ 1000 ∧ Q (.int ((Nat.lcm a b : Nat) : Int)) H
theorem cr_lcm : CallR X (.builtin "math.lcm") rLcm := by
  intro pins s σ H vs us Q I r h
  obtain ⟨a, b, rfl, a1, a2, b1, b2, q⟩ := h
  obtain ⟨t, u, rfl⟩ := Vals.int2 r
  have l1 : Nat.lcm a b ≤ 1000000 := Nat.le_trans (Nat.le_of_dvd (Nat.mul_pos a1 b1) (Nat.lcm_dvd_mul a b)) (Nat.mul_le_mul a2 b2)
  refine PySem.W.mg_lcm_v (c := ((Nat.lcm a b : Nat) : Int)) (by show a < _; omega) (by show b < _; omega) (by show (((Nat.lcm 1 a).lcm b : Nat) : Int) = _; rw [Nat.lcm_one_left]) ?_ ⟨.int _, H, I.tok _, ⟨_, rfl⟩, q⟩
  show (Nat.lcm a b).log2 < bitsLine
  have h63 : (Nat.lcm a b).log2 ≤ 63 := PySem.W.mg_log (show Nat.lcm a b < 2 ^ 64 by omega)
  exact Nat.lt_of_le_of_lt h63 (by decide)
def iRngV (tl : TE) : TI := fun σ H R => tl σ H fun x H1 => ∃ a lo hi, x = .ref a ∧ H1 a = some (.rng lo hi) ∧ (-(2 ^ 62) ≤ lo ∧ lo < 2 ^ 62 ∧ -(2 ^ 62) ≤ hi ∧ hi < 2 ^ 62) ∧ R (Itr lo (hi - lo).toNat) H1
theorem pi_rngV {tg l : Expr} {tl : TE} (hl : PE X l tl) : PI X tg l (iRngV tl) := by
  refine ⟨fun pins s σ H R I h => ?_⟩
  refine thn (hl.run pins s σ H _ I h) fun v s1 ⟨x, H1, I1, r1, q1⟩ => ?_
  obtain ⟨a, lo, hi, e, ea, ⟨h1, h2, h3, h4⟩, q⟩ := q1
  subst e
  cases r1
  obtain ⟨t, u, v, eo⟩ := (show ObjOk X.prog X.w H1 s1.heap a (.rng lo hi) from I1.hok a _ ea)
  refine wpAny_pyIter_range eo (small_one h1 h2 h3 h4) ?_
  refine ⟨s1.heap.objs.size, [s1.heap.objs.size], _, _, H1, rfl, I1.kept (t' := s1.toks) fun b o e => Heap.get?_push_of_some _ e, turn_range _ lo (hi - lo).toNat, ?_, fun b hb => ?_, q⟩
  · have e1 : lo + ((0 : Nat) : Int) * 1 = lo := by simp
    have e2 : (((hi - lo).toNat : Nat) : Int) - ((0 : Nat) : Int) = Builtin.Range.rangeSize lo hi 1 := by rw [rangeSize_one]; split <;> omega
    show IsRangeIter _ _ (lo + ((0 : Nat) : Int) * 1) ((((hi - lo).toNat : Nat) : Int) - ((0 : Nat) : Int)) 1
    rw [e1, e2]
    exact Heap.get?_push_size _ rfl
  · have e : b = s1.heap.objs.size := by simpa using hb
    subst e
    exact I1.fpOk (Nat.le_refl _) (I1.hok.fresh (Nat.le_refl _))
end
end RL

set_option exponentiation.threshold 400
namespace K1
open PySem PySem.Spec PyProof.Rows L2 Evl HM LX MP ZW
abbrev sRInit : Stmt := inClass (topS 21) 0
abbrev sRTold : Stmt := inClass (topS 21) 1
abbrev sRShift : Stmt := inClass (topS 21) 2
abbrev sRFalls : Stmt := inClass (topS 21) 3
abbrev sRLen : Stmt := inClass (topS 21) 7
abbrev sRInvert : Stmt := inClass (topS 21) 11
abbrev nRInit : List Str := ["self", "values"]
abbrev nRSelf : List Str := ["self"]
theorem scRInit : FnScope nRInit ["self", "values"] (defScope sRInit) := ⟨rfl, rfl, rfl, by decide +kernel, rfl, by decide +kernel, by decide +kernel⟩
theorem scRTold : FnScope nRSelf ["self"] (defScope sRTold) := ⟨rfl, rfl, rfl, by decide +kernel, rfl, by decide +kernel, by decide +kernel⟩
theorem scRShift : FnScope nRSelf ["self"] (defScope sRShift) := ⟨rfl, rfl, rfl, by decide +kernel, rfl, by decide +kernel, by decide +kernel⟩
theorem scRFalls : FnScope nRSelf ["self"] (defScope sRFalls) := ⟨rfl, rfl, rfl, by decide +kernel, rfl, by decide +kernel, by decide +kernel⟩
theorem scRLen : FnScope nRSelf ["self"] (defScope sRLen) := ⟨rfl, rfl, rfl, by decide +kernel, rfl, by decide +kernel, by decide +kernel⟩
theorem scRInvert : FnScope nRSelf ["self"] (defScope sRInvert) := ⟨rfl, rfl, rfl, by decide +kernel, rfl, by decide +kernel, by decide +kernel⟩
/-! the data of a round map: its row and what was counted once -/
theorem vf_ : ¬ (("_values" : Str) = "_falls") := by decide +kernel
def rf (p : Addr) (v : V) : List (Str × V) := putF "_falls" v (putF "_values" (.ref p) [])
theorem rf_values (p : Addr) (v : V) : (rf p v).lookup ("_values" : Str) = some (.ref p) := by
  unfold rf
  rw [lookup_putF, if_neg vf_, lookup_putF, if_pos rfl]
theorem rf_falls (p : Addr) (v : V) : (rf p v).lookup ("_falls" : Str) = some v := by
  unfold rf
  rw [lookup_putF, if_pos rfl]
theorem rf_no (p : Addr) (v : V) {m : Str} (h1 : ¬ m = "_falls") (h2 : ¬ m = "_values") : (rf p v).lookup m = none := by
  unfold rf
  rw [lookup_putF, if_neg h1, lookup_putF, if_neg h2]
  all_goals rfl
theorem rf_eq (p : Addr) (v : V) : rf p v = ([("_values", V.ref p), ("_falls", v)] : List (Str × V)) := by
  show (if ("_values" : Str) = "_falls" then [(("_values" : Str), v)] else (("_values" : Str), V.ref p) :: putF "_falls" v []) = ([("_values", V.ref p), ("_falls", v)] : List (Str × V))
  rw [if_neg vf_]
  all_goals rfl
theorem rf_put (p : Addr) (v u : V) : putF "_falls" u (rf p v) = rf p u := by
  rw [rf_eq, rf_eq]
  show (if ("_values" : Str) = "_falls" then _ else (("_values" : Str), V.ref p) :: (if ("_falls" : Str) = "_falls" then [(("_falls" : Str), u)] else _)) = ([("_values", V.ref p), ("_falls", u)] : List (Str × V))
  rw [if_neg vf_, if_pos rfl]
/-- the rest of what the class leaves: its own ==, no own !=, what isinstance says -/
structure XTxt (K : PySem.W.Frag) (C : Addr) : Prop where
  sf : PySem.W.selfFirst K C = true
  ne : PySem.W.findIn K (.ref C) "__ne__" = some (some (.builtin "object.__ne__"))
  ca : PySem.W.findIn K (.ref C) "__class__" = some (some (.builtin "object.__class__"))
  cn : PySem.W.specialIn K (.builtin "object.__class__") "__get__" = some (some (.builtin "getset_descriptor.__get__"))
  ct : PySem.W.takesIn K (.builtin "object.__class__") = some true
  cm : PySem.W.mroIn K C (.type "object") = some true
  kN : PySem.W.kitOne K (.type "NoneType") (.ref C) = some false
  kI : PySem.W.kitOne K (.type "int") (.ref C) = some false
  kS : PySem.W.kitOne K (.type "str") (.ref C) = some false
  kL : PySem.W.kitOne K (.type "list") (.ref C) = some false
  kT : PySem.W.kitOne K (.type "tuple") (.ref C) = some false
  nN : PySem.W.notFirst K C (.type "NoneType") = true
  nI : PySem.W.notFirst K C (.type "int") = true
  nS : PySem.W.notFirst K C (.type "str") = true
  nL : PySem.W.notFirst K C (.type "list") = true
  nT : PySem.W.notFirst K C (.type "tuple") = true
/-- what the class leaves -/
structure RTxt (K : PySem.W.Frag) (mg : Str → Option Value) (C : Addr) : Prop where
  cl : Cls K C
  nV : NoAttr K C "_values"
  nF : NoAttr K C "_falls"
  mgC : mg "Round" = some (.ref C)
  init : ∃ f fd, Mk K C f ∧ Fun K "__init__" "Round.__init__" sRInit f fd ∧ Binds K fd ["self", "values"] []
  told : ∃ p f fd, PropOf K C "told_values" p f ∧ Fun K "told_values" "Round.told_values" sRTold f fd ∧ Binds K fd ["self"] []
  shift : ∃ p f fd, PropOf K C "shift" p f ∧ Fun K "shift" "Round.shift" sRShift f fd ∧ Binds K fd ["self"] []
  falls : ∃ p f fd, PropOf K C "falls" p f ∧ Fun K "falls" "Round.falls" sRFalls f fd ∧ Binds K fd ["self"] []
  len : ∃ f fd, Meth K C "__len__" f ∧ Fun K "__len__" "Round.__len__" sRLen f fd ∧ Binds K fd ["self"] []
  x : XTxt K C
section
variable {P : Program} {w : World} {K : PySem.W.Frag} {mg : Str → Option Value} {base : Heap} {C : Addr}
def spRInit (C : Addr) : Sp := fun vs H Q _ => ∃ (x dx p : Addr) (m : Nat) (f : Int → Int), vs = [.ref x, .ref p] ∧ H x = some (.ins C dx []) ∧ RowAt H p m f ∧ (∀ i : Nat, i < m → -(10 ^ 60) < f (i : Int) ∧ f (i : Int) < 10 ^ 60) ∧ ((List.range m).map fun (i : Nat) => f (i : Int) % (m : Int)).Perm ((List.range m).map fun (i : Nat) => (i : Int)) ∧ ∀ H', Keep x H H' → H' x = some (.ins C dx (rf p .non)) → Q .non H'
theorem ok_rinit (T : Txt K mg) (R : RTxt K mg C) {f : Addr} {fd : FuncData} (F : Fun K "__init__" "Round.__init__" sRInit f fd) : FnOk P w K mg base CX0 3 f fd ["self", "values"] (spRInit C) := by
  refine F.ok scRInit (fun vs H Q E h => ?_) (fun cdv A outer s₀ H vs Q E hr h => ?_)
  · obtain ⟨x, dx, p, m, f, rfl, _⟩ := h
    rfl
  · obtain ⟨x, dx, p, m, f, rfl, hx, hp, fb, pm, kQ⟩ := h
    obtain ⟨f1, fd1, D1⟩ := T.d_is_round
    refine ⟨_, pss_cons (ps_if (pt_not (pt_val (pe_call (ok_is_round T D1) hr (by rfl) D1.g D1.F.kp D1.b .nil pass0 (pa_cons (pv 1) pa_nil)))) pss_never pss_nil)
      (pss_cons (ps_fld (pv 0) (pv 1) rfl) (pss_one (ps_fld (pv 0) pe_non rfl))), ?_⟩
    refine ⟨_, rfl, p, m, f, rfl, hp, fb, pm, fun H1 e1 => ⟨true, rfl, iteF ?_⟩⟩
    refine ⟨_, rfl, _, rfl, x, C, dx, [], rfl, e1 _ _ hx, R.cl, R.nV, (by show 0 < 1000; decide), _, rfl, x, C, dx, _, rfl, upd_same, R.cl, R.nF, (by show 1 < 1000; decide), ?_⟩
    refine kQ _ (fun b o nb hb => ?_) upd_same
    rw [upd_ne nb, upd_ne nb]
    exact e1 _ _ hb
def spRShift (C : Addr) : Sp := fun vs H Q _ => ∃ (x dx p : Addr) (v : V) (m : Nat) (f : Int → Int), vs = [.ref x] ∧ H x = some (.ins C dx (rf p v)) ∧ RowAt H p m f ∧ ∀ H', Ex H H' → Q (.int (((sumL (List.range m) fun (i : Nat) => f (i : Int)) - sumL (List.range m) fun (i : Nat) => (i : Int)) / (m : Int))) H'
theorem ok_rshift (T : Txt K mg) (R : RTxt K mg C) {f : Addr} {fd : FuncData} (F : Fun K "shift" "Round.shift" sRShift f fd) : FnOk P w K mg base CX0 2 f fd ["self"] (spRShift C) := by
  refine F.ok scRShift (fun vs H Q E h => ?_) (fun cdv A outer s₀ H vs Q E hr h => ?_)
  · obtain ⟨x, dx, p, v, m, f, rfl, _⟩ := h
    rfl
  · obtain ⟨x, dx, p, v, m, f, rfl, hx, hp, kQ⟩ := h
    obtain ⟨f1, fd1, D1⟩ := T.d_shift_in
    refine ⟨_, pss_one (ps_ret (pe_call (ok_shift_in T D1) hr (by rfl) D1.g D1.F.kp D1.b .nil pass0 (pa_cons (pe_fld (pv 0) rfl) pa_nil))), ?_⟩
    exact ⟨_, rfl, x, C, dx, _, _, rfl, hx, R.cl, R.nV, rf_values _ _, p, m, f, rfl, hp, kQ⟩
def spRFalls (C : Addr) : Sp := fun vs H Q _ => ∃ (x dx p : Addr) (m : Nat) (f : Int → Int), vs = [.ref x] ∧ H x = some (.ins C dx (rf p .non)) ∧ RowAt H p m f ∧ ∀ H', Keep x H H' → H' x = some (.ins C dx (rf p (.int (fallsR m f)))) → Q (.int (fallsR m f)) H'
theorem ok_rfalls (T : Txt K mg) (R : RTxt K mg C) {f : Addr} {fd : FuncData} (F : Fun K "falls" "Round.falls" sRFalls f fd) : FnOk P w K mg base CX0 2 f fd ["self"] (spRFalls C) := by
  refine F.ok scRFalls (fun vs H Q E h => ?_) (fun cdv A outer s₀ H vs Q E hr h => ?_)
  · obtain ⟨x, dx, p, m, f, rfl, _⟩ := h
    rfl
  · obtain ⟨x, dx, p, m, f, rfl, hx, hp, kQ⟩ := h
    obtain ⟨f1, fd1, D1⟩ := T.d_falls_in
    refine ⟨_, pss_cons (ps_if (pt_cmpR op_isN (pe_fld (pv 0) rfl) pe_non (nomark _)) (pss_one (ps_fld (pv 0) (pe_call (ok_falls_in T D1) hr (by rfl) D1.g D1.F.kp D1.b .nil pass0 (pa_cons (pe_fld (pv 0) rfl) pa_nil)) rfl)) pss_nil)
      (pss_one (ps_ret (pe_fld (pv 0) rfl))), ?_⟩
    refine ⟨_, rfl, x, C, dx, _, _, rfl, hx, R.cl, R.nF, rf_falls _ _, rfl, true, by rw [decide_eq_true rfl], iteT ?_⟩
    refine ⟨_, rfl, x, C, dx, _, _, rfl, hx, R.cl, R.nV, rf_values _ _, p, m, f, rfl, hp, fun H1 e1 => ?_⟩
    refine ⟨_, rfl, x, C, dx, _, rfl, e1 _ _ hx, R.cl, R.nF, (by rw [rf_eq]; show 2 < 1000; decide), ?_⟩
    rw [rf_put]
    refine ⟨_, rfl, x, C, dx, _, _, rfl, upd_same, R.cl, R.nF, rf_falls _ _, ?_⟩
    refine kQ _ (fun b o nb hb => ?_) upd_same
    rw [upd_ne nb]
    exact e1 _ _ hb
theorem none_ex {H H' : Hp} {z : Addr} (e : Ex H H') (h : H' z = none) : H z = none := by
  cases q : H z with
  | none => rfl
  | some o => rw [e _ _ q] at h; cases h
def spToldRound (C : Addr) : Sp := fun vs H Q _ => ∃ (l : Addr) (ns : List Int), vs = [.ref l] ∧ H l = some (.lst (ns.map V.int)) ∧ 1 ≤ ns.length ∧ ns.length ≤ 60 ∧ (∀ z ∈ ns, -(10 ^ 60) < z ∧ z < 10 ^ 60) ∧ PermR ns.length (fOf ns) ∧ ∀ (x dx p : Addr) H', H x = none → Ex H H' → H' x = some (.ins C dx (rf p .non)) → RowAt H' p ns.length (fOf ns) → Q (.ref x) H'
theorem row_at {H : Hp} {p : Addr} {ns : List Int} (h : H p = some (.tup (ns.map V.int))) (l1 : 1 ≤ ns.length) (l2 : ns.length ≤ 60) : RowAt H p ns.length (fOf ns) := ⟨by unfold rowF; rw [row_fOf]; exact h, l1, l2⟩
theorem fOf_bd {ns : List Int} {B : Int} (nb : ∀ z ∈ ns, -B < z ∧ z < B) (i : Nat) (hi : i < ns.length) : -B < fOf ns (i : Int) ∧ fOf ns (i : Int) < B := by
  rw [fOf_nat hi, List.getD_eq_getElem?_getD, List.getElem?_eq_getElem hi]
  exact nb _ (List.getElem_mem hi)
theorem ok_told_round (T : Txt K mg) (R : RTxt K mg C) {f : Addr} {fd : FuncData} (D : DefAt K mg "told_round" sToldRound ["values"] f fd) : FnOk P w K mg base CX0 5 f fd ["values"] (spToldRound C) := by
  refine D.F.ok scToldRound (fun vs H Q E h => ?_) (fun cdv A outer s₀ H vs Q E hr h => ?_)
  · obtain ⟨l, ns, rfl, _⟩ := h
    rfl
  · obtain ⟨l, ns, rfl, hl, l1, l2, nb, pr, kQ⟩ := h
    obtain ⟨g0, gd0, M0, F0, b0⟩ := R.init
    obtain ⟨f1, fd1, D1⟩ := T.d_check_digits
    have hr2 : Room 2 _ := hr.mono (by decide)
    refine ⟨_, pss_cons (ps_expr (pe_call (ok_check_digits T D1) hr2 (by rfl) D1.g D1.F.kp D1.b .nil pass0 (pa_cons (pv 0) pa_nil)))
      (pss_one (ps_ret (pe_make M0 (ok_rinit T R F0) hr (by rfl) R.mgC b0 .nil pass0 (pa_cons (pe_callTy call_tuple_of (by rfl) T.z_tuple (by decide +kernel) (pa_cons (pv 0) pa_nil)) pa_nil)))), ?_⟩
    refine ⟨_, rfl, l, ns, rfl, hl, l2, nb, fun H1 e1 => ?_⟩
    refine ⟨_, rfl, l, _, rfl, .inl ⟨SqL.of (e1 _ _ hl), fun p hp => ?_⟩⟩
    have xp := Ex.new (o := .tup (ns.map V.int)) hp
    have gp : (upd H1 p (.tup (ns.map V.int))) p = some (.tup (ns.map V.int)) := upd_same
    have e2 := e1.trans xp
    generalize upd H1 p (.tup (ns.map V.int)) = H2 at *
    intro x dx nx ndx nex
    have eX : Ex H2 (upd (upd H2 dx (.own x)) x (.ins C dx [])) := fun b o e => by
      rw [upd_ne (ne_of_none e nx), upd_ne (ne_of_none e ndx)]
      exact e
    refine ⟨x, dx, p, ns.length, fOf ns, rfl, upd_same, row_at (eX _ _ gp) l1 l2, fun i hi => fOf_bd nb i hi, pr, fun H3 kx hx => ⟨rfl, ?_⟩⟩
    have e23 : Ex H2 H3 := fun b o e => kx _ _ (ne_of_none e nx) (eX _ _ e)
    exact kQ x dx p _ (none_ex e2 nx) (e2.trans e23) hx (row_at (e23 _ _ gp) l1 l2)
end
end K1

set_option exponentiation.threshold 400
namespace K1
open PySem PySem.Spec PyProof.Rows L2 Evl HM LX MP ZW
section
variable {P : Program} {w : World} {K : PySem.W.Frag} {mg : Str → Option Value} {base : Heap} {C : Addr}
/-- x is a round map of round m whose values are f's -/
def RdAt (C : Addr) (H : Hp) (x : Addr) (m : Nat) (f : Int → Int) : Prop := ∃ dx p v, H x = some (.ins C dx (rf p v)) ∧ RowAt H p m f
theorem RdAt.ex {H H' : Hp} {x : Addr} {m : Nat} {f : Int → Int} (h : RdAt C H x m f) (e : Ex H H') : RdAt C H' x m f := by
  obtain ⟨dx, p, v, hx, hp⟩ := h
  exact ⟨dx, p, v, e _ _ hx, e _ _ hp.1, hp.2⟩
theorem RdAt.ty {H : Hp} {x : Addr} {m : Nat} {f : Int → Int} (R : RTxt K mg C) (h : RdAt C H x m f) : TyX K H (.ref x) (.ref C) := by
  obtain ⟨dx, p, v, hx, hp⟩ := h
  exact .base (.ins hx R.cl R.x.ca R.x.cn R.x.ct R.x.cm)
theorem kit_self {t : Value} : PySem.W.kitOne K t t = some true := by
  unfold PySem.W.kitOne
  rw [if_pos (by simp)]
theorem first_self : PySem.W.notFirst K C (.ref C) = true := by
  unfold PySem.W.notFirst
  simp
def spRTold (C : Addr) : Sp := fun vs H Q _ => ∃ (x dx p : Addr) (v : V), vs = [.ref x] ∧ H x = some (.ins C dx (rf p v)) ∧ Q (.ref p) H
theorem ok_rtold (R : RTxt K mg C) {f : Addr} {fd : FuncData} (F : Fun K "told_values" "Round.told_values" sRTold f fd) : FnOk P w K mg base CX0 1 f fd ["self"] (spRTold C) := by
  refine F.ok scRTold (fun vs H Q E h => ?_) (fun cdv A outer s₀ H vs Q E hr h => ?_)
  · obtain ⟨x, dx, p, v, rfl, _⟩ := h
    rfl
  · obtain ⟨x, dx, p, v, rfl, hx, kQ⟩ := h
    refine ⟨_, pss_one (ps_ret (pe_fld (pv 0) rfl)), ?_⟩
    exact ⟨_, rfl, x, C, dx, _, _, rfl, hx, R.cl, R.nV, rf_values _ _, kQ⟩
def spRLen (C : Addr) : Sp := fun vs H Q _ => ∃ (x : Addr) (m : Nat) (f : Int → Int), vs = [.ref x] ∧ RdAt C H x m f ∧ Q (.int (m : Int)) H
theorem ok_rlen (T : Txt K mg) (R : RTxt K mg C) {f : Addr} {fd : FuncData} (F : Fun K "__len__" "Round.__len__" sRLen f fd) : FnOk P w K mg base CX0 1 f fd ["self"] (spRLen C) := by
  refine F.ok scRLen (fun vs H Q E h => ?_) (fun cdv A outer s₀ H vs Q E hr h => ?_)
  · obtain ⟨x, m, f, rfl, _⟩ := h
    rfl
  · obtain ⟨x, m, f, rfl, ⟨dx, p, v, hx, hp, m1, m60⟩, kQ⟩ := h
    refine ⟨_, pss_one (ps_ret (pe_callB call_len_seq (by rfl) T.z_len PySem.boot_len (pa_cons (pe_fld (pv 0) rfl) pa_nil))), ?_⟩
    refine ⟨_, rfl, x, C, dx, _, _, rfl, hx, R.cl, R.nV, rf_values _ _, p, _, rfl, .inr (SqT.of hp), ?_⟩
    rw [List.length_map, rowF_len]
    exact kQ
/-! two maps compared -/
end
end K1

set_option exponentiation.threshold 400
namespace K1
open PySem PySem.Spec PyProof.Rows L2 Evl HM LX
section
variable {P : Program} {w : World} {K : PySem.W.Frag} {mg : Str → Option Value} {base : Heap}
theorem ok_is_between (T : Txt K mg) {f : Addr} {fd : FuncData} (D : DefAt K mg "is_between" sIsBetween ["value", "low", "high"] f fd) : FnOk P w K mg base CX0 2 f fd ["value", "low", "high"] (spIsBetween K) := by
  refine D.F.ok scIsBetween (fun vs H Q E h => ?_) (fun cdv A outer s H vs Q E hr h => ?_)
  · obtain ⟨x, lo, hi, b, rfl, _⟩ := h
    rfl
  · obtain ⟨x, lo, hi, b, rfl, hb, q⟩ := h
    obtain ⟨f1, fd1, D1⟩ := T.d_is_integer
    refine ⟨_, pss_one (ps_ret (pe_and (pe_call (ok_is_integer T D1) hr (by rfl) D1.g D1.F.kp D1.b .nil pass0 (pa_cons (pv 0) pa_nil)) (pe_one (pe_chain op_le op_le (pv 1) (pv 0) (pv 2))))), ?_⟩
    cases hb with
    | int i =>
      refine ⟨.int i, rfl, .int i, _, rfl, .int i, fun H1 e1 => ⟨_, rfl, ite2 (fun c => ?_) (fun c => ?_)⟩⟩
      · refine ⟨.int lo, rfl, .int i, rfl, _, _, rfl, rfl, _, rfl, ?_⟩
        rw [c, Bool.true_and] at q
        refine ite2 (fun c2 => ⟨.int hi, rfl, _, _, rfl, rfl, ?_⟩) (fun c2 => ?_)
        · have e : decide (lo ≤ i) = true := c2
          rw [e, Bool.true_and] at q
          exact q _ e1
        · have e : decide (lo ≤ i) = false := Bool.eq_false_iff.mpr c2
          rw [e, Bool.false_and] at q
          exact q _ e1
      · rw [Bool.eq_false_iff.mpr c, Bool.false_and] at q
        exact q _ e1
    | no hn => exact ⟨x, rfl, x, false, rfl, .no hn, fun H1 e1 => ⟨false, rfl, iteF (q _ e1)⟩⟩
theorem ok_check_between (T : Txt K mg) {f : Addr} {fd : FuncData} (D : DefAt K mg "check_between" sCheckBetween ["value", "low", "high"] f fd) : FnOk P w K mg base CX0 3 f fd ["value", "low", "high"] (spCheckBetween K) := by
  refine D.F.ok scCheckBetween (fun vs H Q E h => ?_) (fun cdv A outer s H vs Q E hr h => ?_)
  · obtain ⟨i, lo, hi, rfl, _⟩ := h
    rfl
  · obtain ⟨i, lo, hi, rfl, h1, h2, h3, h4, q⟩ := h
    obtain ⟨f1, fd1, D1⟩ := T.d_is_between
    refine ⟨_, pss_one (ps_if (pt_not (pt_val (pe_call (ok_is_between T D1) hr (by rfl) D1.g D1.F.kp D1.b .nil pass0 (pa_cons (pv 0) (pa_cons (pv 1) (pa_cons (pv 2) pa_nil)))))) pss_never pss_nil), ?_⟩
    exact ⟨_, rfl, _, rfl, _, rfl, _, lo, hi, true, rfl, .yes h1 h2 h3 h4, fun H1 e1 => ⟨true, rfl, iteF (q _ e1)⟩⟩
end
end K1

set_option exponentiation.threshold 400
namespace K1
open PySem PySem.Spec PyProof.Rows L2 Evl HM LX MP ZW
theorem rowF_congr {m : Nat} {f g : Int → Int} (h : ∀ i : Nat, i < m → f (i : Int) = g (i : Int)) : rowF m f = rowF m g := by
  unfold rowF
  exact List.map_congr_left fun i hi => h i (List.mem_range.mp hi)
theorem RowAt.congr {H : Hp} {p : Addr} {m : Nat} {f g : Int → Int} (h : ∀ i : Nat, i < m → f (i : Int) = g (i : Int)) (r : RowAt H p m f) : RowAt H p m g := by
  unfold RowAt at *
  rw [← rowF_congr h]
  exact r
theorem rowF_fOf {m : Nat} {h : Int → Int} (i : Nat) (hi : i < m) : fOf (rowF m h) (i : Int) = h (i : Int) := by
  have l := rowF_len m h
  rw [fOf_nat (by omega), List.getD_eq_getElem?_getD]
  unfold rowF
  rw [List.getElem?_map, List.getElem?_range hi]
  rfl
theorem perm_congr {m : Nat} {f g : Int → Int} (h : ∀ i : Nat, i < m → f (i : Int) = g (i : Int)) (p : PermR m f) : PermR m g := by
  unfold PermR at *
  rw [show ((List.range m).map fun (i : Nat) => g (i : Int) % (m : Int)) = (List.range m).map fun (i : Nat) => f (i : Int) % (m : Int) from List.map_congr_left fun i hi => by rw [h i (List.mem_range.mp hi)]]
  exact p
section
variable {P : Program} {w : World} {K : PySem.W.Frag} {mg : Str → Option Value} {base : Heap} {C : Addr}
/-- a round map whose falls were not counted -/
def RdNew (C : Addr) (H : Hp) (x : Addr) (m : Nat) (f : Int → Int) : Prop := ∃ dx p, H x = some (.ins C dx (rf p .non)) ∧ RowAt H p m f
theorem RdNew.rd {H : Hp} {x : Addr} {m : Nat} {f : Int → Int} (h : RdNew C H x m f) : RdAt C H x m f := by
  obtain ⟨dx, p, hx, hp⟩ := h
  exact ⟨dx, p, .non, hx, hp⟩
theorem RdNew.ex {H H' : Hp} {x : Addr} {m : Nat} {f : Int → Int} (h : RdNew C H x m f) (e : Ex H H') : RdNew C H' x m f := by
  obtain ⟨dx, p, hx, hp⟩ := h
  exact ⟨dx, p, e _ _ hx, e _ _ hp.1, hp.2⟩
/-- told_round of a row of values -/
theorem told_of {H : Hp} {l : Addr} {m : Nat} {h : Int → Int} {Q : VK} {E : XK} (m1 : 1 ≤ m) (m60 : m ≤ 60) (hl : H l = some (.lst ((rowF m h).map V.int))) (hb : ∀ i : Nat, i < m → -(10 ^ 60) < h (i : Int) ∧ h (i : Int) < 10 ^ 60) (pr : PermR m h) (k : ∀ z H', H z = none → Ex H H' → RdNew C H' z m h → Q (.ref z) H') : spToldRound C [.ref l] H Q E := by
  have ll := rowF_len m h
  refine ⟨l, rowF m h, rfl, hl, by omega, by omega, fun z hz => ?_, by rw [ll]; exact perm_congr (fun i hi => (rowF_fOf i hi).symm) pr, fun x dx p H' nz e hx hp => k x H' nz e ⟨dx, p, hx, ?_⟩⟩
  · obtain ⟨i, hi, rfl⟩ := List.mem_map.mp hz
    exact hb i (List.mem_range.mp hi)
  · rw [ll] at hp
    exact hp.congr fun i hi => rowF_fOf i hi
end
end K1

set_option exponentiation.threshold 400
namespace K1
open PySem PySem.Spec PyProof.Rows L2 Evl HM LX MP ZW
section
variable {P : Program} {w : World} {K : PySem.W.Frag} {mg : Str → Option Value} {base : Heap} {C : Addr}
def spCheckMap (C : Addr) : Sp := fun vs H Q _ => ∃ (x : Addr) (m : Nat) (f : Int → Int), vs = [.ref x] ∧ RdAt C H x m f ∧ Q .non H
theorem ok_check_map (T : Txt K mg) (R : RTxt K mg C) {f : Addr} {fd : FuncData} (D : DefAt K mg "check_map" sCheckMap ["p"] f fd) : FnOk P w K mg base CX0 1 f fd ["p"] (spCheckMap C) := by
  refine D.F.ok scCheckMap (fun vs H Q E h => ?_) (fun cdv A outer s₀ H vs Q E hr h => ?_)
  · obtain ⟨x, m, f, rfl, _⟩ := h
    rfl
  · obtain ⟨x, m, f, rfl, hx, kQ⟩ := h
    refine ⟨_, pss_one (ps_if (pt_not (pt_val (pe_callB call_isi (by rfl) T.z_isinstance (by decide +kernel) (pa_cons (pv 0) (pa_cons (pe_glob (v := .ref C) rfl R.mgC rfl) pa_nil))))) pss_never pss_nil), ?_⟩
    exact ⟨_, rfl, .ref x, .ref C, .ref C, .ref C, true, rfl, .own C, hx.ty R, kit_self, true, rfl, iteF kQ⟩
end
end K1

/-! one letter makes one fall more or less; falls counted over all pairs; plain mathematics -/
namespace K1
open MP
theorem swp_c {m c : Nat} (hc : c < m) (i : Nat) (hi : i < m) : (((i : Int) - c) % (m : Int) = 0) ↔ i = c := by
  constructor
  · intro h
    by_cases z : i = c
    · exact z
    · exact absurd h (small_mod (i := c) (j := i) hc hi (fun e => z e.symm))
  · rintro rfl
    rw [Int.sub_self]
    exact Int.zero_emod _
theorem swp_b {m c : Nat} (hc : c < m) (i : Nat) (hi : i < m) : (((i : Int) - c - 1) % (m : Int) = 0) ↔ i = (if c + 1 = m then 0 else c + 1) := by
  by_cases z : c + 1 = m
  · rw [if_pos z]
    have e : ((i : Int) - c - 1) % (m : Int) = ((i : Int) - ((0 : Nat) : Int)) % (m : Int) := by
      rw [show (i : Int) - c - 1 = ((i : Int) - ((0 : Nat) : Int)) + (m : Int) * (-1) by omega, Int.add_mul_emod_self_left]
    rw [e]
    exact swp_c (c := 0) (by omega) i hi
  · rw [if_neg z, show (i : Int) - c - 1 = (i : Int) - ((c + 1 : Nat) : Int) by omega]
    exact swp_c (c := c + 1) (by omega) i hi
theorem swp_at {m c : Nat} (hc : c < m) (i : Nat) (hi : i < m) : Swp m c (i : Int) = if i = c then (i : Int) + 1 else if i = (if c + 1 = m then 0 else c + 1) then (i : Int) - 1 else (i : Int) := by
  have a := swp_c hc i hi
  have b := swp_b hc i hi
  unfold Swp
  by_cases z : i = c
  · rw [if_pos z, if_pos (a.mpr z)]
  · rw [if_neg z, if_neg (fun y => z (a.mp y))]
    by_cases y : i = (if c + 1 = m then 0 else c + 1)
    · rw [if_pos y, if_pos (b.mpr y)]
    · rw [if_neg y, if_neg (fun x => y (b.mp x))]
theorem sqr_swap (m : Nat) (h : Nat → Nat → Int) : sqr m h = sqr m fun i j => h j i := by
  unfold sqr
  rw [sumL_swap]
  refine sumL_congr fun j _ => sumL_congr fun i _ => ?_
  by_cases e : i = j
  · rw [if_pos e, if_pos e.symm]
  · rw [if_neg e, if_neg (fun y => e y.symm)]
theorem sqr_congr {m : Nat} {h k : Nat → Nat → Int} (e : ∀ i j, i < m → j < m → i ≠ j → h i j = k i j) : sqr m h = sqr m k := by
  unfold sqr
  refine sumL_congr fun i hi => sumL_congr fun j hj => ?_
  by_cases z : i = j
  · rw [if_pos z, if_pos z]
  · rw [if_neg z, if_neg z, e i j (List.mem_range.mp hi) (List.mem_range.mp hj) z]
theorem sqr_add (m : Nat) (h k : Nat → Nat → Int) : sqr m (fun i j => h i j + k i j) = sqr m h + sqr m k := by
  unfold sqr
  rw [← sumL_add]
  refine sumL_congr fun i _ => ?_
  rw [← sumL_add]
  refine sumL_congr fun j _ => ?_
  by_cases z : i = j
  · rw [if_pos z, if_pos z, if_pos z]
    rfl
  · rw [if_neg z, if_neg z, if_neg z]
/-- falls counted over all ordered pairs -/
theorem law_falls {m : Nat} (hm : 1 ≤ m) {f : Int → Int} (I : Inj m f) : sqr m (fun i j => max 0 ((f (i : Int) - f (j : Int) - 1) / (m : Int) - ((i : Int) - (j : Int)) / (m : Int))) = fallsR m f := by
  have m0 : (0 : Int) < m := by omega
  have e : sqr m (fun i j => max 0 ((f (i : Int) - f (j : Int) - 1) / (m : Int) - ((i : Int) - (j : Int)) / (m : Int))) = sqr m fun i j => max 0 (dd m f j i) := sqr_congr fun i j hi hj ne => by
    have nz := small_mod hj hi (fun y => ne y.symm)
    have nf : (f (i : Int) - f (j : Int)) % (m : Int) ≠ 0 := fun z => nz (I _ _ z)
    have a := qlo m0 (f (i : Int) - f (j : Int))
    have b := qhi m0 (f (i : Int) - f (j : Int))
    have c : m * ((f (i : Int) - f (j : Int)) / (m : Int)) ≠ f (i : Int) - f (j : Int) := fun z => nf (by rw [← z]; exact Int.mul_emod_right _ _)
    have : (f (i : Int) - f (j : Int) - 1) / (m : Int) = (f (i : Int) - f (j : Int)) / (m : Int) := q_eq m0 (by omega) (by omega)
    rw [this]
    rfl
  have s := sq2_falls hm I
  have t : sq2 m f = sqr m (fun i j => max 0 (dd m f j i)) + sqr m fun i j => max 0 (dd m f i j) := by
    rw [← sqr_add]
    refine sqr_congr fun i j hi hj ne => ?_
    have h2 := small_mod hi hj ne
    have h1 : (f (j : Int) - f (i : Int)) % (m : Int) ≠ 0 := fun z => h2 (I _ _ z)
    have := dd_sym (by omega) h1 h2
    unfold ab
    omega
  have u := sqr_swap m fun i j => max 0 (dd m f j i)
  rw [e]
  omega
/-- one letter more: one fall more or less -/
theorem falls_letter {m c : Nat} (hm : 2 ≤ m) (hc : c < m) {f : Int → Int} (pf : Per m f) (hi : ∀ i j, f i = f j → i = j) : fallsR m (fun i => f (Swp m c i)) = fallsR m f + if f (c : Int) < f ((c : Int) + 1) then 1 else -1 := by
  have m0 : (0 : Int) < m := by omega
  have sp : Per m (Swp m (c : Int)) := swp_per (c : Int)
  have pg : Per m (fun i => f (Swp m c i)) := fun i => by
    show f (Swp m c (i + m)) = f (Swp m c i) + m
    rw [sp, pf]
  have I1 := inj_of pf hi
  have I2 : Inj m (fun i => f (Swp m c i)) := inj_of pg fun i j e => by
    have := hi _ _ e
    rw [← swp_swp hm (c : Int) i, this, swp_swp hm]
  have r1 := sq2_falls (by omega) I1
  have r2 := sq2_falls (by omega) I2
  obtain ⟨s, hs⟩ : ∃ s : Nat → Nat, ∀ i, s i = (Swp m c (i : Int) % (m : Int)).toNat := ⟨fun i => (Swp m c (i : Int) % (m : Int)).toNat, fun _ => rfl⟩
  have sv : ∀ i, (s i : Int) = Swp m c (i : Int) + m * (-(Swp m c (i : Int) / (m : Int))) := fun i => by
    have a := Int.emod_nonneg (Swp m c (i : Int)) (show (m : Int) ≠ 0 by omega)
    have b := Int.mul_ediv_add_emod (Swp m c (i : Int)) m
    rw [hs, Int.toNat_of_nonneg a, Int.mul_neg]
    omega
  have s1 : ∀ i, i < m → s i < m := fun i _ => by
    have a := Int.emod_nonneg (Swp m c (i : Int)) (show (m : Int) ≠ 0 by omega)
    have b := Int.emod_lt_of_pos (Swp m c (i : Int)) m0
    rw [hs]
    omega
  have s2 : ∀ i, i < m → s (s i) = i := fun i hi => by
    rw [hs, sv i, per_q sp, swp_swp hm, Int.add_mul_emod_self_left, Int.emod_eq_of_lt (by omega) (by omega)]
    rfl
  have pm := invol_perm s1 s2
  have sne : ∀ i j, i < m → j < m → i ≠ j → s i ≠ s j := fun i j a b c d => c (by rw [← s2 i a, d, s2 j b])
  have same : sqr m (fun i j => ab (dd m f (s i) (s j))) = sq2 m f := by
    unfold sq2 sqr
    refine Eq.trans ?_ (sumL_perm _ pm)
    rw [sumL_map]
    refine sumL_congr fun i hi => ?_
    refine Eq.trans ?_ (sumL_perm _ pm)
    rw [sumL_map]
    refine sumL_congr fun j hj => ?_
    have hi := List.mem_range.mp hi
    have hj := List.mem_range.mp hj
    by_cases e : i = j
    · rw [if_pos e, if_pos (by rw [e])]
    · rw [if_neg e, if_neg (sne i j hi hj e)]
  obtain ⟨c', hc'⟩ : ∃ c' : Nat, c' = if c + 1 = m then 0 else c + 1 := ⟨_, rfl⟩
  have c'm : c' < m := by rw [hc']; split <;> omega
  have cc : c ≠ c' := by rw [hc']; split <;> omega
  obtain ⟨st, hst⟩ : ∃ st : Int, st = if f (c : Int) < f ((c : Int) + 1) then 1 else -1 := ⟨_, rfl⟩
  rw [← hst]
  have dg : ∀ i j : Nat, dd m (fun i => f (Swp m c i)) i j = (f (Swp m c (j : Int)) - f (Swp m c (i : Int))) / (m : Int) - ((j : Int) - (i : Int)) / (m : Int) := fun _ _ => rfl
  have df : ∀ i j : Nat, dd m f (s i) (s j) = (f (Swp m c (j : Int)) - f (Swp m c (i : Int))) / (m : Int) - (Swp m c (j : Int) - Swp m c (i : Int)) / (m : Int) := fun i j => by
    rw [sv i, sv j, dd_mod m0 pf]
    rfl
  have sc := swp_at hc c hc
  have sb := swp_at hc c' c'm
  rw [if_pos rfl] at sc
  rw [← hc', if_neg (fun z => cc z.symm), if_pos rfl] at sb
  -- the two classes that are exchanged
  have spec : ab (dd m (fun i => f (Swp m c i)) c c') = ab (dd m f (s c) (s c')) + st := by
    obtain ⟨q, hq⟩ : ∃ q : Int, (c' : Int) = (c : Int) + 1 + m * q := by
      rw [hc']
      by_cases z : c + 1 = m
      · exact ⟨-1, by rw [if_pos z]; omega⟩
      · exact ⟨0, by rw [if_neg z]; omega⟩
    have e1 : f (Swp m c (c' : Int)) = f (c : Int) + m * q := by
      rw [sb, hq, show (c : Int) + 1 + m * q - 1 = c + m * q by omega, per_q pf]
    obtain ⟨x, hx⟩ : ∃ x : Int, x = (f (c : Int) - f ((c : Int) + 1)) / (m : Int) := ⟨_, rfl⟩
    have g1 : dd m (fun i => f (Swp m c i)) c c' = x := by
      rw [dg, e1, sc, show f (c : Int) + m * q - f ((c : Int) + 1) = (f (c : Int) - f ((c : Int) + 1)) + m * q by omega, div_q m0, ← hx, hq, show (c : Int) + 1 + m * q - c = 1 + m * q by omega, div_q m0, Int.ediv_eq_zero_of_lt (by omega) (by omega)]
      omega
    have g2 : dd m f (s c) (s c') = x + 1 := by
      rw [df, e1, sc, sb, show f (c : Int) + m * q - f ((c : Int) + 1) = (f (c : Int) - f ((c : Int) + 1)) + m * q by omega, div_q m0, ← hx, hq, show (c : Int) + 1 + m * q - 1 - (c + 1) = -1 + m * q by omega, div_q m0]
      have : (-1 : Int) / (m : Int) = -1 := q_eq m0 (by omega) (by omega)
      rw [this]
      omega
    rw [g1, g2]
    have l := qlo m0 (f (c : Int) - f ((c : Int) + 1))
    have h := qhi m0 (f (c : Int) - f ((c : Int) + 1))
    rw [← hx] at l h
    rw [hst]
    unfold ab
    by_cases y : f (c : Int) < f ((c : Int) + 1)
    · rw [if_pos y]
      have : x < 0 := by
        rcases Int.lt_or_le x 0 with z | z
        · exact z
        · have := Int.mul_nonneg (Int.le_of_lt m0) z
          omega
      omega
    · rw [if_neg y]
      have : 0 ≤ x := by
        rcases Int.lt_or_le x 0 with z | z
        · have := Int.mul_le_mul_of_nonneg_left (show x ≤ -1 by omega) (Int.le_of_lt m0)
          omega
        · exact z
      omega
  have mir : ∀ (g : Int → Int) (i j : Nat), Inj m g → i < m → j < m → i ≠ j → ab (dd m g j i) = ab (dd m g i j) := fun g i j I a b ne => by
    have h2 := small_mod a b ne
    have h1 : (g (j : Int) - g (i : Int)) % (m : Int) ≠ 0 := fun z => h2 (I _ _ z)
    rw [dd_sym (by omega) h1 h2, ab_neg]
  have spec2 : ab (dd m (fun i => f (Swp m c i)) c' c) = ab (dd m f (s c') (s c)) + st := by
    rw [mir _ c c' I2 hc c'm cc, mir _ (s c) (s c') I1 (s1 c hc) (s1 c' c'm) (sne _ _ hc c'm cc), spec]
  have key : sq2 m (fun i => f (Swp m c i)) = sq2 m f + sqr m fun i j => if i = c ∧ j = c' ∨ i = c' ∧ j = c then st else 0 := by
    rw [← same]
    unfold sq2
    rw [← sqr_add]
    refine sqr_congr fun i j hi hj ne => ?_
    by_cases z : i = c ∧ j = c' ∨ i = c' ∧ j = c
    · rw [if_pos z]
      rcases z with ⟨rfl, rfl⟩ | ⟨rfl, rfl⟩
      · exact spec
      · exact spec2
    · rw [if_neg z, Int.add_zero, dg, df]
      have ei := swp_at hc i hi
      have ej := swp_at hc j hj
      rw [← hc'] at ei ej
      have : (Swp m c (j : Int) - Swp m c (i : Int)) / (m : Int) = ((j : Int) - (i : Int)) / (m : Int) := by
        rcases Nat.lt_or_gt_of_ne ne with w | w
        · rw [Int.ediv_eq_zero_of_lt (a := (j : Int) - (i : Int)) (by omega) (by omega)]
          refine Int.ediv_eq_zero_of_lt ?_ ?_
          · rw [ei, ej]
            split at hc' <;> (repeat' split) <;> omega
          · rw [ei, ej]
            split at hc' <;> (repeat' split) <;> omega
        · have a1 : ((j : Int) - (i : Int)) / (m : Int) = -1 := q_eq m0 (by omega) (by omega)
          rw [a1]
          refine q_eq m0 ?_ ?_
          · rw [ei, ej]
            split at hc' <;> (repeat' split) <;> omega
          · rw [ei, ej]
            split at hc' <;> (repeat' split) <;> omega
      rw [this]
  have two : sqr m (fun i j => if i = c ∧ j = c' ∨ i = c' ∧ j = c then st else 0) = 2 * st := by
    unfold sqr
    have inner : ∀ i : Nat, i < m → (sumL (List.range m) fun j => if i = j then 0 else if i = c ∧ j = c' ∨ i = c' ∧ j = c then st else 0) = (if i = c' then st else 0) + if i = c then st else 0 := fun i hi => by
      by_cases a : i = c
      · subst a
        rw [if_pos rfl, if_neg cc, sumL_one_at (g := fun _ => 0) (j := c') (v := st) c'm fun x hx => ?_, sumL_zero]
        by_cases y : x = c'
        · rw [if_pos y, if_neg (by omega), if_pos (.inl ⟨rfl, y⟩)]
          omega
        · rw [if_neg y]
          by_cases v : i = x
          · rw [if_pos v]
            rfl
          · rw [if_neg v, if_neg (by omega)]
            rfl
      · by_cases b : i = c'
        · subst b
          rw [if_pos rfl, if_neg a, sumL_one_at (g := fun _ => 0) (j := c) (v := st) hc fun x hx => ?_, sumL_zero]
          · omega
          by_cases y : x = c
          · rw [if_pos y, if_neg (by omega), if_pos (.inr ⟨rfl, y⟩)]
            omega
          · rw [if_neg y]
            by_cases v : i = x
            · rw [if_pos v]
              rfl
            · rw [if_neg v, if_neg (by omega)]
              rfl
        · rw [if_neg a, if_neg b, show (sumL (List.range m) fun j => if i = j then 0 else if i = c ∧ j = c' ∨ i = c' ∧ j = c then st else 0) = sumL (List.range m) fun _ => 0 from sumL_congr fun x _ => by
            split
            · rfl
            · rw [if_neg (by omega)], sumL_zero]
          rfl
    rw [show (sumL (List.range m) fun i => sumL (List.range m) fun j => if i = j then 0 else if i = c ∧ j = c' ∨ i = c' ∧ j = c then st else 0) = sumL (List.range m) fun i => (if i = c' then st else 0) + if i = c then st else 0 from sumL_congr fun i hi => inner i (List.mem_range.mp hi)]
    rw [sumL_one_at (j := c) (v := st) (g := fun i => if i = c' then st else 0) hc fun x _ => rfl, sumL_one_at (j := c') (v := st) (g := fun _ => 0) c'm fun x _ => (Int.zero_add _).symm, sumL_zero]
    omega
  omega
end K1

/-! shifts of maps put together; plain mathematics -/
namespace K1
open MP
theorem sumL_sub {α : Type} (f g : α → Int) (l : List α) : sumL l (fun x => f x - g x) = sumL l f - sumL l g := by
  have := sumL_add (fun x => f x - g x) g l
  rw [show (fun x => f x - g x + g x) = f from funext fun x => by omega] at this
  omega
theorem shf_comp {m : Nat} (hm : 1 ≤ m) {f g : Int → Int} (pf : Per m f) (pg : Per m g) (qf : PermR m f) (qg : PermR m g) (qc : PermR m fun i => f (g i)) : shf m (fun i => f (g i)) = shf m f + shf m g := by
  obtain ⟨S, hS⟩ : ∃ S : Int, S = sumL (List.range m) (fun (r : Nat) => (r : Int)) := ⟨_, rfl⟩
  have a : sumL (List.range m) (fun (r : Nat) => f (r : Int)) = S + m * shf m f := by rw [hS]; exact shf_sum qf
  have b : sumL (List.range m) (fun (r : Nat) => g (r : Int)) = S + m * shf m g := by rw [hS]; exact shf_sum qg
  have c : sumL (List.range m) (fun (r : Nat) => f (g (r : Int))) = S + m * shf m (fun i => f (g i)) := by rw [hS]; exact shf_sum qc
  have h0 : sumL (List.range m) (fun (i : Nat) => f (g (i : Int)) - g (i : Int)) = sumL (List.range m) fun (r : Nat) => f (r : Int) - (r : Int) := by
    have e : sumL (List.range m) (fun (i : Nat) => f (g (i : Int)) - g (i : Int)) = sumL ((List.range m).map fun (i : Nat) => g (i : Int) % (m : Int)) fun x => f x - x := by
      rw [sumL_map]
      refine sumL_congr fun i _ => ?_
      have q := per_q pf (g (i : Int) % (m : Int)) (g (i : Int) / (m : Int))
      have d := Int.mul_ediv_add_emod (g (i : Int)) m
      rw [show g (i : Int) % (m : Int) + m * (g (i : Int) / (m : Int)) = g (i : Int) by omega] at q
      show f (g (i : Int)) - g (i : Int) = f (g (i : Int) % (m : Int)) - g (i : Int) % (m : Int)
      omega
    rw [e, sumL_perm _ qg, sumL_map]
  rw [sumL_sub, sumL_sub] at h0
  have h0 : sumL (List.range m) (fun (r : Nat) => f (g (r : Int))) - sumL (List.range m) (fun (r : Nat) => g (r : Int)) = sumL (List.range m) (fun (r : Nat) => f (r : Int)) - S := by rw [hS]; exact h0
  have k : (m : Int) * shf m (fun i => f (g i)) = m * (shf m f + shf m g) := by
    rw [Int.mul_add]
    omega
  exact Int.eq_of_mul_eq_mul_left (by omega) k
theorem perm_comp {m : Nat} (hm : 1 ≤ m) {f g : Int → Int} (pf : Per m f) (pg : Per m g) (qf : PermR m f) (qg : PermR m g) : PermR m fun i => f (g i) := by
  refine rests_of hm (fun i => ?_) fun t => ?_
  · show f (g (i + m)) = f (g i) + m
    rw [pg, pf]
  · obtain ⟨x, x1, x2⟩ := bij_of_perm hm pf qf t
    obtain ⟨y, y1, y2⟩ := bij_of_perm hm pg qg x
    refine ⟨y, by show f (g y) = t; rw [y1, x1], fun z hz => ?_⟩
    exact y2 z (x2 _ hz)
theorem per_comp {m : Int} {f g : Int → Int} (pf : Per m f) (pg : Per m g) : Per m fun i => f (g i) := fun i => by
  show f (g (i + m)) = f (g i) + m
  rw [pg, pf]
theorem inj_perm {m : Nat} (hm : 1 ≤ m) {f : Int → Int} (pf : Per m f) (qf : PermR m f) : ∀ i j, f i = f j → i = j := bij_inj (bij_of_perm hm pf qf)
/-- an inverse from both sides -/
theorem InvOf.both {m : Nat} (hm : 1 ≤ m) {f g : Int → Int} (pf : Per m f) (qf : PermR m f) (I : InvOf m f g) (x : Int) : g (f x) = x := inj_perm hm pf qf _ _ (I.back _)
theorem InvOf.uni {m : Nat} (hm : 1 ≤ m) {f g h : Int → Int} (pf : Per m f) (qf : PermR m f) (I : InvOf m f g) (J : ∀ x, f (h x) = x) (x : Int) : g x = h x := inj_perm hm pf qf _ _ ((I.back _).trans (J _).symm)
theorem falls_congr {m : Nat} {f g : Int → Int} (h : ∀ i : Nat, i < m → f (i : Int) = g (i : Int)) : fallsR m f = fallsR m g := by
  unfold fallsR tri
  refine sumL_congr fun j hj => sumL_congr fun i hi => ?_
  have := List.mem_range.mp hj
  have := List.mem_range.mp hi
  dsimp only
  rw [h i (by omega), h j (by omega)]
/-- falls are no more than so many -/
theorem falls_bd {m : Nat} (hm : 1 ≤ m) (m60 : m ≤ 60) {f : Int → Int} {B : Int} (hB : 0 ≤ B) (fb : ∀ i : Nat, i < m → -B ≤ f (i : Int) ∧ f (i : Int) ≤ B) : 0 ≤ fallsR m f ∧ fallsR m f ≤ 3600 * (2 * B + 1) := by
  have m0 : (0 : Int) < m := by omega
  have one : ∀ i j : Nat, i < m → j < m → 0 ≤ ab ((f (j : Int) - f (i : Int)) / (m : Int)) ∧ ab ((f (j : Int) - f (i : Int)) / (m : Int)) ≤ 2 * B + 1 := fun i j hi hj => by
    have a := fb i hi
    have b := fb j hj
    have l := qlo m0 (f (j : Int) - f (i : Int))
    have h := qhi m0 (f (j : Int) - f (i : Int))
    unfold ab
    generalize (f (j : Int) - f (i : Int)) / (m : Int) = q at *
    refine ⟨by omega, ?_⟩
    rcases Int.le_total 0 q with z | z
    · have := Int.mul_le_mul_of_nonneg_right (show (1 : Int) ≤ m by omega) z
      omega
    · rcases Int.lt_or_eq_of_le z with y | y
      · have := Int.mul_le_mul_of_nonneg_right (show (1 : Int) ≤ m by omega) (show 0 ≤ -q - 1 by omega)
        rw [Int.mul_sub (m : Int), Int.mul_neg, Int.mul_one] at this
        omega
      · omega
  have cst : ∀ (l : List Nat) (c : Int), sumL l (fun _ => c) = (l.length : Int) * c := fun l c => by
    rw [show (fun (_ : Nat) => c) = fun (_ : Nat) => c * 1 from funext fun _ => (Int.mul_one c).symm, sumL_mul, sumL_one, Int.mul_comm]
  unfold fallsR tri
  refine ⟨sumL_nn fun j hj => sumL_nn fun i hi => ?_, ?_⟩
  · have := List.mem_range.mp hj
    have := List.mem_range.mp hi
    exact (one i j (by omega) (by omega)).1
  · refine Int.le_trans (sumL_le (g := fun _ => 60 * (2 * B + 1)) fun j hj => ?_) ?_
    · have hj := List.mem_range.mp hj
      refine Int.le_trans (sumL_le (g := fun _ => 2 * B + 1) fun i hi => (one i j (by have := List.mem_range.mp hi; omega) hj).2) ?_
      rw [cst, List.length_range]
      exact Int.mul_le_mul_of_nonneg_right (by omega) (by omega)
    · rw [cst, List.length_range]
      have := Int.mul_le_mul_of_nonneg_right (show (m : Int) ≤ 60 by omega) (show 0 ≤ 60 * (2 * B + 1) by omega)
      omega
end K1

/-! greedy products of round maps: letters, words, tables as least sums; plain mathematics -/
namespace K1
open MP
/-- a round map's map, with shift t and no value far off -/
structure RdF (m : Nat) (f : Int → Int) : Prop where
  per : Per m f
  perm : PermR m f
/-- the letter c behind f -/
def sw1 (m : Nat) (f : Int → Int) (c : Nat) : Int → Int := fun i => f (Swp m c i)
/-- greedily -/
def gl1 (m : Nat) (f : Int → Int) (c : Nat) : Int → Int := if f (c : Int) < f ((c : Int) + 1) then sw1 m f c else f
def glw (m : Nat) : (Int → Int) → List Nat → Int → Int
  | f, [] => f
  | f, c :: w => glw m (gl1 m f c) w
def sww (m : Nat) : (Int → Int) → List Nat → Int → Int
  | f, [] => f
  | f, c :: w => sww m (sw1 m f c) w
theorem glw_app (m : Nat) : ∀ (u v : List Nat) (f : Int → Int), glw m f (u ++ v) = glw m (glw m f u) v
  | [], _, _ => rfl
  | c :: u, v, f => glw_app m u v (gl1 m f c)
theorem sww_app (m : Nat) : ∀ (u v : List Nat) (f : Int → Int), sww m f (u ++ v) = sww m (sww m f u) v
  | [], _, _ => rfl
  | c :: u, v, f => sww_app m u v (sw1 m f c)
theorem sw1_sw1 {m : Nat} (hm : 2 ≤ m) (f : Int → Int) (c : Nat) : sw1 m (sw1 m f c) c = f := funext fun i => by
  unfold sw1
  rw [swp_swp hm]
theorem swp_permR {m : Nat} (m2 : 2 ≤ m) (c : Nat) : PermR m (Swp m c) :=
  rests_of (by omega) (swp_per (m := m) (c : Int)) (fun s => ⟨Swp m c s, swp_swp m2 _ _, fun y hy => by rw [← hy, swp_swp m2]⟩)
theorem RdF.sw {m : Nat} {f : Int → Int} (hm : 2 ≤ m) (h : RdF m f) (c : Nat) : RdF m (sw1 m f c) := ⟨per_comp (f := f) (g := Swp m c) h.per (swp_per (c : Int)), perm_comp (f := f) (g := Swp m c) (by omega) h.per (swp_per (c : Int)) h.perm (swp_permR hm c)⟩
theorem RdF.gl {m : Nat} {f : Int → Int} (hm : 2 ≤ m) (h : RdF m f) (c : Nat) : RdF m (gl1 m f c) := by
  unfold gl1
  split
  · exact h.sw hm c
  · exact h
theorem swp_cN {m : Nat} (hm : 2 ≤ m) (c : Int) : Swp m c c = c + 1 := by
  unfold Swp
  rw [Int.sub_self, if_pos (Int.zero_emod _)]
theorem swp_cS {m : Nat} (hm : 2 ≤ m) (c : Int) : Swp m c (c + 1) = c := by
  have := swp_swp hm c c
  rwa [swp_cN hm] at this
theorem shf_sw {m : Nat} {f : Int → Int} (hm : 2 ≤ m) (h : RdF m f) (c : Nat) : shf m (sw1 m f c) = shf m f := by
  have e := shf_comp (m := m) (by omega) h.per (swp_per (c : Int)) h.perm (swp_permR hm c) (h.sw hm c).perm
  have s0 : shf m (Swp m c) = 0 := by
    have a := shf_comp (m := m) (by omega) (swp_per (c : Int)) (swp_per (c : Int)) (swp_permR hm c) (swp_permR hm c) (perm_comp (by omega) (swp_per (c : Int)) (swp_per (c : Int)) (swp_permR hm c) (swp_permR hm c))
    have b : shf m (fun i => Swp m c (Swp m c i)) = 0 := by
      unfold shf
      rw [show (sumL (List.range m) fun (r : Nat) => Swp m c (Swp m c (r : Int)) / (m : Int)) = sumL (List.range m) fun _ => 0 from sumL_congr fun r hr => by
        have := List.mem_range.mp hr
        rw [swp_swp hm, Int.ediv_eq_zero_of_lt (by omega) (by omega)], sumL_zero]
    omega
  unfold sw1 at *
  omega
theorem shf_gl {m : Nat} {f : Int → Int} (hm : 2 ≤ m) (h : RdF m f) (c : Nat) : shf m (gl1 m f c) = shf m f := by
  unfold gl1
  split
  · exact shf_sw hm h c
  · rfl
theorem RdF.inj {m : Nat} {f : Int → Int} (hm : 1 ≤ m) (h : RdF m f) : ∀ i j, f i = f j → i = j := inj_perm hm h.per h.perm
theorem falls_sw {m c : Nat} (hm : 2 ≤ m) (hc : c < m) {f : Int → Int} (h : RdF m f) : fallsR m (sw1 m f c) = fallsR m f + if f (c : Int) < f ((c : Int) + 1) then 1 else -1 := falls_letter hm hc h.per (h.inj (by omega))
theorem falls_nn (m : Nat) (f : Int → Int) : 0 ≤ fallsR m f := by
  unfold fallsR tri
  refine sumL_nn fun j _ => sumL_nn fun i _ => ?_
  exact Int.natCast_nonneg _
/-- the first place from which f falls -/
def ff (m : Nat) (f : Int → Int) : Option Nat := (List.range m).find? fun c => decide (¬ f (c : Int) < f ((c : Int) + 1))
theorem ff_some {m c : Nat} {f : Int → Int} (h : ff m f = some c) : c < m ∧ ¬ f (c : Int) < f ((c : Int) + 1) := by
  have a := List.mem_range.mp (List.mem_of_find?_eq_some h)
  have b := List.find?_some h
  exact ⟨a, of_decide_eq_true b⟩
theorem ff_none {m : Nat} {f : Int → Int} (h : ff m f = none) (c : Nat) (hc : c < m) : f (c : Int) < f ((c : Int) + 1) := by
  have := List.find?_eq_none.mp h c (List.mem_range.mpr hc)
  exact Classical.byContradiction fun z => this (decide_eq_true z)
theorem ff_one {f : Int → Int} (h : Per 1 f) : ff 1 f = none := by
  unfold ff
  rw [List.find?_eq_none]
  intro c hc
  have := List.mem_range.mp hc
  have e : c = 0 := by omega
  subst e
  have := h 0
  show ¬ decide (¬ f 0 < f (0 + 1)) = true
  rw [decide_eq_true_iff]
  omega
/-- the word that leads to f, its last letter being the first place from which f falls -/
def red (m : Nat) : Nat → (Int → Int) → List Nat
  | 0, _ => []
  | n + 1, f => match ff m f with
    | none => []
    | some c => red m n (sw1 m f c) ++ [c]
/-- no falls: a shift -/
theorem plain_of {m : Nat} (hm : 1 ≤ m) {f : Int → Int} (h : RdF m f) (r : ∀ c : Nat, c < m → f (c : Int) < f ((c : Int) + 1)) (x : Int) : f x = x + f 0 := by
  have up : ∀ x, f x < f (x + 1) := fun x => by
    have a := Int.emod_nonneg x (show (m : Int) ≠ 0 by omega)
    have b := Int.emod_lt_of_pos x (show (0 : Int) < m by omega)
    have d := Int.mul_ediv_add_emod x m
    have q1 := per_q h.per (x % (m : Int)) (x / (m : Int))
    have q2 := per_q h.per (x % (m : Int) + 1) (x / (m : Int))
    have z := r (x % (m : Int)).toNat (by omega)
    rw [Int.toNat_of_nonneg a] at z
    rw [show x % (m : Int) + m * (x / (m : Int)) = x by omega] at q1
    rw [show x % (m : Int) + 1 + m * (x / (m : Int)) = x + 1 by omega] at q2
    omega
  have upn : ∀ (n : Nat) (x : Int), f x + n ≤ f (x + n) := fun n => by
    induction n with
    | zero => intro x; simp
    | succ n ih =>
      intro x
      have a := ih x
      have b := up (x + n)
      rw [show x + ((n + 1 : Nat) : Int) = x + n + 1 by omega]
      omega
  have one : ∀ x, f (x + 1) = f x + 1 := fun x => by
    have a := upn (m - 1) (x + 1)
    have b := h.per x
    have c := up x
    rw [show x + 1 + ((m - 1 : Nat) : Int) = x + m by omega] at a
    omega
  have nat : ∀ n : Nat, f (n : Int) = n + f 0 ∧ f (-(n : Int)) = -(n : Int) + f 0 := fun n => by
    induction n with
    | zero => simp
    | succ n ih =>
      have a := one (n : Int)
      have b := one (-((n + 1 : Nat) : Int))
      rw [show -((n + 1 : Nat) : Int) + 1 = -(n : Int) by omega] at b
      rw [show ((n + 1 : Nat) : Int) = (n : Int) + 1 by omega]
      constructor
      · omega
      · rw [show -((n : Int) + 1) = -((n + 1 : Nat) : Int) by omega]
        omega
  rcases Int.le_total 0 x with z | z
  · have := (nat x.toNat).1
    rwa [Int.toNat_of_nonneg z] at this
  · have := (nat (-x).toNat).2
    rwa [Int.toNat_of_nonneg (by omega), Int.neg_neg] at this
theorem shf_plain {m : Nat} (hm : 1 ≤ m) (t : Int) : shf m (fun i => i + t) = t := by
  unfold shf
  conv => rhs; rw [← floor_up hm t]
  exact sumL_congr fun r _ => by rw [Int.add_comm]
theorem falls_zero {m : Nat} (hm : 1 ≤ m) {f : Int → Int} (h : RdF m f) (z : fallsR m f = 0) : ff m f = none := by
  cases e : ff m f with
  | none => rfl
  | some c =>
    obtain ⟨h1, h2⟩ := ff_some e
    rcases Nat.lt_or_ge m 2 with y | y
    · have : m = 1 := by omega
      subst this
      rw [ff_one h.per] at e
      cases e
    · have := falls_sw y h1 h
      rw [if_neg h2] at this
      have := falls_nn m (sw1 m f c)
      omega
theorem ff_two {m : Nat} (hm : 1 ≤ m) {f : Int → Int} (h : RdF m f) {c : Nat} (e : ff m f = some c) : 2 ≤ m := by
  rcases Nat.lt_or_ge m 2 with y | y
  · have : m = 1 := by omega
    subst this
    rw [ff_one h.per] at e
    cases e
  · exact y
theorem red_step {m : Nat} (hm : 1 ≤ m) {f : Int → Int} (h : RdF m f) {c : Nat} (e : ff m f = some c) : fallsR m (sw1 m f c) = fallsR m f - 1 := by
  obtain ⟨h1, h2⟩ := ff_some e
  rw [falls_sw (ff_two hm h e) h1 h, if_neg h2]
  omega
/-- what goes for the word -/
theorem red_all {m : Nat} (hm : 1 ≤ m) : ∀ (n : Nat) (f : Int → Int), RdF m f → fallsR m f = n → glw m (fun i => i + shf m f) (red m n f) = f ∧ sww m (fun i => i + shf m f) (red m n f) = f ∧ (red m n f).length = n ∧ ∀ c ∈ red m n f, c < m
  | 0, f, h, z => by
    have e := falls_zero hm h z
    have p := plain_of hm h (ff_none e)
    have s : shf m f = f 0 := by
      rw [show f = fun i => i + f 0 from funext p]
      rw [shf_plain hm]
      show f 0 = 0 + f 0
      omega
    have q : (fun i => i + shf m f) = f := funext fun x => by rw [s, ← p x]
    exact ⟨q, q, rfl, fun c hc => by cases hc⟩
  | n + 1, f, h, z => by
    cases e : ff m f with
    | none =>
      exfalso
      have r := ff_none e
      have p := plain_of hm h r
      have : fallsR m f = 0 := by
        rw [show f = fun i => i + f 0 from funext p]
        exact ab_zero _
      omega
    | some c =>
      have m2 := ff_two hm h e
      obtain ⟨h1, h2⟩ := ff_some e
      have st := red_step hm h e
      obtain ⟨a, b, l, d⟩ := red_all hm n (sw1 m f c) (h.sw m2 c) (by omega)
      rw [shf_sw m2 h c] at a b
      have er : red m (n + 1) f = red m n (sw1 m f c) ++ [c] := by
        show (match ff m f with | none => [] | some c => red m n (sw1 m f c) ++ [c]) = _
        rw [e]
      rw [er, glw_app, sww_app, a, b]
      refine ⟨?_, ?_, by rw [List.length_append, l]; rfl, fun x hx => ?_⟩
      · show gl1 m (sw1 m f c) c = f
        have ne : f (c : Int) ≠ f ((c : Int) + 1) := fun z => by have := h.inj hm _ _ z; omega
        unfold gl1
        rw [if_pos, sw1_sw1 m2]
        show f (Swp m c (c : Int)) < f (Swp m c ((c : Int) + 1))
        rw [swp_cN m2, swp_cS m2]
        omega
      · show sw1 m (sw1 m f c) c = f
        exact sw1_sw1 m2 f c
      · rcases List.mem_append.mp hx with y | y
        · exact d x y
        · rw [List.mem_singleton.mp y]
          exact h1
theorem RdF.shift {m : Nat} (hm : 1 ≤ m) (t : Int) : RdF m (fun i => i + t) := by
  have p : Per (m : Int) (fun i => i + t) := fun i => by show i + m + t = i + t + m; omega
  exact ⟨p, rests_of hm p fun s => ⟨s - t, by omega, fun j hj => by omega⟩⟩
theorem RdF.moved {m : Nat} (hm : 1 ≤ m) {f : Int → Int} (h : RdF m f) (t : Int) : RdF m (fun i => f (i + t)) := ⟨per_comp h.per (RdF.shift hm t).per, perm_comp hm h.per (RdF.shift hm t).per h.perm (RdF.shift hm t).perm⟩
theorem RdF.glw {m : Nat} (hm : 1 ≤ m) : ∀ (w : List Nat) {f : Int → Int}, RdF m f → (2 ≤ m ∨ w = []) → RdF m (glw m f w)
  | [], _, h, _ => h
  | c :: w, f, h, e => by
    rcases e with e | e
    · exact RdF.glw hm w (h.gl e c) (.inl e)
    · cases e
theorem shf_glw {m : Nat} (hm : 1 ≤ m) : ∀ (w : List Nat) {f : Int → Int}, RdF m f → (2 ≤ m ∨ w = []) → shf m (K1.glw m f w) = shf m f
  | [], _, h, _ => rfl
  | c :: w, f, h, e => by
    rcases e with e | e
    · show shf m (K1.glw m (gl1 m f c) w) = shf m f
      rw [shf_glw hm w (h.gl e c) (.inl e), shf_gl e h]
    · cases e
theorem falls_glw {m : Nat} (hm : 1 ≤ m) : ∀ (w : List Nat) {f : Int → Int}, RdF m f → (2 ≤ m ∨ w = []) → (∀ c ∈ w, c < m) → fallsR m (K1.glw m f w) ≤ fallsR m f + w.length
  | [], f, h, _, _ => by
    show fallsR m f ≤ fallsR m f + ((0 : Nat) : Int)
    omega
  | c :: w, f, h, e, b => by
    rcases e with e | e
    · have := falls_glw hm w (h.gl e c) (.inl e) fun x hx => b x (List.mem_cons_of_mem _ hx)
      have l : fallsR m (gl1 m f c) ≤ fallsR m f + 1 := by
        unfold gl1
        by_cases z : f (c : Int) < f ((c : Int) + 1)
        · rw [if_pos z, falls_sw e (b c (List.mem_cons_self ..)) h, if_pos z]
          omega
        · rw [if_neg z]
          omega
      show fallsR m (K1.glw m (gl1 m f c) w) ≤ _
      rw [List.length_cons]
      omega
    · cases e
/-! tables -/
def Sc (m c : Nat) (F : Int → Int → Int) (a b : Int) : Int := if (a - c) % (m : Int) = 0 then min (F (a - 1) b + 1) (F (a + 1) b) else F a b
theorem cls_lt {m : Nat} (hm : 1 ≤ m) {f : Int → Int} (pf : Per m f) {c : Nat} {a : Int} (h : (a - c) % (m : Int) = 0) : (f (c : Int) < f ((c : Int) + 1)) ↔ f a < f (a + 1) := by
  obtain ⟨q, hq⟩ := Int.dvd_of_emod_eq_zero h
  have e1 := per_q pf (c : Int) q
  have e2 := per_q pf ((c : Int) + 1) q
  rw [show (c : Int) + m * q = a by omega] at e1
  rw [show (c : Int) + 1 + m * q = a + 1 by omega] at e2
  omega
theorem gl1_at {m c : Nat} (hm : 2 ≤ m) {f : Int → Int} (pf : Per m f) (a : Int) :
    gl1 m f c a = if (a - c) % (m : Int) = 0 then max (f a) (f (a + 1)) else if (a - c - 1) % (m : Int) = 0 then min (f (a - 1)) (f a) else f a := by
  have sa : Swp m c a = if (a - c) % (m : Int) = 0 then a + 1 else if (a - c - 1) % (m : Int) = 0 then a - 1 else a := rfl
  by_cases z : (a - c) % (m : Int) = 0
  · have := cls_lt (by omega) pf z
    rw [if_pos z] at sa ⊢
    unfold gl1
    by_cases y : f (c : Int) < f ((c : Int) + 1)
    · rw [if_pos y]
      show f (Swp m c a) = _
      rw [sa]
      have := this.mp y
      omega
    · rw [if_neg y]
      have : ¬ f a < f (a + 1) := fun w => y (this.mpr w)
      omega
  · rw [if_neg z] at sa ⊢
    by_cases x : (a - c - 1) % (m : Int) = 0
    · have := cls_lt (a := a - 1) (by omega) pf (c := c) (by rw [show a - 1 - (c : Int) = a - c - 1 by omega]; exact x)
      rw [show a - 1 + 1 = a by omega] at this
      rw [if_pos x] at sa ⊢
      unfold gl1
      by_cases y : f (c : Int) < f ((c : Int) + 1)
      · rw [if_pos y]
        show f (Swp m c a) = _
        rw [sa]
        have := this.mp y
        omega
      · rw [if_neg y]
        have : ¬ f (a - 1) < f a := fun w => y (this.mpr w)
        omega
    · rw [if_neg x] at sa ⊢
      unfold gl1
      by_cases y : f (c : Int) < f ((c : Int) + 1)
      · rw [if_pos y]
        show f (Swp m c a) = _
        rw [sa]
      · rw [if_neg y]
/-- a greedy letter on tables -/
theorem cnt_gl {m c : Nat} (hm : 2 ≤ m) {f : Int → Int} (h : RdF m f) (a b : Int) : cntR m (gl1 m f c) a b = Sc m c (cntR m f) a b := by
  obtain ⟨tot, t0, fb⟩ := per_top (by omega) h.per
  have st := fun a => cnt_step (show 1 ≤ m by omega) h.per a b
  have gb : ∀ i, gl1 m f c i ≤ i + (tot + 1) := fun i => by
    rw [gl1_at hm h.per]
    have a1 := fb i
    have a2 := fb (i + 1)
    have a3 := fb (i - 1)
    split
    · omega
    · split <;> omega
  refine cnt_all (by omega) (h.gl hm c).per gb (b := b) (h := fun a => Sc m c (cntR m f) a b) (fun a => ?_) (fun a ha => ?_) a
  · show Sc m c (cntR m f) a b - Sc m c (cntR m f) (a - 1) b = _
    rw [gl1_at hm h.per]
    unfold Sc
    have s0 := st a
    have s1 := st (a + 1)
    have s2 := st (a - 1)
    rw [show a + 1 - 1 = a by omega] at s1
    by_cases z : (a - c) % (m : Int) = 0
    · have y : (a - 1 - c) % (m : Int) ≠ 0 := by
        have := (mod_one hm z).2
        rwa [show a - (c : Int) - 1 = a - 1 - c by omega] at this
      rw [if_pos z, if_neg y, if_pos z]
      split at s0 <;> split at s1 <;> split <;> omega
    · rw [if_neg z, if_neg z]
      by_cases x : (a - c - 1) % (m : Int) = 0
      · have y : (a - 1 - c) % (m : Int) = 0 := by rwa [show a - 1 - (c : Int) = a - c - 1 by omega]
        rw [if_pos y, if_pos x, show a - 1 + 1 = a by omega]
        split at s0 <;> split at s2 <;> split <;> omega
      · have y : ¬ (a - 1 - c) % (m : Int) = 0 := by rwa [show a - 1 - (c : Int) = a - c - 1 by omega]
        rw [if_neg y, if_neg x]
        exact s0
  · show Sc m c (cntR m f) a b = 0
    have lo : ∀ x, x < -tot - b → cntR m f x b = 0 := fun x hx => by
      have := cnt_all (by omega) h.per fb (b := b) (h := fun x => cntR m f x b) (fun a => st a) (fun y hy => ?_) x
      · have w := cnt_low (show 1 ≤ m by omega) fb (a := x - m - 1) (b := b) (by omega)
        have down : ∀ n : Nat, cntR m f (x - n) b = cntR m f x b := fun n => by
          induction n with
          | zero => simp
          | succ n ih =>
            have s := st (x - n)
            rw [if_neg (by have := fb (x - n); omega)] at s
            rw [show x - ((n + 1 : Nat) : Int) = x - n - 1 by omega]
            omega
        have := down (m + 1)
        rw [show x - ((m + 1 : Nat) : Int) = x - m - 1 by omega] at this
        omega
      · have w := cnt_low (show 1 ≤ m by omega) fb (a := y - m - 1) (b := b) (by omega)
        have down : ∀ n : Nat, cntR m f (y - n) b = cntR m f y b := fun n => by
          induction n with
          | zero => simp
          | succ n ih =>
            have s := st (y - n)
            rw [if_neg (by have := fb (y - n); omega)] at s
            rw [show y - ((n + 1 : Nat) : Int) = y - n - 1 by omega]
            omega
        have := down (m + 1)
        rw [show y - ((m + 1 : Nat) : Int) = y - m - 1 by omega] at this
        show cntR m f y b = 0
        omega
    unfold Sc
    split
    · rw [lo (a - 1) (by omega), lo (a + 1) (by omega)]
      omega
    · exact lo a (by omega)
/-- T is the least sum of F and G -/
def IsMin (T F G : Int → Int → Int) : Prop := ∀ a b, (∀ l, T a b ≤ F a l + G (-l - 1) b) ∧ ∃ l, T a b = F a l + G (-l - 1) b
theorem isMin_step {m c : Nat} {T F G : Int → Int → Int} (h : IsMin T F G) : IsMin (Sc m c T) (Sc m c F) G := fun a b => by
  have le : ∀ l, Sc m c T a b ≤ Sc m c F a l + G (-l - 1) b := fun l => by
    unfold Sc
    split
    · have h1 := (h (a - 1) b).1 l
      have h2 := (h (a + 1) b).1 l
      omega
    · exact (h a b).1 l
  refine ⟨le, ?_⟩
  by_cases z : (a - c) % (m : Int) = 0
  · obtain ⟨l1, e1⟩ := (h (a - 1) b).2
    obtain ⟨l2, e2⟩ := (h (a + 1) b).2
    have u1 := le l1
    have u2 := le l2
    have t : Sc m c T a b = min (T (a - 1) b + 1) (T (a + 1) b) := by unfold Sc; rw [if_pos z]
    have f1 : ∀ l, Sc m c F a l = min (F (a - 1) l + 1) (F (a + 1) l) := fun l => by unfold Sc; rw [if_pos z]
    rw [f1] at u1 u2
    by_cases y : T (a - 1) b + 1 ≤ T (a + 1) b
    · refine ⟨l1, ?_⟩
      rw [f1]
      omega
    · refine ⟨l2, ?_⟩
      rw [f1]
      omega
  · obtain ⟨l, e⟩ := (h a b).2
    refine ⟨l, ?_⟩
    unfold Sc
    rw [if_neg z, if_neg z]
    exact e
theorem isMin_glw {m : Nat} (hm : 1 ≤ m) {G : Int → Int → Int} : ∀ (w : List Nat) {f g : Int → Int}, RdF m f → RdF m g → (2 ≤ m ∨ w = []) → IsMin (cntR m f) (cntR m g) G → IsMin (cntR m (glw m f w)) (cntR m (glw m g w)) G
  | [], _, _, _, _, _, h => h
  | c :: w, f, g, hf, hg, e, h => by
    rcases e with e | e
    · refine isMin_glw hm w (hf.gl e c) (hg.gl e c) (.inl e) ?_
      rw [show cntR m (gl1 m f c) = Sc m c (cntR m f) from funext fun a => funext fun b => cnt_gl e hf a b, show cntR m (gl1 m g c) = Sc m c (cntR m g) from funext fun a => funext fun b => cnt_gl e hg a b]
      exact isMin_step h
    · cases e
theorem cnt_shift {m : Nat} (hm : 1 ≤ m) (t a b : Int) : cntR m (fun i => i + t) a b = max 0 (a + b + t + 1) := by
  refine cnt_all hm (RdF.shift hm t).per (tot := t) (fun i => Int.le_refl _) (b := b) (h := fun a => max 0 (a + b + t + 1)) (fun a => ?_) (fun a ha => ?_) a
  · show max 0 (a + b + t + 1) - max 0 (a - 1 + b + t + 1) = _
    split <;> omega
  · show max 0 (a + b + t + 1) = 0
    omega
theorem cnt_lowR {m : Nat} (hm : 1 ≤ m) {f : Int → Int} (pf : Per m f) {tot : Int} (fb : ∀ i, f i ≤ i + tot) {a b : Int} (h : a < -tot - b) : cntR m f a b = 0 := by
  have w := cnt_low hm fb (a := a - m - 1) (b := b) (by omega)
  have down : ∀ n : Nat, cntR m f (a - n) b = cntR m f a b := fun n => by
    induction n with
    | zero => simp
    | succ n ih =>
      have s := cnt_step hm pf (a - n) b
      rw [if_neg (by have := fb (a - n); omega)] at s
      rw [show a - ((n + 1 : Nat) : Int) = a - n - 1 by omega]
      omega
  have := down (m + 1)
  rw [show a - ((m + 1 : Nat) : Int) = a - m - 1 by omega] at this
  omega
theorem cnt_moved {m : Nat} (hm : 1 ≤ m) {f : Int → Int} (h : RdF m f) (t a b : Int) : cntR m (fun i => f (i + t)) a b = cntR m f (a + t) b := by
  obtain ⟨tot, t0, fb⟩ := per_top hm h.per
  refine cnt_all hm (h.moved hm t).per (tot := tot + t) (fun i => by have := fb (i + t); omega) (b := b) (h := fun a => cntR m f (a + t) b) (fun a => ?_) (fun a ha => cnt_lowR hm h.per fb (by omega)) a
  have := cnt_step hm h.per (a + t) b
  rwa [show a + t - 1 = a - 1 + t by omega] at this
theorem cnt_grow {m : Nat} (hm : 1 ≤ m) {f : Int → Int} (pf : Per m f) (b : Int) (n : Nat) (a : Int) : cntR m f a b ≤ cntR m f (a + n) b ∧ cntR m f (a + n) b ≤ cntR m f a b + n := by
  induction n with
  | zero => simp
  | succ n ih =>
    have s := cnt_step hm pf (a + ((n + 1 : Nat) : Int)) b
    rw [show a + ((n + 1 : Nat) : Int) - 1 = a + n by omega] at s
    split at s <;> omega
theorem cnt_mono {m : Nat} (hm : 1 ≤ m) {f : Int → Int} (pf : Per m f) {x y : Int} (h : x ≤ y) (b : Int) : cntR m f x b ≤ cntR m f y b ∧ cntR m f y b ≤ cntR m f x b + (y - x) := by
  have := cnt_grow hm pf b (y - x).toNat x
  rw [Int.toNat_of_nonneg (by omega), show x + (y - x) = y by omega] at this
  exact this
theorem isMin_shift {m : Nat} (hm : 1 ≤ m) {p : Int → Int} (h : RdF m p) (t : Int) : IsMin (cntR m fun i => p (i + t)) (cntR m fun i => i + t) (cntR m p) := fun a b => by
  rw [cnt_moved hm h]
  refine ⟨fun l => ?_, -a - t - 1, ?_⟩
  · rw [cnt_shift hm]
    rcases Int.le_total (a + t) (-l - 1) with z | z
    · have := (cnt_mono hm h.per z b).1
      omega
    · have := (cnt_mono hm h.per z b).2
      omega
  · rw [cnt_shift hm, show -(-a - t - 1) - 1 = a + t by omega]
    omega
/-- the greedy product -/
def grd (m : Nat) (p q : Int → Int) : Int → Int := glw m (fun i => p (i + shf m q)) (red m (fallsR m q).toNat q)
theorem red_two {m : Nat} (hm : 1 ≤ m) {q : Int → Int} (h : RdF m q) (n : Nat) (e : fallsR m q = n) : 2 ≤ m ∨ red m n q = [] := by
  rcases Nat.lt_or_ge m 2 with y | y
  · right
    have : m = 1 := by omega
    subst this
    cases n with
    | zero => rfl
    | succ n =>
      show (match ff 1 q with | none => [] | some c => red 1 n (sw1 1 q c) ++ [c]) = []
      rw [ff_one h.per]
  · exact .inl y
theorem grd_min {m : Nat} (hm : 1 ≤ m) {p q : Int → Int} (hp : RdF m p) (hq : RdF m q) : IsMin (cntR m (grd m p q)) (cntR m q) (cntR m p) := by
  have n0 : fallsR m q = ((fallsR m q).toNat : Int) := by have := falls_nn m q; omega
  have a := red_all hm (fallsR m q).toNat q hq n0
  have t := red_two hm hq _ n0
  have := isMin_glw hm (red m (fallsR m q).toNat q) (hp.moved hm (shf m q)) (RdF.shift hm (shf m q)) t (isMin_shift hm hp (shf m q))
  rw [a.1] at this
  exact this
theorem grd_rd {m : Nat} (hm : 1 ≤ m) {p q : Int → Int} (hp : RdF m p) (hq : RdF m q) : RdF m (grd m p q) := by
  have n0 : fallsR m q = ((fallsR m q).toNat : Int) := by have := falls_nn m q; omega
  exact RdF.glw hm _ (hp.moved hm _) (red_two hm hq _ n0)
theorem shf_moved {m : Nat} (hm : 1 ≤ m) {p : Int → Int} (hp : RdF m p) (t : Int) : shf m (fun i => p (i + t)) = shf m p + t := by
  rw [shf_comp hm hp.per (RdF.shift hm t).per hp.perm (RdF.shift hm t).perm (hp.moved hm t).perm, shf_plain hm]
theorem grd_shf {m : Nat} (hm : 1 ≤ m) {p q : Int → Int} (hp : RdF m p) (hq : RdF m q) : shf m (grd m p q) = shf m p + shf m q := by
  have n0 : fallsR m q = ((fallsR m q).toNat : Int) := by have := falls_nn m q; omega
  unfold grd
  rw [shf_glw hm _ (hp.moved hm _) (red_two hm hq _ n0), shf_moved hm hp]
theorem falls_moved {m : Nat} (hm : 1 ≤ m) {p : Int → Int} (hp : RdF m p) (t : Int) : fallsR m (fun i => p (i + t)) = fallsR m p := by
  have one : ∀ {g : Int → Int}, RdF m g → fallsR m (fun i => g (i + 1)) = fallsR m g := fun {g} hg => by
    have I1 := inj_of hg.per (hg.inj hm)
    have I2 := inj_of (hg.moved hm 1).per ((hg.moved hm 1).inj hm)
    have s1 := sq2_falls hm I1
    have s2 := sq2_falls hm I2
    have e : sq2 m (fun i => g (i + 1)) = sq2 m g := by
      have per2 : ∀ i j p q : Int, ab (dd m g (i + m * p) (j + m * q)) = ab (dd m g i j) := fun i j p q => by rw [dd_mod (by omega) hg.per]
      have rot : ∀ h : Int → Int, (∀ x, h (x + m) = h x) → sumL (List.range m) (fun (i : Nat) => h ((i : Int) + 1)) = sumL (List.range m) fun (i : Nat) => h (i : Int) := fun h hp => by
        have := tele (fun x => h (x + 1)) m
        have e1 : sumL (List.range m) (fun (i : Nat) => h ((i : Int) + 1)) = sumL (List.range m) (fun (i : Nat) => h (i : Int)) + sumL (List.range m) (fun (i : Nat) => h ((i : Int) + 1) - h ((i : Int) - 1 + 1)) := by
          rw [← sumL_add]
          refine sumL_congr fun i _ => ?_
          rw [show (i : Int) - 1 + 1 = i by omega]
          omega
        have e2 := hp (-1 + 1)
        rw [show (-1 : Int) + 1 + m = (m : Int) - 1 + 1 by omega] at e2
        omega
      unfold sq2
      rw [sqr_full (fun i => dd_self _ _ _), sqr_full (fun i => dd_self _ _ _)]
      have e1 : ∀ i j : Int, ab (dd m (fun x => g (x + 1)) i j) = ab (dd m g (i + 1) (j + 1)) := fun i j => by
        unfold dd
        rw [show j + 1 - (i + 1) = j - i by omega]
      rw [show (sumL (List.range m) fun (i : Nat) => sumL (List.range m) fun (j : Nat) => ab (dd m (fun x => g (x + 1)) i j)) = sumL (List.range m) fun (i : Nat) => (fun x : Int => sumL (List.range m) fun (j : Nat) => ab (dd m g x j)) ((i : Int) + 1) from sumL_congr fun i _ => by
        rw [show (sumL (List.range m) fun (j : Nat) => ab (dd m (fun x => g (x + 1)) i j)) = sumL (List.range m) fun (j : Nat) => (fun y : Int => ab (dd m g ((i : Int) + 1) y)) ((j : Int) + 1) from sumL_congr fun j _ => e1 i j]
        exact rot (fun y => ab (dd m g ((i : Int) + 1) y)) fun x => by
          have := per2 ((i : Int) + 1) x 0 1
          rwa [Int.mul_zero, Int.add_zero, Int.mul_one] at this]
      exact rot (fun x => sumL (List.range m) fun (j : Nat) => ab (dd m g x j)) fun x => sumL_congr fun j _ => by
        have := per2 x (j : Int) 1 0
        rwa [Int.mul_zero, Int.add_zero, Int.mul_one] at this
    omega
  have up : ∀ n : Nat, ∀ {g : Int → Int}, RdF m g → fallsR m (fun i => g (i + n)) = fallsR m g := fun n => by
    induction n with
    | zero => intro g hg; simp
    | succ n ih =>
      intro g hg
      rw [show (fun i => g (i + ((n + 1 : Nat) : Int))) = fun i => (fun x => g (x + (n : Int))) (i + 1) from funext fun i => by show g (i + ((n + 1 : Nat) : Int)) = g (i + 1 + n); congr 1; omega, one (hg.moved hm n), ih hg]
  rcases Int.le_total 0 t with z | z
  · have := up t.toNat hp
    rwa [Int.toNat_of_nonneg z] at this
  · have := up (-t).toNat (hp.moved hm t)
    rw [Int.toNat_of_nonneg (by omega)] at this
    rw [← this]
    congr 1
    funext i
    congr 1
    omega
theorem grd_falls {m : Nat} (hm : 1 ≤ m) {p q : Int → Int} (hp : RdF m p) (hq : RdF m q) : fallsR m (grd m p q) ≤ fallsR m p + fallsR m q := by
  have n0 : fallsR m q = ((fallsR m q).toNat : Int) := by have := falls_nn m q; omega
  have a := red_all hm (fallsR m q).toNat q hq n0
  have := falls_glw hm _ (hp.moved hm (shf m q)) (red_two hm hq _ n0) a.2.2.2
  rw [falls_moved hm hp, a.2.2.1] at this
  unfold grd
  omega
end K1

/-! tuples and lists of ints compared, whatever they hold -/
namespace CI
open PySem PySem.Spec PyProof.Rows L2 Evl HM LX ZW K1
theorem eqvAll_ints : ∀ a b : List Int, PyData.eqvAll (a.map PyData.int) (b.map PyData.int) = decide (a = b)
  | [], [] => by simp [PyData.eqvAll]
  | [], _ :: _ => by simp [PyData.eqvAll]
  | _ :: _, [] => by simp [PyData.eqvAll]
  | x :: a, y :: b => by
    have := eqvAll_ints a b
    simp only [List.map_cons, PyData.eqvAll, PyData.eqv, this]
    by_cases e : x = y
    · subst e
      simp
    · simp [e]
theorem eqvT (a b : List Int) : PyData.eqv (.tuple (a.map PyData.int)) (.tuple (b.map PyData.int)) = decide (a = b) := by
  rw [← eqvAll_ints]
  simp only [PyData.eqv]
theorem eqvL (a b : List Int) : PyData.eqv (.list (a.map PyData.int)) (.list (b.map PyData.int)) = decide (a = b) := by
  rw [← eqvAll_ints]
  simp only [PyData.eqv]
section
variable {K : PySem.W.Frag} {H : Hp} {p q : Addr} {Q : VK}
theorem eqT {l l' : List Int} (h1 : H p = some (.tup (l.map V.int))) (h2 : H q = some (.tup (l'.map V.int))) (k : Q (.bl (decide (l = l'))) H) : rEqD K (.ref p) (.ref q) H Q :=
  ⟨_, _, .tup (SqT.of h1) (dp_ints l), .tup (SqT.of h2) (dp_ints l'), shaped_intsT _, shaped_intsT _, by rw [eqvT]; exact k⟩
theorem neT {l l' : List Int} (h1 : H p = some (.tup (l.map V.int))) (h2 : H q = some (.tup (l'.map V.int))) (k : Q (.bl (!decide (l = l'))) H) : rNeD K (.ref p) (.ref q) H Q :=
  ⟨_, _, .tup (SqT.of h1) (dp_ints l), .tup (SqT.of h2) (dp_ints l'), shaped_intsT _, shaped_intsT _, by rw [eqvT]; exact k⟩
theorem eqL {l l' : List Int} (h1 : H p = some (.lst (l.map V.int))) (h2 : H q = some (.lst (l'.map V.int))) (k : Q (.bl (decide (l = l'))) H) : rEqD K (.ref p) (.ref q) H Q :=
  ⟨_, _, .lst (SqL.of h1) (dp_ints l), .lst (SqL.of h2) (dp_ints l'), shaped_intsL _, shaped_intsL _, by rw [eqvL]; exact k⟩
theorem neL {l l' : List Int} (h1 : H p = some (.lst (l.map V.int))) (h2 : H q = some (.lst (l'.map V.int))) (k : Q (.bl (!decide (l = l'))) H) : rNeD K (.ref p) (.ref q) H Q :=
  ⟨_, _, .lst (SqL.of h1) (dp_ints l), .lst (SqL.of h2) (dp_ints l'), shaped_intsL _, shaped_intsL _, by rw [eqvL]; exact k⟩
end
end CI

/-! own rules: str of an instance of an own class -/
namespace OW3
open PySem PySem.Spec PyProof.Rows L2
section
variable {X : Cx} {CX : CXT} {n : Nat} {C g : Addr} {sp : Sp} {E : XK}
/-- str(x) -/
def rStrOwn (C : Addr) (sp : Sp) (E : XK) : List V → Hp → VK → Prop := fun xs H Q => ∃ a dx fs, xs = [V.ref a] ∧ H a = some (.ins C dx fs) ∧ sp [.ref a] H (fun z H' => ∃ y : Str, z = .str y ∧ Q (.str y) H') E
theorem call_strOwn (hs : PySem.W.findIn X.K (.ref C) "__str__" = some (some (.ref g))) (hf : PySem.W.isFn X.K (.ref g) = true) (F : FnR X.prog X.w X.K X.mg X.base CX n g sp) (hr : Room (n + 2) X.A) (hx : Passes CX X E) : CallR X (.type "str") (rStrOwn C sp E) := by
  intro pins s σ H xs us Q I r h
  obtain ⟨a, dx, fs, rfl, ea, q⟩ := h
  obtain ⟨u, rfl, ru⟩ := r.one
  cases (show u = Value.ref a from ru)
  obtain ⟨mA, O, _, _, _, _⟩ := ins_get I.hok ea
  obtain ⟨od, J, _⟩ := O.look
  refine PySem.W.kso_call hr.in1.in1.units0 I.kIn J hs hf (wpAny_mono (wpAny_call (SlX.run_at (us := [.ref a]) (ws := [.ref a]) F hr.in1.in1 I.env0.in1.in1 hx I (.cons rfl .nil) q)) (fun w s' z => ?_) fun _ _ x => x)
  obtain ⟨z', H', I', rz, y, ez, qz⟩ := z
  subst ez
  obtain ⟨t, e⟩ := (show ∃ t, w = Value.str y t from rz)
  cases e
  exact ⟨.str y, H', I', ⟨_, rfl⟩, qz⟩
end
end OW3

set_option exponentiation.threshold 400
namespace K1
open PySem PySem.Spec PyProof.Rows L2 Evl HM LX MP ZW
theorem set_map (l : List Int) (i : Nat) (v : Int) : (l.map V.int).set i (V.int v) = (l.set i v).map V.int := (List.map_set ..).symm
/-! rows as tuples or lists -/
/-- a row of values, in a tuple or a list -/
def RowS (H : Hp) (p : Addr) (m : Nat) (f : Int → Int) : Prop := (H p = some (.tup ((rowF m f).map V.int)) ∨ H p = some (.lst ((rowF m f).map V.int))) ∧ 1 ≤ m ∧ m ≤ 60
theorem RowAt.s {H : Hp} {p : Addr} {m : Nat} {f : Int → Int} (h : RowAt H p m f) : RowS H p m f := ⟨.inl h.1, h.2⟩
theorem RowS.ex {H H' : Hp} {p : Addr} {m : Nat} {f : Int → Int} (h : RowS H p m f) (e : Ex H H') : RowS H' p m f := by
  obtain ⟨h1 | h1, h2⟩ := h
  · exact ⟨.inl (e _ _ h1), h2⟩
  · exact ⟨.inr (e _ _ h1), h2⟩
theorem RowS.sq {K : PySem.W.Frag} {H : Hp} {p : Addr} {m : Nat} {f : Int → Int} (h : RowS H p m f) : SqL K H p ((rowF m f).map V.int) ∨ SqT K H p ((rowF m f).map V.int) := by
  obtain ⟨h1 | h1, h2⟩ := h
  · exact .inr (SqT.of h1)
  · exact .inl (SqL.of h1)
theorem RowS.ix {K : PySem.W.Frag} {H : Hp} {p : Addr} {m : Nat} {f : Int → Int} {Q : VK} (h : RowS H p m f) {j : Int} (i : Nat) (hi : i < m) (hj : j = (i : Int)) (q : Q (.int (f (i : Int))) H) : rIx K (.ref p) (.int j) H Q := by
  subst hj
  rcases h.sq (K := K) with s | s
  · exact .inl ⟨p, _, _, _, rfl, rfl, s, atI_nat (rowF_get hi), q⟩
  · exact .inr (.inl ⟨p, _, _, _, rfl, rfl, s, atI_nat (rowF_get hi), q⟩)
theorem rowL {m : Nat} {f : Int → Int} : ((rowF m f).map V.int).length = m := by rw [List.length_map, rowF_len]
theorem sw1_row {m c : Nat} (m2 : 2 ≤ m) (hc : c < m) {f : Int → Int} (pf : Per m f) : ((rowF m f).set c (f (((c + 1) % m : Nat) : Int) + ((c : Int) + 1 - (((c + 1) % m : Nat) : Int)))).set ((c + 1) % m) (f (c : Int) - ((c : Int) + 1 - (((c + 1) % m : Nat) : Int))) = rowF m (sw1 m f c) := by
  have bc : (c + 1) % m = if c + 1 = m then 0 else c + 1 := by
    by_cases z : c + 1 = m
    · rw [if_pos z, z, Nat.mod_self]
    · rw [if_neg z, Nat.mod_eq_of_lt (by omega)]
  have hb : (c + 1) % m < m := Nat.mod_lt _ (by omega)
  refine List.ext_getElem (by rw [List.length_set, List.length_set, rowF_len, rowF_len]) fun i h1 h2 => ?_
  rw [rowF_len] at h2
  have er : (rowF m (sw1 m f c))[i] = f (Swp m c (i : Int)) := by simp [rowF, sw1]
  have e0 : ∀ h : i < (rowF m f).length, (rowF m f)[i] = f (i : Int) := fun h => by simp [rowF]
  rw [er, List.getElem_set, List.getElem_set, e0, swp_at hc i h2, ← bc]
  obtain ⟨q, hq⟩ : ∃ q : Int, (c : Int) + 1 = (((c + 1) % m : Nat) : Int) + m * q := by
    rw [bc]
    by_cases z : c + 1 = m
    · exact ⟨1, by rw [if_pos z]; omega⟩
    · exact ⟨0, by rw [if_neg z]; omega⟩
  by_cases a : i = c
  · subst a
    have ne : ¬ (i + 1) % m = i := by rw [bc]; split <;> omega
    rw [if_neg ne, if_pos rfl, if_pos rfl]
    have := per_q pf ((((i + 1) % m : Nat) : Int)) q
    rw [← hq] at this
    omega
  · rw [if_neg a]
    by_cases b : i = (c + 1) % m
    · rw [if_pos b.symm, if_pos b]
      have := per_q pf ((i : Int) - 1) q
      rw [show (i : Int) - 1 + m * q = c by rw [b]; omega] at this
      rw [← b] at hq ⊢
      omega
    · rw [if_neg (fun z => b z.symm), if_neg (fun z => a z.symm), if_neg b]
section
variable {P : Program} {w : World} {K : PySem.W.Frag} {mg : Str → Option Value} {base : Heap} {C : Addr}
def spValueS : Sp := fun vs H Q _ => ∃ (p : Addr) (m : Nat) (f : Int → Int) (i : Int), vs = [.ref p, .int i] ∧ RowS H p m f ∧ Per m f ∧ Q (.int (f i)) H
theorem ok_value_s (T : Txt K mg) {f : Addr} {fd : FuncData} (D : DefAt K mg "value_in" sValueIn ["values", "i"] f fd) : FnOk P w K mg base CX0 1 f fd ["values", "i"] spValueS := by
  refine D.F.ok scValueIn (fun vs H Q E h => ?_) (fun cdv A outer s₀ H vs Q E hr h => ?_)
  · obtain ⟨p, m, f, i, rfl, _⟩ := h
    rfl
  · obtain ⟨p, m, f, i, rfl, hp, pf, kQ⟩ := h
    refine ⟨_, pss_cons (ps_set (i := 2) scValueIn.nd rfl (.inl rfl) (pe_op op_mod (pv 1) (pe_callB call_len_seq (by rfl) T.z_len PySem.boot_len (pa_cons (pv 0) pa_nil))))
      (pss_one (ps_ret (pe_op op_sub (pe_op op_add (pe_ix ix_seq (pv 0) (pv 2) (fun _ _ => rfl)) (pv 1)) (pv 2)))), ?_⟩
    have m1 := hp.2.1
    obtain ⟨r, hr', rm⟩ := rest_at m1 i
    refine ⟨_, rfl, _, rfl, p, _, rfl, hp.sq, ?_⟩
    rw [rowL]
    refine ⟨_, _, rfl, rfl, (show (0 : Int) < m by omega), ?_⟩
    refine ⟨_, rfl, _, rfl, hp.ix r rm hr'.symm ?_⟩
    refine ⟨_, rfl, _, _, rfl, rfl, _, rfl, _, _, rfl, rfl, ?_⟩
    have e := rest_val pf i
    rw [hr']
    show Q (V.int (f (i % (m : Int)) + i - i % (m : Int))) H
    rw [e]
    exact kQ
def spExchS : Sp := fun vs H Q _ => ∃ (p : Addr) (m c : Nat) (f : Int → Int), vs = [.ref p, .int (c : Int)] ∧ RowS H p m f ∧ Per m f ∧ 2 ≤ m ∧ c < m ∧ ∀ l2 H', Ex H H' → H l2 = none → H' l2 = some (.lst ((rowF m (sw1 m f c)).map V.int)) → Q (.ref l2) H'
theorem ok_exchS (T : Txt K mg) {f : Addr} {fd : FuncData} (D : DefAt K mg "exchanged" sExchanged ["values", "c"] f fd) : FnOk P w K mg base CX0 1 f fd ["values", "c"] spExchS := by
  refine D.F.ok scExchanged (fun vs H Q E h => ?_) (fun cdv A outer s₀ H vs Q E hr h => ?_)
  · obtain ⟨l, m, c, f, rfl, _⟩ := h
    rfl
  · obtain ⟨l, m, c, f, rfl, hl, pf, m2, hc, kQ⟩ := h
    refine ⟨_, pss_cons (ps_set (i := 2) scExchanged.nd rfl (.inl rfl) (pe_callB call_len_seq (by rfl) T.z_len PySem.boot_len (pa_cons (pv 0) pa_nil)))
      (pss_cons (ps_set (i := 3) scExchanged.nd rfl (.inl rfl) (pe_op op_mod (pe_op op_add (pv 1) pe_int) (pv 2)))
      (pss_cons (ps_set (i := 4) scExchanged.nd rfl (.inl rfl) (pe_op op_sub (pe_op op_add (pv 1) pe_int) (pv 3)))
      (pss_cons (ps_set (i := 5) scExchanged.nd rfl (.inl rfl) (pe_callTy call_list_of (by rfl) T.z_list (by decide +kernel) (pa_cons (pv 0) pa_nil)))
      (pss_cons (ps_asg (pe_op op_add (pe_ix ix_seq (pv 0) (pv 3) (fun _ _ => rfl)) (pv 4)) (pg_sub (pv 5) (pv 1) set_list))
      (pss_cons (ps_asg (pe_op op_sub (pe_ix ix_seq (pv 0) (pv 1) (fun _ _ => rfl)) (pv 4)) (pg_sub (pv 5) (pv 3) set_list))
      (pss_one (ps_ret (pv 5)))))))), ?_⟩
    have hb : (c + 1) % m < m := Nat.mod_lt _ (by omega)
    have eb : ((c : Int) + 1) % (m : Int) = (((c + 1) % m : Nat) : Int) := by rw [Int.natCast_emod]; rfl
    refine ⟨_, rfl, l, _, rfl, hl.sq, ?_⟩
    rw [rowL]
    refine ⟨_, rfl, _, _, rfl, rfl, _, rfl, _, _, rfl, rfl, (by omega), ?_⟩
    refine ⟨_, rfl, _, _, rfl, rfl, _, rfl, _, _, rfl, rfl, ?_⟩
    refine ⟨_, rfl, l, _, rfl, hl.sq, fun l2 h2 => ?_⟩
    have xl := Ex.new (o := .lst ((rowF m f).map V.int)) h2
    have gl := hl.ex xl
    have nl : l ≠ l2 := by
      rcases hl.1 with z | z
      · exact ne_of_none z h2
      · exact ne_of_none z h2
    refine ⟨_, rfl, _, rfl, gl.ix _ hb eb ?_⟩
    refine ⟨_, rfl, _, _, rfl, rfl, _, rfl, _, rfl, l2, _, _, c, rfl, rfl, upd_same, ixN_nat (by rw [rowL]; exact hc), ?_⟩
    have gl2 : RowS (upd (upd H l2 (.lst ((rowF m f).map V.int))) l2 (.lst (((rowF m f).map V.int).set c (V.int (f (((c + 1) % m : Nat) : Int) + ((c : Int) + 1 - ((c : Int) + 1) % (m : Int))))))) l m f := by
      obtain ⟨z | z, y⟩ := gl
      · exact ⟨.inl (by rw [upd_ne nl]; exact z), y⟩
      · exact ⟨.inr (by rw [upd_ne nl]; exact z), y⟩
    refine ⟨_, rfl, _, rfl, gl2.ix c hc rfl ?_⟩
    refine ⟨_, rfl, _, _, rfl, rfl, _, rfl, _, rfl, l2, _, _, (c + 1) % m, rfl, rfl, upd_same, (by rw [eb]; exact ixN_nat (by rw [List.length_set, rowL]; exact hb)), ?_⟩
    refine ⟨_, rfl, kQ l2 _ (fun b o e => ?_) h2 ?_⟩
    · have nb : b ≠ l2 := fun z => by rw [z, show H l2 = none from h2] at e; cases e
      rw [upd_ne nb, upd_ne nb]
      exact xl _ _ e
    · rw [upd_same, set_map, set_map, eb, sw1_row m2 hc pf]
def spRising : Sp := fun vs H Q _ => ∃ (p : Addr) (m c : Nat) (f : Int → Int), vs = [.ref p, .int (c : Int)] ∧ RowS H p m f ∧ Per m f ∧ c < m ∧ Q (.bl (decide (f (c : Int) < f ((c : Int) + 1)))) H
theorem ok_rising (T : Txt K mg) {f : Addr} {fd : FuncData} (D : DefAt K mg "is_rising" sIsRising ["values", "c"] f fd) : FnOk P w K mg base CX0 2 f fd ["values", "c"] spRising := by
  refine D.F.ok scIsRising (fun vs H Q E h => ?_) (fun cdv A outer s₀ H vs Q E hr h => ?_)
  · obtain ⟨p, m, c, f, rfl, _⟩ := h
    rfl
  · obtain ⟨p, m, c, f, rfl, hp, pf, hc, kQ⟩ := h
    obtain ⟨f1, fd1, D1⟩ := T.d_value_in
    have hr1 : Room 1 _ := hr.mono (by decide)
    refine ⟨_, pss_one (ps_ret (pe_cmpR op_lt (pe_ix ix_seq (pv 0) (pv 1) (fun _ _ => rfl)) (pe_call (ok_value_s T D1) hr1 (by rfl) D1.g D1.F.kp D1.b .nil pass0 (pa_cons (pv 0) (pa_cons (pe_op op_add (pv 1) pe_int) pa_nil))) (nomark _))), ?_⟩
    refine ⟨_, rfl, _, rfl, hp.ix c hc rfl ?_⟩
    exact ⟨_, rfl, _, rfl, _, _, rfl, rfl, p, m, f, _, rfl, hp, pf, _, _, rfl, rfl, kQ⟩
def opt : Option Nat → V
  | none => .non
  | some c => .int (c : Int)
theorem ff_is {m c : Nat} {f : Int → Int} (hc : c < m) (h1 : ∀ x, x < c → f (x : Int) < f ((x : Int) + 1)) (h2 : ¬ f (c : Int) < f ((c : Int) + 1)) : ff m f = some c := by
  cases e : ff m f with
  | none => exact absurd (ff_none e c hc) h2
  | some d =>
    obtain ⟨d1, d2⟩ := ff_some e
    rcases Nat.lt_trichotomy d c with z | z | z
    · exact absurd (h1 d z) d2
    · rw [z]
    · exfalso
      have := List.find?_eq_some_iff_append.mp e
      obtain ⟨_, as, bs, e1, e2⟩ := this
      have h4 : as.length < m := by
        have := congrArg List.length e1
        simp at this
        omega
      have l : as.length = d := by
        have h3 : (List.range m)[as.length]? = (as ++ d :: bs)[as.length]? := by rw [e1]
        rw [List.getElem?_range h4, List.getElem?_append_right (Nat.le_refl _), Nat.sub_self] at h3
        exact Option.some.inj h3
      have mem : c ∈ as := by
        have h3 : (List.range m)[c]? = (as ++ d :: bs)[c]? := by rw [e1]
        rw [List.getElem?_range hc, List.getElem?_append_left (by omega)] at h3
        exact List.mem_of_getElem? h3.symm
      have := e2 c mem
      simp at this
      exact h2 this
theorem ff_all {m : Nat} {f : Int → Int} (h : ∀ x, x < m → f (x : Int) < f ((x : Int) + 1)) : ff m f = none := by
  cases e : ff m f with
  | none => rfl
  | some d =>
    obtain ⟨d1, d2⟩ := ff_some e
    exact absurd (h d d1) d2
def spFirst : Sp := fun vs H Q _ => ∃ (p : Addr) (m : Nat) (f : Int → Int), vs = [.ref p] ∧ RowS H p m f ∧ Per m f ∧ Q (opt (ff m f)) H
theorem ok_first (T : Txt K mg) {f : Addr} {fd : FuncData} (D : DefAt K mg "first_fall" sFirstFall ["values"] f fd) : FnOk P w K mg base CX0 3 f fd ["values"] spFirst := by
  refine D.F.ok scFirstFall (fun vs H Q E h => ?_) (fun cdv A outer s₀ H vs Q E hr h => ?_)
  · obtain ⟨p, m, f, rfl, _⟩ := h
    rfl
  · obtain ⟨p, m, f, rfl, hp, pf, kQ⟩ := h
    obtain ⟨f1, fd1, D1⟩ := T.d_is_rising
    have hr2 : Room 2 _ := hr.mono (by decide)
    refine ⟨_, pss_cons (ps_for PassesOwn.never rfl (pi_range1 (by rfl) T.z_range (pa_cons (pe_callB call_len_seq (by rfl) T.z_len PySem.boot_len (pa_cons (pv 0) pa_nil)) pa_nil)) (pg_name (i := 1) scFirstFall.nd rfl (.inl rfl))
        (pss_one (ps_if (pt_not (pt_val (pe_call (ok_rising T D1) hr2 (by rfl) D1.g D1.F.kp D1.b .nil pass0 (pa_cons (pv 0) (pa_cons (pv 1) pa_nil))))) (pss_one (ps_ret (pv 1))) pss_nil)))
      (pss_one (ps_ret pe_non)), ?_⟩
    have m60 := hp.2.2
    refine ⟨_, rfl, p, _, rfl, hp.sq, ?_⟩
    rw [rowL]
    refine ⟨_, rfl, by omega, by omega, for_range (lo := 0) (n := (m : Int).toNat) (fun i σ' H' => ∃ (y1 : Option V), σ' = [some (.ref p), y1] ∧ H = H' ∧ ∀ x, x < i → f (x : Int) < f ((x : Int) + 1)) ⟨none, rfl, rfl, fun x hx => absurd hx (Nat.not_lt_zero x)⟩ (fun i σ' H' hi hW => ?_) (fun σ' H' hW => ?_)⟩
    · obtain ⟨y1, rfl, rfl, h⟩ := hW
      have hi : i < m := hi
      refine ⟨_, rfl, _, rfl, p, m, i, f, by rw [Int.zero_add]; rfl, hp, pf, hi, ?_⟩
      by_cases z : f (i : Int) < f ((i : Int) + 1)
      · rw [decide_eq_true z]
        refine ⟨true, rfl, iteF ?_⟩
        exact ⟨_, rfl, rfl, fun x hx => by
          rcases Nat.lt_or_ge x i with y | y
          · exact h x y
          · rw [show x = i by omega]; exact z⟩
      · rw [decide_eq_false z]
        refine ⟨false, rfl, iteT ?_⟩
        refine ⟨_, rfl, ?_⟩
        rw [ff_is hi h z] at kQ
        rw [Int.zero_add]
        exact kQ
    · obtain ⟨y1, rfl, rfl, h⟩ := hW
      rw [ff_all fun x hx => h x (show x < m from hx)] at kQ
      exact kQ
end
end K1

set_option exponentiation.threshold 400
namespace K1
open PySem PySem.Spec PyProof.Rows L2 Evl HM LX MP ZW
section
variable {P : Program} {w : World} {K : PySem.W.Frag} {mg : Str → Option Value} {base : Heap} {C : Addr}
/-! heaps in which round maps may have counted their falls -/
/-- an object of the class that has counted since -/
def Cac (C : Addr) (H' : Hp) (b : Addr) (o : HO) : Prop := ∃ dx p m f, o = .ins C dx (rf p .non) ∧ RowAt H' p m f ∧ H' b = some (.ins C dx (rf p (.int (fallsR m f))))
/-- all but d stays, but for what was counted -/
def KC (C d : Addr) (H H' : Hp) : Prop := ∀ b o, b ≠ d → H b = some o → H' b = some o ∨ Cac C H' b o
/-- all stays, but for what was counted -/
def EC (C : Addr) (H H' : Hp) : Prop := ∀ b o, H b = some o → H' b = some o ∨ Cac C H' b o
theorem EC.of {H H' : Hp} (e : Ex H H') : EC C H H' := fun b o h => .inl (e b o h)
theorem EC.kc {H H' : Hp} {d : Addr} (e : EC C H H') : KC C d H H' := fun b o _ h => e b o h
theorem KC.keep {H H' : Hp} {d : Addr} (e : Keep d H H') : KC C d H H' := fun b o n h => .inl (e b o n h)
theorem EC.tup {H H' : Hp} {p : Addr} {xs : List V} (e : EC C H H') (h : H p = some (.tup xs)) : H' p = some (.tup xs) := by
  rcases e _ _ h with z | ⟨_, _, _, _, z, _⟩
  · exact z
  · cases z
theorem EC.lst {H H' : Hp} {p : Addr} {xs : List V} (e : EC C H H') (h : H p = some (.lst xs)) : H' p = some (.lst xs) := by
  rcases e _ _ h with z | ⟨_, _, _, _, z, _⟩
  · exact z
  · cases z
theorem KC.tup {H H' : Hp} {d p : Addr} {xs : List V} (e : KC C d H H') (hd : Dice H d) (h : H p = some (.tup xs)) : H' p = some (.tup xs) := by
  have n : p ≠ d := fun z => by
    subst z
    obtain ⟨_, _, _, hl⟩ := hd
    rw [hl] at h
    cases h
  rcases e _ _ n h with z | ⟨_, _, _, _, z, _⟩
  · exact z
  · cases z
theorem KC.lst {H H' : Hp} {d p : Addr} {xs : List V} (e : KC C d H H') (n : p ≠ d) (h : H p = some (.lst xs)) : H' p = some (.lst xs) := by
  rcases e _ _ n h with z | ⟨_, _, _, _, z, _⟩
  · exact z
  · cases z
theorem rf_num {p q : Addr} {v : V} {i : Int} (h : rf p (.int i) = rf q v) : v = .int i := by
  have a := rf_falls p (.int i)
  rw [h, rf_falls] at a
  exact Option.some.inj a
theorem rf_row {p q : Addr} {v u : V} (h : rf p v = rf q u) : p = q := by
  have a := rf_values p v
  rw [h, rf_values] at a
  exact (V.ref.inj (Option.some.inj a)).symm
theorem EC.trans {H H1 H2 : Hp} (a : EC C H H1) (b : EC C H1 H2) : EC C H H2 := fun x o h => by
  rcases a _ _ h with z | ⟨dx, p, m, f, rfl, r, z⟩
  · exact b _ _ z
  · rcases b _ _ z with y | ⟨dx2, p2, m2, f2, e, _, _⟩
    · exact .inr ⟨dx, p, m, f, rfl, ⟨b.tup r.1, r.2⟩, y⟩
    · injection e with _ _ e
      cases rf_num e
theorem EC.dice {H H' : Hp} {d : Addr} (e : EC C H H') (h : Dice H d) : Dice H' d := by
  obtain ⟨a, b, c, hl⟩ := h
  exact ⟨a, b, c, e.lst hl⟩
theorem KC.trans {H H1 H2 : Hp} {d : Addr} (a : KC C d H H1) (hd : Dice H1 d) (b : KC C d H1 H2) : KC C d H H2 := fun x o n h => by
  rcases a _ _ n h with z | ⟨dx, p, m, f, rfl, r, z⟩
  · exact b _ _ n z
  · rcases b _ _ n z with y | ⟨dx2, p2, m2, f2, e, _, _⟩
    · exact .inr ⟨dx, p, m, f, rfl, ⟨b.tup hd r.1, r.2⟩, y⟩
    · injection e with _ _ e
      cases rf_num e
theorem row_same {H : Hp} {p : Addr} {m n : Nat} {f g : Int → Int} (a : RowAt H p m f) (b : RowAt H p n g) : m = n ∧ ∀ i : Nat, i < m → f (i : Int) = g (i : Int) := by
  have e := a.1.symm.trans b.1
  have e : (rowF m f).map V.int = (rowF n g).map V.int := by
    injection e with e
    injection e
  have l : m = n := by
    have := congrArg List.length e
    rwa [List.length_map, List.length_map, rowF_len, rowF_len] at this
  subst l
  refine ⟨rfl, fun i hi => ?_⟩
  have x := rowF_get (f := f) hi
  have y := rowF_get (f := g) hi
  rw [e, y] at x
  exact (V.int.inj (Option.some.inj x)).symm
/-- a round map that has counted its falls rightly or not at all -/
def RdC (C : Addr) (H : Hp) (x : Addr) (m : Nat) (f : Int → Int) : Prop := ∃ dx p v, H x = some (.ins C dx (rf p v)) ∧ (v = .non ∨ v = .int (fallsR m f)) ∧ RowAt H p m f
theorem RdC.at_ {H : Hp} {x : Addr} {m : Nat} {f : Int → Int} (h : RdC C H x m f) : RdAt C H x m f := by
  obtain ⟨dx, p, v, hx, _, hp⟩ := h
  exact ⟨dx, p, v, hx, hp⟩
theorem RdNew.c {H : Hp} {x : Addr} {m : Nat} {f : Int → Int} (h : RdNew C H x m f) : RdC C H x m f := by
  obtain ⟨dx, p, hx, hp⟩ := h
  exact ⟨dx, p, .non, hx, .inl rfl, hp⟩
theorem RdC.ec {H H' : Hp} {x : Addr} {m : Nat} {f : Int → Int} (h : RdC C H x m f) (e : EC C H H') : RdC C H' x m f := by
  obtain ⟨dx, p, v, hx, hv, hp⟩ := h
  have hp' : RowAt H' p m f := ⟨e.tup hp.1, hp.2⟩
  rcases e _ _ hx with z | ⟨dx2, p2, m2, f2, z, r, y⟩
  · exact ⟨dx, p, v, z, hv, hp'⟩
  · injection z with _ z1 z2
    obtain rfl := rf_row z2
    obtain ⟨rfl, ef⟩ := row_same r hp'
    exact ⟨dx2, p, _, y, .inr (by rw [falls_congr ef]), hp'⟩
theorem RdC.ex {H H' : Hp} {x : Addr} {m : Nat} {f : Int → Int} (h : RdC C H x m f) (e : Ex H H') : RdC C H' x m f := h.ec (EC.of e)
theorem RdC.kc {H H' : Hp} {d x : Addr} {m : Nat} {f : Int → Int} (hd : Dice H d) (h : RdC C H x m f) (e : KC C d H H') : RdC C H' x m f := by
  obtain ⟨dx, p, v, hx, hv, hp⟩ := h
  have hp' : RowAt H' p m f := ⟨e.tup hd hp.1, hp.2⟩
  have n : x ≠ d := fun z => by
    subst z
    obtain ⟨_, _, _, hl⟩ := hd
    rw [hl] at hx
    cases hx
  rcases e _ _ n hx with z | ⟨dx2, p2, m2, f2, z, r, y⟩
  · exact ⟨dx, p, v, z, hv, hp'⟩
  · injection z with _ z1 z2
    obtain rfl := rf_row z2
    obtain ⟨rfl, ef⟩ := row_same r hp'
    exact ⟨dx2, p, _, y, .inr (by rw [falls_congr ef]), hp'⟩
end
end K1

set_option exponentiation.threshold 400
namespace K1
open PySem PySem.Spec PyProof.Rows L2 Evl HM LX MP ZW
theorem rowF_congr' {m : Nat} {f g : Int → Int} (h : f = g) : rowF m f = rowF m g := by rw [h]
def natL (w : List Nat) : List V := w.map fun (c : Nat) => V.int (c : Int)
theorem red_none {m : Nat} {f : Int → Int} (n : Nat) (h : ff m f = none) : red m n f = [] := by
  cases n with
  | zero => rfl
  | succ n =>
    show (match ff m f with | none => [] | some c => red m n (sw1 m f c) ++ [c]) = []
    rw [h]
theorem red_some {m c : Nat} {f : Int → Int} (n : Nat) (h : ff m f = some c) : red m (n + 1) f = red m n (sw1 m f c) ++ [c] := by
  show (match ff m f with | none => [] | some c => red m n (sw1 m f c) ++ [c]) = _
  rw [h]
/-- the word of a map -/
def wd (m : Nat) (f : Int → Int) : List Nat := red m (fallsR m f).toNat f
theorem wd_some {m c : Nat} (hm : 1 ≤ m) {f : Int → Int} (h : RdF m f) (e : ff m f = some c) : wd m f = wd m (sw1 m f c) ++ [c] := by
  have a := red_step hm h e
  have b := falls_nn m (sw1 m f c)
  unfold wd
  rw [show (fallsR m f).toNat = (fallsR m (sw1 m f c)).toNat + 1 by omega, red_some _ e]
section
variable {P : Program} {w : World} {K : PySem.W.Frag} {mg : Str → Option Value} {base : Heap} {C : Addr}
def spLetters : Sp := fun vs H Q _ => ∃ (p : Addr) (m : Nat) (f : Int → Int), vs = [.ref p] ∧ RowS H p m f ∧ RdF m f ∧ fallsR m f ≤ 10 ^ 6 ∧ ∀ l H', Ex H H' → H' l = some (.lst (natL (wd m f))) → Q (.ref l) H'
theorem ok_letters (T : Txt K mg) {f : Addr} {fd : FuncData} (D : DefAt K mg "letters_in" sLettersIn ["values"] f fd) : FnOk P w K mg base CX0 4 f fd ["values"] spLetters := by
  refine D.F.ok scLettersIn (fun vs H Q E h => ?_) (fun cdv A outer s₀ H vs Q E hr h => ?_)
  · obtain ⟨p, m, f, rfl, _⟩ := h
    rfl
  · obtain ⟨p, m, f, rfl, hp, hf, f6, kQ⟩ := h
    obtain ⟨f1, fd1, D1⟩ := T.d_first_fall
    obtain ⟨f2, fd2, D2⟩ := T.d_exchanged
    have hr3 : Room 3 _ := hr.mono (by decide)
    have hr1 : Room 1 _ := hr.mono (by decide)
    refine ⟨_, pss_cons (ps_set (i := 1) scLettersIn.nd rfl (.inl rfl) (pe_lst pa_nil))
      (pss_cons (ps_set (i := 2) scLettersIn.nd rfl (.inl rfl) (pe_call (ok_first T D1) hr3 (by rfl) D1.g D1.F.kp D1.b .nil pass0 (pa_cons (pv 0) pa_nil)))
      (pss_cons (ps_while PassesOwn.never (pt_cmpR op_notN (pv 2) pe_non (nomark _)) (pss_cons (ps_expr (pe_bm PySem.F.plainAttrs_list PySem.F.slot_list_append PySem.F.type_list_append mt_append (pv 1) (pa_cons (pv 2) pa_nil)))
      (pss_cons (ps_set (i := 0) scLettersIn.nd rfl (.inl rfl) (pe_call (ok_exchS T D2) hr1 (by rfl) D2.g D2.F.kp D2.b .nil pass0 (pa_cons (pv 0) (pa_cons (pv 2) pa_nil))))
      (pss_one (ps_set (i := 2) scLettersIn.nd rfl (.inl rfl) (pe_call (ok_first T D1) hr3 (by rfl) D1.g D1.F.kp D1.b .nil pass0 (pa_cons (pv 0) pa_nil)))))))
      (pss_one (ps_ret (pe_revL (pv 1)))))), ?_⟩
    have m1 := hp.2.1
    refine ⟨by show 0 ≤ sizeLine; decide, fun l hl => ?_⟩
    have xl := Ex.new (o := .lst []) hl
    refine ⟨_, rfl, p, m, f, rfl, hp.ex xl, hf.per, ?_⟩
    refine while_by (fun σ' H' => ∃ (q : Addr) (g : Int → Int) (acc : List Nat), σ' = [some (.ref q), some (.ref l), some (opt (ff m g))] ∧ H' l = some (.lst (natL acc)) ∧ RowS H' q m g ∧ q ≠ l ∧ RdF m g ∧ wd m f = wd m g ++ acc.reverse ∧ fallsR m g + acc.length = fallsR m f ∧ Ex H H')
      (fun σ' H' => match H' l with | some (.lst xs) => (fallsR m f).toNat - xs.length | _ => 0) ⟨p, f, [], rfl, (by show _ = some (HO.lst []); exact upd_same), hp.ex xl, ?_, hf, by rw [List.reverse_nil, List.append_nil], by simp, xl⟩ (fun σ' H' hW => ?_) (fun σ H Q Q' h k => ?_)
    · rcases hp.1 with z | z
      · exact ne_of_none z hl
      · exact ne_of_none z hl
    · obtain ⟨q, g, acc, rfl, w1, w2, w3, w4, w5, w6, w7⟩ := hW
      cases e : ff m g with
      | none =>
        refine ⟨_, rfl, rfl, _, rfl, ?_⟩
        rw [show (!decide (opt none = V.non)) = false from by rw [show opt none = V.non from rfl, decide_eq_true rfl]; rfl]
        refine iteF ?_
        refine ⟨_, rfl, l, _, rfl, SqL.of w1, fun r hr2 => kQ r _ (w7.trans (Ex.new hr2)) ?_⟩
        rw [upd_same, w5, show wd m g = [] from red_none _ e, List.nil_append]
        unfold natL
        rw [List.map_reverse]
      | some c =>
        obtain ⟨c1, c2⟩ := ff_some e
        have m2 := ff_two m1 w4 e
        have st := red_step m1 w4 e
        have nn := falls_nn m (sw1 m g c)
        refine ⟨_, rfl, rfl, _, rfl, ?_⟩
        rw [show (!decide (opt (some c) = V.non)) = true from by rw [decide_eq_false (by intro z; cases z)]; rfl]
        refine iteT ?_
        refine ⟨_, rfl, .inl ⟨rfl, _, SqL.of w1⟩, _, rfl, l, _, _, rfl, rfl, w1, ?_, ?_⟩
        · unfold natL
          rw [List.length_map]
          exact Nat.lt_of_le_of_lt (show _ ≤ 1000000 by omega) (by rw [sizeLine_eq]; decide)
        have w2' : RowS (upd H' l (.lst (natL acc ++ [opt (some c)]))) q m g := by
          obtain ⟨z | z, y⟩ := w2
          · exact ⟨.inl (by rw [upd_ne w3]; exact z), y⟩
          · exact ⟨.inr (by rw [upd_ne w3]; exact z), y⟩
        refine ⟨_, rfl, _, rfl, q, m, c, g, rfl, w2', w4.per, m2, c1, fun r H3 e3 nr hr3 => ?_⟩
        have hs := w4.sw m2 c
        have row3 : RowS H3 r m (sw1 m g c) := ⟨.inr hr3, w2.2⟩
        refine ⟨_, rfl, r, m, _, rfl, row3, hs.per, ?_⟩
        have hl3 : H3 l = some (.lst (natL (acc ++ [c]))) := by
          rw [e3 _ _ upd_same]
          unfold natL
          rw [List.map_append]
          rfl
        refine ⟨⟨r, sw1 m g c, acc ++ [c], rfl, hl3, row3, ?_, hs, ?_, ?_, ?_⟩, ?_⟩
        · intro z
          subst z
          rw [upd_same] at nr
          cases nr
        · rw [w5, wd_some m1 w4 e, List.reverse_append, List.append_assoc]
          rfl
        · rw [List.length_append]
          show _ + ((acc.length + 1 : Nat) : Int) = _
          omega
        · have : Ex H (upd H' l (.lst (natL acc ++ [opt (some c)]))) := Ex.mut w7 hl
          exact this.trans e3
        · rw [hl3, w1]
          show (fallsR m f).toNat - (natL (acc ++ [c])).length < (fallsR m f).toNat - (natL acc).length
          unfold natL
          rw [List.length_map, List.length_map, List.length_append]
          show (fallsR m f).toNat - (acc.length + 1) < (fallsR m f).toNat - acc.length
          have := falls_nn m g
          omega
    · obtain ⟨v, e1, e2, k1, e3, q⟩ := k
      exact ⟨v, e1, e2, k1, e3, h _ _ q⟩
/-- raised letter by letter, a list -/
def spRaised : Sp := fun vs H Q _ => ∃ (p l : Addr) (m : Nat) (f : Int → Int) (ws : List Nat), vs = [.ref p, .ref l] ∧ H p = some (.lst ((rowF m f).map V.int)) ∧ 1 ≤ m ∧ m ≤ 60 ∧ H l = some (.lst (natL ws)) ∧ RdF m f ∧ (2 ≤ m ∨ ws = []) ∧ (∀ c ∈ ws, c < m) ∧
  ∀ r H', Ex H H' → H' r = some (.lst ((rowF m (glw m f ws)).map V.int)) → Q (.ref r) H'
theorem ok_raised (T : Txt K mg) {f : Addr} {fd : FuncData} (D : DefAt K mg "raised_by" sRaisedBy ["values", "letters"] f fd) : FnOk P w K mg base CX0 3 f fd ["values", "letters"] spRaised := by
  refine D.F.ok scRaisedBy (fun vs H Q E h => ?_) (fun cdv A outer s₀ H vs Q E hr h => ?_)
  · obtain ⟨p, l, m, f, ws, rfl, _⟩ := h
    rfl
  · obtain ⟨p, l, m, f, ws, rfl, hp, m1, m60, hl, hf, hm, wb, kQ⟩ := h
    obtain ⟨f1, fd1, D1⟩ := T.d_is_rising
    obtain ⟨f2, fd2, D2⟩ := T.d_exchanged
    have hr2 : Room 2 _ := hr.mono (by decide)
    have hr1 : Room 1 _ := hr.mono (by decide)
    refine ⟨_, pss_cons (ps_for PassesOwn.never rfl (pi_list (pv 1)) (pg_name (i := 2) scRaisedBy.nd rfl (.inl rfl))
        (pss_one (ps_if (pt_val (pe_call (ok_rising T D1) hr2 (by rfl) D1.g D1.F.kp D1.b .nil pass0 (pa_cons (pv 0) (pa_cons (pv 2) pa_nil)))) (pss_one (ps_set (i := 0) scRaisedBy.nd rfl (.inl rfl) (pe_call (ok_exchS T D2) hr1 (by rfl) D2.g D2.F.kp D2.b .nil pass0 (pa_cons (pv 0) (pa_cons (pv 2) pa_nil))))) pss_nil)))
      (pss_one (ps_ret (pv 0))), ?_⟩
    refine ⟨_, rfl, l, rfl, ⟨_, SqL.of hl⟩, for_list (K := K) (a := l) (xs := natL ws) (fun i σ' H' => ∃ (q : Addr) (y2 : Option V), σ' = [some (.ref q), some (.ref l), y2] ∧ H' q = some (.lst ((rowF m (glw m f (ws.take i))).map V.int)) ∧ Ex H H') ⟨p, none, rfl, hp, Ex.refl _⟩ (fun i σ' H' _ hW => ?_) (fun i x σ' H' hx hW => ?_) (fun σ' H' hW => ?_)⟩
    · obtain ⟨_, _, _, _, e⟩ := hW
      exact SqL.of (e _ _ hl)
    · obtain ⟨q, y2, rfl, w1, w2⟩ := hW
      unfold natL at hx
      rw [List.getElem?_map] at hx
      obtain ⟨c, hc, rfl⟩ := Option.map_eq_some_iff.mp hx
      have cm := wb c (List.mem_of_getElem? hc)
      have tk : ws.take (i + 1) = ws.take i ++ [c] := by rw [List.take_add_one, hc]; rfl
      have hm2 : 2 ≤ m := by
        rcases hm with z | z
        · exact z
        · rw [z] at hc
          cases hc
      have hg := RdF.glw m1 (ws.take i) hf (.inl hm2)
      have gs : glw m f (ws.take (i + 1)) = gl1 m (glw m f (ws.take i)) c := by rw [tk, glw_app]; rfl
      generalize glw m f (ws.take i) = g at *
      rw [gs]
      have row : RowS H' q m g := ⟨.inr w1, m1, m60⟩
      refine ⟨_, rfl, _, rfl, q, m, c, g, rfl, row, hg.per, cm, _, rfl, ite2 (fun z => ?_) (fun z => ?_)⟩
      · have z := of_decide_eq_true z
        refine ⟨_, rfl, _, rfl, q, m, c, g, rfl, row, hg.per, hm2, cm, fun r H3 e3 nr hr3 => ?_⟩
        exact ⟨r, _, rfl, by unfold gl1; rw [if_pos z]; exact hr3, w2.trans e3⟩
      · refine ⟨q, _, rfl, by unfold gl1; rw [if_neg (fun y => z (decide_eq_true y))]; exact w1, w2⟩
    · obtain ⟨q, y2, rfl, w1, w2⟩ := hW
      have : (natL ws).length = ws.length := by unfold natL; rw [List.length_map]
      rw [this, List.take_length] at w1
      exact ⟨_, rfl, kQ q _ w2 w1⟩
def spMoved : Sp := fun vs H Q _ => ∃ (p : Addr) (m : Nat) (f : Int → Int) (t : Int), vs = [.ref p, .int t] ∧ RowS H p m f ∧ Per m f ∧ ∀ r H', Ex H H' → H' r = some (.lst ((rowF m fun i => f (i + t)).map V.int)) → Q (.ref r) H'
end
end K1

set_option exponentiation.threshold 400
namespace K1
open PySem PySem.Spec PyProof.Rows L2 Evl HM LX MP ZW
theorem shv {m : Nat} (hm : 1 ≤ m) {f : Int → Int} (p : PermR m f) : ((sumL (List.range m) fun (i : Nat) => f (i : Int)) - sumL (List.range m) fun (i : Nat) => (i : Int)) / (m : Int) = shf m f := by
  rw [shf_sum p, show (sumL (List.range m) fun (r : Nat) => (r : Int)) + (m : Int) * shf m f - (sumL (List.range m) fun (i : Nat) => (i : Int)) = (m : Int) * shf m f by omega]
  exact Int.mul_ediv_cancel_left _ (by omega)
section
variable {P : Program} {w : World} {K : PySem.W.Frag} {mg : Str → Option Value} {base : Heap} {C : Addr}
/-- falls, counted at most once -/
def spRFallsC (C : Addr) : Sp := fun vs H Q _ => ∃ (x : Addr) (m : Nat) (f : Int → Int), vs = [.ref x] ∧ RdC C H x m f ∧ ∀ H', EC C H H' → RdC C H' x m f → Q (.int (fallsR m f)) H'
theorem ok_rfallsC (T : Txt K mg) (R : RTxt K mg C) {f : Addr} {fd : FuncData} (F : Fun K "falls" "Round.falls" sRFalls f fd) : FnOk P w K mg base CX0 2 f fd ["self"] (spRFallsC C) := by
  refine F.ok scRFalls (fun vs H Q E h => ?_) (fun cdv A outer s₀ H vs Q E hr h => ?_)
  · obtain ⟨x, m, f, rfl, _⟩ := h
    rfl
  · obtain ⟨x, m, f, rfl, ⟨dx, p, v, hx, hv, hp⟩, kQ⟩ := h
    obtain ⟨f1, fd1, D1⟩ := T.d_falls_in
    refine ⟨_, pss_cons (ps_if (pt_cmpR op_isN (pe_fld (pv 0) rfl) pe_non (nomark _)) (pss_one (ps_fld (pv 0) (pe_call (ok_falls_in T D1) hr (by rfl) D1.g D1.F.kp D1.b .nil pass0 (pa_cons (pe_fld (pv 0) rfl) pa_nil)) rfl)) pss_nil)
      (pss_one (ps_ret (pe_fld (pv 0) rfl))), ?_⟩
    rcases hv with rfl | rfl
    · refine ⟨_, rfl, x, C, dx, _, _, rfl, hx, R.cl, R.nF, rf_falls _ _, rfl, true, by rw [decide_eq_true rfl], iteT ?_⟩
      refine ⟨_, rfl, x, C, dx, _, _, rfl, hx, R.cl, R.nV, rf_values _ _, p, m, f, rfl, hp, fun H1 e1 => ?_⟩
      refine ⟨_, rfl, x, C, dx, _, rfl, e1 _ _ hx, R.cl, R.nF, (by rw [rf_eq]; show 2 < 1000; decide), ?_⟩
      rw [rf_put]
      refine ⟨_, rfl, x, C, dx, _, _, rfl, upd_same, R.cl, R.nF, rf_falls _ _, ?_⟩
      have px : p ≠ x := ne_of hp.1 hx (by intro z; cases z)
      have rp : RowAt (upd H1 x (.ins C dx (rf p (.int (fallsR m f))))) p m f := ⟨by rw [upd_ne px]; exact e1 _ _ hp.1, hp.2⟩
      refine kQ _ (fun b o hb => ?_) ⟨dx, p, _, upd_same, .inr rfl, rp⟩
      by_cases nb : b = x
      · subst nb
        rw [hx] at hb
        obtain rfl := Option.some.inj hb
        exact .inr ⟨dx, p, m, f, rfl, rp, upd_same⟩
      · rw [upd_ne nb]
        exact .inl (e1 _ _ hb)
    · refine ⟨_, rfl, x, C, dx, _, _, rfl, hx, R.cl, R.nF, rf_falls _ _, rfl, false, by rw [decide_eq_false (by intro z; cases z)], iteF ?_⟩
      exact ⟨_, rfl, x, C, dx, _, _, rfl, hx, R.cl, R.nF, rf_falls _ _, kQ _ (EC.of (Ex.refl _)) ⟨dx, p, _, hx, .inr rfl, hp⟩⟩
section
variable {H : Hp} {x y : Addr} {m n : Nat} {f g : Int → Int} {Q : VK}
theorem RdAt.self (h : RdAt C H x m f) : ∃ dx p v, H x = some (.ins C dx (rf p v)) := by
  obtain ⟨dx, p, v, hx, _⟩ := h
  exact ⟨dx, p, v, hx⟩
theorem shiftR {E : XK} (hx : RdAt C H x m f) (m1 : 1 ≤ m) (qf : PermR m f) (k : ∀ H', Ex H H' → Q (.int (shf m f)) H') : ∃ a dx fs, V.ref x = .ref a ∧ H a = some (.ins C dx fs) ∧ spRShift C (.ref a :: []) H Q E := by
  obtain ⟨dx, p, v, ex, hp⟩ := hx
  refine ⟨x, dx, _, rfl, ex, x, dx, p, v, m, f, rfl, ex, hp, fun H' e => ?_⟩
  rw [shv m1 qf]
  exact k H' e
theorem fallR {E : XK} (hx : RdC C H x m f) (k : ∀ H', EC C H H' → RdC C H' x m f → Q (.int (fallsR m f)) H') : ∃ a dx fs, V.ref x = .ref a ∧ H a = some (.ins C dx fs) ∧ spRFallsC C (.ref a :: []) H Q E := by
  obtain ⟨dx, p, v, ex, _⟩ := id hx
  exact ⟨x, dx, _, rfl, ex, x, m, f, rfl, hx, k⟩
theorem toldR {E : XK} (hx : RdAt C H x m f) (k : ∀ p, RowAt H p m f → Q (.ref p) H) : ∃ a dx fs, V.ref x = .ref a ∧ H a = some (.ins C dx fs) ∧ spRTold C (.ref a :: []) H Q E := by
  obtain ⟨dx, p, v, ex, hp⟩ := hx
  exact ⟨x, dx, _, rfl, ex, x, dx, p, v, rfl, ex, k p hp⟩
end
def spCheckFalls (C : Addr) : Sp := fun vs H Q _ => ∃ (x : Addr) (m : Nat) (f : Int → Int), vs = [.ref x] ∧ RdC C H x m f ∧ fallsR m f ≤ 1000 ∧ ∀ H', EC C H H' → Q .non H'
theorem ok_check_falls (T : Txt K mg) (R : RTxt K mg C) {f : Addr} {fd : FuncData} (D : DefAt K mg "check_falls" sCheckFalls ["p"] f fd) : FnOk P w K mg base CX0 4 f fd ["p"] (spCheckFalls C) := by
  refine D.F.ok scCheckFalls (fun vs H Q E h => ?_) (fun cdv A outer s₀ H vs Q E hr h => ?_)
  · obtain ⟨x, m, f, rfl, _⟩ := h
    rfl
  · obtain ⟨x, m, f, rfl, hx, fa, kQ⟩ := h
    obtain ⟨pFa, gFa, gdFa, mFa, FFa, bFa⟩ := R.falls
    obtain ⟨tMAX_FALLS, vMAX_FALLS⟩ := T.v_MAX_FALLS
    have hr3 : Room 3 _ := hr.mono (by decide)
    refine ⟨_, pss_one (ps_if (pt_cmpR op_gt (pe_prop (pv 0) R.cl mFa (ok_rfallsC T R FFa) hr3 bFa .nil pass0 rfl) (pe_glob (v := .int 1000) rfl vMAX_FALLS ⟨_, rfl⟩) (nomark _)) pss_never pss_nil), ?_⟩
    refine ⟨_, rfl, fallR hx fun H1 e1 _ => ?_⟩
    refine ⟨_, _, rfl, rfl, _, rfl, ?_⟩
    rw [decide_eq_false (by omega)]
    exact iteF (kQ _ e1)
def spCheckMaps (C : Addr) : Sp := fun vs H Q _ => ∃ (x y : Addr) (m : Nat) (f g : Int → Int), vs = [.ref x, .ref y] ∧ RdC C H x m f ∧ RdC C H y m g ∧ fallsR m f ≤ 1000 ∧ fallsR m g ≤ 1000 ∧ ∀ H', EC C H H' → Q .non H'
def spGreedyV (C : Addr) : Sp := fun vs H Q _ => ∃ (x y : Addr) (m : Nat) (f g : Int → Int), vs = [.ref x, .ref y] ∧ RdC C H x m f ∧ RdC C H y m g ∧ RdF m f ∧ RdF m g ∧ fallsR m g ≤ 1000 ∧ ∀ r H', Ex H H' → H' r = some (.lst ((rowF m (grd m f g)).map V.int)) → Q (.ref r) H'
def spToldGreedy (C : Addr) : Sp := fun vs H Q _ => ∃ (r : Addr) (m : Nat) (f : Int → Int), vs = [.ref r] ∧ H r = some (.lst ((rowF m f).map V.int)) ∧ 1 ≤ m ∧ m ≤ 60 ∧ PermR m f ∧ (∀ i : Nat, i < m → -(10 ^ 60) < f (i : Int) ∧ f (i : Int) < 10 ^ 60) ∧ fallsR m f ≤ 1000 ∧ ∀ z H', EC C H H' → RdC C H' z m f → Q (.ref z) H'
theorem ok_told_greedy (T : Txt K mg) (R : RTxt K mg C) {f : Addr} {fd : FuncData} (D : DefAt K mg "told_greedy" sToldGreedy ["values"] f fd) : FnOk P w K mg base CX0 6 f fd ["values"] (spToldGreedy C) := by
  refine D.F.ok scToldGreedy (fun vs H Q E h => ?_) (fun cdv A outer s₀ H vs Q E hr h => ?_)
  · obtain ⟨r, m, f, rfl, _⟩ := h
    rfl
  · obtain ⟨r, m, f, rfl, hl, m1, m60, pr, fb, fa, kQ⟩ := h
    obtain ⟨f1, fd1, D1⟩ := T.d_check_falls
    obtain ⟨f2, fd2, D2⟩ := T.d_told_round
    have hr4 : Room 4 _ := hr.mono (by decide)
    have hr5 : Room 5 _ := hr.mono (by decide)
    refine ⟨_, pss_cons (ps_set (i := 1) scToldGreedy.nd rfl (.inl rfl) (pe_call (ok_told_round T R D2) hr5 (by rfl) D2.g D2.F.kp D2.b .nil pass0 (pa_cons (pv 0) pa_nil)))
      (pss_cons (ps_expr (pe_call (ok_check_falls T R D1) hr4 (by rfl) D1.g D1.F.kp D1.b .nil pass0 (pa_cons (pv 1) pa_nil)))
      (pss_one (ps_ret (pv 1)))), ?_⟩
    refine ⟨_, rfl, ?_⟩
    dsimp only [tNil]
    rw [List.append_nil]
    refine told_of m1 m60 hl fb pr fun z H1 _ e1 hz => ?_
    refine ⟨_, rfl, z, m, f, rfl, hz.c, fa, fun H2 e2 => ?_⟩
    exact ⟨_, rfl, kQ z _ ((EC.of e1).trans e2) (hz.c.ec e2)⟩
def spGreedy (C : Addr) : Sp := fun vs H Q _ => ∃ (x y : Addr) (m : Nat) (f g : Int → Int), vs = [.ref x, .ref y] ∧ RdC C H x m f ∧ RdC C H y m g ∧ RdF m f ∧ RdF m g ∧ fallsR m f + fallsR m g ≤ 1000 ∧ (∀ i : Nat, i < m → -(10 ^ 60) < grd m f g (i : Int) ∧ grd m f g (i : Int) < 10 ^ 60) ∧
  ∀ z H', EC C H H' → RdC C H' z m (grd m f g) → Q (.ref z) H'
end
end K1

set_option exponentiation.threshold 400
namespace K1
open PySem PySem.Spec PyProof.Rows L2 Evl HM LX MP ZW
section
variable {P : Program} {w : World} {K : PySem.W.Frag} {mg : Str → Option Value} {base : Heap} {C : Addr}
def spLAt : Sp := fun vs H Q _ => ∃ (p : Addr) (m : Nat) (f : Int → Int) (i : Int), vs = [.ref p, .int i] ∧ RowAt H p m f ∧ Per m f ∧ Q (.int (f i)) H
theorem ok_lat (T : Txt K mg) {f : Addr} {fd : FuncData} (D : DefAt K mg "_law_at" sLAt ["_law_values", "_law_i"] f fd) : FnOk P w K mg base CX0 1 f fd ["_law_values", "_law_i"] spLAt := by
  refine D.F.ok scLAt (fun vs H Q E h => ?_) (fun cdv A outer s₀ H vs Q E hr h => ?_)
  · obtain ⟨p, m, f, i, rfl, _⟩ := h
    rfl
  · obtain ⟨p, m, f, i, rfl, ⟨hp, m1, m60⟩, pf, kQ⟩ := h
    refine ⟨_, pss_cons (ps_set (i := 2) scLAt.nd rfl (.inl rfl) (pe_callB call_len_seq (by rfl) T.z_len PySem.boot_len (pa_cons (pv 0) pa_nil)))
      (pss_one (ps_ret (pe_op op_sub (pe_op op_add (pe_ix ix_tup (pv 0) (pe_op op_mod (pv 1) (pv 2)) (fun _ _ => rfl)) (pv 1)) (pe_op op_mod (pv 1) (pv 2))))), ?_⟩
    obtain ⟨r, hr', rm⟩ := rest_at m1 i
    refine ⟨_, rfl, p, _, rfl, .inr (SqT.of hp), ?_⟩
    rw [rowL]
    refine ⟨_, rfl, _, rfl, _, rfl, _, _, rfl, rfl, (show (0 : Int) < m by omega), p, _, _, .int (f (r : Int)), rfl, rfl, SqT.of hp, at_of hr'.symm (rowF_get rm), _, rfl, _, _, rfl, rfl, _, rfl, _, rfl, _, _, rfl, rfl, (show (0 : Int) < m by omega), _, _, rfl, rfl, ?_⟩
    have e := rest_val pf i
    rw [hr']
    show Q (V.int (f (i % (m : Int)) + i - i % (m : Int))) H
    rw [e]
    exact kQ
def spLAfter : Sp := fun vs H Q _ => ∃ (p : Addr) (m c : Nat) (f : Int → Int), vs = [.ref p, .int (c : Int)] ∧ RowAt H p m f ∧ Per m f ∧ 2 ≤ m ∧ c < m ∧ ∀ q H', Ex H H' → RowAt H' q m (sw1 m f c) → Q (.ref q) H'
theorem ok_lafter (T : Txt K mg) {f : Addr} {fd : FuncData} (D : DefAt K mg "_law_after" sLAfter ["_law_values", "_law_c"] f fd) : FnOk P w K mg base CX0 2 f fd ["_law_values", "_law_c"] spLAfter := by
  refine D.F.ok scLAfter (fun vs H Q E h => ?_) (fun cdv A outer s₀ H vs Q E hr h => ?_)
  · obtain ⟨p, m, c, f, rfl, _⟩ := h
    rfl
  · obtain ⟨p, m, c, f, rfl, hp, pf, m2, hc, kQ⟩ := h
    obtain ⟨f1, fd1, D1⟩ := T.d_l_at
    have hr1 : Room 1 _ := hr.mono (by decide)
    refine ⟨_, pss_cons (ps_set (i := 2) scLAfter.nd rfl (.inl rfl) (pe_callB call_len_seq (by rfl) T.z_len PySem.boot_len (pa_cons (pv 0) pa_nil)))
      (pss_cons (ps_set (i := 3) scLAfter.nd rfl (.inl rfl) (pe_callTy call_list_of (by rfl) T.z_list (by decide +kernel) (pa_cons (pv 0) pa_nil)))
      (pss_cons (ps_asg (pe_call (ok_lat T D1) hr1 (by rfl) D1.g D1.F.kp D1.b .nil pass0 (pa_cons (pv 0) (pa_cons (pe_op op_add (pv 1) pe_int) pa_nil))) (pg_sub (pv 3) (pv 1) set_list))
      (pss_cons (ps_asg (pe_op op_sub (pe_call (ok_lat T D1) hr1 (by rfl) D1.g D1.F.kp D1.b .nil pass0 (pa_cons (pv 0) (pa_cons (pv 1) pa_nil))) (pe_ifExp (pt_cmpR op_eq (pe_op op_add (pv 1) pe_int) (pv 2) (nomark _)) (pv 2) pe_int)) (pg_sub (pv 3) (pe_op op_mod (pe_op op_add (pv 1) pe_int) (pv 2)) set_list))
      (pss_one (ps_ret (pe_callTy call_tuple_of (by rfl) T.z_tuple (by decide +kernel) (pa_cons (pv 3) pa_nil))))))), ?_⟩
    have hb : (c + 1) % m < m := Nat.mod_lt _ (by omega)
    have eb : ((c : Int) + 1) % (m : Int) = (((c + 1) % m : Nat) : Int) := by rw [Int.natCast_emod]; rfl
    refine ⟨_, rfl, p, _, rfl, .inr (SqT.of hp.1), ?_⟩
    rw [rowL]
    refine ⟨_, rfl, p, _, rfl, .inr (SqT.of hp.1), fun l2 h2 => ?_⟩
    have xl := Ex.new (o := .lst ((rowF m f).map V.int)) h2
    have gl := xl _ _ hp.1
    have nl : p ≠ l2 := ne_of_none hp.1 h2
    have gp : RowAt (upd H l2 (.lst ((rowF m f).map V.int))) p m f := ⟨gl, hp.2⟩
    refine ⟨_, rfl, _, rfl, _, _, rfl, rfl, p, m, f, _, rfl, gp, pf, ?_⟩
    refine ⟨_, rfl, _, rfl, l2, _, _, c, rfl, rfl, upd_same, ixN_nat (by rw [rowL]; exact hc), ?_⟩
    have gp2 : RowAt (upd (upd H l2 (.lst ((rowF m f).map V.int))) l2 (.lst (((rowF m f).map V.int).set c (V.int (f ((c : Int) + 1)))))) p m f := ⟨by rw [upd_ne nl]; exact gl, hp.2⟩
    refine ⟨_, rfl, _, rfl, p, m, f, _, rfl, gp2, pf, ?_⟩
    have key : ∀ v : Int, v = ((c : Int) + 1 - (((c + 1) % m : Nat) : Int)) → (((rowF m f).map V.int).set c (V.int (f ((c : Int) + 1)))).set ((c + 1) % m) (V.int (f (c : Int) - v)) = (rowF m (sw1 m f c)).map V.int := fun v hv => by
      rw [set_map, set_map, ← sw1_row m2 hc pf, hv]
      have : f ((c : Int) + 1) = f (((c + 1) % m : Nat) : Int) + ((c : Int) + 1 - (((c + 1) % m : Nat) : Int)) := by
        have := rest_val pf ((c : Int) + 1)
        rw [eb] at this
        omega
      rw [this]
    have bc : (c + 1) % m = if c + 1 = m then 0 else c + 1 := by
      by_cases z : c + 1 = m
      · rw [if_pos z, z, Nat.mod_self]
      · rw [if_neg z, Nat.mod_eq_of_lt (by omega)]
    have eX : ∀ (o : HO), Ex H (upd (upd (upd H l2 (.lst ((rowF m f).map V.int))) l2 (.lst (((rowF m f).map V.int).set c (V.int (f ((c : Int) + 1)))))) l2 o) := fun o b u e => by
      have nb : b ≠ l2 := fun z => by rw [z, show H l2 = none from h2] at e; cases e
      rw [upd_ne nb, upd_ne nb]
      exact xl _ _ e
    refine ⟨_, rfl, _, _, rfl, rfl, _, rfl, rfl, _, rfl, ite2 (fun z => ?_) (fun z => ?_)⟩
    · have z : (c : Int) + 1 = m := V.int.inj (of_decide_eq_true z)
      refine ⟨_, rfl, _, _, rfl, rfl, _, rfl, _, rfl, _, _, rfl, rfl, _, rfl, _, _, rfl, rfl, (show (0 : Int) < m by omega), l2, _, _, (c + 1) % m, rfl, rfl, upd_same, (by rw [eb]; exact ixN_nat (by rw [List.length_set, rowL]; exact hb)), ?_⟩
      refine ⟨_, rfl, l2, _, rfl, .inl ⟨SqL.of upd_same, fun q hq => kQ q _ ((eX _).trans (Ex.new hq)) ⟨?_, hp.2⟩⟩⟩
      rw [upd_same, key m (by rw [bc, if_pos (by omega)]; omega)]
    · have z : ¬ (c : Int) + 1 = m := fun y => z (decide_eq_true (congrArg V.int y))
      refine ⟨_, _, rfl, rfl, _, rfl, _, rfl, _, _, rfl, rfl, _, rfl, _, _, rfl, rfl, (show (0 : Int) < m by omega), l2, _, _, (c + 1) % m, rfl, rfl, upd_same, (by rw [eb]; exact ixN_nat (by rw [List.length_set, rowL]; exact hb)), ?_⟩
      refine ⟨_, rfl, l2, _, rfl, .inl ⟨SqL.of upd_same, fun q hq => kQ q _ ((eX _).trans (Ex.new hq)) ⟨?_, hp.2⟩⟩⟩
      rw [upd_same, key 0 (by rw [bc, if_neg (by omega)]; omega)]
def spLShifted : Sp := fun vs H Q _ => ∃ (p : Addr) (m : Nat) (f : Int → Int) (t : Int), vs = [.ref p, .int t] ∧ RowAt H p m f ∧ Per m f ∧ ∀ r H', Ex H H' → RowAt H' r m (fun i => f (i + t)) → Q (.ref r) H'
def spLGLetter : Sp := fun vs H Q _ => ∃ (p : Addr) (m c : Nat) (f : Int → Int), vs = [.ref p, .int (c : Int)] ∧ RowAt H p m f ∧ Per m f ∧ 2 ≤ m ∧ c < m ∧ ∀ q H', Ex H H' → RowAt H' q m (gl1 m f c) → Q (.ref q) H'
theorem ok_lgletter (T : Txt K mg) {f : Addr} {fd : FuncData} (D : DefAt K mg "_law_greedy_letter" sLGreedyLetter ["_law_values", "_law_c"] f fd) : FnOk P w K mg base CX0 3 f fd ["_law_values", "_law_c"] spLGLetter := by
  refine D.F.ok scLGreedyLetter (fun vs H Q E h => ?_) (fun cdv A outer s₀ H vs Q E hr h => ?_)
  · obtain ⟨p, m, c, f, rfl, _⟩ := h
    rfl
  · obtain ⟨p, m, c, f, rfl, hp, pf, m2, hc, kQ⟩ := h
    obtain ⟨f1, fd1, D1⟩ := T.d_l_at
    obtain ⟨f2, fd2, D2⟩ := T.d_l_after
    have hr1 : Room 1 _ := hr.mono (by decide)
    have hr2 : Room 2 _ := hr.mono (by decide)
    refine ⟨_, pss_one (ps_ret (pe_ifExp (pt_cmpR op_lt (pe_call (ok_lat T D1) hr1 (by rfl) D1.g D1.F.kp D1.b .nil pass0 (pa_cons (pv 0) (pa_cons (pv 1) pa_nil))) (pe_call (ok_lat T D1) hr1 (by rfl) D1.g D1.F.kp D1.b .nil pass0 (pa_cons (pv 0) (pa_cons (pe_op op_add (pv 1) pe_int) pa_nil))) (nomark _)) (pe_call (ok_lafter T D2) hr2 (by rfl) D2.g D2.F.kp D2.b .nil pass0 (pa_cons (pv 0) (pa_cons (pv 1) pa_nil))) (pv 0))), ?_⟩
    refine ⟨_, rfl, _, rfl, p, m, f, _, rfl, hp, pf, ?_⟩
    refine ⟨_, rfl, _, rfl, _, _, rfl, rfl, p, m, f, _, rfl, hp, pf, ?_⟩
    refine ⟨_, _, rfl, rfl, _, rfl, ite2 (fun z => ?_) (fun z => ?_)⟩
    · have z := of_decide_eq_true z
      exact ⟨_, rfl, _, rfl, p, m, c, f, rfl, hp, pf, m2, hc, fun q H1 e1 hq => kQ q _ e1 (by unfold gl1; rw [if_pos z]; exact hq)⟩
    · exact ⟨_, rfl, kQ p _ (Ex.refl _) (by unfold gl1; rw [if_neg (fun y => z (decide_eq_true y))]; exact hp)⟩
end
end K1

namespace K1
open PySem PySem.Spec PyProof.Rows L2 Evl
/-! own words: comprehensions that map, without a test; nothing is changed -/
section
variable {K : PySem.W.Frag} {g : TG} {te : TE} {vs : List Nat} {σ : L2.St} {H1 : Hp} {D : Addr} {Qd : Hp → Prop}
theorem lc_tupM {a : Addr} {xs : List V} (f : Nat → V) (hD : H1 D = none) (ha : H1 a = some (.tup xs)) (hl : xs.length ≤ 1000)
    (hs : ∀ i x H (Qk : VK), xs[i]? = some x → Ex H1 H → (∀ H4, Ex H H4 → Qk (f i) H4) → g x (wipe σ vs) H fun σ2 H2 => wipe σ2 vs = wipe σ vs ∧ te σ2 H2 Qk)
    (hd : ∀ H, Ex H1 H → H D = some (.lst ((List.range xs.length).map f)) → Qd H) :
    ∃ W : Nat → Nat → Hp → Prop, (∃ m, W 0 m (upd H1 D (.lst []))) ∧ ∀ i m H, W i m H →
      ((Itt K a).stop i H ∧ Qd H) ∨ ((Itt K a).go i H ∧ ∃ Nx : Hp → Prop, (∀ H', Nx H' → ∃ m', m' < m ∧ W (i + 1) m' H') ∧ ∀ x H', (Itt K a).yld i H x H' → g x (wipe σ vs) H' fun σ2 H2 => wipe σ2 vs = wipe σ vs ∧ tYes σ2 H2 fun b H3 =>
        if b = true then te σ2 H3 fun y H4 => ∃ acc, H4 D = some (.lst acc) ∧ acc.length < sizeLine ∧ Nx (upd H4 D (.lst (acc ++ [y]))) else Nx H3) := by
  refine lc_tup (K := K) (a := a) (xs := xs) (fun i H' => H' D = some (.lst ((List.range i).map f)) ∧ Ex H1 H') ⟨upd_same, Ex.new hD⟩ (fun i H' _ hp => SqT.of (hp.2 _ _ ha)) (fun i x H' hx hp => ?_) (fun H hp => hd H hp.2 hp.1)
  have hi := (List.getElem?_eq_some_iff.mp hx).1
  refine hs i x H' _ hx hp.2 fun H4 e4 => ⟨_, e4 _ _ hp.1, ?_, ?_, Ex.mut (hp.2.trans e4) hD⟩
  · rw [List.length_map, List.length_range]
    exact small1000 (by omega)
  · rw [upd_same, List.range_succ, List.map_append]
    rfl
theorem lc_listM {a : Addr} {xs : List V} (f : Nat → V) (hD : H1 D = none) (ha : H1 a = some (.lst xs)) (hl : xs.length ≤ 1000)
    (hs : ∀ i x H (Qk : VK), xs[i]? = some x → Ex H1 H → (∀ H4, Ex H H4 → Qk (f i) H4) → g x (wipe σ vs) H fun σ2 H2 => wipe σ2 vs = wipe σ vs ∧ te σ2 H2 Qk)
    (hd : ∀ H, Ex H1 H → H D = some (.lst ((List.range xs.length).map f)) → Qd H) :
    ∃ W : Nat → Nat → Hp → Prop, (∃ m, W 0 m (upd H1 D (.lst []))) ∧ ∀ i m H, W i m H →
      ((Itl K a).stop i H ∧ Qd H) ∨ ((Itl K a).go i H ∧ ∃ Nx : Hp → Prop, (∀ H', Nx H' → ∃ m', m' < m ∧ W (i + 1) m' H') ∧ ∀ x H', (Itl K a).yld i H x H' → g x (wipe σ vs) H' fun σ2 H2 => wipe σ2 vs = wipe σ vs ∧ tYes σ2 H2 fun b H3 =>
        if b = true then te σ2 H3 fun y H4 => ∃ acc, H4 D = some (.lst acc) ∧ acc.length < sizeLine ∧ Nx (upd H4 D (.lst (acc ++ [y]))) else Nx H3) := by
  refine lc_list (K := K) (a := a) (xs := xs) (fun i H' => H' D = some (.lst ((List.range i).map f)) ∧ Ex H1 H') ⟨upd_same, Ex.new hD⟩ (fun i H' _ hp => SqL.of (hp.2 _ _ ha)) (fun i x H' hx hp => ?_) (fun H hp => hd H hp.2 hp.1)
  have hi := (List.getElem?_eq_some_iff.mp hx).1
  refine hs i x H' _ hx hp.2 fun H4 e4 => ⟨_, e4 _ _ hp.1, ?_, ?_, Ex.mut (hp.2.trans e4) hD⟩
  · rw [List.length_map, List.length_range]
    exact small1000 (by omega)
  · rw [upd_same, List.range_succ, List.map_append]
    rfl
theorem lc_rangeM {lo : Int} {n : Nat} (f : Nat → V) (hD : H1 D = none) (hl : n ≤ 1000)
    (hs : ∀ i H (Qk : VK), i < n → Ex H1 H → (∀ H4, Ex H H4 → Qk (f i) H4) → g (.int (lo + i)) (wipe σ vs) H fun σ2 H2 => wipe σ2 vs = wipe σ vs ∧ te σ2 H2 Qk)
    (hd : ∀ H, Ex H1 H → H D = some (.lst ((List.range n).map f)) → Qd H) :
    ∃ W : Nat → Nat → Hp → Prop, (∃ m, W 0 m (upd H1 D (.lst []))) ∧ ∀ i m H, W i m H →
      ((Itr lo n).stop i H ∧ Qd H) ∨ ((Itr lo n).go i H ∧ ∃ Nx : Hp → Prop, (∀ H', Nx H' → ∃ m', m' < m ∧ W (i + 1) m' H') ∧ ∀ x H', (Itr lo n).yld i H x H' → g x (wipe σ vs) H' fun σ2 H2 => wipe σ2 vs = wipe σ vs ∧ tYes σ2 H2 fun b H3 =>
        if b = true then te σ2 H3 fun y H4 => ∃ acc, H4 D = some (.lst acc) ∧ acc.length < sizeLine ∧ Nx (upd H4 D (.lst (acc ++ [y]))) else Nx H3) := by
  refine lc_range (lo := lo) (n := n) (fun i H' => H' D = some (.lst ((List.range i).map f)) ∧ Ex H1 H') ⟨upd_same, Ex.new hD⟩ (fun i H' hi hp => ?_) (fun H hp => hd H hp.2 hp.1)
  refine hs i H' _ hi hp.2 fun H4 e4 => ⟨_, e4 _ _ hp.1, ?_, ?_, Ex.mut (hp.2.trans e4) hD⟩
  · rw [List.length_map, List.length_range]
    exact small1000 (by omega)
  · rw [upd_same, List.range_succ, List.map_append]
    rfl
end
theorem mapI (n : Nat) (f : Nat → Int) : (List.range n).map (fun i => V.int (f i)) = ((List.range n).map f).map V.int := by
  rw [List.map_map]
  rfl
theorem mapB (n : Nat) (b : Bool) : (List.range n).map (fun _ => V.bl b) = (List.replicate n b).map V.bl := by
  rw [List.map_replicate, List.map_const', List.length_range]
theorem all_rep (n : Nat) : (List.replicate n true).all id = true := by simp
theorem any_rep (n : Nat) : (List.replicate n false).any id = false := by simp
theorem range_getD (ns : List Int) (f : Int → Int) : (List.range ns.length).map (fun i => f (ns.getD i 0)) = ns.map f := by
  refine List.ext_getElem (by rw [List.length_map, List.length_map, List.length_range]) fun i h1 h2 => ?_
  rw [List.length_map] at h2
  rw [List.getElem_map, List.getElem_map, List.getElem_range, List.getD_eq_getElem?_getD, List.getElem?_eq_getElem h2]
  rfl
end K1

set_option exponentiation.threshold 400
namespace K1
open PySem PySem.Spec PyProof.Rows L2 Evl HM LX ZW TE
/-- an int in bounds or a bool -/
def KI (x : V) : Prop := (∃ i : Int, x = .int i ∧ -(10 ^ 50) ≤ i ∧ i ≤ 10 ^ 50) ∨ ∃ b, x = .bl b
def isI : V → Bool
  | .int _ => true
  | _ => false
def okL (m : Nat) : V → Bool
  | .int i => decide (0 ≤ i) && decide (i < m)
  | _ => false
def wdB (m : Nat) (x : V) (ls : List V) : Bool := isI x && ((decide (m ≠ 1) || decide (ls = [])) && ls.all (okL m))
/-- what may be judged as a word -/
inductive WV (K : PySem.W.Frag) (H : Hp) (m : Nat) : V → Bool → Prop where
  | no {x : V} (h : NotTup K H x) : WV K H m x false
  | len {a : Addr} {xs : List V} (e : H a = some (.tup xs)) (h : xs.length ≠ 2) : WV K H m (.ref a) false
  | snd {a : Addr} {x y : V} (e : H a = some (.tup [x, y])) (hx : KI x) (hy : NotTup K H y) : WV K H m (.ref a) false
  | wd {a b : Addr} {x : V} {ls : List V} (e : H a = some (.tup [x, .ref b])) (hx : KI x) (hb : H b = some (.tup ls)) (hl : ls.length ≤ 500) (hk : ∀ y ∈ ls, KI y) : WV K H m (.ref a) (wdB m x ls)
theorem NotTup.ec {K : PySem.W.Frag} {C : Addr} {H H' : Hp} {x : V} (h : NotTup K H x) (e : EC C H H') : NotTup K H' x := by
  cases h with
  | bl b => exact .bl b
  | non => exact .non
  | int i => exact .int i
  | str x => exact .str x
  | lst q => exact .lst (e.lst q)
  | dK q =>
    rcases e _ _ q with z | ⟨_, _, _, _, z, _⟩
    · exact .dK z
    · cases z
theorem WV.ec {K : PySem.W.Frag} {C : Addr} {H H' : Hp} {m : Nat} {x : V} {b : Bool} (h : WV K H m x b) (e : EC C H H') : WV K H' m x b := by
  cases h with
  | no h => exact .no (h.ec e)
  | len q h => exact .len (e.tup q) h
  | snd q hx hy => exact .snd (e.tup q) hx (hy.ec e)
  | wd q hx hb hl hk => exact .wd (e.tup q) hx (e.tup hb) hl hk
theorem KI.intB {K : PySem.W.Frag} {H : Hp} {x : V} (h : KI x) : IntB K H x (isI x) := by
  rcases h with ⟨i, rfl, a, b⟩ | ⟨b, rfl⟩
  · have := IntB.int (K := K) (H := H) i
    rw [decide_eq_true (show -(10 ^ 60) < i by omega), decide_eq_true (show i < 10 ^ 60 by omega)] at this
    exact this
  · exact .no (.bl b)
theorem KI.btw {K : PySem.W.Frag} {H : Hp} {m : Nat} {x : V} (h : KI x) : BtwB K H 0 ((m : Int) - 1) x (okL m x) := by
  rcases h with ⟨i, rfl, a, b⟩ | ⟨b, rfl⟩
  · have := BtwB.int (K := K) (H := H) (lo := 0) (hi := (m : Int) - 1) i
    rw [decide_eq_true (show -(10 ^ 60) < i by omega), decide_eq_true (show i < 10 ^ 60 by omega), Bool.true_and, Bool.true_and] at this
    have e : decide (i ≤ (m : Int) - 1) = decide (i < (m : Int)) := decide_eq_decide.mpr (by omega)
    rw [e] at this
    exact this
  · exact .no (.bl b)
theorem paired_btw {K : PySem.W.Frag} {H : Hp} {m : Nat} : ∀ {ls : List V}, (∀ y ∈ ls, KI y) → Paired (BtwB K H 0 ((m : Int) - 1)) ls (ls.map (okL m))
  | [], _ => .nil
  | z :: r, R => .cons (R z (List.mem_cons_self ..)).btw (paired_btw fun y hy => R y (List.mem_cons_of_mem _ hy))
theorem all_ids {ls : List V} {m : Nat} : (ls.map (okL m)).all id = ls.all (okL m) := by
  induction ls with
  | nil => rfl
  | cons a r ih => rw [List.map_cons, List.all_cons, List.all_cons, ih]; rfl
section
variable {P : Program} {w : World} {K : PySem.W.Frag} {mg : Str → Option Value} {base : Heap} {C : Addr}
theorem ok_is_pair (T : Txt K mg) {f : Addr} {fd : FuncData} (D : DefAt K mg "is_pair" sIsPair ["value"] f fd) : FnOk P w K mg base CX0 1 f fd ["value"] (spIsPair K) := by
  refine D.F.ok scIsPair (fun vs H Q E h => ?_) (fun cdv A outer s H vs Q E hr h => ?_)
  · obtain ⟨x, b, rfl, _⟩ := h
    rfl
  · obtain ⟨x, b, rfl, hb, q⟩ := h
    refine ⟨_, pss_one (ps_ret (pe_and (pe_callB call_isi (by rfl) T.z_isinstance (by decide +kernel) (pa_cons (pv 0) (pa_cons (pe_bltn (v := .ty "tuple") (by rfl) T.z_tuple (by decide +kernel) rfl) pa_nil)))
      (pe_one (pe_cmpR op_eq (pe_callB call_len (by rfl) T.z_len PySem.boot_len (pa_cons (pv 0) pa_nil)) pe_int (nomark _))))), ?_⟩
    cases hb with
    | no hn =>
      obtain ⟨t, ty, h⟩ := hn.ty
      exact ⟨x, rfl, x, .ty "tuple", t, .type "tuple", false, rfl, .ty _, ty, h, false, rfl, iteF (q _ (Ex.refl _))⟩
    | @tup a xs e =>
      refine ⟨_, rfl, .ref a, .ty "tuple", .type "tuple", .type "tuple", true, rfl, .ty _, .base (.tup e), kit_ty (by decide +kernel), true, rfl, iteT ?_⟩
      refine ⟨_, rfl, _, xs.length, rfl, .inr ⟨_, SqT.of e, rfl⟩, rfl, ?_⟩
      have e2 : decide (V.int (xs.length : Int) = V.int 2) = decide (xs.length = 2) := by
        by_cases c : xs.length = 2
        · rw [c]
          rfl
        · rw [decide_eq_false c, decide_eq_false (fun z => c (by have := V.int.inj z; omega))]
      rw [e2]
      exact q _ (Ex.refl _)
def spIsRowB (K : PySem.W.Frag) : Sp := fun vs H Q _ => ∃ p xs bs, ∃ lo hi : Int, vs = [.ref p, .int (xs.length : Int), .int lo, .int hi] ∧ H p = some (.tup xs) ∧ xs.length ≤ 500 ∧ Paired (BtwB K H lo hi) xs bs ∧ ∀ H', Ex H H' → Q (.bl (bs.all id)) H'
theorem ok_is_row (T : Txt K mg) {f : Addr} {fd : FuncData} (D : DefAt K mg "is_row" sIsRow ["value", "many", "low", "high"] f fd) : FnOk P w K mg base CX0 3 f fd ["value", "many", "low", "high"] (spIsRowB K) := by
  refine D.F.ok scIsRow (fun vs H Q E h => ?_) (fun cdv A outer s₀ H vs Q E hr h => ?_)
  · obtain ⟨p, xs, bs, lo, hi, rfl, _⟩ := h
    rfl
  · obtain ⟨p, xs, bs, lo, hi, rfl, hp, hl, hb, q⟩ := h
    obtain ⟨f1, fd1, D1⟩ := T.d_is_between
    have hr2 : Room 2 _ := hr.mono (by decide)
    refine ⟨_, pss_cons (ps_if (PW.pt (pw_or (pt_not (pt_val (pe_callB call_isi (by rfl) T.z_isinstance (by decide +kernel) (pa_cons (pv 0) (pa_cons (pe_bltn (v := .ty "tuple") (by rfl) T.z_tuple (by decide +kernel) rfl) pa_nil)))))
          (pw_or1 (pt_cmpR op_ne (pe_callB call_len_seq (by rfl) T.z_len PySem.boot_len (pa_cons (pv 0) pa_nil)) (pv 1) (nomark _))))) (pss_one (ps_ret pe_bl)) pss_nil)
      (pss_one (ps_ret (pe_callB (cr_all rfl) (by rfl) T.z_all (by decide +kernel) (pa_cons (pe_lc (own := [("number", 4)]) (g := gName 4) (tt := tYes) rfl scIsRow.nd (pi_tup (pv 0))
        (blkOk_by (N := nIsRow) (sc := defScope sIsRow) (by decide +kernel)) (fun _ _ _ _ _ => (pg_name (i := 4) scIsRow.nd rfl (.inl rfl))) (fun _ _ _ _ _ => pts_nil)
        (fun _ _ _ _ _ => (pe_call (ok_is_between T D1) hr2 (by rfl) D1.g D1.F.kp D1.b .nil pass0 (pa_cons (pv 4) (pa_cons (pv 2) (pa_cons (pv 3) pa_nil)))))) pa_nil)))), ?_⟩
    refine ⟨_, rfl, .ref p, .ty "tuple", .type "tuple", .type "tuple", true, rfl, .ty _, .base (.tup hp), kit_ty (by decide +kernel), true, rfl, iteF ?_⟩
    refine ⟨_, rfl, p, _, rfl, .inr (SqT.of hp), _, rfl, rfl, _, rfl, ite2 (fun z => absurd z (by simp)) (fun _ => ?_)⟩
    have bl := paired_len hb
    refine ⟨_, rfl, p, rfl, ⟨_, SqT.of hp⟩, fun Dl hD => ?_⟩
    refine lc_tupM (K := K) (fun i => V.bl (bs.getD i false)) hD hp (by omega) (fun i x Hq Qk hx e' qk => ?_) (fun H7 e7 h7 => ?_)
    · obtain ⟨b, hb1, hb2⟩ := paired_get hb hx
      have gb : bs.getD i false = b := by rw [List.getD_eq_getElem?_getD, hb1]; rfl
      rw [gb] at qk
      exact ⟨rfl, _, rfl, _, rfl, _, rfl, _, lo, hi, b, rfl, hb2.mono e', fun H8 e8 => qk _ e8⟩
    · have e : (List.range xs.length).map (fun i => V.bl (bs.getD i false)) = bs.map V.bl := by
        refine List.ext_getElem (by rw [List.length_map, List.length_map, List.length_range, bl]) fun i h1 h2 => ?_
        rw [List.getElem_map, List.getElem_map, List.getElem_range, List.getD_eq_getElem?_getD, List.getElem?_eq_getElem (by rw [List.length_map] at h2; exact h2)]
        rfl
      rw [e] at h7
      exact ⟨Dl, _, rfl, SqL.of h7, q _ e7⟩
def spIsWord (K : PySem.W.Frag) : Sp := fun vs H Q _ => ∃ (m : Nat) (v : V) (b : Bool), vs = [.int (m : Int), v] ∧ 1 ≤ m ∧ m ≤ 60 ∧ WV K H m v b ∧ ∀ H', Ex H H' → Q (.bl b) H'
theorem ok_is_word (T : Txt K mg) {f : Addr} {fd : FuncData} (D : DefAt K mg "is_word" sIsWord ["m", "value"] f fd) : FnOk P w K mg base CX0 4 f fd ["m", "value"] (spIsWord K) := by
  refine D.F.ok scIsWord (fun vs H Q E h => ?_) (fun cdv A outer s₀ H vs Q E hr h => ?_)
  · obtain ⟨m, v, b, rfl, _⟩ := h
    rfl
  · obtain ⟨m, v, b, rfl, m1, m60, hv, kQ⟩ := h
    obtain ⟨f1, fd1, D1⟩ := T.d_is_row
    obtain ⟨f2, fd2, D2⟩ := T.d_is_integer
    obtain ⟨f3, fd3, D3⟩ := T.d_is_pair
    obtain ⟨tMAX_WORD, vMAX_WORD⟩ := T.v_MAX_WORD
    have hr1 : Room 1 _ := hr.mono (by decide)
    have hr3 : Room 3 _ := hr.mono (by decide)
    refine ⟨_, pss_cons (ps_if (PW.pt (pw_or (pt_not (pt_val (pe_call (ok_is_pair T D3) hr1 (by rfl) D3.g D3.F.kp D3.b .nil pass0 (pa_cons (pv 1) pa_nil))))
          (pw_or (pt_not (pt_val (pe_call (ok_is_integer T D2) hr1 (by rfl) D2.g D2.F.kp D2.b .nil pass0 (pa_cons (pe_ix ix_tup (pv 1) pe_int (fun _ _ => rfl)) pa_nil))))
          (pw_or1 (pt_not (pt_val (pe_callB call_isi (by rfl) T.z_isinstance (by decide +kernel) (pa_cons (pe_ix ix_tup (pv 1) pe_int (fun _ _ => rfl)) (pa_cons (pe_bltn (v := .ty "tuple") (by rfl) T.z_tuple (by decide +kernel) rfl) pa_nil))))))))) (pss_one (ps_ret pe_bl)) pss_nil)
      (pss_cons (ps_if (pt_cmpR op_eq (pv 0) pe_int (nomark _)) (pss_one (ps_ret (pe_cmpR op_eq (pe_callB call_len_seq (by rfl) T.z_len PySem.boot_len (pa_cons (pe_ix ix_tup (pv 1) pe_int (fun _ _ => rfl)) pa_nil)) pe_int (nomark _)))) pss_nil)
      (pss_one (ps_ret (pe_and (pe_cmpR op_le (pe_callB call_len_seq (by rfl) T.z_len PySem.boot_len (pa_cons (pe_ix ix_tup (pv 1) pe_int (fun _ _ => rfl)) pa_nil)) (pe_glob (v := .int 2000) rfl vMAX_WORD ⟨_, rfl⟩) (nomark _)) (pe_one (pe_call (ok_is_row T D1) hr3 (by rfl) D1.g D1.F.kp D1.b .nil pass0 (pa_cons (pe_ix ix_tup (pv 1) pe_int (fun _ _ => rfl)) (pa_cons (pe_callB call_len_seq (by rfl) T.z_len PySem.boot_len (pa_cons (pe_ix ix_tup (pv 1) pe_int (fun _ _ => rfl)) pa_nil)) (pa_cons pe_int (pa_cons (pe_op op_sub (pv 0) pe_int) pa_nil)))))))))), ?_⟩
    cases hv with
    | no h => exact ⟨_, rfl, v, false, rfl, .no h, fun H1 e1 => ⟨false, rfl, iteT (kQ _ e1)⟩⟩
    | @len a xs e h => exact ⟨_, rfl, _, _, rfl, .tup e, fun H1 e1 => ⟨_, rfl, by rw [decide_eq_false h]; exact iteT (kQ _ e1)⟩⟩
    | @snd a x y e hx hy =>
      refine ⟨_, rfl, _, _, rfl, .tup e, fun H1 e1 => ⟨_, rfl, iteF ?_⟩⟩
      refine ⟨_, rfl, a, _, 0, _, rfl, rfl, SqT.of (e1 _ _ e), rfl, x, _, rfl, hx.intB, fun H2 e2 => ⟨_, rfl, ?_⟩⟩
      obtain ⟨t, ty, hk⟩ := (hy.mono (e1.trans e2)).ty
      cases hi : isI x with
      | false => exact iteT (kQ _ (e1.trans e2))
      | true => exact iteF ⟨_, rfl, a, _, 1, _, rfl, rfl, SqT.of ((e1.trans e2) _ _ e), rfl, y, .ty "tuple", t, .type "tuple", false, rfl, .ty _, ty, hk, false, rfl, iteT (kQ _ (e1.trans e2))⟩
    | @wd a b x ls e hx hb hl hk =>
      refine ⟨_, rfl, _, _, rfl, .tup e, fun H1 e1 => ⟨_, rfl, iteF ?_⟩⟩
      refine ⟨_, rfl, a, _, 0, _, rfl, rfl, SqT.of (e1 _ _ e), rfl, x, _, rfl, hx.intB, fun H2 e2 => ⟨_, rfl, ?_⟩⟩
      have e12 := e1.trans e2
      have he := e12 _ _ e
      have hb2 := e12 _ _ hb
      unfold wdB at kQ
      cases hi : isI x with
      | false =>
        rw [hi] at kQ
        exact iteT (kQ _ (e1.trans e2))
      | true =>
        rw [hi, Bool.true_and] at kQ
        refine iteF ⟨_, rfl, a, _, 1, _, rfl, rfl, SqT.of he, rfl, .ref b, .ty "tuple", .type "tuple", .type "tuple", true, rfl, .ty _, .base (.tup hb2), kit_ty (by decide +kernel), true, rfl, iteF ?_⟩
        refine ⟨_, rfl, rfl, _, rfl, ite2 (fun z => ?_) (fun z => ?_)⟩
        · have z : (m : Int) = 1 := V.int.inj (of_decide_eq_true z)
          have z : m = 1 := by omega
          subst z
          refine ⟨_, rfl, a, _, 1, _, rfl, rfl, SqT.of he, rfl, b, _, rfl, .inr (SqT.of hb2), rfl, ?_⟩
          show Q (.bl (decide (V.int (ls.length : Int) = V.int 0))) _
          have e0 : decide (V.int (ls.length : Int) = V.int 0) = ((decide (1 ≠ 1) || decide (ls = [])) && ls.all (okL 1)) := by
            cases ls with
            | nil => rfl
            | cons y r =>
              rw [decide_eq_false (show ¬ V.int (((y :: r).length : Nat) : Int) = V.int 0 from fun z => by have := V.int.inj z; rw [List.length_cons] at this; omega)]
              rfl
          rw [e0]
          exact kQ _ e12
        · have z : ¬ m = 1 := fun y => z (by rw [y]; rfl)
          rw [decide_eq_true (show m ≠ 1 from z), Bool.true_or, Bool.true_and] at kQ
          refine ⟨_, rfl, a, _, 1, _, rfl, rfl, SqT.of he, rfl, b, _, rfl, .inr (SqT.of hb2), _, _, rfl, rfl, ?_⟩
          refine ⟨_, rfl, ite2 (fun _ => ?_) (fun z => absurd (decide_eq_true (show (ls.length : Int) ≤ 2000 by omega)) z)⟩
          refine ⟨_, rfl, a, _, 1, _, rfl, rfl, SqT.of he, rfl, _, rfl, a, _, 1, _, rfl, rfl, SqT.of he, rfl, b, _, rfl, .inr (SqT.of hb2), _, rfl, _, _, rfl, rfl, ?_⟩
          exact ⟨b, ls, _, 0, _, rfl, hb2, hl, paired_btw hk, fun H3 e3 => by rw [all_ids]; exact kQ _ (e12.trans e3)⟩
end
end K1

/-! falls as the law counts them; least sums within bounds; plain mathematics -/
namespace K1
open MP
theorem ceil_div {m : Int} (hm : 0 < m) (x : Int) : -((-x) / m) = (x - 1) / m + 1 := by
  have a := qlo hm (-x)
  have b := qhi hm (-x)
  have : (x - 1) / m = -((-x) / m) - 1 := q_eq hm (by rw [Int.mul_sub, Int.mul_neg, Int.mul_one]; omega) (by rw [Int.mul_sub, Int.mul_neg, Int.mul_one]; omega)
  omega
def lawH (m : Nat) (f : Int → Int) (i j : Nat) : Int := if i < j then max 0 (-((-(f (i : Int) - f (j : Int))) / (m : Int))) else max 0 (-((-(f (i : Int) - f (j : Int))) / (m : Int)) - 1)
theorem law_falls2 {m : Nat} (hm : 1 ≤ m) {f : Int → Int} (h : RdF m f) : (sumL (List.range m) fun i => sumL (List.range m) fun j => lawH m f i j) = fallsR m f := by
  rw [← law_falls hm (inj_of h.per (h.inj hm))]
  unfold sqr
  refine sumL_congr fun i hi => sumL_congr fun j hj => ?_
  have hi := List.mem_range.mp hi
  have hj := List.mem_range.mp hj
  have m0 : (0 : Int) < m := by omega
  unfold lawH
  rw [ceil_div m0]
  by_cases e : i = j
  · subst e
    rw [if_pos rfl, if_neg (by omega)]
    rw [show f (i : Int) - f (i : Int) - 1 = -1 by omega, show (-1 : Int) / (m : Int) = -1 from q_eq m0 (by omega) (by omega)]
    rfl
  · rw [if_neg e]
    dsimp only
    by_cases z : i < j
    · rw [if_pos z, show ((i : Int) - (j : Int)) / (m : Int) = -1 from q_eq m0 (by omega) (by omega)]
      omega
    · rw [if_neg z, Int.ediv_eq_zero_of_lt (a := (i : Int) - (j : Int)) (by omega) (by omega)]
      omega
theorem cnt_monoB {m : Nat} (hm : 1 ≤ m) (f : Int → Int) (a : Int) {b c : Int} (h : b ≤ c) : cntR m f a b ≤ cntR m f a c := by
  unfold cntR
  refine sumL_le fun r _ => ?_
  have : (b + f (r : Int)) / (m : Int) ≤ (c + f (r : Int)) / (m : Int) := Int.ediv_le_ediv (by omega) (by omega)
  omega
theorem cnt_nn (m : Nat) (f : Int → Int) (a b : Int) : 0 ≤ cntR m f a b := by
  unfold cntR
  exact sumL_nn fun r _ => by omega
theorem near_top {m : Nat} (hm : 1 ≤ m) {f : Int → Int} (pf : Per m f) {B : Int} (hB : ∀ i : Nat, i < m → -B ≤ f (i : Int) ∧ f (i : Int) ≤ B) (x : Int) : f x ≤ x + B ∧ x - B - m ≤ f x := by
  have e := Int.emod_add_mul_ediv x m
  have r0 := Int.emod_nonneg x (show (m : Int) ≠ 0 by omega)
  have r1 := Int.emod_lt_of_pos x (show (0 : Int) < m by omega)
  have q := per_q pf (x % (m : Int)) (x / (m : Int))
  rw [e] at q
  have h := hB (x % (m : Int)).toNat (by omega)
  rw [Int.toNat_of_nonneg r0] at h
  omega
/-- the least sum is met within bounds -/
theorem isMin_in {m : Nat} (hm : 1 ≤ m) {T : Int → Int → Int} {p q : Int → Int} (hp : RdF m p) (hq : RdF m q) (h : IsMin T (cntR m q) (cntR m p)) {B : Int} (pB : ∀ i : Nat, i < m → -B ≤ p (i : Int) ∧ p (i : Int) ≤ B) (qB : ∀ i : Nat, i < m → -B ≤ q (i : Int) ∧ q (i : Int) ≤ B) {a b M : Int} (hM : B + ab a + ab b + 3 ≤ M) :
    (∀ l, T a b ≤ cntR m q a l + cntR m p (-l - 1) b) ∧ ∃ l, -M ≤ l ∧ l ≤ M ∧ T a b = cntR m q a l + cntR m p (-l - 1) b := by
  obtain ⟨h1, l, h2⟩ := h a b
  refine ⟨h1, ?_⟩
  have a1 : -ab a ≤ a ∧ a ≤ ab a := by unfold ab; omega
  have b1 : -ab b ≤ b ∧ b ≤ ab b := by unfold ab; omega
  have B0 : 0 ≤ B := by have := pB 0 (by omega); omega
  have pt := near_top hm hp.per pB
  have qt := near_top hm hq.per qB
  rcases Int.lt_or_le M l with z | z
  · refine ⟨M, by unfold ab at *; omega, Int.le_refl _, ?_⟩
    have c1 := cnt_lowR hm hp.per (fun i => (pt i).1) (a := -l - 1) (b := b) (by omega)
    have c2 := cnt_lowR hm hp.per (fun i => (pt i).1) (a := -M - 1) (b := b) (by omega)
    have c3 := cnt_monoB hm q a (show M ≤ l by omega)
    have c4 := h1 M
    omega
  · rcases Int.lt_or_le l (-M) with y | y
    · refine ⟨-M, Int.le_refl _, by unfold ab at *; omega, ?_⟩
      have c1 := cnt_lowR hm hq.per (fun i => (qt i).1) (a := a) (b := l) (by omega)
      have c2 := cnt_lowR hm hq.per (fun i => (qt i).1) (a := a) (b := -M) (by omega)
      have c3 := (cnt_mono hm hp.per (show - -M - 1 ≤ -l - 1 by omega) b).1
      have c4 := h1 (-M)
      omega
    · exact ⟨l, y, z, h2⟩
end K1

set_option exponentiation.threshold 400
namespace K1
open PySem PySem.Spec PyProof.Rows L2 Evl HM LX MP ZW
theorem at0 (v : V) (l : List V) : atI (v :: l) 0 = some v := at_of (show (0 : Int) = ((0 : Nat) : Int) from rfl) rfl
theorem natL_int (w : List Nat) : natL w = (w.map fun (c : Nat) => (c : Int)).map V.int := by
  unfold natL
  rw [List.map_map]
  rfl
/-- the places from which f falls -/
def fallsAt (m : Nat) (f : Int → Int) (n : Nat) : List Nat := (List.range n).filter fun c => decide (1 < m) && decide (f ((c : Int) + 1) < f (c : Int))
theorem fallsAt_head {m : Nat} (hm : 1 ≤ m) {f : Int → Int} (h : RdF m f) : (fallsAt m f m).head? = ff m f := by
  unfold fallsAt ff
  rw [List.head?_filter]
  rcases Nat.lt_or_ge m 2 with y | y
  · have : m = 1 := by omega
    subst this
    have e := ff_one h.per
    unfold ff at e
    rw [e, List.find?_eq_none]
    intro x _
    simp
  · congr 1
    funext c
    rw [decide_eq_true (show 1 < m by omega), Bool.true_and, Bool.eq_iff_iff, decide_eq_true_iff, decide_eq_true_iff]
    have ne : f (c : Int) ≠ f ((c : Int) + 1) := fun z => by have := h.inj hm _ _ z; omega
    omega
section
variable {P : Program} {w : World} {K : PySem.W.Frag} {mg : Str → Option Value} {base : Heap} {C : Addr}
def spLeast : Sp := fun vs H Q _ => ∃ (p : Addr) (m : Nat) (f : Int → Int), vs = [.ref p] ∧ RowAt H p m f ∧ RdF m f ∧ fallsR m f ≤ 10 ^ 6 ∧ ∀ q l H', Ex H H' → H' q = some (.tup [.int (shf m f), .ref l]) → H' l = some (.tup (natL (wd m f))) → Q (.ref q) H'
def spLGreedy : Sp := fun vs H Q _ => ∃ (p q : Addr) (m : Nat) (f g : Int → Int), vs = [.ref p, .ref q] ∧ RowAt H p m f ∧ RowAt H q m g ∧ RdF m f ∧ RdF m g ∧ fallsR m g ≤ 10 ^ 6 ∧ ∀ r H', Ex H H' → RowAt H' r m (grd m f g) → Q (.ref r) H'
end
end K1

set_option exponentiation.threshold 400
namespace K1
open PySem PySem.Spec PyProof.Rows L2 Evl HM LX MP ZW
theorem pe_cut9 {X : Cx} {e : Expr} {t : TE} (h : PE X e t) : PE X e (fun σ H Q => ∃ Mid : VK, t σ H Mid ∧ ∀ v H', Mid v H' → Q v H') :=
  ⟨fun pins s σ H Q I ⟨Mid, h1, h2⟩ => wpAny_mono (h.run pins s σ H Mid I h1) (fun u s' ⟨v, H', a, b, c⟩ => ⟨v, H', a, b, h2 v H' c⟩) (fun _ _ e => e)⟩
/-- no further than k from the shift t -/
def Near (f : Int → Int) (t k : Int) : Prop := ∀ i, -k ≤ f i - i - t ∧ f i - i - t ≤ k
theorem Near.sw {m : Nat} {f : Int → Int} {t k : Int} (h : Near f t k) (c : Nat) : Near (sw1 m f c) t (k + 1) := fun i => by
  have a := h (Swp m c i)
  have b := swp_near m (c : Int) i
  unfold sw1
  omega
theorem Near.gl {m : Nat} {f : Int → Int} {t k : Int} (h : Near f t k) (c : Nat) : Near (gl1 m f c) t (k + 1) := by
  unfold gl1
  split
  · exact h.sw c
  · intro i
    have := h i
    omega
theorem Near.glw {m : Nat} {t : Int} : ∀ (w : List Nat) {f : Int → Int} {k : Int}, Near f t k → Near (glw m f w) t (k + w.length)
  | [], f, k, h => by
    show Near f t (k + ((0 : Nat) : Int))
    rw [show k + ((0 : Nat) : Int) = k by omega]
    exact h
  | c :: w, f, k, h => by
    have := Near.glw (m := m) w (h.gl (m := m) c)
    rw [List.length_cons, show k + ((w.length + 1 : Nat) : Int) = k + 1 + w.length by omega]
    exact this
theorem Near.grd {m : Nat} (hm : 1 ≤ m) {f g : Int → Int} {t k : Int} (h : Near f t k) (hg : RdF m g) : Near (grd m f g) (t + shf m g) (k + fallsR m g) := by
  have n0 : fallsR m g = ((fallsR m g).toNat : Int) := by have := falls_nn m g; omega
  have a := red_all hm (fallsR m g).toNat g hg n0
  have h1 : Near (fun i => f (i + shf m g)) (t + shf m g) k := fun i => by
    have := h (i + shf m g)
    show -k ≤ f (i + shf m g) - i - (t + shf m g) ∧ f (i + shf m g) - i - (t + shf m g) ≤ k
    omega
  have := h1.glw (m := m) (red m (fallsR m g).toNat g)
  rw [a.2.2.1] at this
  unfold K1.grd
  rw [n0]
  exact this
theorem falls_sw_le {m c : Nat} (hm : 2 ≤ m) (hc : c < m) {f : Int → Int} (h : RdF m f) : fallsR m (sw1 m f c) ≤ fallsR m f + 1 := by
  rw [falls_sw hm hc h]
  split <;> omega
theorem falls_gl_le {m c : Nat} (hm : 2 ≤ m) (hc : c < m) {f : Int → Int} (h : RdF m f) : fallsR m (gl1 m f c) ≤ fallsR m f + 1 := by
  unfold gl1
  split
  · exact falls_sw_le hm hc h
  · omega
section
variable {P : Program} {w : World} {K : PySem.W.Frag} {mg : Str → Option Value} {base : Heap} {C : Addr}
def spLRound : Sp := fun vs H Q _ => ∃ (d : Addr) (m st : Nat), vs = [.ref d, .int (m : Int), .int (st : Int)] ∧ st ≤ 20 ∧ Dice H d ∧ 1 ≤ m ∧ m ≤ 60 ∧ ∀ (q : Addr) (f : Int → Int) (t : Int) H', RowAt H' q m f → RdF m f → shf m f = t → Near f t st → -(4 * 10 ^ 40) ≤ t → t ≤ 4 * 10 ^ 40 → fallsR m f ≤ st → Dice H' d → Keep d H H' → Q (.ref q) H'
end
end K1

set_option exponentiation.threshold 400
namespace K1
open PySem PySem.Spec PyProof.Rows L2 Evl HM LX ZW TE
/-- a word of m places -/
structure WdAt (H : Hp) (a : Addr) (m : Nat) (t : Int) (ws : List Nat) : Prop where
  tup : ∃ b, H a = some (.tup [.int t, .ref b]) ∧ H b = some (.tup (natL ws))
  m1 : 1 ≤ m
  m60 : m ≤ 60
  t0 : -(10 ^ 50) ≤ t
  t1 : t ≤ 10 ^ 50
  len : ws.length ≤ 500
  two : 2 ≤ m ∨ ws = []
  lt : ∀ c ∈ ws, c < m
theorem WdAt.ec {C : Addr} {H H' : Hp} {a : Addr} {m : Nat} {t : Int} {ws : List Nat} (h : WdAt H a m t ws) (e : EC C H H') : WdAt H' a m t ws := by
  obtain ⟨b, h1, h2⟩ := h.tup
  exact ⟨⟨b, e.tup h1, e.tup h2⟩, h.m1, h.m60, h.t0, h.t1, h.len, h.two, h.lt⟩
theorem WdAt.ex {H H' : Hp} {a : Addr} {m : Nat} {t : Int} {ws : List Nat} (h : WdAt H a m t ws) (e : Ex H H') : WdAt H' a m t ws := by
  obtain ⟨b, h1, h2⟩ := h.tup
  exact ⟨⟨b, e _ _ h1, e _ _ h2⟩, h.m1, h.m60, h.t0, h.t1, h.len, h.two, h.lt⟩
theorem WdAt.wv {K : PySem.W.Frag} {H : Hp} {a : Addr} {m : Nat} {t : Int} {ws : List Nat} (h : WdAt H a m t ws) : WV K H m (.ref a) true := by
  obtain ⟨⟨b, h1, h2⟩, m1, m60, t0, t1, hl, two, lt⟩ := h
  have := WV.wd (K := K) (m := m) h1 (.inl ⟨t, rfl, by omega, by omega⟩) h2 (by unfold natL; rw [List.length_map]; exact hl) (fun y hy => by
    obtain ⟨c, hc, rfl⟩ := List.mem_map.mp hy
    have := lt c hc
    exact .inl ⟨_, rfl, by omega, by omega⟩)
  have e : wdB m (.int t) (natL ws) = true := by
    unfold wdB
    have e1 : (decide (m ≠ 1) || decide (natL ws = [])) = true := by
      rcases two with z | z
      · rw [decide_eq_true (show m ≠ 1 by omega)]
        rfl
      · rw [z]
        simp [natL]
    have e2 : (natL ws).all (okL m) = true := List.all_eq_true.mpr fun y hy => by
      obtain ⟨c, hc, rfl⟩ := List.mem_map.mp hy
      have := lt c hc
      show (decide ((0 : Int) ≤ (c : Int)) && decide ((c : Int) < (m : Int))) = true
      rw [decide_eq_true (by omega), decide_eq_true (by omega)]
      rfl
    rw [e1, e2]
    rfl
  rw [e] at this
  exact this
/-- the plain table at t -/
def pl (t : Int) : Int → Int := fun i => i + t
theorem near_pl (t : Int) : Near (pl t) t 0 := fun i => by
  unfold pl
  omega
theorem falls_sww {m : Nat} (hm : 1 ≤ m) : ∀ (w : List Nat) {f : Int → Int}, RdF m f → (2 ≤ m ∨ w = []) → (∀ c ∈ w, c < m) → fallsR m (sww m f w) ≤ fallsR m f + w.length
  | [], f, h, _, _ => by
    show fallsR m f ≤ fallsR m f + ((0 : Nat) : Int)
    omega
  | c :: w, f, h, e, b => by
    rcases e with e | e
    · have := falls_sww hm w (h.sw e c) (.inl e) fun x hx => b x (List.mem_cons_of_mem _ hx)
      have l := falls_sw_le e (b c (List.mem_cons_self ..)) h
      show fallsR m (sww m (sw1 m f c) w) ≤ _
      rw [List.length_cons]
      omega
    · cases e
theorem RdF.sww {m : Nat} (hm : 1 ≤ m) : ∀ (w : List Nat) {f : Int → Int}, RdF m f → (2 ≤ m ∨ w = []) → RdF m (K1.sww m f w)
  | [], f, h, _ => h
  | c :: w, f, h, e => by
    rcases e with e | e
    · exact RdF.sww hm w (h.sw e c) (.inl e)
    · cases e
theorem shf_sww {m : Nat} (hm : 1 ≤ m) : ∀ (w : List Nat) {f : Int → Int}, RdF m f → (2 ≤ m ∨ w = []) → shf m (K1.sww m f w) = shf m f
  | [], f, h, _ => rfl
  | c :: w, f, h, e => by
    rcases e with e | e
    · show shf m (K1.sww m (sw1 m f c) w) = _
      rw [shf_sww hm w (h.sw e c) (.inl e), shf_sw e h]
    · cases e
theorem Near.sww {m : Nat} {t : Int} : ∀ (w : List Nat) {f : Int → Int} {k : Int}, Near f t k → Near (K1.sww m f w) t (k + w.length)
  | [], f, k, h => fun i => by
    have := h i
    show -(k + ((0 : Nat) : Int)) ≤ f i - i - t ∧ f i - i - t ≤ k + ((0 : Nat) : Int)
    omega
  | c :: w, f, k, h => fun i => by
    have := Near.sww (m := m) w (h.sw (m := m) c) i
    show -(k + (((c :: w).length : Nat) : Int)) ≤ K1.sww m (sw1 m f c) w i - i - t ∧ K1.sww m (sw1 m f c) w i - i - t ≤ k + (((c :: w).length : Nat) : Int)
    rw [List.length_cons]
    omega
section
variable {P : Program} {w : World} {K : PySem.W.Frag} {mg : Str → Option Value} {base : Heap} {C : Addr}
def spCheckWord (K : PySem.W.Frag) : Sp := fun vs H Q _ => ∃ (m : Nat) (v : V), vs = [.int (m : Int), v] ∧ 1 ≤ m ∧ m ≤ 60 ∧ WV K H m v true ∧ ∀ H', Ex H H' → Q .non H'
theorem ok_check_word (T : Txt K mg) {f : Addr} {fd : FuncData} (D : DefAt K mg "check_word" sCheckWord ["m", "word"] f fd) : FnOk P w K mg base CX0 5 f fd ["m", "word"] (spCheckWord K) := by
  refine D.F.ok scCheckWord (fun vs H Q E h => ?_) (fun cdv A outer s₀ H vs Q E hr h => ?_)
  · obtain ⟨m, v, rfl, _⟩ := h
    rfl
  · obtain ⟨m, v, rfl, m1, m60, hv, kQ⟩ := h
    obtain ⟨f1, fd1, D1⟩ := T.d_is_word
    obtain ⟨f2, fd2, D2⟩ := T.d_check_between
    obtain ⟨tMAX_ROUND, vMAX_ROUND⟩ := T.v_MAX_ROUND
    have hr3 : Room 3 _ := hr.mono (by decide)
    have hr4 : Room 4 _ := hr.mono (by decide)
    refine ⟨_, pss_cons (ps_expr (pe_call (ok_check_between T D2) hr3 (by rfl) D2.g D2.F.kp D2.b .nil pass0 (pa_cons (pv 0) (pa_cons pe_int (pa_cons (pe_glob (v := .int 60) rfl vMAX_ROUND ⟨_, rfl⟩) pa_nil)))))
      (pss_one (ps_if (pt_not (pt_val (pe_call (ok_is_word T D1) hr4 (by rfl) D1.g D1.F.kp D1.b .nil pass0 (pa_cons (pv 0) (pa_cons (pv 1) pa_nil))))) pss_never pss_nil)), ?_⟩
    refine ⟨_, rfl, _, 1, 60, rfl, by omega, by omega, by omega, by omega, fun H1 e1 => ?_⟩
    exact ⟨_, rfl, _, rfl, m, v, true, rfl, m1, m60, hv.ec (EC.of (C := 0) e1), fun H2 e2 => ⟨true, rfl, iteF (kQ _ (e1.trans e2))⟩⟩
def spPlain : Sp := fun vs H Q _ => ∃ (a : Addr) (m : Nat) (t : Int) (ws : List Nat), vs = [.int (m : Int), .ref a] ∧ WdAt H a m t ws ∧ ∀ r H', Ex H H' → H' r = some (.lst ((rowF m (sww m (pl t) ws)).map V.int)) → Q (.ref r) H'
theorem ok_plain (T : Txt K mg) {f : Addr} {fd : FuncData} (D : DefAt K mg "plain_values" sPlainValues ["m", "word"] f fd) : FnOk P w K mg base CX0 2 f fd ["m", "word"] spPlain := by
  refine D.F.ok scPlainValues (fun vs H Q E h => ?_) (fun cdv A outer s₀ H vs Q E hr h => ?_)
  · obtain ⟨a, m, t, ws, rfl, _⟩ := h
    rfl
  · obtain ⟨a, m, t, ws, rfl, hw, kQ⟩ := h
    obtain ⟨f1, fd1, D1⟩ := T.d_exchanged
    have hr1 : Room 1 _ := hr.mono (by decide)
    refine ⟨_, pss_cons (ps_setLc (i := 2) (own := [("i", 4)]) (g := gName 4) (tt := tYes) (by rfl) scPlainValues.nd rfl rfl (sw_true rfl rfl rfl (by decide +kernel)) (pi_range1 (by rfl) T.z_range (pa_cons (pv 0) pa_nil))
        (blkOk_by (N := nPlainValues) (sc := defScope sPlainValues) (by decide +kernel)) (fun _ _ _ _ _ => (pg_name (i := 4) scPlainValues.nd rfl (.inl rfl))) (fun _ _ _ _ _ => pts_nil)
        (fun _ _ _ _ _ => (pe_op op_add (pv 4) (pe_ix (show IxR _ (rIxT K) from ix_tup) (pv 1) pe_int (fun _ _ => rfl)))))
      (pss_cons (ps_for PassesOwn.never rfl (pi_tup (pe_ix ix_tup (pv 1) pe_int (fun _ _ => rfl))) (pg_name (i := 3) scPlainValues.nd rfl (.inl rfl))
        (pss_one (ps_set (i := 2) scPlainValues.nd rfl (.inl rfl) (pe_call (ok_exchS T D1) hr1 (by rfl) D1.g D1.F.kp D1.b .nil pass0 (pa_cons (pv 2) (pa_cons (pv 3) pa_nil))))))
      (pss_one (ps_ret (pv 2)))), ?_⟩
    obtain ⟨b, ha, hb⟩ := hw.tup
    have m1 := hw.m1
    have m60 := hw.m60
    refine ⟨_, rfl, _, rfl, by omega, by omega, fun Dl hD => ?_⟩
    refine lc_range (lo := 0) (n := (m : Int).toNat) (fun i H' => H' Dl = some (.lst (((List.range i).map fun (j : Nat) => (j : Int) + t).map V.int)) ∧ Ex H H') ⟨upd_same, Ex.new hD⟩ (fun i H' hi hp2 => ?_) (fun H5 hp2 => ?_)
    · obtain ⟨w1, w2⟩ := hp2
      have hi : i < m := hi
      refine ⟨rfl, ?_⟩
      dsimp only [tYes]
      rw [if_pos rfl]
      refine ⟨_, rfl, _, rfl, a, _, 0, _, rfl, rfl, SqT.of (w2 _ _ ha), rfl, _, _, rfl, rfl, _, w1, ?_, ?_, Ex.mut w2 hD⟩
      · rw [List.length_map, List.length_map, List.length_range]
        exact small1000 (by omega)
      · rw [upd_same, List.range_succ, List.map_append, List.map_append, Int.zero_add]
        rfl
    obtain ⟨w1, w2⟩ := hp2
    rw [Int.toNat_natCast] at w1
    have hl2 := w2 _ _ hb
    refine ⟨_, rfl, a, _, 1, _, rfl, rfl, SqT.of (w2 _ _ ha), rfl, b, rfl, ⟨_, SqT.of hl2⟩, for_tup (K := K) (a := b) (xs := natL ws) (fun i σ' H' => ∃ (r : Addr) (y3 : Option V), σ' = [some (.int (m : Int)), some (.ref a), some (.ref r), y3, none] ∧ H' r = some (.lst ((rowF m (sww m (pl t) (ws.take i))).map V.int)) ∧ Ex H5 H') ⟨Dl, none, rfl, w1, Ex.refl _⟩ (fun i σ' H' _ hW => ?_) (fun i x σ' H' hx hW => ?_) (fun σ' H' hW => ?_)⟩
    · obtain ⟨_, _, _, _, e⟩ := hW
      exact SqT.of (e _ _ hl2)
    · obtain ⟨r, y5, rfl, v1, v2⟩ := hW
      unfold natL at hx
      rw [List.getElem?_map] at hx
      obtain ⟨c, hc, rfl⟩ := Option.map_eq_some_iff.mp hx
      have cm := hw.lt c (List.mem_of_getElem? hc)
      have tk : ws.take (i + 1) = ws.take i ++ [c] := by rw [List.take_add_one, hc]; rfl
      have hm2 : 2 ≤ m := by
        rcases hw.two with z | z
        · exact z
        · rw [z] at hc
          cases hc
      have hg := RdF.sww m1 (ws.take i) (RdF.shift m1 t) (.inl hm2)
      have gs : sww m (pl t) (ws.take (i + 1)) = sw1 m (sww m (pl t) (ws.take i)) c := by rw [tk, sww_app]; rfl
      rw [gs]
      refine ⟨_, rfl, _, rfl, r, m, c, _, rfl, ⟨.inr v1, m1, m60⟩, hg.per, hm2, cm, fun r2 H3 e3 nr hr3 => ?_⟩
      exact ⟨r2, _, rfl, hr3, v2.trans e3⟩
    · obtain ⟨r, y5, rfl, v1, v2⟩ := hW
      have : (natL ws).length = ws.length := by unfold natL; rw [List.length_map]
      rw [this, List.take_length] at v1
      exact ⟨_, rfl, kQ r _ (w2.trans v2) v1⟩
end
end K1

set_option exponentiation.threshold 400
namespace K1
open PySem PySem.Spec PyProof.Rows L2 Evl HM LX ZW TE
theorem pl_rd {m : Nat} (hm : 1 ≤ m) (t : Int) : RdF m (pl t) := RdF.shift hm t
theorem pl_shf {m : Nat} (hm : 1 ≤ m) (t : Int) : shf m (pl t) = t := shf_plain hm t
theorem pl_falls {m : Nat} (hm : 1 ≤ m) (t : Int) : fallsR m (pl t) = 0 := by
  unfold pl
  exact ab_zero t
theorem near_bd {m : Nat} {f : Int → Int} {t k : Int} (h : Near f t k) (m60 : m ≤ 60) (t0 : -(10 ^ 50) ≤ t) (t1 : t ≤ 10 ^ 50) (k1 : k ≤ 1000) (i : Nat) (hi : i < m) : -(10 ^ 60) < f (i : Int) ∧ f (i : Int) < 10 ^ 60 := by
  have := h (i : Int)
  omega
section
variable {P : Program} {w : World} {K : PySem.W.Frag} {mg : Str → Option Value} {base : Heap} {C : Addr}
def spRaisedT : Sp := fun vs H Q _ => ∃ (p l : Addr) (m : Nat) (f : Int → Int) (ws : List Nat), vs = [.ref p, .ref l] ∧ H p = some (.lst ((rowF m f).map V.int)) ∧ 1 ≤ m ∧ m ≤ 60 ∧ H l = some (.tup (natL ws)) ∧ RdF m f ∧ (2 ≤ m ∨ ws = []) ∧ (∀ c ∈ ws, c < m) ∧
  ∀ r H', Ex H H' → H' r = some (.lst ((rowF m (glw m f ws)).map V.int)) → Q (.ref r) H'
theorem ok_raisedT (T : Txt K mg) {f : Addr} {fd : FuncData} (D : DefAt K mg "raised_by" sRaisedBy ["values", "letters"] f fd) : FnOk P w K mg base CX0 3 f fd ["values", "letters"] spRaisedT := by
  refine D.F.ok scRaisedBy (fun vs H Q E h => ?_) (fun cdv A outer s₀ H vs Q E hr h => ?_)
  · obtain ⟨p, l, m, f, ws, rfl, _⟩ := h
    rfl
  · obtain ⟨p, l, m, f, ws, rfl, hp, m1, m60, hl, hf, hm, wb, kQ⟩ := h
    obtain ⟨f1, fd1, D1⟩ := T.d_is_rising
    obtain ⟨f2, fd2, D2⟩ := T.d_exchanged
    have hr1 : Room 1 _ := hr.mono (by decide)
    have hr2 : Room 2 _ := hr.mono (by decide)
    refine ⟨_, pss_cons (ps_for PassesOwn.never rfl (pi_tup (pv 1)) (pg_name (i := 2) scRaisedBy.nd rfl (.inl rfl))
        (pss_one (ps_if (pt_val (pe_call (ok_rising T D1) hr2 (by rfl) D1.g D1.F.kp D1.b .nil pass0 (pa_cons (pv 0) (pa_cons (pv 2) pa_nil)))) (pss_one (ps_set (i := 0) scRaisedBy.nd rfl (.inl rfl) (pe_call (ok_exchS T D2) hr1 (by rfl) D2.g D2.F.kp D2.b .nil pass0 (pa_cons (pv 0) (pa_cons (pv 2) pa_nil))))) pss_nil)))
      (pss_one (ps_ret (pv 0))), ?_⟩
    refine ⟨_, rfl, l, rfl, ⟨_, SqT.of hl⟩, for_tup (K := K) (a := l) (xs := natL ws) (fun i σ' H' => ∃ (q : Addr) (y2 : Option V), σ' = [some (.ref q), some (.ref l), y2] ∧ H' q = some (.lst ((rowF m (glw m f (ws.take i))).map V.int)) ∧ Ex H H') ⟨p, none, rfl, hp, Ex.refl _⟩ (fun i σ' H' _ hW => ?_) (fun i x σ' H' hx hW => ?_) (fun σ' H' hW => ?_)⟩
    · obtain ⟨_, _, _, _, e⟩ := hW
      exact SqT.of (e _ _ hl)
    · obtain ⟨q, y2, rfl, w1, w2⟩ := hW
      unfold natL at hx
      rw [List.getElem?_map] at hx
      obtain ⟨c, hc, rfl⟩ := Option.map_eq_some_iff.mp hx
      have cm := wb c (List.mem_of_getElem? hc)
      have tk : ws.take (i + 1) = ws.take i ++ [c] := by rw [List.take_add_one, hc]; rfl
      have hm2 : 2 ≤ m := by
        rcases hm with z | z
        · exact z
        · rw [z] at hc
          cases hc
      have hg := RdF.glw m1 (ws.take i) hf (.inl hm2)
      have gs : glw m f (ws.take (i + 1)) = gl1 m (glw m f (ws.take i)) c := by rw [tk, glw_app]; rfl
      generalize glw m f (ws.take i) = g at *
      rw [gs]
      have row : RowS H' q m g := ⟨.inr w1, m1, m60⟩
      refine ⟨_, rfl, _, rfl, q, m, c, g, rfl, row, hg.per, cm, _, rfl, ite2 (fun z => ?_) (fun z => ?_)⟩
      · have z := of_decide_eq_true z
        refine ⟨_, rfl, _, rfl, q, m, c, g, rfl, row, hg.per, hm2, cm, fun r H3 e3 nr hr3 => ?_⟩
        exact ⟨r, _, rfl, by unfold gl1; rw [if_pos z]; exact hr3, w2.trans e3⟩
      · refine ⟨q, _, rfl, by unfold gl1; rw [if_neg (fun y => z (decide_eq_true y))]; exact w1, w2⟩
    · obtain ⟨q, y2, rfl, w1, w2⟩ := hW
      have : (natL ws).length = ws.length := by unfold natL; rw [List.length_map]
      rw [this, List.take_length] at w1
      exact ⟨_, rfl, kQ q _ w2 w1⟩
def spMadeOf (C : Addr) : Sp := fun vs H Q _ => ∃ (a : Addr) (m : Nat) (t : Int) (ws : List Nat), vs = [.int (m : Int), .ref a] ∧ WdAt H a m t ws ∧ ∀ z H', Ex H H' → RdNew C H' z m (sww m (pl t) ws) → Q (.ref z) H'
theorem ok_made_of (T : Txt K mg) (R : RTxt K mg C) {f : Addr} {fd : FuncData} (D : DefAt K mg "made_of" sMadeOf ["m", "word"] f fd) : FnOk P w K mg base CX0 6 f fd ["m", "word"] (spMadeOf C) := by
  refine D.F.ok scMadeOf (fun vs H Q E h => ?_) (fun cdv A outer s₀ H vs Q E hr h => ?_)
  · obtain ⟨a, m, t, ws, rfl, _⟩ := h
    rfl
  · obtain ⟨a, m, t, ws, rfl, hw, kQ⟩ := h
    obtain ⟨f1, fd1, D1⟩ := T.d_told_round
    obtain ⟨f2, fd2, D2⟩ := T.d_plain_values
    obtain ⟨f3, fd3, D3⟩ := T.d_check_word
    have hr2 : Room 2 _ := hr.mono (by decide)
    have hr5 : Room 5 _ := hr.mono (by decide)
    refine ⟨_, pss_cons (ps_expr (pe_call (ok_check_word T D3) hr5 (by rfl) D3.g D3.F.kp D3.b .nil pass0 (pa_cons (pv 0) (pa_cons (pv 1) pa_nil))))
      (pss_one (ps_ret (pe_call (ok_told_round T R D1) hr5 (by rfl) D1.g D1.F.kp D1.b .nil pass0 (pa_cons (pe_call (ok_plain T D2) hr2 (by rfl) D2.g D2.F.kp D2.b .nil pass0 (pa_cons (pv 0) (pa_cons (pv 1) pa_nil))) pa_nil)))), ?_⟩
    have m1 := hw.m1
    refine ⟨_, rfl, _, rfl, m, _, rfl, m1, hw.m60, hw.wv, fun H1 e1 => ?_⟩
    refine ⟨_, rfl, _, rfl, a, m, t, ws, rfl, hw.ex e1, fun r H2 e2 hr2 => ?_⟩
    dsimp only [tNil]
    rw [List.append_nil]
    have hl := hw.len
    refine told_of m1 hw.m60 hr2 (fun i hi => near_bd (Near.sww ws (near_pl t)) hw.m60 hw.t0 hw.t1 (by omega) i hi) (RdF.sww m1 ws (pl_rd m1 t) hw.two).perm fun z H3 _ e3 hz => ?_
    exact kQ z _ ((e1.trans e2).trans e3) hz
def spGreedilyMade (C : Addr) : Sp := fun vs H Q _ => ∃ (a : Addr) (m : Nat) (t : Int) (ws : List Nat), vs = [.int (m : Int), .ref a] ∧ WdAt H a m t ws ∧ ∀ z H', EC C H H' → RdC C H' z m (glw m (pl t) ws) → Q (.ref z) H'
theorem ok_greedily_made (T : Txt K mg) (R : RTxt K mg C) {f : Addr} {fd : FuncData} (D : DefAt K mg "greedily_made" sGreedilyMade ["m", "word"] f fd) : FnOk P w K mg base CX0 7 f fd ["m", "word"] (spGreedilyMade C) := by
  refine D.F.ok scGreedilyMade (fun vs H Q E h => ?_) (fun cdv A outer s₀ H vs Q E hr h => ?_)
  · obtain ⟨a, m, t, ws, rfl, _⟩ := h
    rfl
  · obtain ⟨a, m, t, ws, rfl, hw, kQ⟩ := h
    obtain ⟨f1, fd1, D1⟩ := T.d_told_greedy
    obtain ⟨f2, fd2, D2⟩ := T.d_raised_by
    obtain ⟨f3, fd3, D3⟩ := T.d_check_word
    have hr3 : Room 3 _ := hr.mono (by decide)
    have hr5 : Room 5 _ := hr.mono (by decide)
    have hr6 : Room 6 _ := hr.mono (by decide)
    refine ⟨_, pss_cons (ps_expr (pe_call (ok_check_word T D3) hr5 (by rfl) D3.g D3.F.kp D3.b .nil pass0 (pa_cons (pv 0) (pa_cons (pv 1) pa_nil))))
      (pss_one (ps_ret (pe_call (ok_told_greedy T R D1) hr6 (by rfl) D1.g D1.F.kp D1.b .nil pass0 (pa_cons (pe_call (ok_raisedT T D2) hr3 (by rfl) D2.g D2.F.kp D2.b .nil pass0 (pa_cons (pe_lc (own := [("i", 2)]) (g := gName 2) (tt := tYes) rfl scGreedilyMade.nd (pi_range1 (by rfl) T.z_range (pa_cons (pv 0) pa_nil))
        (blkOk_by (N := nGreedilyMade) (sc := defScope sGreedilyMade) (by decide +kernel)) (fun _ _ _ _ _ => (pg_name (i := 2) scGreedilyMade.nd rfl (.inl rfl))) (fun _ _ _ _ _ => pts_nil)
        (fun _ _ _ _ _ => (pe_op op_add (pv 2) (pe_ix (show IxR _ (rIxT K) from ix_tup) (pv 1) pe_int (fun _ _ => rfl))))) (pa_cons (pe_ix ix_tup (pv 1) pe_int (fun _ _ => rfl)) pa_nil))) pa_nil)))), ?_⟩
    have m1 := hw.m1
    have m60 := hw.m60
    refine ⟨_, rfl, _, rfl, m, _, rfl, m1, hw.m60, hw.wv, fun H1 e1 => ?_⟩
    have hw1 := hw.ex e1
    obtain ⟨b, ha, hb⟩ := hw1.tup
    refine ⟨_, rfl, _, rfl, by omega, by omega, fun Dl hD => ?_⟩
    refine lc_range (lo := 0) (n := (m : Int).toNat) (fun i H' => H' Dl = some (.lst (((List.range i).map fun (j : Nat) => (j : Int) + t).map V.int)) ∧ Ex H1 H') ⟨upd_same, Ex.new hD⟩ (fun i H' hi hp2 => ?_) (fun H5 hp2 => ?_)
    · obtain ⟨w1, w2⟩ := hp2
      have hi : i < m := hi
      refine ⟨rfl, ?_⟩
      dsimp only [tYes]
      rw [if_pos rfl]
      refine ⟨_, rfl, _, rfl, a, _, 0, _, rfl, rfl, SqT.of (w2 _ _ ha), rfl, _, _, rfl, rfl, _, w1, ?_, ?_, Ex.mut w2 hD⟩
      · rw [List.length_map, List.length_map, List.length_range]
        exact small1000 (by omega)
      · rw [upd_same, List.range_succ, List.map_append, List.map_append, Int.zero_add]
        rfl
    obtain ⟨w1, w2⟩ := hp2
    rw [Int.toNat_natCast] at w1
    refine ⟨_, rfl, a, _, 1, _, rfl, rfl, SqT.of (w2 _ _ ha), rfl, Dl, b, m, pl t, ws, rfl, w1, m1, m60, w2 _ _ hb, pl_rd m1 t, hw.two, hw.lt, fun r H6 e6 hr6 => ?_⟩
    have hl := hw.len
    have fa := falls_glw m1 ws (pl_rd m1 t) hw.two hw.lt
    rw [pl_falls m1 t] at fa
    exact ⟨r, m, _, rfl, hr6, m1, m60, (RdF.glw m1 ws (pl_rd m1 t) hw.two).perm, fun i hi => near_bd (Near.glw ws (near_pl t)) m60 hw.t0 hw.t1 (by omega) i hi, by omega, fun z H7 e7 hz => kQ z _ ((EC.of ((e1.trans w2).trans e6)).trans e7) hz⟩
def spWordOf (C : Addr) : Sp := fun vs H Q _ => ∃ (x : Addr) (m : Nat) (f : Int → Int), vs = [.ref x] ∧ RdC C H x m f ∧ RdF m f ∧ fallsR m f ≤ 400 ∧ -(10 ^ 50) ≤ shf m f ∧ shf m f ≤ 10 ^ 50 ∧ ∀ a H', EC C H H' → WdAt H' a m (shf m f) (wd m f) → RdC C H' x m f → Q (.ref a) H'
theorem ok_word_of (T : Txt K mg) (R : RTxt K mg C) {f : Addr} {fd : FuncData} (D : DefAt K mg "word_of" sWordOf ["p"] f fd) : FnOk P w K mg base CX0 5 f fd ["p"] (spWordOf C) := by
  refine D.F.ok scWordOf (fun vs H Q E h => ?_) (fun cdv A outer s₀ H vs Q E hr h => ?_)
  · obtain ⟨x, m, f, rfl, _⟩ := h
    rfl
  · obtain ⟨x, m, f, rfl, hx, hf, fa, s0, s1, kQ⟩ := h
    obtain ⟨pT, gT, gdT, mT, FT, bT⟩ := R.told
    obtain ⟨pS, gS, gdS, mS, FS, bS⟩ := R.shift
    obtain ⟨f1, fd1, D1⟩ := T.d_letters_in
    obtain ⟨f2, fd2, D2⟩ := T.d_check_falls
    obtain ⟨f3, fd3, D3⟩ := T.d_check_map
    have hr1 : Room 1 _ := hr.mono (by decide)
    have hr2 : Room 2 _ := hr.mono (by decide)
    have hr3 : Room 3 _ := hr.mono (by decide)
    have hr4 : Room 4 _ := hr.mono (by decide)
    refine ⟨_, pss_cons (ps_expr (pe_call (ok_check_map T R D3) hr1 (by rfl) D3.g D3.F.kp D3.b .nil pass0 (pa_cons (pv 0) pa_nil)))
      (pss_cons (ps_expr (pe_call (ok_check_falls T R D2) hr4 (by rfl) D2.g D2.F.kp D2.b .nil pass0 (pa_cons (pv 0) pa_nil)))
      (pss_one (ps_ret (pe_tup (pa_cons (pe_prop (pv 0) R.cl mS (ok_rshift T R FS) hr3 bS .nil pass0 rfl) (pa_cons (pe_callTy call_tuple_of (by rfl) T.z_tuple (by decide +kernel) (pa_cons (pe_call (ok_letters T D1) hr4 (by rfl) D1.g D1.F.kp D1.b .nil pass0 (pa_cons (pe_prop (pv 0) R.cl mT (ok_rtold R FT) hr2 bT .nil pass0 rfl) pa_nil)) pa_nil)) pa_nil)))))), ?_⟩
    obtain ⟨dy, py, vy, ey, _, ry⟩ := id hx
    have m1 := ry.2.1
    have m60 := ry.2.2
    refine ⟨_, rfl, x, m, f, rfl, hx.at_, ?_⟩
    refine ⟨_, rfl, x, m, f, rfl, hx, by omega, fun H1 e1 => ?_⟩
    have hx1 := hx.ec e1
    refine ⟨_, rfl, shiftR hx1.at_ m1 hf.perm fun H2 e2 => ?_⟩
    have hx2 := hx1.ex e2
    refine ⟨_, rfl, toldR hx2.at_ fun p hp => ?_⟩
    refine ⟨p, m, f, rfl, hp.s, hf, by omega, fun l H3 e3 hl => ?_⟩
    have n0 : fallsR m f = ((fallsR m f).toNat : Int) := by have := falls_nn m f; omega
    have a := red_all m1 (fallsR m f).toNat f hf n0
    have h2 := red_two m1 hf _ n0
    have wlen : (wd m f).length = (fallsR m f).toNat := a.2.2.1
    refine ⟨l, _, rfl, .inl ⟨SqL.of hl, fun q hq => ?_⟩⟩
    have xq := Ex.new (o := .tup (natL (wd m f))) hq
    refine ⟨by show 2 ≤ sizeLine; decide, fun tq htq => ?_⟩
    have xt := Ex.new (o := .tup [.int (shf m f), .ref q]) htq
    have eA := ((e2.trans e3).trans xq).trans xt
    exact kQ tq _ (e1.trans (EC.of eA)) ⟨⟨q, upd_same, xt _ _ upd_same⟩, m1, m60, s0, s1, by omega, h2, a.2.2.2⟩ (hx1.ex eA)
def spIsWordOf (K : PySem.W.Frag) (C : Addr) : Sp := fun vs H Q _ => ∃ (x : Addr) (m : Nat) (f : Int → Int) (v : V), vs = [.ref x, v] ∧ RdC C H x m f ∧ RdF m f ∧ fallsR m f ≤ 1000 ∧
  ((WV K H m v false ∧ ∀ H', EC C H H' → RdC C H' x m f → Q (.bl false) H') ∨
   ∃ (a : Addr) (t : Int) (ws : List Nat), v = .ref a ∧ WdAt H a m t ws ∧ ∀ H', EC C H H' → RdC C H' x m f → Q (.bl (decide ((ws.length : Int) = fallsR m f) && decide (rowF m (sww m (pl t) ws) = rowF m f))) H')
theorem ok_is_word_of (T : Txt K mg) (R : RTxt K mg C) {f : Addr} {fd : FuncData} (D : DefAt K mg "is_word_of" sIsWordOf ["p", "value"] f fd) : FnOk P w K mg base CX0 5 f fd ["p", "value"] (spIsWordOf K C) := by
  refine D.F.ok scIsWordOf (fun vs H Q E h => ?_) (fun cdv A outer s₀ H vs Q E hr h => ?_)
  · obtain ⟨x, m, f, v, rfl, _⟩ := h
    rfl
  · obtain ⟨x, m, f, v, rfl, hx, hf, fa, hv⟩ := h
    obtain ⟨gL, gdL, mL, FL, bL⟩ := R.len
    obtain ⟨pT, gT, gdT, mT, FT, bT⟩ := R.told
    obtain ⟨pFa, gFa, gdFa, mFa, FFa, bFa⟩ := R.falls
    obtain ⟨f1, fd1, D1⟩ := T.d_plain_values
    obtain ⟨f2, fd2, D2⟩ := T.d_is_word
    obtain ⟨f3, fd3, D3⟩ := T.d_check_falls
    obtain ⟨f4, fd4, D4⟩ := T.d_check_map
    have hr1 : Room 1 _ := hr.mono (by decide)
    have hr2 : Room 2 _ := hr.mono (by decide)
    have hr3 : Room 3 _ := hr.mono (by decide)
    have hr4 : Room 4 _ := hr.mono (by decide)
    refine ⟨_, pss_cons (ps_expr (pe_call (ok_check_map T R D4) hr1 (by rfl) D4.g D4.F.kp D4.b .nil pass0 (pa_cons (pv 0) pa_nil)))
      (pss_cons (ps_expr (pe_call (ok_check_falls T R D3) hr4 (by rfl) D3.g D3.F.kp D3.b .nil pass0 (pa_cons (pv 0) pa_nil)))
      (pss_cons (ps_if (PW.pt (pw_or (pt_not (pt_val (pe_call (ok_is_word T D2) hr4 (by rfl) D2.g D2.F.kp D2.b .nil pass0 (pa_cons (pe_callB (OW2.call_lenOwn mL.at_ mL.fn (by have z := (ok_rlen T R FL (P := P) (w := w) (base := base)).raw bL .nil; exact z) hr2 pass0) (by rfl) T.z_len PySem.boot_len (pa_cons (pv 0) pa_nil)) (pa_cons (pv 1) pa_nil)))))
          (pw_or1 (pt_cmpR op_ne (pe_callB call_len_seq (by rfl) T.z_len PySem.boot_len (pa_cons (pe_ix ix_tup (pv 1) pe_int (fun _ _ => rfl)) pa_nil)) (pe_prop (pv 0) R.cl mFa (ok_rfallsC T R FFa) hr3 bFa .nil pass0 rfl) (nomark _))))) (pss_one (ps_ret pe_bl)) pss_nil)
      (pss_one (ps_ret (pe_cmpR (op_eqD hr.units) (pe_callTy call_tuple_of (by rfl) T.z_tuple (by decide +kernel) (pa_cons (pe_call (ok_plain T D1) hr2 (by rfl) D1.g D1.F.kp D1.b .nil pass0 (pa_cons (pe_callB (OW2.call_lenOwn mL.at_ mL.fn (by have z := (ok_rlen T R FL (P := P) (w := w) (base := base)).raw bL .nil; exact z) hr2 pass0) (by rfl) T.z_len PySem.boot_len (pa_cons (pv 0) pa_nil)) (pa_cons (pv 1) pa_nil))) pa_nil)) (pe_prop (pv 0) R.cl mT (ok_rtold R FT) hr2 bT .nil pass0 rfl) (nomark _)))))), ?_⟩
    obtain ⟨dy, py, vy, ey, _, ry⟩ := id hx
    have m1 := ry.2.1
    have m60 := ry.2.2
    refine ⟨_, rfl, x, m, f, rfl, hx.at_, ?_⟩
    refine ⟨_, rfl, x, m, f, rfl, hx, by omega, fun H1 e1 => ?_⟩
    have hx1 := hx.ec e1
    obtain ⟨d1, p1, v1, ex1, _⟩ := id hx1
    rcases hv with ⟨hv, kQ⟩ | ⟨a, t, ws, rfl, hw, kQ⟩
    · exact ⟨_, rfl, x, d1, _, rfl, ex1, x, m, f, rfl, hx1.at_, (m : Int), rfl, by omega, by omega, _, rfl, m, v, false, rfl, m1, m60, hv.ec e1, fun H2 e2 => ⟨false, rfl, iteT (kQ _ (e1.trans (EC.of e2)) (hx1.ex e2))⟩⟩
    have hw1 := hw.ec e1
    refine ⟨_, rfl, x, d1, _, rfl, ex1, x, m, f, rfl, hx1.at_, (m : Int), rfl, by omega, by omega, _, rfl, m, _, true, rfl, m1, m60, hw1.wv, fun H2 e2 => ⟨true, rfl, iteF ?_⟩⟩
    have hw2 := hw1.ex e2
    have hx2 := hx1.ex e2
    have e12 := e1.trans (EC.of e2)
    obtain ⟨b, ha, hb⟩ := hw2.tup
    have ll : ((natL ws).length : Int) = (ws.length : Int) := by unfold natL; rw [List.length_map]
    refine ⟨_, rfl, a, _, 1, _, rfl, rfl, SqT.of ha, rfl, b, _, rfl, .inr (SqT.of hb), _, rfl, fallR hx2 fun H3 e3 hx3 => ?_⟩
    have e13 := e12.trans e3
    rw [ll]
    refine ⟨rfl, _, rfl, ite2 (fun z => ?_) (fun z => ?_)⟩
    · have z : ¬ (ws.length : Int) = fallsR m f := fun y => by rw [y] at z; simp at z
      rw [decide_eq_false z, Bool.false_and] at kQ
      exact kQ _ e13 hx3
    · have z : (ws.length : Int) = fallsR m f := Decidable.byContradiction fun y => z (by rw [decide_eq_false (fun q => y (V.int.inj q))]; rfl)
      rw [decide_eq_true z, Bool.true_and] at kQ
      obtain ⟨d3, p3, v3, ex3, _⟩ := id hx3
      refine ⟨_, rfl, x, d3, _, rfl, ex3, x, m, f, rfl, hx3.at_, (m : Int), rfl, by omega, by omega, _, rfl, a, m, t, ws, rfl, hw2.ec e3, fun r H4 e4 hr4 => ?_⟩
      refine ⟨r, _, rfl, .inl ⟨SqL.of hr4, fun q hq => ?_⟩⟩
      have xq := Ex.new (o := .tup ((rowF m (sww m (pl t) ws)).map V.int)) hq
      have hx5 := (hx3.ex e4).ex xq
      refine ⟨_, rfl, toldR hx5.at_ fun p5 hp5 => ?_⟩
      exact CI.eqT (upd_same) hp5.1 (kQ _ ((e13.trans (EC.of e4)).trans (EC.of xq)) hx5)
end
end K1

set_option exponentiation.threshold 400
namespace K1
open PySem PySem.Spec PyProof.Rows L2 Evl HM LX MP ZW TE
section
variable {P : Program} {w : World} {K : PySem.W.Frag} {mg : Str → Option Value} {base : Heap} {C : Addr}
def spLFalls : Sp := fun vs H Q _ => ∃ (p : Addr) (m : Nat) (f : Int → Int), vs = [.ref p] ∧ RowAt H p m f ∧ RdF m f ∧ Q (.int (fallsR m f)) H
theorem ok_lfalls (T : Txt K mg) {f : Addr} {fd : FuncData} (D : DefAt K mg "_law_falls" sLFalls ["_law_values"] f fd) : FnOk P w K mg base CX0 1 f fd ["_law_values"] spLFalls := by
  refine D.F.ok scLFalls (fun vs H Q E h => ?_) (fun cdv A outer s₀ H vs Q E hr h => ?_)
  · obtain ⟨p, m, f, rfl, _⟩ := h
    rfl
  · obtain ⟨p, m, f, rfl, ⟨hp, m1, m60⟩, hf, kQ⟩ := h
    refine ⟨_, pss_cons (ps_par (i := 1) (j := 2) (by rfl) scLFalls.nd rfl rfl (by decide) rfl rfl (pa_cons (pe_callB call_len_seq (by rfl) T.z_len PySem.boot_len (pa_cons (pv 0) pa_nil)) (pa_cons pe_int pa_nil)) (by rfl))
      (pss_cons (ps_for PassesOwn.never rfl (pi_range1 (by rfl) T.z_range (pa_cons (pv 1) pa_nil)) (pg_name (i := 3) scLFalls.nd rfl (.inl rfl))
        (pss_one (ps_for PassesOwn.never rfl (pi_range1 (by rfl) T.z_range (pa_cons (pv 1) pa_nil)) (pg_name (i := 4) scLFalls.nd rfl (.inl rfl))
        (pss_cons (ps_set (i := 5) scLFalls.nd rfl (.inl rfl) (pe_op op_sub (pe_ix ix_tup (pv 0) (pv 3) (fun _ _ => rfl)) (pe_ix ix_tup (pv 0) (pv 4) (fun _ _ => rfl))))
      (pss_one (ps_if (pt_cmpR op_gt (pv 4) (pv 3) (nomark _)) (pss_one (ps_set (i := 2) scLFalls.nd rfl (.inl rfl) (pe_op op_add (pv 2) (pe_callB (call_max2 rfl) (by rfl) T.z_max (by decide +kernel) (pa_cons pe_int (pa_cons (pe_un un_neg (pe_op op_fdiv (pe_un un_neg (pv 5)) (pv 1))) pa_nil)))))) (pss_one (ps_set (i := 2) scLFalls.nd rfl (.inl rfl) (pe_op op_add (pv 2) (pe_callB (call_max2 rfl) (by rfl) T.z_max (by decide +kernel) (pa_cons pe_int (pa_cons (pe_op op_sub (pe_un un_neg (pe_op op_fdiv (pe_un un_neg (pv 5)) (pv 1))) pe_int) pa_nil))))))))))))
      (pss_one (ps_ret (pv 2)))), ?_⟩
    refine ⟨_, rfl, p, _, rfl, .inr (SqT.of hp), ?_⟩
    rw [rowL]
    refine ⟨_, _, rfl, ?_⟩
    refine ⟨_, rfl, _, rfl, by omega, by omega, for_range (lo := 0) (n := (m : Int).toNat) (fun k σ' H' => ∃ (t : Int) (y3 y4 y5 : Option V), σ' = [some (.ref p), some (.int (m : Int)), some (.int t), y3, y4, y5] ∧ H = H' ∧ t = sumL (List.range k) fun i => sumL (List.range m) fun j => lawH m f i j) ⟨0, none, none, none, rfl, rfl, rfl⟩ (fun i σ' H' hi hW => ?_) (fun σ' H' hW => ?_)⟩
    · obtain ⟨t, y3, y4, y5, rfl, rfl, ht⟩ := hW
      have hi : i < m := hi
      refine ⟨_, rfl, _, rfl, by omega, by omega, for_range (lo := 0) (n := (m : Int).toNat) (fun k σ' H' => ∃ (u : Int) (y4 y5 : Option V), σ' = [some (.ref p), some (.int (m : Int)), some (.int u), some (.int (0 + (i : Int))), y4, y5] ∧ H = H' ∧ u = t + sumL (List.range k) fun j => lawH m f i j) ⟨t, y4, y5, rfl, rfl, by rw [List.range_zero, sumL_nil, Int.add_zero]⟩ (fun j σ2 H2 hj hW2 => ?_) (fun σ2 H2 hW2 => ?_)⟩
      · obtain ⟨u, y4, y5, rfl, rfl, hu⟩ := hW2
        have hj : j < m := hj
        have sp := SqT.of (K := K) hp
        have ai : atI ((rowF m f).map V.int) (0 + (i : Int)) = some (.int (f (i : Int))) := by rw [Int.zero_add]; exact atI_nat (rowF_get hi)
        have aj : atI ((rowF m f).map V.int) (0 + (j : Int)) = some (.int (f (j : Int))) := by rw [Int.zero_add]; exact atI_nat (rowF_get hj)
        refine ⟨_, rfl, _, rfl, p, _, _, _, rfl, rfl, sp, ai, _, rfl, _, rfl, p, _, _, _, rfl, rfl, sp, aj, _, _, rfl, rfl, ?_⟩
        refine ⟨_, rfl, _, rfl, _, _, rfl, rfl, _, rfl, ite2 (fun c => ?_) (fun c => ?_)⟩
        · have c : i < j := by have := of_decide_eq_true c; omega
          refine ⟨_, rfl, _, rfl, _, rfl, _, rfl, _, _, rfl, rfl, ⟨by omega, by omega⟩, _, rfl, _, _, rfl, _, _, rfl, rfl, ?_⟩
          refine ⟨_, _, _, rfl, rfl, ?_⟩
          rw [List.range_succ, sumL_app, sumL_cons, sumL_nil, hu]
          unfold lawH
          rw [if_pos c]
          split <;> omega
        · have c : ¬ i < j := fun y => c (decide_eq_true (by omega))
          refine ⟨_, rfl, _, rfl, _, rfl, _, rfl, _, _, rfl, rfl, ⟨by omega, by omega⟩, _, rfl, _, _, rfl, rfl, _, _, rfl, _, _, rfl, rfl, ?_⟩
          refine ⟨_, _, _, rfl, rfl, ?_⟩
          rw [List.range_succ, sumL_app, sumL_cons, sumL_nil, hu]
          unfold lawH
          rw [if_neg c]
          split <;> omega
      · obtain ⟨u, y4, y5, rfl, rfl, hu⟩ := hW2
        refine ⟨u, _, _, _, rfl, rfl, ?_⟩
        rw [List.range_succ, sumL_app, sumL_cons, sumL_nil, hu, ht, Int.add_zero]
        rfl
    · obtain ⟨t, y3, y4, y5, rfl, rfl, ht⟩ := hW
      refine ⟨_, rfl, ?_⟩
      rw [ht]
      show Q (V.int (sumL (List.range m) fun i => sumL (List.range m) fun j => lawH m f i j)) _
      rw [law_falls2 m1 hf]
      exact kQ
end
end K1

set_option exponentiation.threshold 400
namespace K1
open PySem PySem.Spec PyProof.Rows L2 Evl HM LX ZW TE
/-- the letters that do something -/
def bus (m : Nat) : (Int → Int) → List Nat → List Nat
  | _, [] => []
  | f, c :: w => if f (c : Int) < f ((c : Int) + 1) then c :: bus m (sw1 m f c) w else bus m f w
theorem bus_cons (m : Nat) (f : Int → Int) (c : Nat) (w : List Nat) : bus m f (c :: w) = if f (c : Int) < f ((c : Int) + 1) then c :: bus m (sw1 m f c) w else bus m f w := rfl
theorem bus_app (m : Nat) : ∀ (u v : List Nat) (f : Int → Int), bus m f (u ++ v) = bus m f u ++ bus m (glw m f u) v
  | [], v, f => rfl
  | c :: u, v, f => by
    show bus m f (c :: (u ++ v)) = bus m f (c :: u) ++ bus m (glw m (gl1 m f c) u) v
    by_cases z : f (c : Int) < f ((c : Int) + 1)
    · have e : gl1 m f c = sw1 m f c := by unfold gl1; rw [if_pos z]
      rw [e, bus_cons, bus_cons, if_pos z, if_pos z, bus_app m u v]
      rfl
    · have e : gl1 m f c = f := by unfold gl1; rw [if_neg z]
      rw [e, bus_cons, bus_cons, if_neg z, if_neg z, bus_app m u v]
theorem bus_len (m : Nat) : ∀ (w : List Nat) (f : Int → Int), (bus m f w).length ≤ w.length
  | [], f => Nat.le_refl _
  | c :: w, f => by
    unfold bus
    split
    · have := bus_len m w (sw1 m f c)
      rw [List.length_cons, List.length_cons]
      omega
    · have := bus_len m w f
      rw [List.length_cons]
      omega
theorem bus_mem (m : Nat) : ∀ (w : List Nat) (f : Int → Int) (c : Nat), c ∈ bus m f w → c ∈ w
  | [], f, c, h => h
  | d :: w, f, c, h => by
    unfold bus at h
    split at h
    · rcases List.mem_cons.mp h with z | z
      · exact List.mem_cons.mpr (.inl z)
      · exact List.mem_cons_of_mem _ (bus_mem m w _ c z)
    · exact List.mem_cons_of_mem _ (bus_mem m w _ c h)
theorem bus_sww (m : Nat) : ∀ (w : List Nat) (f : Int → Int), sww m f (bus m f w) = glw m f w
  | [], f => rfl
  | c :: w, f => by
    show sww m f (bus m f (c :: w)) = glw m (gl1 m f c) w
    unfold bus gl1
    split
    · exact bus_sww m w _
    · exact bus_sww m w _
theorem bus_glw (m : Nat) : ∀ (w : List Nat) (f : Int → Int), glw m f (bus m f w) = glw m f w
  | [], f => rfl
  | c :: w, f => by
    show glw m f (bus m f (c :: w)) = glw m (gl1 m f c) w
    unfold bus
    by_cases z : f (c : Int) < f ((c : Int) + 1)
    · have e : gl1 m f c = sw1 m f c := by unfold gl1; rw [if_pos z]
      rw [if_pos z, e]
      show glw m (gl1 m f c) _ = _
      rw [e]
      exact bus_glw m w _
    · have e : gl1 m f c = f := by unfold gl1; rw [if_neg z]
      rw [if_neg z, e]
      exact bus_glw m w _
theorem row_ne {m c : Nat} (hm : 2 ≤ m) (hc : c < m) {f : Int → Int} (h : f (c : Int) < f ((c : Int) + 1)) : rowF m (sw1 m f c) ≠ rowF m f := fun e => by
  have a := rowF_get (f := sw1 m f c) hc
  rw [e, rowF_get hc] at a
  have := V.int.inj (Option.some.inj a)
  unfold sw1 at this
  rw [swp_cN hm] at this
  omega
theorem wd_or {K : PySem.W.Frag} {H : Hp} {m : Nat} (m1 : 1 ≤ m) (m60 : m ≤ 60) {a b : Addr} {x : V} {ls : List V} (e : H a = some (.tup [x, .ref b])) (hx : KI x) (hb : H b = some (.tup ls)) (hl : ls.length ≤ 500) (hk : ∀ y ∈ ls, KI y) : WV K H m (.ref a) false ∨ ∃ t ws, WdAt H a m t ws := by
  have h := WV.wd (K := K) (m := m) e hx hb hl hk
  cases hw : wdB m x ls with
  | false =>
    rw [hw] at h
    exact .inl h
  | true =>
    unfold wdB at hw
    rw [Bool.and_eq_true, Bool.and_eq_true] at hw
    obtain ⟨h1, h2, h3⟩ := hw
    rcases hx with ⟨t, rfl, t0, t1⟩ | ⟨b, rfl⟩
    · have hn : ∀ ls : List V, ls.all (okL m) = true → ∃ ws : List Nat, ls = natL ws ∧ ∀ c ∈ ws, c < m := fun ls => by
        induction ls with
        | nil => exact fun _ => ⟨[], rfl, fun c hc => by cases hc⟩
        | cons y r ih =>
          intro q
          rw [List.all_cons, Bool.and_eq_true] at q
          obtain ⟨ws, rfl, hw⟩ := ih q.2
          have q1 := q.1
          cases y with
          | int i =>
            have q2 : (decide (0 ≤ i) && decide (i < (m : Int))) = true := q1
            rw [Bool.and_eq_true] at q2
            have a := of_decide_eq_true q2.1
            have b := of_decide_eq_true q2.2
            refine ⟨i.toNat :: ws, ?_, fun c hc => ?_⟩
            · unfold natL
              rw [List.map_cons, Int.toNat_of_nonneg a]
            · rcases List.mem_cons.mp hc with z | z
              · omega
              · exact hw c z
          | _ => cases q1
      obtain ⟨ws, rfl, hw⟩ := hn ls h3
      refine .inr ⟨t, ws, ⟨b, e, hb⟩, m1, m60, t0, t1, by unfold natL at hl; rw [List.length_map] at hl; exact hl, ?_, hw⟩
      rcases Bool.or_eq_true_iff.mp h2 with z | z
      · have := of_decide_eq_true z
        exact .inl (by omega)
      · have z := of_decide_eq_true z
        unfold natL at z
        exact .inr (List.map_eq_nil_iff.mp z)
    · cases h1
section
variable {P : Program} {w : World} {K : PySem.W.Frag} {mg : Str → Option Value} {base : Heap} {C : Addr}
def spLPlain : Sp := fun vs H Q _ => ∃ (a : Addr) (m : Nat) (t : Int) (ws : List Nat), vs = [.int (m : Int), .ref a] ∧ WdAt H a m t ws ∧ ∀ r H', Ex H H' → RowAt H' r m (sww m (pl t) ws) → Q (.ref r) H'
theorem ok_lplain (T : Txt K mg) {f : Addr} {fd : FuncData} (D : DefAt K mg "_law_plainly_made" sLPlainlyMade ["_law_m", "_law_word"] f fd) : FnOk P w K mg base CX0 3 f fd ["_law_m", "_law_word"] spLPlain := by
  refine D.F.ok scLPlainlyMade (fun vs H Q E h => ?_) (fun cdv A outer s₀ H vs Q E hr h => ?_)
  · obtain ⟨a, m, t, ws, rfl, _⟩ := h
    rfl
  · obtain ⟨a, m, t, ws, rfl, hw, kQ⟩ := h
    obtain ⟨f1, fd1, D1⟩ := T.d_l_after
    have hr2 : Room 2 _ := hr.mono (by decide)
    refine ⟨_, pss_cons (ps_set (i := 2) scLPlainlyMade.nd rfl (.inl rfl) (pe_callTy call_tuple_of (by rfl) T.z_tuple (by decide +kernel) (pa_cons (pe_lc (own := [("_law_place", 4)]) (g := gName 4) (tt := tYes) rfl scLPlainlyMade.nd (pi_range1 (by rfl) T.z_range (pa_cons (pv 0) pa_nil))
        (blkOk_by (N := nLPlainlyMade) (sc := defScope sLPlainlyMade) (by decide +kernel)) (fun _ _ _ _ _ => (pg_name (i := 4) scLPlainlyMade.nd rfl (.inl rfl))) (fun _ _ _ _ _ => pts_nil)
        (fun _ _ _ _ _ => (pe_op op_add (pv 4) (pe_ix (show IxR _ (rIxT K) from ix_tup) (pv 1) pe_int (fun _ _ => rfl))))) pa_nil)))
      (pss_cons (ps_for PassesOwn.never rfl (pi_tup (pe_ix ix_tup (pv 1) pe_int (fun _ _ => rfl))) (pg_name (i := 3) scLPlainlyMade.nd rfl (.inl rfl))
        (pss_one (ps_set (i := 2) scLPlainlyMade.nd rfl (.inl rfl) (pe_call (ok_lafter T D1) hr2 (by rfl) D1.g D1.F.kp D1.b .nil pass0 (pa_cons (pv 2) (pa_cons (pv 3) pa_nil))))))
      (pss_one (ps_ret (pv 2)))), ?_⟩
    obtain ⟨b, ha, hb⟩ := hw.tup
    have m1 := hw.m1
    have m60 := hw.m60
    refine ⟨_, rfl, _, rfl, by omega, by omega, fun Dl hD => ?_⟩
    refine lc_range (lo := 0) (n := (m : Int).toNat) (fun i H' => H' Dl = some (.lst (((List.range i).map fun (j : Nat) => (j : Int) + t).map V.int)) ∧ Ex H H') ⟨upd_same, Ex.new hD⟩ (fun i H' hi hp2 => ?_) (fun H5 hp2 => ?_)
    · obtain ⟨w1, w2⟩ := hp2
      have hi : i < m := hi
      refine ⟨rfl, ?_⟩
      dsimp only [tYes]
      rw [if_pos rfl]
      refine ⟨_, rfl, _, rfl, a, _, 0, _, rfl, rfl, SqT.of (w2 _ _ ha), rfl, _, _, rfl, rfl, _, w1, ?_, ?_, Ex.mut w2 hD⟩
      · rw [List.length_map, List.length_map, List.length_range]
        exact small1000 (by omega)
      · rw [upd_same, List.range_succ, List.map_append, List.map_append, Int.zero_add]
        rfl
    obtain ⟨w1, w2⟩ := hp2
    rw [Int.toNat_natCast] at w1
    refine ⟨Dl, _, rfl, .inl ⟨SqL.of w1, fun q hq => ?_⟩⟩
    have xq := Ex.new (o := .tup (((List.range m).map fun (j : Nat) => (j : Int) + t).map V.int)) hq
    have row0 : RowAt (upd H5 q (.tup (((List.range m).map fun (j : Nat) => (j : Int) + t).map V.int))) q m (pl t) := ⟨upd_same, m1, m60⟩
    have w2 := w2.trans xq
    generalize upd H5 q (.tup (((List.range m).map fun (j : Nat) => (j : Int) + t).map V.int)) = H6 at *
    have hl2 := w2 _ _ hb
    refine ⟨_, rfl, a, _, 1, _, rfl, rfl, SqT.of (w2 _ _ ha), rfl, b, rfl, ⟨_, SqT.of hl2⟩, for_tup (K := K) (a := b) (xs := natL ws) (fun i σ' H' => ∃ (r : Addr) (y3 : Option V), σ' = [some (.int (m : Int)), some (.ref a), some (.ref r), y3, none] ∧ RowAt H' r m (sww m (pl t) (ws.take i)) ∧ Ex H6 H') ⟨q, none, rfl, row0, Ex.refl _⟩ (fun i σ' H' _ hW => ?_) (fun i x σ' H' hx hW => ?_) (fun σ' H' hW => ?_)⟩
    · obtain ⟨_, _, _, _, e⟩ := hW
      exact SqT.of (e _ _ hl2)
    · obtain ⟨r, y5, rfl, v1, v2⟩ := hW
      unfold natL at hx
      rw [List.getElem?_map] at hx
      obtain ⟨c, hc, rfl⟩ := Option.map_eq_some_iff.mp hx
      have cm := hw.lt c (List.mem_of_getElem? hc)
      have tk : ws.take (i + 1) = ws.take i ++ [c] := by rw [List.take_add_one, hc]; rfl
      have hm2 : 2 ≤ m := by
        rcases hw.two with z | z
        · exact z
        · rw [z] at hc
          cases hc
      have hg := RdF.sww m1 (ws.take i) (pl_rd m1 t) (.inl hm2)
      have gs : sww m (pl t) (ws.take (i + 1)) = sw1 m (sww m (pl t) (ws.take i)) c := by rw [tk, sww_app]; rfl
      rw [gs]
      refine ⟨_, rfl, _, rfl, r, m, c, _, rfl, v1, hg.per, hm2, cm, fun r2 H3 e3 hr3 => ?_⟩
      exact ⟨r2, _, rfl, hr3, v2.trans e3⟩
    · obtain ⟨r, y5, rfl, v1, v2⟩ := hW
      have : (natL ws).length = ws.length := by unfold natL; rw [List.length_map]
      rw [this, List.take_length] at v1
      exact ⟨_, rfl, kQ r _ (w2.trans v2) v1⟩
def spLGreedily : Sp := fun vs H Q _ => ∃ (a : Addr) (m : Nat) (t : Int) (ws : List Nat), vs = [.int (m : Int), .ref a] ∧ WdAt H a m t ws ∧ ∀ p r b H', Ex H H' → H' p = some (.tup [.ref r, .ref b]) → RowAt H' r m (glw m (pl t) ws) → H' b = some (.tup (natL (bus m (pl t) ws))) → Q (.ref p) H'
theorem ok_lgreedily (T : Txt K mg) {f : Addr} {fd : FuncData} (D : DefAt K mg "_law_greedily" sLGreedily ["_law_m", "_law_word"] f fd) : FnOk P w K mg base CX0 4 f fd ["_law_m", "_law_word"] spLGreedily := by
  refine D.F.ok scLGreedily (fun vs H Q E h => ?_) (fun cdv A outer s₀ H vs Q E hr h => ?_)
  · obtain ⟨a, m, t, ws, rfl, _⟩ := h
    rfl
  · obtain ⟨a, m, t, ws, rfl, hw, kQ⟩ := h
    obtain ⟨f1, fd1, D1⟩ := T.d_l_greedy_letter
    have hr3 : Room 3 _ := hr.mono (by decide)
    refine ⟨_, pss_cons (ps_par (i := 2) (j := 3) (by rfl) scLGreedily.nd rfl rfl (by decide) rfl rfl (pa_cons (pe_callTy call_tuple_of (by rfl) T.z_tuple (by decide +kernel) (pa_cons (pe_lc (own := [("_law_place", 6)]) (g := gName 6) (tt := tYes) rfl scLGreedily.nd (pi_range1 (by rfl) T.z_range (pa_cons (pv 0) pa_nil))
        (blkOk_by (N := nLGreedily) (sc := defScope sLGreedily) (by decide +kernel)) (fun _ _ _ _ _ => (pg_name (i := 6) scLGreedily.nd rfl (.inl rfl))) (fun _ _ _ _ _ => pts_nil)
        (fun _ _ _ _ _ => (pe_op op_add (pv 6) (pe_ix (show IxR _ (rIxT K) from ix_tup) (pv 1) pe_int (fun _ _ => rfl))))) pa_nil)) (pa_cons (pe_lst pa_nil) pa_nil)) (by rfl))
      (pss_cons (ps_for PassesOwn.never rfl (pi_tup (pe_ix ix_tup (pv 1) pe_int (fun _ _ => rfl))) (pg_name (i := 4) scLGreedily.nd rfl (.inl rfl))
        (pss_cons (ps_set (i := 5) scLGreedily.nd rfl (.inl rfl) (pe_call (ok_lgletter T D1) hr3 (by rfl) D1.g D1.F.kp D1.b .nil pass0 (pa_cons (pv 2) (pa_cons (pv 4) pa_nil))))
      (pss_cons (ps_if (pt_cmpR (op_neD hr.units) (pv 5) (pv 2) (nomark _)) (pss_one (ps_expr (pe_bm PySem.F.plainAttrs_list PySem.F.slot_list_append PySem.F.type_list_append mt_append (pv 3) (pa_cons (pv 4) pa_nil)))) pss_nil)
      (pss_one (ps_set (i := 2) scLGreedily.nd rfl (.inl rfl) (pv 5))))))
      (pss_one (ps_ret (pe_tup (pa_cons (pv 2) (pa_cons (pe_callTy call_tuple_of (by rfl) T.z_tuple (by decide +kernel) (pa_cons (pv 3) pa_nil)) pa_nil)))))), ?_⟩
    obtain ⟨b, ha, hb⟩ := hw.tup
    have m1 := hw.m1
    have m60 := hw.m60
    refine ⟨_, rfl, _, rfl, by omega, by omega, fun Dl hD => ?_⟩
    refine lc_range (lo := 0) (n := (m : Int).toNat) (fun i H' => H' Dl = some (.lst (((List.range i).map fun (j : Nat) => (j : Int) + t).map V.int)) ∧ Ex H H') ⟨upd_same, Ex.new hD⟩ (fun i H' hi hp2 => ?_) (fun H5 hp2 => ?_)
    · obtain ⟨w1, w2⟩ := hp2
      have hi : i < m := hi
      refine ⟨rfl, ?_⟩
      dsimp only [tYes]
      rw [if_pos rfl]
      refine ⟨_, rfl, _, rfl, a, _, 0, _, rfl, rfl, SqT.of (w2 _ _ ha), rfl, _, _, rfl, rfl, _, w1, ?_, ?_, Ex.mut w2 hD⟩
      · rw [List.length_map, List.length_map, List.length_range]
        exact small1000 (by omega)
      · rw [upd_same, List.range_succ, List.map_append, List.map_append, Int.zero_add]
        rfl
    obtain ⟨w1, w2⟩ := hp2
    rw [Int.toNat_natCast] at w1
    refine ⟨Dl, _, rfl, .inl ⟨SqL.of w1, fun q hq => ?_⟩⟩
    have xq := Ex.new (o := .tup (((List.range m).map fun (j : Nat) => (j : Int) + t).map V.int)) hq
    have row0 : RowAt (upd H5 q (.tup (((List.range m).map fun (j : Nat) => (j : Int) + t).map V.int))) q m (pl t) := ⟨upd_same, m1, m60⟩
    have w2 := w2.trans xq
    generalize upd H5 q (.tup (((List.range m).map fun (j : Nat) => (j : Int) + t).map V.int)) = H6 at *
    refine ⟨Nat.zero_le _, fun bl hbl => ⟨_, _, rfl, ?_⟩⟩
    have hl6 := w2 _ _ hb
    have x6 := Ex.new (o := .lst []) hbl
    refine ⟨_, rfl, a, _, 1, _, rfl, rfl, SqT.of (x6 _ _ (w2 _ _ ha)), rfl, b, rfl, ⟨_, SqT.of (x6 _ _ hl6)⟩, for_tup (K := K) (a := b) (xs := natL ws) (fun i σ' H' => ∃ (r : Addr) (y4 y5 : Option V), σ' = [some (.int (m : Int)), some (.ref a), some (.ref r), some (.ref bl), y4, y5, none] ∧ RowAt H' r m (glw m (pl t) (ws.take i)) ∧ H' bl = some (.lst (natL (bus m (pl t) (ws.take i)))) ∧ Ex H6 H') ⟨q, none, none, rfl, ⟨x6 _ _ row0.1, row0.2⟩, upd_same, x6⟩ (fun i σ' H' _ hW => ?_) (fun i x σ' H' hx hW => ?_) (fun σ' H' hW => ?_)⟩
    · obtain ⟨_, _, _, _, _, _, e⟩ := hW
      exact SqT.of (e _ _ hl6)
    · obtain ⟨r, y4, y5, rfl, v1, v2, v3⟩ := hW
      have il : i < ws.length := by
        have := (List.getElem?_eq_some_iff.mp hx).1
        unfold natL at this
        rw [List.length_map] at this
        exact this
      unfold natL at hx
      rw [List.getElem?_map] at hx
      obtain ⟨c, hc, rfl⟩ := Option.map_eq_some_iff.mp hx
      have cm := hw.lt c (List.mem_of_getElem? hc)
      have tk : ws.take (i + 1) = ws.take i ++ [c] := by rw [List.take_add_one, hc]; rfl
      have hm2 : 2 ≤ m := by
        rcases hw.two with z | z
        · exact z
        · rw [z] at hc
          cases hc
      have hg := RdF.glw m1 (ws.take i) (pl_rd m1 t) (.inl hm2)
      have gs : glw m (pl t) (ws.take (i + 1)) = gl1 m (glw m (pl t) (ws.take i)) c := by rw [tk, glw_app]; rfl
      have bs : bus m (pl t) (ws.take (i + 1)) = bus m (pl t) (ws.take i) ++ bus m (glw m (pl t) (ws.take i)) [c] := by rw [tk, bus_app]
      have bl1 : (bus m (pl t) (ws.take i)).length ≤ i := by
        have := bus_len m (ws.take i) (pl t)
        rw [List.length_take] at this
        omega
      have hwl := hw.len
      rw [gs, bs]
      generalize glw m (pl t) (ws.take i) = g at *
      generalize bus m (pl t) (ws.take i) = us at *
      refine ⟨_, rfl, _, rfl, r, m, c, g, rfl, v1, hg.per, hm2, cm, fun r2 H3 e3 hr3 => ?_⟩
      have v23 := e3 _ _ v2
      refine ⟨_, rfl, _, rfl, CI.neT hr3.1 (e3 _ _ v1.1) ?_⟩
      refine ⟨_, rfl, ite2 (fun z => ?_) (fun z => ?_)⟩
      · have z : rowF m (gl1 m g c) ≠ rowF m g := by simpa using z
        have lt : g (c : Int) < g ((c : Int) + 1) := Decidable.byContradiction fun y => z (by unfold gl1; rw [if_neg y])
        have bc : bus m g [c] = [c] := by rw [bus_cons, if_pos lt]; rfl
        have n1 : bl ≠ r2 := ne_of v23 hr3.1 (by intro z; cases z)
        refine ⟨_, rfl, .inl ⟨rfl, _, SqL.of v23⟩, _, rfl, bl, _, _, rfl, rfl, v23, ?_, ?_⟩
        · unfold natL
          rw [List.length_map]
          exact small1000 (by omega)
        have xm := Ex.mut (o := .lst (natL us ++ [.int (c : Int)])) (v3.trans e3) hbl
        refine ⟨_, rfl, r2, _, _, rfl, ⟨(upd_ne n1.symm).trans hr3.1, hr3.2⟩, ?_, xm⟩
        rw [upd_same, bc]
        unfold natL
        rw [List.map_append]
        rfl
      · have z : rowF m (gl1 m g c) = rowF m g := by simpa using z
        have lt : ¬ g (c : Int) < g ((c : Int) + 1) := fun y => row_ne hm2 cm y (by rw [← z]; unfold gl1; rw [if_pos y])
        have bc : bus m g [c] = [] := by rw [bus_cons, if_neg lt]; rfl
        rw [bc, List.append_nil]
        exact ⟨_, rfl, r2, _, _, rfl, hr3, v23, v3.trans e3⟩
    · obtain ⟨r, y4, y5, rfl, v1, v2, v3⟩ := hW
      have : (natL ws).length = ws.length := by unfold natL; rw [List.length_map]
      rw [this, List.take_length] at v1 v2
      refine ⟨_, rfl, _, rfl, bl, _, rfl, .inl ⟨SqL.of v2, fun b2 hb2 => ?_⟩⟩
      have xb := Ex.new (o := .tup (natL (bus m (pl t) ws))) hb2
      refine ⟨by show 2 ≤ sizeLine; decide, fun tq htq => ?_⟩
      have xt := Ex.new (o := .tup [.ref r, .ref b2]) htq
      have xx := xb.trans xt
      exact kQ tq r b2 _ ((w2.trans v3).trans xx) upd_same ⟨xx _ _ v1.1, v1.2⟩ (xt _ _ upd_same)
end
end K1

set_option exponentiation.threshold 400
namespace K1
open PySem PySem.Spec PyProof.Rows L2 Evl HM LX ZW TE
/-- the data of ints and bools -/
def dOf : V → PyData
  | .int i => .int i
  | .bl b => .bool b
  | _ => .none
theorem dp_ki {K : PySem.W.Frag} {H : Hp} : ∀ ls : List V, (∀ y ∈ ls, KI y) → DpAll K H ls (ls.map dOf)
  | [], _ => .nil
  | y :: r, h => by
    rcases h y (List.mem_cons_self ..) with ⟨i, rfl, _⟩ | ⟨b, rfl⟩
    · exact .cons (.int i) (dp_ki r fun z hz => h z (List.mem_cons_of_mem _ hz))
    · exact .cons (.bl b) (dp_ki r fun z hz => h z (List.mem_cons_of_mem _ hz))
theorem shaped_ki : ∀ ls : List V, (∀ y ∈ ls, KI y) → SeqAt.shaped (.tuple (ls.map dOf)) = true
  | [], _ => rfl
  | y :: r, h => by
    have ih := shaped_ki r fun z hz => h z (List.mem_cons_of_mem _ hz)
    rcases h y (List.mem_cons_self ..) with ⟨i, rfl, _⟩ | ⟨b, rfl⟩
    · exact ih
    · exact ih
theorem ne_nil {K : PySem.W.Frag} {H : Hp} {p q : Addr} {Q : VK} {ls : List V} (hk : ∀ y ∈ ls, KI y) (h1 : H p = some (.tup ls)) (h2 : H q = some (.tup [])) (k : Q (.bl (!decide (ls = []))) H) : rNeD K (.ref p) (.ref q) H Q := by
  refine ⟨_, _, .tup (SqT.of h1) (dp_ki ls hk), .tup (SqT.of h2) .nil, shaped_ki ls hk, rfl, ?_⟩
  have e : PyData.eqv (.tuple (ls.map dOf)) (.tuple []) = decide (ls = []) := by
    cases ls with
    | nil => simp [PyData.eqv, PyData.eqvAll]
    | cons y r => simp [PyData.eqv, PyData.eqvAll]
  rw [e]
  exact k
/-- one for each that is no letter -/
def badL (m : Nat) (ls : List V) : List Int := (ls.filter fun y => !okL m y).map fun _ => (1 : Int)
theorem badL_snoc (m : Nat) (ls : List V) (y : V) : badL m (ls ++ [y]) = badL m ls ++ (if okL m y then [] else [1]) := by
  unfold badL
  rw [List.filter_append, List.map_append]
  congr 1
  cases h : okL m y <;> simp [h]
theorem badL_nil (m : Nat) (ls : List V) : decide (badL m ls = []) = ls.all (okL m) := by
  unfold badL
  induction ls with
  | nil => rfl
  | cons y r ih =>
    cases h : okL m y
    · simp [h]
    · simp [h]
      simpa using ih
theorem badL_len (m : Nat) (ls : List V) : (badL m ls).length ≤ ls.length := by
  unfold badL
  rw [List.length_map]
  exact List.length_filter_le _ _
section
variable {P : Program} {w : World} {K : PySem.W.Frag} {mg : Str → Option Value} {base : Heap} {C : Addr}
def spLIsWord (K : PySem.W.Frag) : Sp := fun vs H Q _ => ∃ (m : Nat) (v : V) (b : Bool), vs = [.int (m : Int), v] ∧ 1 ≤ m ∧ m ≤ 60 ∧ WV K H m v b ∧ ∀ H', Ex H H' → Q (.bl b) H'
theorem ok_lis_word (T : Txt K mg) {f : Addr} {fd : FuncData} (D : DefAt K mg "_law_is_word" sLIsWord ["_law_m", "_law_value"] f fd) : FnOk P w K mg base CX0 1 f fd ["_law_m", "_law_value"] (spLIsWord K) := by
  refine D.F.ok scLIsWord (fun vs H Q E h => ?_) (fun cdv A outer s₀ H vs Q E hr h => ?_)
  · obtain ⟨m, v, b, rfl, _⟩ := h
    rfl
  · obtain ⟨m, v, b, rfl, m1, m60, hv, kQ⟩ := h
    refine ⟨_, pss_cons (ps_if (PW.pt (pw_or (pt_not (pt_val (pe_callB call_isi (by rfl) T.z_isinstance (by decide +kernel) (pa_cons (pv 1) (pa_cons (pe_bltn (v := .ty "tuple") (by rfl) T.z_tuple (by decide +kernel) rfl) pa_nil)))))
          (pw_or (pt_cmpR op_ne (pe_callB call_len_seq (by rfl) T.z_len PySem.boot_len (pa_cons (pv 1) pa_nil)) pe_int (nomark _))
          (pw_or1 (pt_not (pt_val (pe_callB call_isi (by rfl) T.z_isinstance (by decide +kernel) (pa_cons (pe_ix ix_tup (pv 1) pe_int (fun _ _ => rfl)) (pa_cons (pe_bltn (v := .ty "tuple") (by rfl) T.z_tuple (by decide +kernel) rfl) pa_nil))))))))) (pss_one (ps_ret pe_bl)) pss_nil)
      (pss_cons (ps_if (PW.pt (pw_or (pt_val (pe_callB call_isi (by rfl) T.z_isinstance (by decide +kernel) (pa_cons (pe_ix ix_tup (pv 1) pe_int (fun _ _ => rfl)) (pa_cons (pe_bltn (v := .ty "bool") (by rfl) T.z_bool (by decide +kernel) rfl) pa_nil))))
          (pw_or (pt_not (pt_val (pe_callB call_isi (by rfl) T.z_isinstance (by decide +kernel) (pa_cons (pe_ix ix_tup (pv 1) pe_int (fun _ _ => rfl)) (pa_cons (pe_bltn (v := .ty "int") (by rfl) T.z_int (by decide +kernel) rfl) pa_nil)))))
          (pw_or (pt_cmpR op_gt (pe_callB call_len_seq (by rfl) T.z_len PySem.boot_len (pa_cons (pe_ix ix_tup (pv 1) pe_int (fun _ _ => rfl)) pa_nil)) pe_int (nomark _))
          (pw_or1 (PW.pt (pw_and (pt_cmpR op_eq (pv 0) pe_int (nomark _))
          (pw_and1 (pt_cmpR (op_neD hr.units) (pe_ix ix_tup (pv 1) pe_int (fun _ _ => rfl)) (pe_tup pa_nil) (nomark _)))))))))) (pss_one (ps_ret pe_bl)) pss_nil)
      (pss_one (ps_ret (pe_cmpR (op_eqD hr.units) (pe_lc (own := [("_law_c", 2)]) (g := gName 2) rfl scLIsWord.nd (pi_tup (pe_ix ix_tup (pv 1) pe_int (fun _ _ => rfl)))
        (blkOk_by (N := nLIsWord) (sc := defScope sLIsWord) (by decide +kernel)) (fun _ _ _ _ _ => (pg_name (i := 2) scLIsWord.nd rfl (.inl rfl))) (fun _ _ _ _ _ => pts_one (PW.pt (pw_or (pt_val (pe_callB (show CallR _ _ (rIsi K) from call_isi) (by rfl) T.z_isinstance (by decide +kernel) (pa_cons (pv 2) (pa_cons (pe_bltn (v := .ty "bool") (by rfl) T.z_bool (by decide +kernel) rfl) pa_nil))))
          (pw_or (pt_not (pt_val (pe_callB (show CallR _ _ (rIsi K) from call_isi) (by rfl) T.z_isinstance (by decide +kernel) (pa_cons (pv 2) (pa_cons (pe_bltn (v := .ty "int") (by rfl) T.z_int (by decide +kernel) rfl) pa_nil)))))
          (pw_or1 (pt_not (pt_chain op_le op_lt pe_int (pv 2) (pv 0))))))))
        (fun _ _ _ _ _ => pe_int)) (pe_lst pa_nil) (nomark _))))), ?_⟩
    cases hv with
    | no h =>
      obtain ⟨t, ty, hk⟩ := h.ty
      exact ⟨_, rfl, v, .ty "tuple", t, .type "tuple", false, rfl, .ty _, ty, hk, false, rfl, iteT (kQ _ (Ex.refl _))⟩
    | @len a xs e h =>
      refine ⟨_, rfl, .ref a, .ty "tuple", .type "tuple", .type "tuple", true, rfl, .ty _, .base (.tup e), kit_ty (by decide +kernel), true, rfl, iteF ?_⟩
      have : decide (V.int (xs.length : Int) = V.int 2) = false := decide_eq_false fun z => h (by have := V.int.inj z; omega)
      refine ⟨_, rfl, a, _, rfl, .inr (SqT.of e), rfl, _, rfl, ?_⟩
      rw [this]
      exact iteT (kQ _ (Ex.refl _))
    | @snd a x y e hx hy =>
      refine ⟨_, rfl, .ref a, .ty "tuple", .type "tuple", .type "tuple", true, rfl, .ty _, .base (.tup e), kit_ty (by decide +kernel), true, rfl, iteF ?_⟩
      obtain ⟨t, ty, hk⟩ := hy.ty
      refine ⟨_, rfl, a, _, rfl, .inr (SqT.of e), rfl, _, rfl, iteF ?_⟩
      exact ⟨_, rfl, a, _, 1, _, rfl, rfl, SqT.of e, rfl, y, .ty "tuple", t, .type "tuple", false, rfl, .ty _, ty, hk, false, rfl, iteT (kQ _ (Ex.refl _))⟩
    | @wd a b x ls e hx hb hl hk =>
      refine ⟨_, rfl, .ref a, .ty "tuple", .type "tuple", .type "tuple", true, rfl, .ty _, .base (.tup e), kit_ty (by decide +kernel), true, rfl, iteF ?_⟩
      refine ⟨_, rfl, a, _, rfl, .inr (SqT.of e), rfl, _, rfl, iteF ?_⟩
      refine ⟨_, rfl, a, _, 1, _, rfl, rfl, SqT.of e, rfl, .ref b, .ty "tuple", .type "tuple", .type "tuple", true, rfl, .ty _, .base (.tup hb), kit_ty (by decide +kernel), true, rfl, iteF ?_⟩
      rcases hx with ⟨i, rfl, i0, i1⟩ | ⟨bb, rfl⟩
      · refine ⟨_, rfl, a, _, 0, _, rfl, rfl, SqT.of e, rfl, .int i, .ty "bool", .type "int", .type "bool", false, rfl, .ty _, .base (.int i), kit_ty (by decide +kernel), false, rfl, iteF ?_⟩
        refine ⟨_, rfl, a, _, 0, _, rfl, rfl, SqT.of e, rfl, .int i, .ty "int", .type "int", .type "int", true, rfl, .ty _, .base (.int i), kit_ty (by decide +kernel), true, rfl, iteF ?_⟩
        refine ⟨_, rfl, a, _, 1, _, rfl, rfl, SqT.of e, rfl, b, _, rfl, .inr (SqT.of hb), _, _, rfl, rfl, _, rfl, ite2 (fun z => absurd (of_decide_eq_true z) (by omega)) (fun _ => ?_)⟩
        unfold wdB at kQ
        have fin : (decide (m ≠ 1) || decide (ls = [])) = true → ∀ H1, Ex H H1 → Q (.bl (ls.all (okL m))) H1 := fun q H1 e1 => by
          have := kQ H1 e1
          rw [q, Bool.true_and] at this
          exact this
        refine ⟨_, rfl, rfl, _, rfl, ite2 (fun z => ?_) (fun z => ?_)⟩
        · have z : (m : Int) = 1 := V.int.inj (of_decide_eq_true z)
          have z : m = 1 := by omega
          refine ⟨_, rfl, a, _, 1, _, rfl, rfl, SqT.of e, rfl, Nat.zero_le _, fun q hq => ?_⟩
          have e0 := Ex.new (o := .tup []) hq
          refine ne_nil hk (e0 _ _ hb) upd_same ⟨_, rfl, ?_⟩
          by_cases hn : ls = []
          · rw [decide_eq_true hn]
            refine iteF ?_
            have fin := fin (by rw [decide_eq_true hn, Bool.or_true])
            refine ⟨_, rfl, a, _, 1, _, rfl, rfl, SqT.of (e0 _ _ e), rfl, b, rfl, ⟨_, SqT.of (e0 _ _ hb)⟩, fun Dl hD => ?_⟩
            refine lc_tup (K := K) (a := b) (xs := ls) (fun j H' => H' Dl = some (.lst ((badL m (ls.take j)).map V.int)) ∧ Ex (upd H q (.tup [])) H') ⟨upd_same, Ex.new hD⟩ (fun j H' _ hp => SqT.of (hp.2 _ _ (e0 _ _ hb))) (fun j y H' hy hp => ?_) (fun H5 hp => ?_)
            · have hj := (List.getElem?_eq_some_iff.mp hy).1
              have st : badL m (ls.take (j + 1)) = badL m (ls.take j) ++ (if okL m y then [] else [1]) := by rw [List.take_add_one, hy]; exact badL_snoc m _ y
              have bl := badL_len m (ls.take j)
              rw [List.length_take] at bl
              rw [st]
              refine ⟨rfl, ?_⟩
              have add : okL m y = false → ∃ acc, H' Dl = some (.lst acc) ∧ acc.length < sizeLine ∧ (upd H' Dl (.lst (acc ++ [V.int 1]))) Dl = some (.lst ((badL m (ls.take j) ++ (if okL m y = true then [] else [1])).map V.int)) ∧ Ex (upd H q (.tup [])) (upd H' Dl (.lst (acc ++ [V.int 1]))) := fun z => by
                refine ⟨_, hp.1, by rw [List.length_map]; exact small1000 (by omega), ?_, Ex.mut hp.2 hD⟩
                rw [upd_same, z, List.map_append]
                rfl
              rcases hk y (List.mem_of_getElem? hy) with ⟨k, rfl, _⟩ | ⟨k, rfl⟩
              · refine ⟨_, rfl, .int k, .ty "bool", .type "int", .type "bool", false, rfl, .ty _, .base (.int k), kit_ty (by decide +kernel), false, rfl, iteF ?_⟩
                refine ⟨_, rfl, .int k, .ty "int", .type "int", .type "int", true, rfl, .ty _, .base (.int k), kit_ty (by decide +kernel), true, rfl, iteF ?_⟩
                refine ⟨_, rfl, _, _, rfl, rfl, _, rfl, ite2 (fun c1 => ?_) (fun c1 => ?_)⟩
                · refine ⟨_, rfl, _, _, rfl, rfl, _, rfl, ?_⟩
                  have o : okL m (.int k) = decide (k < (m : Int)) := by
                    show (decide (0 ≤ k) && decide (k < (m : Int))) = _
                    rw [c1, Bool.true_and]
                  cases c2 : decide (k < (m : Int)) with
                  | true => 
                  show H' Dl = some (.lst ((badL m (ls.take j) ++ (if okL m (.int k) = true then [] else [1])).map V.int)) ∧ Ex _ H'
                  rw [o, c2, if_pos rfl, List.append_nil]
                  exact hp
                  | false => exact add (by rw [o, c2])
                · have o : okL m (.int k) = false := by
                    show (decide (0 ≤ k) && decide (k < (m : Int))) = _
                    rw [Bool.eq_false_iff.mpr c1, Bool.false_and]
                  exact ⟨_, rfl, add o⟩
              · refine ⟨_, rfl, .bl k, .ty "bool", .type "bool", .type "bool", true, rfl, .ty _, .base (.bl k), kit_ty (by decide +kernel), true, rfl, iteT ?_⟩
                exact add rfl
            · obtain ⟨w1, w2⟩ := hp
              rw [List.take_length] at w1
              refine ⟨Nat.zero_le _, fun q2 hq2 => ?_⟩
              have xq := Ex.new (o := .lst []) hq2
              refine CI.eqL (l' := []) (xq _ _ w1) upd_same ?_
              rw [badL_nil]
              exact fin _ ((e0.trans w2).trans xq)
          · rw [decide_eq_false hn]
            refine iteT ?_
            have := kQ _ e0
            rw [decide_eq_false hn, decide_eq_false (show ¬ m ≠ 1 from fun y => y z)] at this
            exact this
        · have fin := fin (by rw [decide_eq_true (show m ≠ 1 from fun y => z (by rw [y]; rfl))]; rfl)
          have e0 := Ex.refl H
          refine ⟨_, rfl, a, _, 1, _, rfl, rfl, SqT.of (e0 _ _ e), rfl, b, rfl, ⟨_, SqT.of (e0 _ _ hb)⟩, fun Dl hD => ?_⟩
          refine lc_tup (K := K) (a := b) (xs := ls) (fun j H' => H' Dl = some (.lst ((badL m (ls.take j)).map V.int)) ∧ Ex H H') ⟨upd_same, Ex.new hD⟩ (fun j H' _ hp => SqT.of (hp.2 _ _ (e0 _ _ hb))) (fun j y H' hy hp => ?_) (fun H5 hp => ?_)
          · have hj := (List.getElem?_eq_some_iff.mp hy).1
            have st : badL m (ls.take (j + 1)) = badL m (ls.take j) ++ (if okL m y then [] else [1]) := by rw [List.take_add_one, hy]; exact badL_snoc m _ y
            have bl := badL_len m (ls.take j)
            rw [List.length_take] at bl
            rw [st]
            refine ⟨rfl, ?_⟩
            have add : okL m y = false → ∃ acc, H' Dl = some (.lst acc) ∧ acc.length < sizeLine ∧ (upd H' Dl (.lst (acc ++ [V.int 1]))) Dl = some (.lst ((badL m (ls.take j) ++ (if okL m y = true then [] else [1])).map V.int)) ∧ Ex H (upd H' Dl (.lst (acc ++ [V.int 1]))) := fun z => by
              refine ⟨_, hp.1, by rw [List.length_map]; exact small1000 (by omega), ?_, Ex.mut hp.2 hD⟩
              rw [upd_same, z, List.map_append]
              rfl
            rcases hk y (List.mem_of_getElem? hy) with ⟨k, rfl, _⟩ | ⟨k, rfl⟩
            · refine ⟨_, rfl, .int k, .ty "bool", .type "int", .type "bool", false, rfl, .ty _, .base (.int k), kit_ty (by decide +kernel), false, rfl, iteF ?_⟩
              refine ⟨_, rfl, .int k, .ty "int", .type "int", .type "int", true, rfl, .ty _, .base (.int k), kit_ty (by decide +kernel), true, rfl, iteF ?_⟩
              refine ⟨_, rfl, _, _, rfl, rfl, _, rfl, ite2 (fun c1 => ?_) (fun c1 => ?_)⟩
              · refine ⟨_, rfl, _, _, rfl, rfl, _, rfl, ?_⟩
                have o : okL m (.int k) = decide (k < (m : Int)) := by
                  show (decide (0 ≤ k) && decide (k < (m : Int))) = _
                  rw [c1, Bool.true_and]
                cases c2 : decide (k < (m : Int)) with
                | true => 
                  show H' Dl = some (.lst ((badL m (ls.take j) ++ (if okL m (.int k) = true then [] else [1])).map V.int)) ∧ Ex _ H'
                  rw [o, c2, if_pos rfl, List.append_nil]
                  exact hp
                | false => exact add (by rw [o, c2])
              · have o : okL m (.int k) = false := by
                  show (decide (0 ≤ k) && decide (k < (m : Int))) = _
                  rw [Bool.eq_false_iff.mpr c1, Bool.false_and]
                exact ⟨_, rfl, add o⟩
            · refine ⟨_, rfl, .bl k, .ty "bool", .type "bool", .type "bool", true, rfl, .ty _, .base (.bl k), kit_ty (by decide +kernel), true, rfl, iteT ?_⟩
              exact add rfl
          · obtain ⟨w1, w2⟩ := hp
            rw [List.take_length] at w1
            refine ⟨Nat.zero_le _, fun q hq => ?_⟩
            have xq := Ex.new (o := .lst []) hq
            refine CI.eqL (l' := []) (xq _ _ w1) upd_same ?_
            rw [badL_nil]
            exact fin _ ((e0.trans w2).trans xq)
      · refine ⟨_, rfl, a, _, 0, _, rfl, rfl, SqT.of e, rfl, .bl bb, .ty "bool", .type "bool", .type "bool", true, rfl, .ty _, .base (.bl bb), kit_ty (by decide +kernel), true, rfl, iteT (kQ _ (Ex.refl _))⟩
end
end K1

/-! own rules: t[::-1] of a tuple -/
namespace RV
open PySem PySem.Spec PyProof.Rows HT
section
variable {prog : Program} {w : World} {A : Around} {E : Value → Shared → Prop} {s : Shared}
theorem adjust_rev (n : Nat) : Builtin.Slice.sliceAdjust none none (-1) (n : Int) = ((n : Int) - 1, -1) := rfl
theorem places_rev (n : Nat) : Builtin.Slice.slicePlaces ((n : Int) - 1) (-1) (-1) = n := by
  unfold Builtin.Slice.slicePlaces
  have h1 : ¬ (-1 : Int) > 0 := by omega
  simp only [h1, if_false]
  split
  · rw [show (- -1 : Int) = 1 by decide, Int.ediv_one]
    omega
  · omega
theorem pick_rev (xs : Array Value) : ((List.range xs.size).filterMap fun (m : Nat) => xs[(((xs.size : Int) - 1) + (m : Int) * (-1)).toNat]?).toArray = xs.toList.reverse.toArray := by
  have e : (List.range xs.size).filterMap (fun (m : Nat) => xs[(((xs.size : Int) - 1) + (m : Int) * (-1)).toNat]?) = ((List.range xs.size).map fun k => xs.size - 1 - k).filterMap (xs[·]?) := by
    rw [List.filterMap_map]
    congr 1
    funext m
    show xs[(((xs.size : Int) - 1) + (m : Int) * (-1)).toNat]? = xs[xs.size - 1 - m]?
    rw [show (((xs.size : Int) - 1) + (m : Int) * (-1)).toNat = xs.size - 1 - m by omega]
  rw [e, PySem.W.krv_range, List.filterMap_reverse, PySem.W.krv_all]
theorem sliceApplied_rev {sl : Addr} {vl vu vs : Value} {n : Nat} {Q : Int × Int × Nat → Shared → Prop} (hs : s.heap.IsSliceOf sl vl vu vs) (pl : IsPart vl none) (pu : IsPart vu none) (ps : IsPart vs (some (-1)))
    (h : Q ((n : Int) - 1, -1, n) s) : wpAny (model prog w) A (Builtin.Slice.sliceApplied (.ref sl) (pure (n : Int))) Q E s := by
  obtain ⟨os, hos, hcs, hds⟩ := id hs
  unfold Builtin.Slice.sliceApplied Builtin.Slice.sliceFields
  refine wpAny_bind (wpAny_bind (wpAny_field hos hds (x := vl) rfl (wpAny_bind (wpAny_field hos hds (x := vu) rfl (wpAny_bind (wpAny_field hos hds (x := vs) rfl (wpAny_pure ?_)))))))
  refine wpAny_bind (slicePart_ ps ?_)
  show wpAny _ _ (if ((-1 : Int) == 0) = true then _ else _) _ _ s
  rw [if_neg (by decide)]
  refine wpAny_bind (slicePart_ pl (wpAny_bind (slicePart_ pu (wpAny_bind (wpAny_pure ?_)))))
  show wpAny _ _ (match Builtin.Slice.sliceAdjust none none (-1) (n : Int) with | (lo, hi) => pure (lo, (-1 : Int), Builtin.Slice.slicePlaces lo hi (-1))) _ _ s
  rw [adjust_rev]
  show wpAny _ _ (pure ((n : Int) - 1, (-1 : Int), Builtin.Slice.slicePlaces ((n : Int) - 1) (-1) (-1))) _ _ s
  rw [places_rev]
  exact wpAny_pure h
theorem getItem_tuple_rev {t sl : Addr} {items : Array Value} {vl vu vs : Value} {Q : Value → Shared → Prop} (ht : IsTup s.heap t items) (hs : s.heap.IsSliceOf sl vl vu vs) (pl : IsPart vl none) (pu : IsPart vu none) (ps : IsPart vs (some (-1)))
    (h : Q (.ref s.heap.objs.size) { s with heap := s.heap.push { cls := .type "tuple", data := .seq items.toList.reverse.toArray } })
    (hsz : items.size ≤ sizeLine) : wpAny (model prog w) A (getItem (.ref t) (.ref sl)) Q E s := by
  have htake : sizeOk (.seq items.toList.reverse.toArray) := by
    show items.toList.reverse.toArray.size ≤ sizeLine
    rw [List.size_toArray, List.length_reverse, Array.length_toList]
    exact hsz
  obtain ⟨os, hos, hcs, hds⟩ := id hs
  have hTs : s.TypeIs (.ref sl) "slice" := ⟨os, hos, hcs⟩
  unfold getItem
  try with_reducible refine wpAny_holding ?_
  first | refine wpAny_bind (wpAny_pure ?_) | skip
  refine wpAny_bind (wpAny_sequenceKey ht.typeIs (by decide) ?_)
  refine wpAny_bind (wpAny_callSpecial?_slot (name := Str.ofString "__getitem__") ht.typeIs PyProof.Rows.slot_tuple_getitem
    (wpAny_call_entry PyProof.Rows.slot_tuple_getitem ht.typeIs entry_tuple_getitem ?_ (args_tuple_getitem _ _)))
  show wpAny _ _ (Builtin.Tuple.tupleItemsOf (.ref t) >>= _) _ _ s
  refine wpAny_bind (tupleItemsOf_ ht ?_)
  refine wpAny_bind (wpAny_typeOf hTs ?_)
  rw [if_pos (by decide)]
  refine wpAny_bind (sliceApplied_rev hs pl pu ps ?_)
  have hno : ¬ ((((items.size : Int) - 1) == 0 && (-1 : Int) == 1 && items.size == items.size) = true) := by
    intro q
    rw [Bool.and_eq_true, Bool.and_eq_true] at q
    exact absurd q.1.2 (by decide)
  show wpAny _ _ (if (((items.size : Int) - 1) == 0 && (-1 : Int) == 1 && items.size == items.size) = true then _ else _) _ _ s
  rw [if_neg hno, pick_rev]
  first
    | exact wpAny_bind (m := Builtin.Tuple.tupleExact _) (wpAny_newObj_type (wpAny_pure ⟨_, rfl, wpAny_pure h⟩) htake)
    | exact wpAny_bind (m := Builtin.Tuple.tupleExact _) (wpAny_newObj_type (wpAny_bind (wpAny_pure (wpAny_pure ⟨_, rfl, wpAny_pure h⟩))) htake)
    | exact wpAny_bind (wpAny_bind (m := Builtin.Tuple.tupleExact _) (wpAny_newObj_type (wpAny_pure (wpAny_pure ⟨_, rfl, wpAny_pure h⟩)) htake))
    | exact wpAny_bind (wpAny_bind (m := Builtin.Tuple.tupleExact _) (wpAny_newObj_type (wpAny_pure ⟨_, rfl, wpAny_pure h⟩) htake))
end
end RV
namespace L2
open PySem PySem.Spec PyProof.Rows
section
variable {X : Cx}
def tRevT (K : PySem.W.Frag) (te : TE) : TE := fun σ H Q => te σ H fun x H1 => ∃ a xs, x = .ref a ∧ SqT K H1 a xs ∧ ∀ p, H1 p = none → Q (.ref p) (upd H1 p (.tup xs.reverse))
theorem pe_revT {e : Expr} {te : TE} {k : Nat} {p1 p2 p3 pos : Pos} (he : PE X e te) : PE X (.Subscript e (.Slice none none (some (.UnaryOp .USub (.Constant (.int 1) k p1) p2)) p3) pos) (tRevT X.K te) := by
  refine ⟨fun pins s σ H Q I h => ?_⟩
  refine Subscript_ (thn (he.run pins s σ H _ I h) fun v s1 ⟨x, H1, I1, r1, q1⟩ => ?_)
  obtain ⟨a, xs, ex, hx, q⟩ := q1
  subst ex
  cases r1
  have hst : PO X (some (.UnaryOp .USub (.Constant (.int 1) k p1) p2)) (tPart (tUn (rU fun i => .int (-i)) (tC (.int 1)))) := po_some (pe_un un_neg pe_int)
  refine wpAny_Slice (thn (po_none.run pins s1 σ H1 (fun o H2 => o = none ∧ H2 = H1) I1 ⟨rfl, rfl⟩) fun vl s2 ⟨l, H2, I2, pl, el, e2⟩ => ?_)
  subst el e2
  refine thn (po_none.run pins s2 σ H2 (fun o H3 => o = none ∧ H3 = H2) I2 ⟨rfl, rfl⟩) fun vu s3 ⟨u, H3, I3, pu, eu, e3⟩ => ?_
  subst eu e3
  refine thn (hst.run pins s3 σ H3 (fun o H4 => o = some (-1) ∧ H4 = H3) I3 ⟨1, rfl, -1, rfl, rfl, rfl⟩) fun vs s4 ⟨o, H4, I4, ps, eo, e4⟩ => ?_
  subst eo e4
  have I5 : Inv X pins σ H4 { s4 with heap := s4.heap.push { cls := .type "slice", data := .fields #[vl, vu, vs] } } := I4.kept (t' := s4.toks) fun b ob q => Heap.get?_push_of_some _ q
  obtain ⟨its, r, ht, hz⟩ := I5.tuple hx
  have hlen := r.length
  show wpAny (model X.prog X.w) X.A (subscriptTail e (.Slice none none (some (.UnaryOp .USub (.Constant (.int 1) k p1) p2)) p3) (.ref a) (.ref s4.heap.objs.size)) (EP X pins σ Q) X.xe { s4 with heap := s4.heap.push { cls := .type "slice", data := .fields #[vl, vu, vs] } }
  refine tail_any (ops := [.ref a, .ref s4.heap.objs.size]) ht.typeIs PyProof.Rows.slot_tuple_getitem.lookup ?_ (by with_unfolding_all rfl)
  refine RV.getItem_tuple_rev ht (Heap.IsSliceOf.new _ vl vu vs) pl pu ps ?_ (by rw [List.size_toArray]; omega)
  refine ⟨.ref _, _, I5.laid (t' := s4.toks) (o := .tup xs.reverse) (fun b ob q => Heap.get?_push_of_some _ q) (Nat.le_refl _) ?_, rfl, q _ (I5.hok.fresh (Nat.le_refl _))⟩
  exact ⟨by rw [List.length_reverse]; exact hz, _, r.reverse, IsTup.new _ _⟩
end
end L2

set_option exponentiation.threshold 400
namespace K1
open PySem PySem.Spec PyProof.Rows L2 Evl HM LX ZW TE RV
/-- a word, or no word -/
def It (K : PySem.W.Frag) (H : Hp) (m : Nat) (v : V) : Prop := WV K H m v false ∨ ∃ a t ws, v = .ref a ∧ WdAt H a m t ws
def Its (K : PySem.W.Frag) (H : Hp) (m : Nat) (vs : List V) : Prop := ∀ v ∈ vs, It K H m v
theorem It.ex {K : PySem.W.Frag} {H H' : Hp} {m : Nat} {v : V} (h : It K H m v) (e : Ex H H') : It K H' m v := by
  rcases h with h | ⟨a, t, ws, rfl, h⟩
  · exact .inl (h.ec (EC.of (C := 0) e))
  · exact .inr ⟨a, t, ws, rfl, h.ex e⟩
theorem Its.ex {K : PySem.W.Frag} {H H' : Hp} {m : Nat} {vs : List V} (h : Its K H m vs) (e : Ex H H') : Its K H' m vs := fun v hv => (h v hv).ex e
theorem Its.add {K : PySem.W.Frag} {H : Hp} {m : Nat} {vs : List V} {v : V} (h : Its K H m vs) (i : It K H m v) : Its K H m (vs ++ [v]) := fun u hu => by
  rcases List.mem_append.mp hu with z | z
  · exact h u z
  · rw [List.mem_singleton.mp z]
    exact i
theorem WdAt.kd {H H' : Hp} {d a : Addr} {m : Nat} {t : Int} {ws : List Nat} (hd : Dice H d) (k : Keep d H H') (h : WdAt H a m t ws) : WdAt H' a m t ws := by
  obtain ⟨b, h1, h2⟩ := h.tup
  exact ⟨⟨b, k.tup hd h1, k.tup hd h2⟩, h.m1, h.m60, h.t0, h.t1, h.len, h.two, h.lt⟩
theorem NotTup.kd {K : PySem.W.Frag} {H H' : Hp} {d : Addr} {x : V} (hd : Dice H d) (hd' : Dice H' d) (k : Keep d H H') (h : NotTup K H x) : NotTup K H' x := by
  obtain ⟨_, _, _, e1⟩ := hd
  obtain ⟨_, _, _, e2⟩ := hd'
  cases h with
  | bl b => exact .bl b
  | non => exact .non
  | int i => exact .int i
  | str x => exact .str x
  | @lst a xs q =>
    by_cases z : a = d
    · subst z
      exact .lst e2
    · exact .lst (k _ _ z q)
  | @dK a xs q =>
    by_cases z : a = d
    · subst z
      rw [e1] at q
      cases q
    · exact .dK (k _ _ z q)
theorem It.kd {K : PySem.W.Frag} {H H' : Hp} {d : Addr} {m : Nat} {v : V} (hd : Dice H d) (hd' : Dice H' d) (k : Keep d H H') (h : It K H m v) : It K H' m v := by
  rcases h with h | ⟨a, t, ws, rfl, h⟩
  · refine .inl ?_
    generalize hb : false = b at h
    cases h with
    | no h => exact hb ▸ .no (h.kd hd hd' k)
    | len q h => exact hb ▸ .len (k.tup hd q) h
    | snd q hx hy => exact hb ▸ .snd (k.tup hd q) hx (hy.kd hd hd' k)
    | wd q hx hb' hl hk =>
      exact .wd (k.tup hd q) hx (k.tup hd hb') hl hk
  · exact .inr ⟨a, t, ws, rfl, h.kd hd k⟩
theorem It.of {K : PySem.W.Frag} {H : Hp} {m : Nat} (m1 : 1 ≤ m) (m60 : m ≤ 60) {a b : Addr} {x : V} {ls : List V} (e : H a = some (.tup [x, .ref b])) (hx : KI x) (hb : H b = some (.tup ls)) (hl : ls.length ≤ 500) (hk : ∀ y ∈ ls, KI y) : It K H m (.ref a) := by
  rcases wd_or m1 m60 e hx hb hl hk with h | ⟨t, ws, h⟩
  · exact .inl h
  · exact .inr ⟨a, t, ws, rfl, h⟩
theorem ki_int {i : Int} (a : -(10 ^ 50) ≤ i) (b : i ≤ 10 ^ 50) : KI (.int i) := .inl ⟨i, rfl, a, b⟩
def Okl (n : Nat) (ls : List V) : Prop := ls.length ≤ n ∧ ∀ y ∈ ls, KI y
theorem Okl.cut {n : Nat} {ls : List V} (h : Okl n ls) (lo hi : Option Int) : Okl n (cutV ls lo hi) := by
  unfold cutV
  refine ⟨?_, fun y hy => h.2 y (List.mem_of_mem_drop (List.mem_of_mem_take hy))⟩
  have := h.1
  rw [List.length_take, List.length_drop]
  omega
theorem Okl.cat {a b : Nat} {l r : List V} (h : Okl a l) (g : Okl b r) : Okl (a + b) (l ++ r) := by
  refine ⟨?_, fun y hy => ?_⟩
  · have := h.1
    have := g.1
    rw [List.length_append]
    omega
  · rcases List.mem_append.mp hy with z | z
    · exact h.2 y z
    · exact g.2 y z
theorem It.ok {K : PySem.W.Frag} {H : Hp} {m : Nat} (m1 : 1 ≤ m) (m60 : m ≤ 60) {a b : Addr} {x : V} {ls : List V} {n : Nat} (e : H a = some (.tup [x, .ref b])) (hx : KI x) (hb : H b = some (.tup ls)) (h : Okl n ls) (hn : n ≤ 500) : It K H m (.ref a) := It.of m1 m60 e hx hb (Nat.le_trans h.1 hn) h.2
theorem Okl.rev {n : Nat} {ls : List V} (h : Okl n ls) : Okl n ls.reverse := ⟨by rw [List.length_reverse]; exact h.1, fun y hy => h.2 y (List.mem_reverse.mp hy)⟩
theorem It.letters {K : PySem.W.Frag} {H : Hp} {m n : Nat} {b : Addr} {ls : List V} (e : H b = some (.tup ls)) (h : Okl n ls) : It K H m (.ref b) := by
  by_cases z : ls.length = 2
  · match ls, z with
    | [x, y], _ =>
      refine .inl (.snd e (h.2 x (by simp)) ?_)
      rcases h.2 y (by simp) with ⟨i, rfl, _⟩ | ⟨b, rfl⟩
      · exact .int i
      · exact .bl b
  · exact .inl (.len e z)
theorem cat_line {a b : Nat} {l r : List V} (h : Okl a l) (g : Okl b r) (e : a + b ≤ 1000) : l.length + r.length ≤ sizeLine := by
  have := h.1
  have := g.1
  have := sizeLine_eq
  omega
section
variable {P : Program} {w : World} {K : PySem.W.Frag} {mg : Str → Option Value} {base : Heap} {C : Addr}
def spLSpoilt (K : PySem.W.Frag) : Sp := fun vs H Q _ => ∃ (d a : Addr) (m : Nat) (t : Int) (ws : List Nat), vs = [.ref d, .int (m : Int), .ref a] ∧ Dice H d ∧ WdAt H a m t ws ∧ ws.length ≤ 200 ∧ -(10 ^ 40) ≤ t ∧ t ≤ 10 ^ 40 ∧ ∀ v H', It K H' m v → Dice H' d → Keep d H H' → Q v H'
theorem ok_lspoilt (T : Txt K mg) {f : Addr} {fd : FuncData} (D : DefAt K mg "_law_spoilt" sLSpoilt ["_law_dice_here", "_law_m", "_law_word"] f fd) : FnOk P w K mg base CX0 3 f fd ["_law_dice_here", "_law_m", "_law_word"] (spLSpoilt K) := by
  refine D.F.ok scLSpoilt (fun vs H Q E h => ?_) (fun cdv A outer s₀ H vs Q E hr h => ?_)
  · obtain ⟨d, a, m, t, ws, rfl, _⟩ := h
    rfl
  · obtain ⟨d, a, m, t, ws, rfl, hd, hw, wl, t0, t1, kQ⟩ := h
    obtain ⟨f1, fd1, D1⟩ := T.d_l_one_of
    obtain ⟨f2, fd2, D2⟩ := T.d_l_roll
    have hr1 : Room 1 _ := hr.mono (by decide)
    have hr2 : Room 2 _ := hr.mono (by decide)
    refine ⟨_, pss_cons (ps_asg (pv 2) (pg_tup (by rfl) (pgs_cons (pg_name (i := 3) scLSpoilt.nd rfl (.inl rfl)) (pgs_cons (pg_name (i := 4) scLSpoilt.nd rfl (.inl rfl)) pgs_nil))))
      (pss_cons (ps_par (i := 5) (j := 6) (by rfl) scLSpoilt.nd rfl rfl (by decide) rfl rfl (pa_cons (pe_call (ok_roll T D2) hr1 (by rfl) D2.g D2.F.kp D2.b .nil pass0 (pa_cons (pv 0) (pa_cons (pe_op op_add (pe_callB call_len_seq (by rfl) T.z_len PySem.boot_len (pa_cons (pv 4) pa_nil)) pe_int) pa_nil))) (pa_cons (pe_call (ok_roll T D2) hr1 (by rfl) D2.g D2.F.kp D2.b .nil pass0 (pa_cons (pv 0) (pa_cons (pv 1) pa_nil))) pa_nil)) (by rfl))
      (pss_cons (ps_set (i := 7) scLSpoilt.nd rfl (.inl rfl) (pe_lst (pa_cons (pe_tup (pa_cons (pv 3) (pa_cons (pe_op op_catE (pe_slice sl_tupE (pv 4) po_none (po_some (pv 5))) (pe_slice sl_tupE (pv 4) (po_some (pe_op op_add (pv 5) pe_int)) po_none)) pa_nil))) (pa_cons (pe_tup (pa_cons (pv 3) (pa_cons (pe_op op_catE (pe_op op_catE (pe_slice sl_tupE (pv 4) po_none (po_some (pv 5))) (pe_tup (pa_cons (pv 6) pa_nil))) (pe_slice sl_tupE (pv 4) (po_some (pv 5)) po_none)) pa_nil))) (pa_cons (pe_tup (pa_cons (pe_op op_add (pv 3) pe_int) (pa_cons (pv 4) pa_nil))) pa_nil)))))
      (pss_cons (ps_set (i := 7) scLSpoilt.nd rfl (.inl rfl) (pe_op op_cat (pv 7) (pe_lst (pa_cons (pe_tup (pa_cons (pv 3) (pa_cons (pe_op op_catE (pe_op op_catE (pe_slice sl_tupE (pv 4) po_none (po_some (pv 5))) (pe_tup (pa_cons (pv 6) (pa_cons (pv 6) pa_nil)))) (pe_slice sl_tupE (pv 4) (po_some (pv 5)) po_none)) pa_nil))) (pa_cons (pe_tup (pa_cons (pv 3) (pa_cons (pe_revT (pv 4)) pa_nil))) (pa_cons (pe_tup (pa_cons (pv 3) (pa_cons (pe_op op_catE (pv 4) (pe_tup (pa_cons (pv 1) pa_nil))) pa_nil))) (pa_cons (pe_lst (pa_cons (pv 3) (pa_cons (pv 4) pa_nil))) pa_nil)))))))
      (pss_cons (ps_set (i := 7) scLSpoilt.nd rfl (.inl rfl) (pe_op op_cat (pv 7) (pe_lst (pa_cons pe_non (pa_cons pe_int (pa_cons (pv 4) (pa_cons (pe_tup (pa_cons (pv 3) pa_nil)) (pa_cons (pe_tup (pa_cons (pv 3) (pa_cons (pv 4) (pa_cons pe_int pa_nil)))) (pa_cons (pe_tup (pa_cons pe_bl (pa_cons (pv 4) pa_nil))) (pa_cons (pe_tup (pa_cons (pv 3) (pa_cons (pe_op op_catE (pv 4) (pe_tup (pa_cons pe_bl pa_nil))) pa_nil))) (pa_cons (pe_tup (pa_cons (pv 3) (pa_cons (pe_callTy call_list_of (by rfl) T.z_list (by decide +kernel) (pa_cons (pv 4) pa_nil)) pa_nil))) pa_nil)))))))))))
      (pss_one (ps_ret (pe_call (ok_one_of T D1) hr2 (by rfl) D1.g D1.F.kp D1.b .nil pass0 (pa_cons (pv 0) (pa_cons (pe_op op_cat (pv 7) (pe_lst (pa_cons pe_str pa_nil))) pa_nil))))))))), ?_⟩
    obtain ⟨b, ha, hb⟩ := hw.tup
    have m1 := hw.m1
    have m60 := hw.m60
    have ll : (natL ws).length = ws.length := by unfold natL; rw [List.length_map]
    have hk : ∀ y ∈ natL ws, KI y := fun y hy => by
      obtain ⟨c, hc, rfl⟩ := List.mem_map.mp hy
      have := hw.lt c hc
      exact ki_int (by omega) (by omega)
    refine ⟨_, rfl, a, _, rfl, SqT.of ha, rfl, _, [_], rfl, _, [], rfl, rfl, ?_⟩
    refine ⟨_, rfl, _, rfl, b, _, rfl, .inr (SqT.of hb), ?_⟩
    rw [ll]
    have wl : (natL ws).length ≤ 200 := by rw [ll]; exact wl
    generalize natL ws = ls at *
    refine ⟨_, _, rfl, rfl, d, _, rfl, hd, by omega, by omega, fun r1 H1 r10 r11 hd1 k1 => ?_⟩
    refine ⟨_, rfl, _, rfl, d, _, rfl, hd1, by omega, by omega, fun c H2 c0 c1 hd2 k2 => ?_⟩
    refine ⟨_, _, rfl, ?_⟩
    have e2 := k1.trans k2
    have hb2 : H2 b = some (.tup ls) := e2.tup hd hb
    have okl : Okl 200 ls := ⟨wl, hk⟩
    have kc : KI (.int c) := ki_int (by omega) (by omega)
    have km : KI (.int (m : Int)) := ki_int (by omega) (by omega)
    have kt : KI (.int t) := ki_int (by omega) (by omega)
    have kt1 : KI (.int (t + 1)) := ki_int (by omega) (by omega)
    have oc : Okl 1 [.int c] := ⟨Nat.le_refl _, fun y hy => by rw [List.mem_singleton.mp hy]; exact kc⟩
    have om : Okl 1 [.int (m : Int)] := ⟨Nat.le_refl _, fun y hy => by rw [List.mem_singleton.mp hy]; exact km⟩
    have ot : Okl 1 [.bl true] := ⟨Nat.le_refl _, fun y hy => by rw [List.mem_singleton.mp hy]; exact .inr ⟨_, rfl⟩⟩
    have occ : Okl 2 [.int c, .int c] := oc.cat oc
    have E0 : Ex H2 H2 := Ex.refl _
    have L0 : Its K H2 m [] := fun v hv => by cases hv
    -- 1
    refine ⟨_, rfl, _, rfl, _, rfl, _, rfl, b, _, rfl, E0 _ _ hb2, fun p1 G1 f1 h1 => ?_⟩
    have E2 := E0.trans f1
    refine ⟨_, rfl, _, rfl, _, _, rfl, rfl, _, rfl, b, _, rfl, E2 _ _ hb2, fun p3 G3 f3 h3 => ?_⟩
    have E4 := E2.trans f3
    refine ⟨p1, p3, _, _, rfl, rfl, (f3 _ _ h1), h3, cat_line (okl.cut _ _) (okl.cut _ _) (by decide), fun p5 G5 f5 h5 => ?_⟩
    have E6 := E4.trans f5
    refine ⟨by show 2 ≤ sizeLine; decide, fun u7 w7 => ?_⟩
    have x7 := Ex.new (o := .tup [.int t, .ref p5]) w7
    have E8 := E6.trans x7
    have L9 := (L0.ex (((f1.trans f3).trans f5).trans x7)).add (It.ok m1 m60 upd_same kt (x7 _ _ h5) ((okl.cut _ _).cat (okl.cut _ _)) (by decide))
    refine ⟨_, rfl, _, rfl, _, rfl, _, rfl, b, _, rfl, E8 _ _ hb2, fun p10 G10 f10 h10 => ?_⟩
    have E11 := E8.trans f10
    refine ⟨_, rfl, by show 1 ≤ sizeLine; decide, fun u12 w12 => ?_⟩
    have x12 := Ex.new (o := .tup [.int c]) w12
    have E13 := E11.trans x12
    refine ⟨p10, u12, _, _, rfl, rfl, (x12 _ _ h10), upd_same, cat_line (okl.cut _ _) oc (by decide), fun p14 G14 f14 h14 => ?_⟩
    have E15 := E13.trans f14
    refine ⟨_, rfl, _, rfl, _, rfl, b, _, rfl, E15 _ _ hb2, fun p16 G16 f16 h16 => ?_⟩
    have E17 := E15.trans f16
    refine ⟨p14, p16, _, _, rfl, rfl, (f16 _ _ h14), h16, cat_line ((okl.cut _ _).cat oc) (okl.cut _ _) (by decide), fun p18 G18 f18 h18 => ?_⟩
    have E19 := E17.trans f18
    refine ⟨by show 2 ≤ sizeLine; decide, fun u20 w20 => ?_⟩
    have x20 := Ex.new (o := .tup [.int t, .ref p18]) w20
    have E21 := E19.trans x20
    have L22 := (L9.ex (((((f10.trans x12).trans f14).trans f16).trans f18).trans x20)).add (It.ok m1 m60 upd_same kt (x20 _ _ h18) (((okl.cut _ _).cat oc).cat (okl.cut _ _)) (by decide))
    refine ⟨_, rfl, _, _, rfl, rfl, _, rfl, by show 2 ≤ sizeLine; decide, fun u23 w23 => ?_⟩
    have x23 := Ex.new (o := .tup [.int (t + 1), .ref b]) w23
    have E24 := E21.trans x23
    have L25 := (L22.ex x23).add (It.ok m1 m60 upd_same kt1 (E24 _ _ hb2) okl (by decide))
    refine ⟨by show 3 ≤ sizeLine; decide, fun l26 nl26 => ?_⟩
    have y26 := Ex.new (o := .lst [.ref u7, .ref u20, .ref u23]) nl26
    have E27 := E24.trans y26
    have L28 := L25.ex y26
    refine ⟨_, rfl, ?_⟩
    refine ⟨_, rfl, _, rfl, _, rfl, _, rfl, b, _, rfl, E27 _ _ hb2, fun p29 G29 f29 h29 => ?_⟩
    have E30 := E27.trans f29
    refine ⟨_, rfl, _, rfl, by show 2 ≤ sizeLine; decide, fun u31 w31 => ?_⟩
    have x31 := Ex.new (o := .tup [.int c, .int c]) w31
    have E32 := E30.trans x31
    refine ⟨p29, u31, _, _, rfl, rfl, (x31 _ _ h29), upd_same, cat_line (okl.cut _ _) occ (by decide), fun p33 G33 f33 h33 => ?_⟩
    have E34 := E32.trans f33
    refine ⟨_, rfl, _, rfl, _, rfl, b, _, rfl, E34 _ _ hb2, fun p35 G35 f35 h35 => ?_⟩
    have E36 := E34.trans f35
    refine ⟨p33, p35, _, _, rfl, rfl, (f35 _ _ h33), h35, cat_line ((okl.cut _ _).cat occ) (okl.cut _ _) (by decide), fun p37 G37 f37 h37 => ?_⟩
    have E38 := E36.trans f37
    refine ⟨by show 2 ≤ sizeLine; decide, fun u39 w39 => ?_⟩
    have x39 := Ex.new (o := .tup [.int t, .ref p37]) w39
    have E40 := E38.trans x39
    have L41 := (L28.ex (((((f29.trans x31).trans f33).trans f35).trans f37).trans x39)).add (It.ok m1 m60 upd_same kt (x39 _ _ h37) (((okl.cut _ _).cat occ).cat (okl.cut _ _)) (by decide))
    refine ⟨_, rfl, _, rfl, b, _, rfl, SqT.of (E40 _ _ hb2), fun p42 w42 => ?_⟩
    have x42 := Ex.new (o := .tup ls.reverse) w42
    have E43 := E40.trans x42
    refine ⟨by show 2 ≤ sizeLine; decide, fun u44 w44 => ?_⟩
    have x44 := Ex.new (o := .tup [.int t, .ref p42]) w44
    have E45 := E43.trans x44
    have L46 := (L41.ex (x42.trans x44)).add (It.ok m1 m60 upd_same kt (x44 _ _ upd_same) okl.rev (by decide))
    refine ⟨_, rfl, _, rfl, _, rfl, by show 1 ≤ sizeLine; decide, fun u47 w47 => ?_⟩
    have x47 := Ex.new (o := .tup [.int (m : Int)]) w47
    have E48 := E45.trans x47
    refine ⟨b, u47, _, _, rfl, rfl, (E48 _ _ hb2), upd_same, cat_line okl om (by decide), fun p49 G49 f49 h49 => ?_⟩
    have E50 := E48.trans f49
    refine ⟨by show 2 ≤ sizeLine; decide, fun u51 w51 => ?_⟩
    have x51 := Ex.new (o := .tup [.int t, .ref p49]) w51
    have E52 := E50.trans x51
    have L53 := (L46.ex ((x47.trans f49).trans x51)).add (It.ok m1 m60 upd_same kt (x51 _ _ h49) (okl.cat om) (by decide))
    refine ⟨_, rfl, _, rfl, by show 2 ≤ sizeLine; decide, fun l54 nl54 => ?_⟩
    have y54 := Ex.new (o := .lst [.int t, .ref b]) nl54
    have E55 := E52.trans y54
    have L56 := (L53.ex y54).add (.inl (.no (.lst upd_same)))
    refine ⟨by show 4 ≤ sizeLine; decide, fun l57 nl57 => ?_⟩
    have y57 := Ex.new (o := .lst [.ref u39, .ref u44, .ref u51, .ref l54]) nl57
    have E58 := E55.trans y57
    have L59 := L56.ex y57
    have hA := (((((((((((((f29.trans x31).trans f33).trans f35).trans f37).trans x39).trans x42).trans x44).trans x47).trans f49).trans x51).trans y54).trans y57)) _ _ (upd_same (a := l26))
    refine ⟨l26, l57, _, _, rfl, rfl, hA, upd_same, by rw [sizeLine_eq]; exact Nat.le_of_ble_eq_true rfl, fun l60 nl60 => ?_⟩
    have y60 := Ex.new (o := .lst [.ref u7, .ref u20, .ref u23, .ref u39, .ref u44, .ref u51, .ref l54]) nl60
    have E61 := E58.trans y60
    have L62 := L59.ex y60
    refine ⟨_, rfl, ?_⟩
    have L63 := (L62.add (.inl (.no .non))).add (.inl (.no (.int 7)))
    have L64 := L63.add (It.letters (E61 _ _ hb2) okl)
    refine ⟨_, rfl, _, rfl, by show 1 ≤ sizeLine; decide, fun u65 w65 => ?_⟩
    have x65 := Ex.new (o := .tup [.int t]) w65
    have E66 := E61.trans x65
    have L67 := (L64.ex x65).add (.inl (.len upd_same (by simp)))
    refine ⟨_, rfl, _, rfl, by show 3 ≤ sizeLine; decide, fun u68 w68 => ?_⟩
    have x68 := Ex.new (o := .tup [.int t, .ref b, .int 0]) w68
    have E69 := E66.trans x68
    have L70 := (L67.ex x68).add (.inl (.len upd_same (by simp)))
    refine ⟨_, rfl, by show 2 ≤ sizeLine; decide, fun u71 w71 => ?_⟩
    have x71 := Ex.new (o := .tup [.bl true, .ref b]) w71
    have E72 := E69.trans x71
    have L73 := (L70.ex x71).add (It.ok m1 m60 upd_same (.inr ⟨_, rfl⟩) (E72 _ _ hb2) okl (by decide))
    refine ⟨_, rfl, _, rfl, by show 1 ≤ sizeLine; decide, fun u74 w74 => ?_⟩
    have x74 := Ex.new (o := .tup [.bl true]) w74
    have E75 := E72.trans x74
    refine ⟨b, u74, _, _, rfl, rfl, (E75 _ _ hb2), upd_same, cat_line okl ot (by decide), fun p76 G76 f76 h76 => ?_⟩
    have E77 := E75.trans f76
    refine ⟨by show 2 ≤ sizeLine; decide, fun u78 w78 => ?_⟩
    have x78 := Ex.new (o := .tup [.int t, .ref p76]) w78
    have E79 := E77.trans x78
    have L80 := (L73.ex ((x74.trans f76).trans x78)).add (It.ok m1 m60 upd_same kt (x78 _ _ h76) (okl.cat ot) (by decide))
    refine ⟨_, rfl, _, rfl, b, _, rfl, .inr (SqT.of (E79 _ _ hb2)), fun l81 nl81 => ?_⟩
    have y81 := Ex.new (o := .lst ls) nl81
    have E82 := E79.trans y81
    refine ⟨by show 2 ≤ sizeLine; decide, fun u83 w83 => ?_⟩
    have x83 := Ex.new (o := .tup [.int t, .ref l81]) w83
    have E84 := E82.trans x83
    have L85 := (L80.ex (y81.trans x83)).add (.inl (.snd upd_same kt (.lst (x83 _ _ upd_same))))
    refine ⟨by show 8 ≤ sizeLine; decide, fun l86 nl86 => ?_⟩
    have y86 := Ex.new (o := .lst [.non, .int 7, .ref b, .ref u65, .ref u68, .ref u71, .ref u78, .ref u83]) nl86
    have E87 := E84.trans y86
    have L88 := L85.ex y86
    have hB := (((((((((x65.trans x68).trans x71).trans x74).trans f76).trans x78).trans y81).trans x83).trans y86)) _ _ (upd_same (a := l60))
    refine ⟨l60, l86, _, _, rfl, rfl, hB, upd_same, by rw [sizeLine_eq]; exact Nat.le_of_ble_eq_true rfl, fun l89 nl89 => ?_⟩
    have y89 := Ex.new (o := .lst [.ref u7, .ref u20, .ref u23, .ref u39, .ref u44, .ref u51, .ref l54, .non, .int 7, .ref b, .ref u65, .ref u68, .ref u71, .ref u78, .ref u83]) nl89
    have E90 := E87.trans y89
    have L91 := L88.ex y89
    refine ⟨_, rfl, _, rfl, ?_⟩
    refine ⟨by show 1 ≤ sizeLine; decide, fun l92 nl92 => ?_⟩
    have y92 := Ex.new (o := .lst [.str (Str.ofString "word")]) nl92
    have E93 := E90.trans y92
    have L94 := L91.ex y92
    have L95 := L94.add (.inl (.no (.str (Str.ofString "word"))))
    refine ⟨l89, l92, _, _, rfl, rfl, (y92 _ _ upd_same), upd_same, by rw [sizeLine_eq]; exact Nat.le_of_ble_eq_true rfl, fun l96 nl96 => ?_⟩
    have y96 := Ex.new (o := .lst [.ref u7, .ref u20, .ref u23, .ref u39, .ref u44, .ref u51, .ref l54, .non, .int 7, .ref b, .ref u65, .ref u68, .ref u71, .ref u78, .ref u83, .str (Str.ofString "word")]) nl96
    have E97 := E93.trans y96
    have L98 := L95.ex y96
    have hdF := hd2.ex E97
    have kF := e2.trans (Keep.ex (d := d) E97)
    exact ⟨d, l96, _, rfl, hdF, upd_same, fun z => by rw [z] at nl96; obtain ⟨_, _, _, e1⟩ := hd2; have := E93 _ _ e1; exact absurd this (by rw [nl96]; intro q; cases q), Nat.le_of_ble_eq_true rfl, Nat.le_of_ble_eq_true rfl, fun v H9 hv hd9 k9 => kQ v _ (It.kd hdF hd9 k9 (L98 v hv)) hd9 (kF.trans k9)⟩
end
end K1

set_option exponentiation.threshold 400
namespace K1
open PySem PySem.Spec PyProof.Rows L2 Evl HM LX ZW TE RV
section
variable {P : Program} {w : World} {K : PySem.W.Frag} {mg : Str → Option Value} {base : Heap} {C : Addr}
theorem makeR {H : Hp} {p : Addr} {m : Nat} {f : Int → Int} {Q : Addr → Hp → Prop} {E : XK} (row : RowAt H p m f) (bd : ∀ i : Nat, i < m → -(10 ^ 60) < f (i : Int) ∧ f (i : Int) < 10 ^ 60) (qf : PermR m f) (k : ∀ x H', Ex H H' → RdC C H' x m f → Q x H') :
    ∀ x dx, H x = none → H dx = none → dx ≠ x → spRInit C (.ref x :: ([.ref p] ++ [])) (upd (upd H dx (.own x)) x (.ins C dx [])) (fun v H2 => v = .non ∧ Q x H2) E := fun x dx nx ndx nex => by
  have eX : Ex H (upd (upd H dx (.own x)) x (.ins C dx [])) := fun b o e => by
    rw [upd_ne (ne_of_none e nx), upd_ne (ne_of_none e ndx)]
    exact e
  refine ⟨x, dx, p, m, f, rfl, upd_same, ⟨eX _ _ row.1, row.2⟩, bd, qf, fun H3 kx hx3 => ⟨rfl, ?_⟩⟩
  have e23 : Ex H H3 := fun b o e => kx _ _ (ne_of_none e nx) (eX _ _ e)
  exact k x H3 e23 ⟨dx, p, _, hx3, .inl rfl, e23 _ _ row.1, row.2⟩
theorem RowAt.ex {H H' : Hp} {p : Addr} {m : Nat} {f : Int → Int} (h : RowAt H p m f) (e : Ex H H') : RowAt H' p m f := ⟨e _ _ h.1, h.2⟩
theorem RowAt.ec {H H' : Hp} {p : Addr} {m : Nat} {f : Int → Int} (h : RowAt H p m f) (e : EC C H H') : RowAt H' p m f := ⟨e.tup h.1, h.2⟩
theorem RowAt.kc {d : Addr} {H H' : Hp} {p : Addr} {m : Nat} {f : Int → Int} (hd : Dice H d) (h : RowAt H p m f) (e : KC C d H H') : RowAt H' p m f := ⟨e.tup hd h.1, h.2⟩
theorem WdAt.kc {C d a : Addr} {H H' : Hp} {m : Nat} {t : Int} {ws : List Nat} (hd : Dice H d) (h : WdAt H a m t ws) (k : KC C d H H') : WdAt H' a m t ws := by
  obtain ⟨b, h1, h2⟩ := h.tup
  exact ⟨⟨b, k.tup hd h1, k.tup hd h2⟩, h.m1, h.m60, h.t0, h.t1, h.len, h.two, h.lt⟩
def spRight (C : Addr) : Sp := fun vs H Q _ => ∃ (d : Addr), vs = [.ref d] ∧ Dice H d ∧ ∀ H', Dice H' d → KC C d H H' → Q (.bl true) H'
theorem ok_right (T : Txt K mg) (R : RTxt K mg C) {f : Addr} {fd : FuncData} (D : DefAt K mg "_law_right" sLRight ["_law_dice_here"] f fd) : FnOk P w K mg base CX0 8 f fd ["_law_dice_here"] (spRight C) := by
  refine D.F.ok scLRight (fun vs H Q E h => ?_) (fun cdv A outer s₀ H vs Q E hr h => ?_)
  · obtain ⟨d, rfl, _⟩ := h
    rfl
  · obtain ⟨d, rfl, hd, kQ⟩ := h
    obtain ⟨g0, gd0, M0, F0, b0⟩ := R.init
    obtain ⟨pT, gT, gdT, mT, FT, bT⟩ := R.told
    obtain ⟨f1, fd1, D1⟩ := T.d_is_word_of
    obtain ⟨f2, fd2, D2⟩ := T.d_l_plainly_made
    obtain ⟨f3, fd3, D3⟩ := T.d_l_falls
    obtain ⟨f4, fd4, D4⟩ := T.d_l_is_word
    obtain ⟨f5, fd5, D5⟩ := T.d_l_spoilt
    obtain ⟨f6, fd6, D6⟩ := T.d_l_greedily
    obtain ⟨f7, fd7, D7⟩ := T.d_word_of
    obtain ⟨f8, fd8, D8⟩ := T.d_l_roll
    obtain ⟨f9, fd9, D9⟩ := T.d_made_of
    obtain ⟨f10, fd10, D10⟩ := T.d_greedily_made
    obtain ⟨f11, fd11, D11⟩ := T.d_l_one_of
    have hr1 : Room 1 _ := hr.mono (by decide)
    have hr2 : Room 2 _ := hr.mono (by decide)
    have hr3 : Room 3 _ := hr.mono (by decide)
    have hr4 : Room 4 _ := hr.mono (by decide)
    have hr5 : Room 5 _ := hr.mono (by decide)
    have hr6 : Room 6 _ := hr.mono (by decide)
    have hr7 : Room 7 _ := hr.mono (by decide)
    refine ⟨_, pss_cons (ps_set (i := 1) scLRight.nd rfl (.inr rfl) (pe_call (ok_one_of T D11) hr2 (by rfl) D11.g D11.F.kp D11.b .nil pass0 (pa_cons (pv 0) (pa_cons (pe_lst (pa_cons pe_int (pa_cons pe_int (pa_cons pe_int (pa_cons pe_int (pa_cons pe_int (pa_cons pe_int (pa_cons pe_int (pa_cons pe_int (pa_cons pe_int pa_nil)))))))))) pa_nil))))
      (pss_cons (ps_set (i := 3) scLRight.nd rfl (.inl rfl) (pe_tup (pa_cons (pe_op op_sub (pe_call (ok_roll T D8) hr1 (by rfl) D8.g D8.F.kp D8.b .nil pass0 (pa_cons (pv 0) (pa_cons pe_int pa_nil))) pe_int) (pa_cons (pe_callTy call_tuple_of (by rfl) T.z_tuple (by decide +kernel) (pa_cons (pe_lc (own := [("_law_turn", 2)]) (g := gName 2) (tt := tYes) rfl scLRight.nd (pi_range1 (by rfl) T.z_range (pa_cons (pe_cut9 (pe_ifExp (pt_cmpR op_gt (pv 1) pe_int (nomark _)) (pe_call (ok_roll T D8) hr1 (by rfl) D8.g D8.F.kp D8.b .nil pass0 (pa_cons (pv 0) (pa_cons pe_int pa_nil))) pe_int)) pa_nil))
        (blkOk_by (N := nLRight) (sc := defScope sLRight) (by decide +kernel)) (fun _ _ _ _ _ => (pg_name (i := 2) scLRight.nd rfl (.inl rfl))) (fun _ _ _ _ _ => pts_nil)
        (fun _ _ _ _ _ => (pe_call (ok_roll T D8) hr1 (by rfl) D8.g D8.F.kp D8.b .nil pass0 (pa_cons (pv 0) (pa_cons (pv 1) pa_nil))))) pa_nil)) pa_nil))))
      (pss_cons (ps_asg (pe_tup (pa_cons (pe_call (ok_lplain T D2) hr3 (by rfl) D2.g D2.F.kp D2.b .nil pass0 (pa_cons (pv 1) (pa_cons (pv 3) pa_nil))) (pa_cons (pe_call (ok_lgreedily T D6) hr4 (by rfl) D6.g D6.F.kp D6.b .nil pass0 (pa_cons (pv 1) (pa_cons (pv 3) pa_nil))) pa_nil))) (pg_tup (by rfl) (pgs_cons (pg_name (i := 4) scLRight.nd rfl (.inl rfl)) (pgs_cons (pg_tup (by rfl) (pgs_cons (pg_name (i := 5) scLRight.nd rfl (.inl rfl)) (pgs_cons (pg_name (i := 6) scLRight.nd rfl (.inl rfl)) pgs_nil))) pgs_nil))))
      (pss_cons (ps_if (PW.pt (pw_or (pt_cmpR (op_neD hr.units) (pe_prop (pe_call (ok_made_of T R D9) hr6 (by rfl) D9.g D9.F.kp D9.b .nil pass0 (pa_cons (pv 1) (pa_cons (pv 3) pa_nil))) R.cl mT (ok_rtold R FT) hr2 bT .nil pass0 rfl) (pv 4) (nomark _))
          (pw_or1 (pt_cmpR (op_neD hr.units) (pe_prop (pe_call (ok_greedily_made T R D10) hr7 (by rfl) D10.g D10.F.kp D10.b .nil pass0 (pa_cons (pv 1) (pa_cons (pv 3) pa_nil))) R.cl mT (ok_rtold R FT) hr2 bT .nil pass0 rfl) (pv 5) (nomark _))))) (pss_one (ps_ret pe_bl)) pss_nil)
      (pss_cons (ps_if (PW.pt (pw_or (pt_cmpR (op_neD hr.units) (pe_prop (pe_call (ok_greedily_made T R D10) hr7 (by rfl) D10.g D10.F.kp D10.b .nil pass0 (pa_cons (pv 1) (pa_cons (pe_tup (pa_cons (pe_ix ix_tup (pv 3) pe_int (fun _ _ => rfl)) (pa_cons (pv 6) pa_nil))) pa_nil))) R.cl mT (ok_rtold R FT) hr2 bT .nil pass0 rfl) (pv 5) (nomark _))
          (pw_or1 (pt_cmpR (op_neD hr.units) (pe_prop (pe_call (ok_made_of T R D9) hr6 (by rfl) D9.g D9.F.kp D9.b .nil pass0 (pa_cons (pv 1) (pa_cons (pe_tup (pa_cons (pe_ix ix_tup (pv 3) pe_int (fun _ _ => rfl)) (pa_cons (pv 6) pa_nil))) pa_nil))) R.cl mT (ok_rtold R FT) hr2 bT .nil pass0 rfl) (pv 5) (nomark _))))) (pss_one (ps_ret pe_bl)) pss_nil)
      (pss_cons (ps_set (i := 7) scLRight.nd rfl (.inl rfl) (pe_cut9 (pe_ifExp (pt_cmpR op_eq (pe_call (ok_roll T D8) hr1 (by rfl) D8.g D8.F.kp D8.b .nil pass0 (pa_cons (pv 0) (pa_cons pe_int pa_nil))) pe_int (nomark _)) (pv 4) (pv 5))))
      (pss_cons (ps_set (i := 8) scLRight.nd rfl (.inl rfl) (pe_make M0 (ok_rinit T R F0) hr4 (by rfl) R.mgC b0 .nil pass0 (pa_cons (pv 7) pa_nil)))
      (pss_cons (ps_set (i := 9) scLRight.nd rfl (.inl rfl) (pe_call (ok_word_of T R D7) hr5 (by rfl) D7.g D7.F.kp D7.b .nil pass0 (pa_cons (pv 8) pa_nil)))
      (pss_cons (ps_if (PW.pt (pw_or (pt_not (pt_val (pe_call (ok_lis_word T D4) hr1 (by rfl) D4.g D4.F.kp D4.b .nil pass0 (pa_cons (pv 1) (pa_cons (pv 9) pa_nil)))))
          (pw_or (pt_cmpR op_ne (pe_callB call_len_seq (by rfl) T.z_len PySem.boot_len (pa_cons (pe_ix ix_tup (pv 9) pe_int (fun _ _ => rfl)) pa_nil)) (pe_call (ok_lfalls T D3) hr1 (by rfl) D3.g D3.F.kp D3.b .nil pass0 (pa_cons (pv 7) pa_nil)) (nomark _))
          (pw_or1 (pt_cmpR (op_neD hr.units) (pe_call (ok_lplain T D2) hr3 (by rfl) D2.g D2.F.kp D2.b .nil pass0 (pa_cons (pv 1) (pa_cons (pv 9) pa_nil))) (pv 7) (nomark _)))))) (pss_one (ps_ret pe_bl)) pss_nil)
      (pss_cons (ps_if (PW.pt (pw_or (pt_cmpR (op_neD hr.units) (pe_ix ix_tup (pe_call (ok_lgreedily T D6) hr4 (by rfl) D6.g D6.F.kp D6.b .nil pass0 (pa_cons (pv 1) (pa_cons (pv 9) pa_nil))) pe_int (fun _ _ => rfl)) (pv 7) (nomark _))
          (pw_or1 (pt_not (pt_val (pe_call (ok_is_word_of T R D1) hr5 (by rfl) D1.g D1.F.kp D1.b .nil pass0 (pa_cons (pv 8) (pa_cons (pv 9) pa_nil)))))))) (pss_one (ps_ret pe_bl)) pss_nil)
      (pss_cons (ps_for PassesOwn.never rfl (pi_range1 (by rfl) T.z_range (pa_cons pe_int pa_nil)) (pg_name (i := 2) scLRight.nd rfl (.inl rfl))
        (pss_cons (ps_set (i := 10) scLRight.nd rfl (.inl rfl) (pe_call (ok_lspoilt T D5) hr3 (by rfl) D5.g D5.F.kp D5.b .nil pass0 (pa_cons (pv 0) (pa_cons (pv 1) (pa_cons (pv 9) pa_nil)))))
      (pss_cons (ps_set (i := 11) scLRight.nd rfl (.inl rfl) (pe_and (pe_call (ok_lis_word T D4) hr1 (by rfl) D4.g D4.F.kp D4.b .nil pass0 (pa_cons (pv 1) (pa_cons (pv 10) pa_nil))) (pe_and (pe_cmpR op_eq (pe_callB call_len_seq (by rfl) T.z_len PySem.boot_len (pa_cons (pe_ix ix_tup (pv 10) pe_int (fun _ _ => rfl)) pa_nil)) (pe_call (ok_lfalls T D3) hr1 (by rfl) D3.g D3.F.kp D3.b .nil pass0 (pa_cons (pv 7) pa_nil)) (nomark _)) (pe_one (pe_cmpR (op_eqD hr.units) (pe_call (ok_lplain T D2) hr3 (by rfl) D2.g D2.F.kp D2.b .nil pass0 (pa_cons (pv 1) (pa_cons (pv 10) pa_nil))) (pv 7) (nomark _))))))
      (pss_one (ps_if (pt_cmpR op_ne (pe_call (ok_is_word_of T R D1) hr5 (by rfl) D1.g D1.F.kp D1.b .nil pass0 (pa_cons (pv 8) (pa_cons (pv 10) pa_nil))) (pv 11) (nomark _)) (pss_one (ps_ret pe_bl)) pss_nil)))))
      (pss_one (ps_ret pe_bl)))))))))))), ?_⟩
    refine ⟨_, rfl, by show 9 ≤ sizeLine; decide, fun bl hbl => ?_⟩
    have xb := Ex.new (o := .lst [V.int 1, .int 2, .int 2, .int 3, .int 3, .int 4, .int 5, .int 6, .int 60]) hbl
    have nbd : bl ≠ d := (hd.ne_new hbl).symm
    refine ⟨d, bl, _, rfl, hd.ex xb, upd_same, nbd, by show 1 ≤ 9; decide, by show 9 ≤ 1000; decide, fun x H1 hx hd1 k1 => ?_⟩
    obtain ⟨m, rfl, m1, m60⟩ : ∃ m : Nat, x = .int (m : Int) ∧ 1 ≤ m ∧ m ≤ 60 := by
      simp only [List.mem_cons, List.not_mem_nil, or_false] at hx
      rcases hx with rfl | rfl | rfl | rfl | rfl | rfl | rfl | rfl | rfl
      · exact ⟨1, rfl, by decide, by decide⟩
      · exact ⟨2, rfl, by decide, by decide⟩
      · exact ⟨2, rfl, by decide, by decide⟩
      · exact ⟨3, rfl, by decide, by decide⟩
      · exact ⟨3, rfl, by decide, by decide⟩
      · exact ⟨4, rfl, by decide, by decide⟩
      · exact ⟨5, rfl, by decide, by decide⟩
      · exact ⟨6, rfl, by decide, by decide⟩
      · exact ⟨60, rfl, by decide, by decide⟩
    have k01 : Keep d H H1 := (Keep.ex xb).trans k1
    refine ⟨_, rfl, d, _, rfl, hd1, by decide, by decide, fun r1 H2 r10 r11 hd2 k2 => ⟨_, _, rfl, rfl, ?_⟩⟩
    refine ⟨fun v H' => ∃ n : Nat, v = .int (n : Int) ∧ n ≤ 11 ∧ (m < 2 → n = 0) ∧ Dice H' d ∧ Keep d H2 H', ?_, fun v H3 hW => ?_⟩
    · refine ⟨_, rfl, _, _, rfl, rfl, _, rfl, ite2 (fun z => ?_) (fun z => ?_)⟩
      · have z := of_decide_eq_true z
        refine ⟨_, rfl, d, _, rfl, hd2, by omega, by omega, fun n H7 n0 n1 hd7 k7 => ?_⟩
        exact ⟨n.toNat, by rw [Int.toNat_of_nonneg n0], by omega, fun y => by omega, hd7, k7⟩
      · have z : ¬ (1 : Int) < m := fun y => z (decide_eq_true y)
        exact ⟨0, rfl, Nat.zero_le _, fun _ => rfl, hd2, Keep.refl _ _⟩
    obtain ⟨n, rfl, n1, n2, hd3, k3⟩ := hW
    refine ⟨_, rfl, by omega, by omega, fun Dl hD => ?_⟩
    have ndl := hd3.ne_new hD
    refine lc_range (lo := 0) (n := (n : Int).toNat) (fun i H' => ∃ ws : List Nat, H' Dl = some (.lst (natL ws)) ∧ ws.length = i ∧ (∀ c ∈ ws, c < m) ∧ Dice H' d ∧ Keep d H3 H') ⟨[], upd_same, rfl, (fun c hc => by cases hc), hd3.upd ndl, Keep.new hD⟩ (fun i H' hi hp2 => ?_) (fun H5 hp2 => ?_)
    · obtain ⟨ws, w1, w2, w3, w4, w5⟩ := hp2
      have hi : i < n := by omega
      refine ⟨rfl, ?_⟩
      dsimp only [tYes]
      rw [if_pos rfl]
      refine ⟨_, rfl, _, rfl, d, _, rfl, w4, by omega, by omega, fun u H8 u0 u1 hd8 k8 => ?_⟩
      obtain ⟨c, rfl⟩ : ∃ c : Nat, u = (c : Int) := ⟨u.toNat, by omega⟩
      refine ⟨_, k8 _ _ ndl.symm w1, ?_, ws ++ [c], ?_, ?_, ?_, hd8.upd ndl, (w5.trans k8).mut hD⟩
      · unfold natL
        rw [List.length_map]
        exact small1000 (by omega)
      · rw [upd_same]
        unfold natL
        rw [List.map_append]
        rfl
      · rw [List.length_append, w2]
        rfl
      · intro e he
        rcases List.mem_append.mp he with z | z
        · exact w3 e z
        · rw [List.mem_singleton.mp z]
          omega
    obtain ⟨ws, w1, w2, w3, w4, w5⟩ := hp2
    rw [Int.toNat_natCast] at w2
    refine ⟨Dl, _, rfl, .inl ⟨SqL.of w1, fun q hq => ?_⟩⟩
    have xq := Ex.new (o := .tup (natL ws)) hq
    refine ⟨by show 2 ≤ sizeLine; decide, fun a ha => ?_⟩
    have xa := Ex.new (o := .tup [.int (r1 - 4), .ref q]) ha
    obtain ⟨t, ht⟩ : ∃ t : Int, t = r1 - 4 := ⟨_, rfl⟩
    have hw : WdAt (upd (upd H5 q (.tup (natL ws))) a (.tup [.int (r1 - 4), .ref q])) a m t ws := ⟨⟨q, by rw [ht]; exact upd_same, xa _ _ upd_same⟩, m1, m60, by omega, by omega, by omega, by
      rcases Nat.lt_or_ge m 2 with y | y
      · right
        have := n2 y
        exact List.eq_nil_of_length_eq_zero (by omega)
      · exact .inl y, w3⟩
    have hd6 := w4.ex (xq.trans xa)
    have k06 : KC C d H _ := KC.keep (((((k01.trans k2).trans k3).trans w5).trans (Keep.ex (d := d) (xq.trans xa))))
    have wn : ws.length ≤ 11 := by omega
    generalize upd (upd H5 q (.tup (natL ws))) a (.tup [.int (r1 - 4), .ref q]) = H6 at *
    clear xq xa hq ha w1 w5 hD k3 k2 k1 k01 xb
    refine ⟨_, rfl, _, rfl, a, m, t, ws, rfl, hw, fun pp H7 e7 hpp => ?_⟩
    refine ⟨_, rfl, _, rfl, a, m, t, ws, rfl, hw.ex e7, fun gp gr gb H8 e8 hgp hgr hgb => ?_⟩
    refine ⟨by show 2 ≤ sizeLine; decide, fun tp htp => ?_⟩
    have xt := Ex.new (o := .tup [.ref pp, .ref gp]) htp
    have E6 : Ex H6 (upd H8 tp (.tup [.ref pp, .ref gp])) := (e7.trans e8).trans xt
    have hpp := RowAt.ex hpp (e8.trans xt)
    have hgp := xt _ _ hgp
    have hgr := RowAt.ex hgr xt
    have hgb := xt _ _ hgb
    have htp2 : upd H8 tp (.tup [.ref pp, .ref gp]) tp = some (.tup [.ref pp, .ref gp]) := upd_same
    generalize upd H8 tp (.tup [.ref pp, .ref gp]) = H9 at *
    refine ⟨tp, _, rfl, SqT.of htp2, rfl, _, [_], rfl, _, [], rfl, ⟨gp, _, rfl, SqT.of hgp, rfl, _, [_], rfl, _, [], rfl, rfl, ?_⟩⟩
    have hw9 := hw.ex E6
    have hd9 := hd6.ex E6
    have k09 := k06.trans hd6 (KC.keep (Keep.ex (d := d) E6))
    clear k06 hd6 hw E6 e7 e8 xt
    have W0 := RdF.sww m1 ws (pl_rd m1 t) hw9.two
    have G0 := RdF.glw m1 ws (pl_rd m1 t) hw9.two
    refine ⟨rfl, ?_⟩
    have two := hw9.two
    have lt := hw9.lt
    have wt0 := hw9.t0
    have wt1 := hw9.t1
    refine ⟨_, rfl, _, rfl, a, m, t, ws, rfl, hw9, fun z1 H10 e10 hz1 => ?_⟩
    refine toldR hz1.rd fun p1 hp1 => ⟨_, rfl, ?_⟩
    refine CI.neT (l := rowF m (sww m (pl t) ws)) (l' := rowF m (sww m (pl t) ws)) hp1.1 (e10 _ _ hpp.1) ?_
    rw [decide_eq_true rfl]
    refine ⟨false, rfl, iteF ?_⟩
    have f10 : EC C H9 H10 := EC.of e10
    have hw10 := hw9.ec f10
    refine ⟨_, rfl, _, rfl, a, m, t, ws, rfl, hw10, fun z2 H11 e11 hz2 => ?_⟩
    have f11 := f10.trans e11
    refine toldR hz2.at_ fun p2 hp2 => ⟨_, rfl, ?_⟩
    refine CI.neT (l := rowF m (glw m (pl t) ws)) (l' := rowF m (glw m (pl t) ws)) hp2.1 (f11.tup hgr.1) ?_
    rw [decide_eq_true rfl]
    refine ⟨false, rfl, iteF ?_⟩
    have hw11 := hw9.ec f11
    have hgb11 := f11.tup hgb
    -- the busy letters
    have bl5 := bus_len m ws (pl t)
    have btwo : 2 ≤ m ∨ bus m (pl t) ws = [] := by
      rcases two with z | z
      · exact .inl z
      · right
        rw [z]
        rfl
    have mkB : ∀ {G : Hp} {u : Addr}, G u = some (.tup [.int t, .ref gb]) → G gb = some (.tup (natL (bus m (pl t) ws))) → WdAt G u m t (bus m (pl t) ws) := fun a1 a2 => ⟨⟨gb, a1, a2⟩, m1, m60, wt0, wt1, by omega, btwo, fun c hc => lt c (bus_mem m ws _ c hc)⟩
    obtain ⟨q11, hq11, _⟩ := hw11.tup
    refine ⟨_, rfl, _, rfl, a, _, 0, _, rfl, rfl, SqT.of hq11, rfl, _, rfl, by show 2 ≤ sizeLine; decide, fun u1 hu1 => ?_⟩
    have x12 := Ex.new (o := .tup [.int t, .ref gb]) hu1
    have f12 := f11.trans (EC.of x12)
    refine ⟨u1, m, t, _, rfl, mkB upd_same (x12 _ _ hgb11), fun z3 H13 e13 hz3 => ?_⟩
    have f13 := f12.trans e13
    refine toldR hz3.at_ fun p3 hp3 => ⟨_, rfl, ?_⟩
    rw [bus_glw] at hp3
    refine CI.neT (l := rowF m (glw m (pl t) ws)) (l' := rowF m (glw m (pl t) ws)) hp3.1 (f13.tup hgr.1) ?_
    rw [decide_eq_true rfl]
    refine ⟨false, rfl, iteF ?_⟩
    have hw13 := hw9.ec f13
    have hgb13 := f13.tup hgb
    obtain ⟨q13, hq13, _⟩ := hw13.tup
    refine ⟨_, rfl, _, rfl, a, _, 0, _, rfl, rfl, SqT.of hq13, rfl, _, rfl, by show 2 ≤ sizeLine; decide, fun u2 hu2 => ?_⟩
    have x14 := Ex.new (o := .tup [.int t, .ref gb]) hu2
    have f14 := f13.trans (EC.of x14)
    refine ⟨u2, m, t, _, rfl, mkB upd_same (x14 _ _ hgb13), fun z4 H15 e15 hz4 => ?_⟩
    have f15 := f14.trans (EC.of e15)
    refine toldR hz4.rd fun p4 hp4 => ⟨_, rfl, ?_⟩
    rw [bus_sww] at hp4
    refine CI.neT (l := rowF m (glw m (pl t) ws)) (l' := rowF m (glw m (pl t) ws)) hp4.1 (f15.tup hgr.1) ?_
    rw [decide_eq_true rfl]
    refine ⟨false, rfl, iteF ?_⟩
    have hd15 := f15.dice hd9
    have k15 := k09.trans hd9 f15.kc
    have hpp15 : RowAt H15 pp m _ := ⟨f15.tup hpp.1, hpp.2⟩
    have hgr15 : RowAt H15 gr m _ := ⟨f15.tup hgr.1, hgr.2⟩
    have wf : fallsR m (sww m (pl t) ws) ≤ 11 := by
      have := falls_sww m1 ws (pl_rd m1 t) two lt
      rw [pl_falls m1 t] at this
      omega
    have gf : fallsR m (glw m (pl t) ws) ≤ 11 := by
      have := falls_glw m1 ws (pl_rd m1 t) two lt
      rw [pl_falls m1 t] at this
      omega
    have ws0 : shf m (sww m (pl t) ws) = t := by rw [shf_sww m1 ws (pl_rd m1 t) two, pl_shf m1]
    have gs0 : shf m (glw m (pl t) ws) = t := by rw [shf_glw m1 ws (pl_rd m1 t) two, pl_shf m1]
    have wb : ∀ i : Nat, i < m → -(10 ^ 60) < sww m (pl t) ws (i : Int) ∧ sww m (pl t) ws (i : Int) < 10 ^ 60 := fun i hi => near_bd (Near.sww ws (near_pl t)) m60 wt0 wt1 (by omega) i hi
    have gb0 : ∀ i : Nat, i < m → -(10 ^ 60) < glw m (pl t) ws (i : Int) ∧ glw m (pl t) ws (i : Int) < 10 ^ 60 := fun i hi => near_bd (Near.glw ws (near_pl t)) m60 wt0 wt1 (by omega) i hi
    -- the values
    refine ⟨fun v H' => ∃ (p : Addr) (f : Int → Int), v = .ref p ∧ RowAt H' p m f ∧ RdF m f ∧ fallsR m f ≤ 11 ∧ shf m f = t ∧ (∀ i : Nat, i < m → -(10 ^ 60) < f (i : Int) ∧ f (i : Int) < 10 ^ 60) ∧ Dice H' d ∧ KC C d H15 H', ?_, fun v H16 hW => ?_⟩
    · refine ⟨_, rfl, d, _, rfl, hd15, by decide, by decide, fun r2 H16 _ _ hd16 k16 => ⟨rfl, _, rfl, ite2 (fun _ => ?_) (fun _ => ?_)⟩⟩
      · exact ⟨_, rfl, pp, _, rfl, ⟨k16.tup hd15 hpp15.1, hpp15.2⟩, W0, wf, ws0, wb, hd16, KC.keep k16⟩
      · exact ⟨_, rfl, gr, _, rfl, ⟨k16.tup hd15 hgr15.1, hgr15.2⟩, G0, gf, gs0, gb0, hd16, KC.keep k16⟩
    obtain ⟨vp, f, rfl, hv, hf, fa, fs, fb, hd16, k1516⟩ := hW
    have k16 := k15.trans hd15 k1516
    clear wb gb0 ws0 gs0 wf gf hpp15 hgr15 hd15 k15 k1516
    refine ⟨_, rfl, ?_⟩
    refine makeR hv fb hf.perm fun x H17 e17 hx => ?_
    have n0 : fallsR m f = ((fallsR m f).toNat : Int) := by have := falls_nn m f; omega
    have ra := red_all m1 (fallsR m f).toNat f hf n0
    have eqS : sww m (pl (shf m f)) (wd m f) = f := ra.2.1
    have eqG : glw m (pl (shf m f)) (wd m f) = f := ra.1
    have wdl : ((wd m f).length : Int) = fallsR m f := by
      have : (wd m f).length = (fallsR m f).toNat := ra.2.2.1
      omega
    refine ⟨_, rfl, x, m, f, rfl, hx, hf, by omega, by omega, by omega, fun ta H18 e18 hta hx18 => ?_⟩
    have f18 := (EC.of (C := C) e17).trans e18
    have hv18 : RowAt H18 vp m f := ⟨f18.tup hv.1, hv.2⟩
    have hd18 := f18.dice hd16
    have k18 := k16.trans hd16 f18.kc
    clear k16 hd16 hv e17 e18 f18 hx
    refine ⟨_, rfl, _, rfl, m, _, true, rfl, m1, m60, hta.wv, fun H19 e19 => ⟨true, rfl, iteF ?_⟩⟩
    have hta19 := hta.ex e19
    obtain ⟨tb, hq1, hq2⟩ := hta19.tup
    have ll : ((natL (wd m f)).length : Int) = fallsR m f := by rw [← wdl]; unfold natL; rw [List.length_map]
    refine ⟨_, rfl, ta, _, 1, _, rfl, rfl, SqT.of hq1, rfl, tb, _, rfl, .inr (SqT.of hq2), _, rfl, vp, m, f, rfl, RowAt.ex hv18 e19, hf, ?_⟩
    rw [ll]
    refine ⟨rfl, _, rfl, ite2 (fun z => absurd z (by simp)) (fun _ => ?_)⟩
    refine ⟨_, rfl, _, rfl, ta, m, _, _, rfl, hta19, fun rp H20 e20 hrp => ⟨_, rfl, ?_⟩⟩
    rw [eqS] at hrp
    refine CI.neT (l := rowF m f) (l' := rowF m f) hrp.1 (RowAt.ex hv18 (e19.trans e20)).1 ?_
    rw [decide_eq_true rfl]
    refine ⟨false, rfl, iteF ?_⟩
    refine ⟨_, rfl, _, rfl, ta, m, _, _, rfl, hta19.ex e20, fun gp2 gr2 gb2 H21 e21 hgp2 hgr2 _ => ?_⟩
    rw [eqG] at hgr2
    have e1821 := (e19.trans e20).trans e21
    refine ⟨gp2, _, 0, _, rfl, rfl, SqT.of hgp2, rfl, _, rfl, ?_⟩
    refine CI.neT (l := rowF m f) (l' := rowF m f) hgr2.1 (RowAt.ex hv18 e1821).1 ?_
    rw [decide_eq_true rfl]
    refine ⟨false, rfl, iteF ?_⟩
    refine ⟨_, rfl, _, rfl, x, m, f, _, rfl, hx18.ex e1821, hf, by omega, .inr ⟨ta, _, _, rfl, hta.ex e1821, fun H22 e22 hx22 => ?_⟩⟩
    rw [eqS, decide_eq_true wdl, decide_eq_true rfl]
    refine ⟨true, rfl, iteF ?_⟩
    have f22 := (EC.of (C := C) e1821).trans e22
    have hta22 := hta.ec f22
    have hv22 : RowAt H22 vp m f := ⟨f22.tup hv18.1, hv18.2⟩
    have hd22 := f22.dice hd18
    have k22 := k18.trans hd18 f22.kc
    refine ⟨_, rfl, by decide, by decide, for_range (lo := 0) (n := (4 : Int).toNat) (fun j σ' H' => ∃ y2 y10 y11 : Option V, σ' = [some (.ref d), some (.int (m : Int)), y2, some (.ref a), some (.ref pp), some (.ref gr), some (.ref gb), some (.ref vp), some (.ref x), some (.ref ta), y10, y11] ∧ Dice H' d ∧ KC C d H H' ∧ RdC C H' x m f ∧ RowAt H' vp m f ∧ WdAt H' ta m (shf m f) (wd m f)) ⟨_, _, _, rfl, hd22, k22, hx22, hv22, hta22⟩ (fun j σ' H' hj hp => ?_) (fun σ' H' hp => ?_)⟩
    · obtain ⟨y2, y10, y11, rfl, w1, w2, w3, w4, w5⟩ := hp
      refine ⟨_, rfl, _, rfl, _, rfl, d, ta, m, _, _, rfl, w1, w5, by omega, by omega, by omega, fun v H23 hv hd23 k23 => ?_⟩
      have w3' := w3.kc w1 (KC.keep k23)
      have w5' := w5.kd w1 k23
      have w4' : RowAt H23 vp m f := ⟨k23.tup w1 w4.1, w4.2⟩
      have w2' := w2.trans w1 (KC.keep (C := C) k23)
      rcases hv with hv | ⟨va, vt, vw, rfl, hv⟩
      · refine ⟨_, rfl, _, rfl, m, v, false, rfl, m1, m60, hv, fun H24 e24 => ⟨_, rfl, iteF ?_⟩⟩
        refine ⟨_, rfl, _, rfl, x, m, f, v, rfl, w3'.ex e24, hf, by omega, .inl ⟨hv.ec (EC.of (C := C) e24), fun H25 e25 hx25 => ?_⟩⟩
        have f25 := (EC.of (C := C) e24).trans e25
        refine ⟨_, rfl, rfl, _, rfl, iteF ?_⟩
        exact ⟨_, _, _, rfl, f25.dice hd23, w2'.trans hd23 f25.kc, hx25, ⟨f25.tup w4'.1, w4'.2⟩, w5'.ec f25⟩
      · refine ⟨_, rfl, _, rfl, m, _, true, rfl, m1, m60, hv.wv, fun H24 e24 => ⟨_, rfl, iteT ?_⟩⟩
        have hv24 := hv.ex e24
        obtain ⟨vb, hb1, hb2⟩ := hv24.tup
        have lv : ((natL vw).length : Int) = (vw.length : Int) := by unfold natL; rw [List.length_map]
        refine ⟨_, rfl, va, _, 1, _, rfl, rfl, SqT.of hb1, rfl, vb, _, rfl, .inr (SqT.of hb2), _, rfl, vp, m, f, rfl, RowAt.ex w4' e24, hf, ?_⟩
        rw [lv]
        refine ⟨rfl, _, rfl, ite2 (fun z => ?_) (fun z => ?_)⟩
        · have z : (vw.length : Int) = fallsR m f := V.int.inj (of_decide_eq_true z)
          refine ⟨_, rfl, _, rfl, va, m, vt, vw, rfl, hv24, fun rv H25 e25 hrv => ⟨_, rfl, ?_⟩⟩
          refine CI.eqT hrv.1 (RowAt.ex w4' (e24.trans e25)).1 ?_
          refine ⟨_, rfl, _, rfl, x, m, f, _, rfl, w3'.ex (e24.trans e25), hf, by omega, .inr ⟨va, _, _, rfl, hv24.ex e25, fun H26 e26 hx26 => ?_⟩⟩
          rw [decide_eq_true z, Bool.true_and]
          have f26 := (EC.of (C := C) (e24.trans e25)).trans e26
          refine ⟨_, rfl, rfl, _, rfl, ?_⟩
          rw [decide_eq_true rfl]
          refine iteF ?_
          exact ⟨_, _, _, rfl, f26.dice hd23, w2'.trans hd23 f26.kc, hx26, ⟨f26.tup w4'.1, w4'.2⟩, w5'.ec f26⟩
        · have z : ¬ (vw.length : Int) = fallsR m f := fun y => z (by rw [y]; exact decide_eq_true rfl)
          refine ⟨_, rfl, _, rfl, x, m, f, _, rfl, w3'.ex e24, hf, by omega, .inr ⟨va, _, _, rfl, hv24, fun H26 e26 hx26 => ?_⟩⟩
          rw [decide_eq_false z, Bool.false_and]
          have f26 := (EC.of (C := C) e24).trans e26
          refine ⟨_, rfl, rfl, _, rfl, iteF ?_⟩
          exact ⟨_, _, _, rfl, f26.dice hd23, w2'.trans hd23 f26.kc, hx26, ⟨f26.tup w4'.1, w4'.2⟩, w5'.ec f26⟩
    · obtain ⟨y2, y10, y11, rfl, w1, w2, w3, w4, w5⟩ := hp
      exact kQ _ w1 w2
end
end K1

set_option exponentiation.threshold 400
namespace K1
open PySem PySem.Spec PyProof.Rows L2 Evl HM LX
theorem sql_kc {K : PySem.W.Frag} {C : Addr} {H1 H2 : Hp} {p a : Addr} {xs : List V} (n : a ≠ p) (k : KC C p H1 H2) (h : SqL K H1 a xs) : SqL K H2 a xs := by
  rcases h with (h | ⟨o, h⟩) | h
  · rcases k _ _ n h with z | ⟨_, _, _, _, z, _⟩
    · exact .inl (.inl z)
    · cases z
  · rcases k _ _ n h with z | ⟨_, _, _, _, z, _⟩
    · exact .inl (.inr ⟨o, z⟩)
    · cases z
  · exact .inr h
theorem sql_kc2 {K : PySem.W.Frag} {C : Addr} {H H1 H2 : Hp} {p a : Addr} {xs : List V} (h0 : H p = none) (e : Ex H H1) (k : KC C p H1 H2) (h : SqL K H a xs) : SqL K H2 a xs := by
  rcases h with (h | ⟨o, h⟩) | h
  · exact sql_kc (ne_of_none h h0) k (.inl (.inl (e _ _ h)))
  · exact sql_kc (ne_of_none h h0) k (.inl (.inr ⟨o, e _ _ h⟩))
  · exact .inr h
section
variable {P : Program} {w : World} {K : PySem.W.Frag} {mg : Str → Option Value} {base : Heap}
def spLaw (K : PySem.W.Frag) : Sp := fun vs H Q _ => ∃ (a : Addr) (ns : List Int), vs = [.ref a] ∧ SqL K H a (ns.map V.int) ∧ ns.length ≤ 63 ∧ ∀ H', Q (.bl true) H'
theorem ok_law {C : Addr} (T : Txt K mg) (R : RTxt K mg C) {f : Addr} {fd : FuncData} (F : Fun K "law" "law" sLaw f fd) : FnOk P w K mg base CX0 9 f fd ["_law_script"] (spLaw K) := by
  refine F.ok scLaw (fun vs H Q E h => ?_) (fun cdv A outer s₀ H vs Q E hr h => ?_)
  · obtain ⟨a, ns, rfl, _⟩ := h
    rfl
  · obtain ⟨a, ns, rfl, hS, hlen, q⟩ := h
    obtain ⟨f1, fd1, D1⟩ := T.d_l_right
    obtain ⟨f2, fd2, D2⟩ := T.d_l_dice
    have hr1 : Room 1 _ := hr.mono (by decide)
    have hr8 : Room 8 _ := hr.mono (by decide)
    refine ⟨_, pss_cons (ps_for PassesOwn.never rfl (pi_range1 (by rfl) T.z_range (pa_cons (pe_callB (call_max2 rfl) (by rfl) T.z_max (by decide +kernel) (pa_cons pe_int (pa_cons (pe_callB (call_min2 rfl) (by rfl) T.z_min (by decide +kernel) (pa_cons (pe_callB call_len_seq (by rfl) T.z_len PySem.boot_len (pa_cons (pv 0) pa_nil)) (pa_cons pe_int pa_nil))) pa_nil))) pa_nil)) (pg_name (i := 1) scLaw.nd rfl (.inl rfl))
        (pss_one (ps_if (pt_not (pt_val (pe_call (ok_right T R D1) hr8 (by rfl) D1.g D1.F.kp D1.b .nil pass0 (pa_cons (pe_call (ok_dice T D2) hr1 (by rfl) D2.g D2.F.kp D2.b .nil pass0 (pa_cons (pv 0) (pa_cons (pv 1) pa_nil))) pa_nil)))) (pss_one (ps_ret pe_bl)) pss_nil)))
      (pss_one (ps_ret pe_bl)), ?_⟩
    refine ⟨_, rfl, a, _, rfl, .inl hS, _, _, rfl, _, _, rfl, _, rfl, ?_, ?_, for_range (lo := 0) (n := Int.toNat _) (fun i σ' H' => ∃ y1, σ' = [some (.ref a), y1] ∧ SqL K H' a (ns.map V.int)) ⟨_, rfl, hS⟩ (fun i σ' H' _ hp => ?_) (fun σ' H' hp => ?_)⟩
    · first | omega | (split <;> omega) | (split <;> split <;> omega)
    · rw [List.length_map]
      first | omega | (split <;> omega) | (split <;> split <;> omega)
    · obtain ⟨y1, rfl, hS'⟩ := hp
      refine ⟨_, rfl, _, rfl, a, ns, i, ?_, hS', fun d H1 hp0 e1 hd1 => ?_⟩
      · rw [Int.zero_add]
        rfl
      exact ⟨d, rfl, hd1, fun H3 hd3 k3 => ⟨true, rfl, iteF ⟨_, rfl, sql_kc2 hp0 e1 k3 hS'⟩⟩⟩
    · obtain ⟨y1, rfl, hS'⟩ := hp
      exact q _
end
end K1

namespace K1
open PySem PySem.Spec PyProof.Rows L2
/-- what a def of the text leaves -/
theorem mk_def {K : PySem.W.Frag} {h : Heap} {mg : Str → Option Value} {x : Str} {st : Stmt} {ps : List Str} {f : Addr} {oc : Value} {od an : Option Addr} {osl : Array (Option Value)} {kV doc pm cdv ct : Value} (X : K.In h) (G : h.Ns mainGlobals mg)
    (a : PySem.W.nsIn K mainGlobals x = some (some (.ref f))) (l : K.lookup f = some ⟨oc, od, .func (PySem.W.fnOf x x (defArgs st) (defBody st) (defScope st) .none kV doc pm an cdv ct), osl⟩) (c : PySem.W.codeIn K cdv x = true) (k : PySem.W.keepIn K (.ref f) = true)
    (b : ∀ (kV doc pm : Value) (an : Option Addr) (cdv ct : Value) (us : List Value), us.length = ps.length → bindArgs (PySem.W.fnOf x x (defArgs st) (defBody st) (defScope st) .none kV doc pm an cdv ct) ⟨us, []⟩ = pure (ps.zip us)) :
    ∃ f fd, DefAt K mg x st ps f fd := ⟨f, _, ⟨fun_mk (st := st) l c k, PySem.W.mg_of X G a, (fun_mk (st := st) l c k).binds b⟩⟩
theorem kit_no {K : PySem.W.Frag} {C : Addr} {n : String} (hd : PySem.W.hasDictIn K C = true) (ty : PySem.W.typeIn K (.ref C) = some (.type "type")) (nf : PySem.W.notFirst K C (.type n) = true) : PySem.W.kitOne K (.type n) (.ref C) = some false := by
  have hc : (PySem.W.clsIn K C).isSome = true := by
    obtain ⟨cd, hc, _⟩ := PySem.W.any_some hd
    rw [hc]
    rfl
  have ne : ((Value.type n) == Value.ref C) = false := Bool.eq_false_iff.mpr fun q => by cases beq_iff_eq.mp q
  have sb : PySem.W.subIn K (.type n) (.ref C) = some false := by
    rcases Bool.or_eq_true_iff.mp nf with e | e
    · cases beq_iff_eq.mp e
    · exact beq_iff_eq.mp e
  have e1 : PySem.W.kitOne K (.type n) (.ref C) = PySem.W.kitCls K (.type n) (.ref C) := by
    unfold PySem.W.kitOne
    rw [ne]
    rfl
  rw [e1]
  show (if ((PySem.W.clsIn K C).isSome && PySem.W.typeIn K (.ref C) == some (.type "type")) = true then PySem.W.subIn K (.type n) (.ref C) else none) = some false
  rw [hc, ty, sb, if_pos (by simp)]
theorem all_mk {P : Program} {w : World} {K : PySem.W.Frag} {h : Heap} {mg : Str → Option Value} {fa : Addr} (X : K.In h) (G : h.Ns mainGlobals mg) (hfa : mg "law" = some (.ref fa)) (vBOUND : ∃ t, mg "BOUND" = some (.int (10 ^ 60) t))
    {tDIGITS tMAX_ROUND tMAX_FALLS tMAX_WORD : Tok} (gDIGITS : PySem.W.nsIn K mainGlobals "DIGITS" = some (some (.int 60 tDIGITS))) (gMAX_ROUND : PySem.W.nsIn K mainGlobals "MAX_ROUND" = some (some (.int 60 tMAX_ROUND))) (gMAX_FALLS : PySem.W.nsIn K mainGlobals "MAX_FALLS" = some (some (.int 1000 tMAX_FALLS))) (gMAX_WORD : PySem.W.nsIn K mainGlobals "MAX_WORD" = some (some (.int 2000 tMAX_WORD)))
    (z_abs : PySem.W.nsIn K mainGlobals "abs" = some none) (z_all : PySem.W.nsIn K mainGlobals "all" = some none) (z_bool : PySem.W.nsIn K mainGlobals "bool" = some none) (z_int : PySem.W.nsIn K mainGlobals "int" = some none) (z_isinstance : PySem.W.nsIn K mainGlobals "isinstance" = some none) (z_len : PySem.W.nsIn K mainGlobals "len" = some none) (z_list : PySem.W.nsIn K mainGlobals "list" = some none) (z_max : PySem.W.nsIn K mainGlobals "max" = some none) (z_min : PySem.W.nsIn K mainGlobals "min" = some none) (z_range : PySem.W.nsIn K mainGlobals "range" = some none) (z_sorted : PySem.W.nsIn K mainGlobals "sorted" = some none) (z_sum : PySem.W.nsIn K mainGlobals "sum" = some none) (z_tuple : PySem.W.nsIn K mainGlobals "tuple" = some none)
    {f0 : Addr} {oc0 : Value} {od0 an0 : Option Addr} {sl0 : Array (Option Value)} {kV0 dc0 pm0 cd0 ct0 : Value}
    (a0 : PySem.W.nsIn K mainGlobals "is_integer" = some (some (.ref f0))) (l0 : K.lookup f0 = some ⟨oc0, od0, .func (PySem.W.fnOf "is_integer" "is_integer" (defArgs sIsInteger) (defBody sIsInteger) (defScope sIsInteger) .none kV0 dc0 pm0 an0 cd0 ct0), sl0⟩) (c0 : PySem.W.codeIn K cd0 "is_integer" = true) (k0 : PySem.W.keepIn K (.ref f0) = true)
    {f1 : Addr} {oc1 : Value} {od1 an1 : Option Addr} {sl1 : Array (Option Value)} {kV1 dc1 pm1 cd1 ct1 : Value}
    (a1 : PySem.W.nsIn K mainGlobals "is_between" = some (some (.ref f1))) (l1 : K.lookup f1 = some ⟨oc1, od1, .func (PySem.W.fnOf "is_between" "is_between" (defArgs sIsBetween) (defBody sIsBetween) (defScope sIsBetween) .none kV1 dc1 pm1 an1 cd1 ct1), sl1⟩) (c1 : PySem.W.codeIn K cd1 "is_between" = true) (k1 : PySem.W.keepIn K (.ref f1) = true)
    {f2 : Addr} {oc2 : Value} {od2 an2 : Option Addr} {sl2 : Array (Option Value)} {kV2 dc2 pm2 cd2 ct2 : Value}
    (a2 : PySem.W.nsIn K mainGlobals "is_pair" = some (some (.ref f2))) (l2 : K.lookup f2 = some ⟨oc2, od2, .func (PySem.W.fnOf "is_pair" "is_pair" (defArgs sIsPair) (defBody sIsPair) (defScope sIsPair) .none kV2 dc2 pm2 an2 cd2 ct2), sl2⟩) (c2 : PySem.W.codeIn K cd2 "is_pair" = true) (k2 : PySem.W.keepIn K (.ref f2) = true)
    {f3 : Addr} {oc3 : Value} {od3 an3 : Option Addr} {sl3 : Array (Option Value)} {kV3 dc3 pm3 cd3 ct3 : Value}
    (a3 : PySem.W.nsIn K mainGlobals "is_row" = some (some (.ref f3))) (l3 : K.lookup f3 = some ⟨oc3, od3, .func (PySem.W.fnOf "is_row" "is_row" (defArgs sIsRow) (defBody sIsRow) (defScope sIsRow) .none kV3 dc3 pm3 an3 cd3 ct3), sl3⟩) (c3 : PySem.W.codeIn K cd3 "is_row" = true) (k3 : PySem.W.keepIn K (.ref f3) = true)
    {f4 : Addr} {oc4 : Value} {od4 an4 : Option Addr} {sl4 : Array (Option Value)} {kV4 dc4 pm4 cd4 ct4 : Value}
    (a4 : PySem.W.nsIn K mainGlobals "check_between" = some (some (.ref f4))) (l4 : K.lookup f4 = some ⟨oc4, od4, .func (PySem.W.fnOf "check_between" "check_between" (defArgs sCheckBetween) (defBody sCheckBetween) (defScope sCheckBetween) .none kV4 dc4 pm4 an4 cd4 ct4), sl4⟩) (c4 : PySem.W.codeIn K cd4 "check_between" = true) (k4 : PySem.W.keepIn K (.ref f4) = true)
    {f5 : Addr} {oc5 : Value} {od5 an5 : Option Addr} {sl5 : Array (Option Value)} {kV5 dc5 pm5 cd5 ct5 : Value}
    (a5 : PySem.W.nsIn K mainGlobals "check_digits" = some (some (.ref f5))) (l5 : K.lookup f5 = some ⟨oc5, od5, .func (PySem.W.fnOf "check_digits" "check_digits" (defArgs sCheckDigits) (defBody sCheckDigits) (defScope sCheckDigits) .none kV5 dc5 pm5 an5 cd5 ct5), sl5⟩) (c5 : PySem.W.codeIn K cd5 "check_digits" = true) (k5 : PySem.W.keepIn K (.ref f5) = true)
    {f6 : Addr} {oc6 : Value} {od6 an6 : Option Addr} {sl6 : Array (Option Value)} {kV6 dc6 pm6 cd6 ct6 : Value}
    (a6 : PySem.W.nsIn K mainGlobals "is_round" = some (some (.ref f6))) (l6 : K.lookup f6 = some ⟨oc6, od6, .func (PySem.W.fnOf "is_round" "is_round" (defArgs sIsRound) (defBody sIsRound) (defScope sIsRound) .none kV6 dc6 pm6 an6 cd6 ct6), sl6⟩) (c6 : PySem.W.codeIn K cd6 "is_round" = true) (k6 : PySem.W.keepIn K (.ref f6) = true)
    {f7 : Addr} {oc7 : Value} {od7 an7 : Option Addr} {sl7 : Array (Option Value)} {kV7 dc7 pm7 cd7 ct7 : Value}
    (a7 : PySem.W.nsIn K mainGlobals "value_in" = some (some (.ref f7))) (l7 : K.lookup f7 = some ⟨oc7, od7, .func (PySem.W.fnOf "value_in" "value_in" (defArgs sValueIn) (defBody sValueIn) (defScope sValueIn) .none kV7 dc7 pm7 an7 cd7 ct7), sl7⟩) (c7 : PySem.W.codeIn K cd7 "value_in" = true) (k7 : PySem.W.keepIn K (.ref f7) = true)
    {f8 : Addr} {oc8 : Value} {od8 an8 : Option Addr} {sl8 : Array (Option Value)} {kV8 dc8 pm8 cd8 ct8 : Value}
    (a8 : PySem.W.nsIn K mainGlobals "shift_in" = some (some (.ref f8))) (l8 : K.lookup f8 = some ⟨oc8, od8, .func (PySem.W.fnOf "shift_in" "shift_in" (defArgs sShiftIn) (defBody sShiftIn) (defScope sShiftIn) .none kV8 dc8 pm8 an8 cd8 ct8), sl8⟩) (c8 : PySem.W.codeIn K cd8 "shift_in" = true) (k8 : PySem.W.keepIn K (.ref f8) = true)
    {f9 : Addr} {oc9 : Value} {od9 an9 : Option Addr} {sl9 : Array (Option Value)} {kV9 dc9 pm9 cd9 ct9 : Value}
    (a9 : PySem.W.nsIn K mainGlobals "falls_in" = some (some (.ref f9))) (l9 : K.lookup f9 = some ⟨oc9, od9, .func (PySem.W.fnOf "falls_in" "falls_in" (defArgs sFallsIn) (defBody sFallsIn) (defScope sFallsIn) .none kV9 dc9 pm9 an9 cd9 ct9), sl9⟩) (c9 : PySem.W.codeIn K cd9 "falls_in" = true) (k9 : PySem.W.keepIn K (.ref f9) = true)
    {f10 : Addr} {oc10 : Value} {od10 an10 : Option Addr} {sl10 : Array (Option Value)} {kV10 dc10 pm10 cd10 ct10 : Value}
    (a10 : PySem.W.nsIn K mainGlobals "told_round" = some (some (.ref f10))) (l10 : K.lookup f10 = some ⟨oc10, od10, .func (PySem.W.fnOf "told_round" "told_round" (defArgs sToldRound) (defBody sToldRound) (defScope sToldRound) .none kV10 dc10 pm10 an10 cd10 ct10), sl10⟩) (c10 : PySem.W.codeIn K cd10 "told_round" = true) (k10 : PySem.W.keepIn K (.ref f10) = true)
    {f11 : Addr} {oc11 : Value} {od11 an11 : Option Addr} {sl11 : Array (Option Value)} {kV11 dc11 pm11 cd11 ct11 : Value}
    (a11 : PySem.W.nsIn K mainGlobals "check_map" = some (some (.ref f11))) (l11 : K.lookup f11 = some ⟨oc11, od11, .func (PySem.W.fnOf "check_map" "check_map" (defArgs sCheckMap) (defBody sCheckMap) (defScope sCheckMap) .none kV11 dc11 pm11 an11 cd11 ct11), sl11⟩) (c11 : PySem.W.codeIn K cd11 "check_map" = true) (k11 : PySem.W.keepIn K (.ref f11) = true)
    {f12 : Addr} {oc12 : Value} {od12 an12 : Option Addr} {sl12 : Array (Option Value)} {kV12 dc12 pm12 cd12 ct12 : Value}
    (a12 : PySem.W.nsIn K mainGlobals "exchanged" = some (some (.ref f12))) (l12 : K.lookup f12 = some ⟨oc12, od12, .func (PySem.W.fnOf "exchanged" "exchanged" (defArgs sExchanged) (defBody sExchanged) (defScope sExchanged) .none kV12 dc12 pm12 an12 cd12 ct12), sl12⟩) (c12 : PySem.W.codeIn K cd12 "exchanged" = true) (k12 : PySem.W.keepIn K (.ref f12) = true)
    {f13 : Addr} {oc13 : Value} {od13 an13 : Option Addr} {sl13 : Array (Option Value)} {kV13 dc13 pm13 cd13 ct13 : Value}
    (a13 : PySem.W.nsIn K mainGlobals "check_falls" = some (some (.ref f13))) (l13 : K.lookup f13 = some ⟨oc13, od13, .func (PySem.W.fnOf "check_falls" "check_falls" (defArgs sCheckFalls) (defBody sCheckFalls) (defScope sCheckFalls) .none kV13 dc13 pm13 an13 cd13 ct13), sl13⟩) (c13 : PySem.W.codeIn K cd13 "check_falls" = true) (k13 : PySem.W.keepIn K (.ref f13) = true)
    {f14 : Addr} {oc14 : Value} {od14 an14 : Option Addr} {sl14 : Array (Option Value)} {kV14 dc14 pm14 cd14 ct14 : Value}
    (a14 : PySem.W.nsIn K mainGlobals "is_rising" = some (some (.ref f14))) (l14 : K.lookup f14 = some ⟨oc14, od14, .func (PySem.W.fnOf "is_rising" "is_rising" (defArgs sIsRising) (defBody sIsRising) (defScope sIsRising) .none kV14 dc14 pm14 an14 cd14 ct14), sl14⟩) (c14 : PySem.W.codeIn K cd14 "is_rising" = true) (k14 : PySem.W.keepIn K (.ref f14) = true)
    {f15 : Addr} {oc15 : Value} {od15 an15 : Option Addr} {sl15 : Array (Option Value)} {kV15 dc15 pm15 cd15 ct15 : Value}
    (a15 : PySem.W.nsIn K mainGlobals "raised_by" = some (some (.ref f15))) (l15 : K.lookup f15 = some ⟨oc15, od15, .func (PySem.W.fnOf "raised_by" "raised_by" (defArgs sRaisedBy) (defBody sRaisedBy) (defScope sRaisedBy) .none kV15 dc15 pm15 an15 cd15 ct15), sl15⟩) (c15 : PySem.W.codeIn K cd15 "raised_by" = true) (k15 : PySem.W.keepIn K (.ref f15) = true)
    {f16 : Addr} {oc16 : Value} {od16 an16 : Option Addr} {sl16 : Array (Option Value)} {kV16 dc16 pm16 cd16 ct16 : Value}
    (a16 : PySem.W.nsIn K mainGlobals "first_fall" = some (some (.ref f16))) (l16 : K.lookup f16 = some ⟨oc16, od16, .func (PySem.W.fnOf "first_fall" "first_fall" (defArgs sFirstFall) (defBody sFirstFall) (defScope sFirstFall) .none kV16 dc16 pm16 an16 cd16 ct16), sl16⟩) (c16 : PySem.W.codeIn K cd16 "first_fall" = true) (k16 : PySem.W.keepIn K (.ref f16) = true)
    {f17 : Addr} {oc17 : Value} {od17 an17 : Option Addr} {sl17 : Array (Option Value)} {kV17 dc17 pm17 cd17 ct17 : Value}
    (a17 : PySem.W.nsIn K mainGlobals "letters_in" = some (some (.ref f17))) (l17 : K.lookup f17 = some ⟨oc17, od17, .func (PySem.W.fnOf "letters_in" "letters_in" (defArgs sLettersIn) (defBody sLettersIn) (defScope sLettersIn) .none kV17 dc17 pm17 an17 cd17 ct17), sl17⟩) (c17 : PySem.W.codeIn K cd17 "letters_in" = true) (k17 : PySem.W.keepIn K (.ref f17) = true)
    {f18 : Addr} {oc18 : Value} {od18 an18 : Option Addr} {sl18 : Array (Option Value)} {kV18 dc18 pm18 cd18 ct18 : Value}
    (a18 : PySem.W.nsIn K mainGlobals "told_greedy" = some (some (.ref f18))) (l18 : K.lookup f18 = some ⟨oc18, od18, .func (PySem.W.fnOf "told_greedy" "told_greedy" (defArgs sToldGreedy) (defBody sToldGreedy) (defScope sToldGreedy) .none kV18 dc18 pm18 an18 cd18 ct18), sl18⟩) (c18 : PySem.W.codeIn K cd18 "told_greedy" = true) (k18 : PySem.W.keepIn K (.ref f18) = true)
    {f19 : Addr} {oc19 : Value} {od19 an19 : Option Addr} {sl19 : Array (Option Value)} {kV19 dc19 pm19 cd19 ct19 : Value}
    (a19 : PySem.W.nsIn K mainGlobals "is_word" = some (some (.ref f19))) (l19 : K.lookup f19 = some ⟨oc19, od19, .func (PySem.W.fnOf "is_word" "is_word" (defArgs sIsWord) (defBody sIsWord) (defScope sIsWord) .none kV19 dc19 pm19 an19 cd19 ct19), sl19⟩) (c19 : PySem.W.codeIn K cd19 "is_word" = true) (k19 : PySem.W.keepIn K (.ref f19) = true)
    {f20 : Addr} {oc20 : Value} {od20 an20 : Option Addr} {sl20 : Array (Option Value)} {kV20 dc20 pm20 cd20 ct20 : Value}
    (a20 : PySem.W.nsIn K mainGlobals "check_word" = some (some (.ref f20))) (l20 : K.lookup f20 = some ⟨oc20, od20, .func (PySem.W.fnOf "check_word" "check_word" (defArgs sCheckWord) (defBody sCheckWord) (defScope sCheckWord) .none kV20 dc20 pm20 an20 cd20 ct20), sl20⟩) (c20 : PySem.W.codeIn K cd20 "check_word" = true) (k20 : PySem.W.keepIn K (.ref f20) = true)
    {f21 : Addr} {oc21 : Value} {od21 an21 : Option Addr} {sl21 : Array (Option Value)} {kV21 dc21 pm21 cd21 ct21 : Value}
    (a21 : PySem.W.nsIn K mainGlobals "plain_values" = some (some (.ref f21))) (l21 : K.lookup f21 = some ⟨oc21, od21, .func (PySem.W.fnOf "plain_values" "plain_values" (defArgs sPlainValues) (defBody sPlainValues) (defScope sPlainValues) .none kV21 dc21 pm21 an21 cd21 ct21), sl21⟩) (c21 : PySem.W.codeIn K cd21 "plain_values" = true) (k21 : PySem.W.keepIn K (.ref f21) = true)
    {f22 : Addr} {oc22 : Value} {od22 an22 : Option Addr} {sl22 : Array (Option Value)} {kV22 dc22 pm22 cd22 ct22 : Value}
    (a22 : PySem.W.nsIn K mainGlobals "made_of" = some (some (.ref f22))) (l22 : K.lookup f22 = some ⟨oc22, od22, .func (PySem.W.fnOf "made_of" "made_of" (defArgs sMadeOf) (defBody sMadeOf) (defScope sMadeOf) .none kV22 dc22 pm22 an22 cd22 ct22), sl22⟩) (c22 : PySem.W.codeIn K cd22 "made_of" = true) (k22 : PySem.W.keepIn K (.ref f22) = true)
    {f23 : Addr} {oc23 : Value} {od23 an23 : Option Addr} {sl23 : Array (Option Value)} {kV23 dc23 pm23 cd23 ct23 : Value}
    (a23 : PySem.W.nsIn K mainGlobals "greedily_made" = some (some (.ref f23))) (l23 : K.lookup f23 = some ⟨oc23, od23, .func (PySem.W.fnOf "greedily_made" "greedily_made" (defArgs sGreedilyMade) (defBody sGreedilyMade) (defScope sGreedilyMade) .none kV23 dc23 pm23 an23 cd23 ct23), sl23⟩) (c23 : PySem.W.codeIn K cd23 "greedily_made" = true) (k23 : PySem.W.keepIn K (.ref f23) = true)
    {f24 : Addr} {oc24 : Value} {od24 an24 : Option Addr} {sl24 : Array (Option Value)} {kV24 dc24 pm24 cd24 ct24 : Value}
    (a24 : PySem.W.nsIn K mainGlobals "word_of" = some (some (.ref f24))) (l24 : K.lookup f24 = some ⟨oc24, od24, .func (PySem.W.fnOf "word_of" "word_of" (defArgs sWordOf) (defBody sWordOf) (defScope sWordOf) .none kV24 dc24 pm24 an24 cd24 ct24), sl24⟩) (c24 : PySem.W.codeIn K cd24 "word_of" = true) (k24 : PySem.W.keepIn K (.ref f24) = true)
    {f25 : Addr} {oc25 : Value} {od25 an25 : Option Addr} {sl25 : Array (Option Value)} {kV25 dc25 pm25 cd25 ct25 : Value}
    (a25 : PySem.W.nsIn K mainGlobals "is_word_of" = some (some (.ref f25))) (l25 : K.lookup f25 = some ⟨oc25, od25, .func (PySem.W.fnOf "is_word_of" "is_word_of" (defArgs sIsWordOf) (defBody sIsWordOf) (defScope sIsWordOf) .none kV25 dc25 pm25 an25 cd25 ct25), sl25⟩) (c25 : PySem.W.codeIn K cd25 "is_word_of" = true) (k25 : PySem.W.keepIn K (.ref f25) = true)
    {f26 : Addr} {oc26 : Value} {od26 an26 : Option Addr} {sl26 : Array (Option Value)} {kV26 dc26 pm26 cd26 ct26 : Value}
    (a26 : PySem.W.nsIn K mainGlobals "_law_dice" = some (some (.ref f26))) (l26 : K.lookup f26 = some ⟨oc26, od26, .func (PySem.W.fnOf "_law_dice" "_law_dice" (defArgs sLDice) (defBody sLDice) (defScope sLDice) .none kV26 dc26 pm26 an26 cd26 ct26), sl26⟩) (c26 : PySem.W.codeIn K cd26 "_law_dice" = true) (k26 : PySem.W.keepIn K (.ref f26) = true)
    {f27 : Addr} {oc27 : Value} {od27 an27 : Option Addr} {sl27 : Array (Option Value)} {kV27 dc27 pm27 cd27 ct27 : Value}
    (a27 : PySem.W.nsIn K mainGlobals "_law_roll" = some (some (.ref f27))) (l27 : K.lookup f27 = some ⟨oc27, od27, .func (PySem.W.fnOf "_law_roll" "_law_roll" (defArgs sLRoll) (defBody sLRoll) (defScope sLRoll) .none kV27 dc27 pm27 an27 cd27 ct27), sl27⟩) (c27 : PySem.W.codeIn K cd27 "_law_roll" = true) (k27 : PySem.W.keepIn K (.ref f27) = true)
    {f28 : Addr} {oc28 : Value} {od28 an28 : Option Addr} {sl28 : Array (Option Value)} {kV28 dc28 pm28 cd28 ct28 : Value}
    (a28 : PySem.W.nsIn K mainGlobals "_law_one_of" = some (some (.ref f28))) (l28 : K.lookup f28 = some ⟨oc28, od28, .func (PySem.W.fnOf "_law_one_of" "_law_one_of" (defArgs sLOneOf) (defBody sLOneOf) (defScope sLOneOf) .none kV28 dc28 pm28 an28 cd28 ct28), sl28⟩) (c28 : PySem.W.codeIn K cd28 "_law_one_of" = true) (k28 : PySem.W.keepIn K (.ref f28) = true)
    {f29 : Addr} {oc29 : Value} {od29 an29 : Option Addr} {sl29 : Array (Option Value)} {kV29 dc29 pm29 cd29 ct29 : Value}
    (a29 : PySem.W.nsIn K mainGlobals "_law_at" = some (some (.ref f29))) (l29 : K.lookup f29 = some ⟨oc29, od29, .func (PySem.W.fnOf "_law_at" "_law_at" (defArgs sLAt) (defBody sLAt) (defScope sLAt) .none kV29 dc29 pm29 an29 cd29 ct29), sl29⟩) (c29 : PySem.W.codeIn K cd29 "_law_at" = true) (k29 : PySem.W.keepIn K (.ref f29) = true)
    {f30 : Addr} {oc30 : Value} {od30 an30 : Option Addr} {sl30 : Array (Option Value)} {kV30 dc30 pm30 cd30 ct30 : Value}
    (a30 : PySem.W.nsIn K mainGlobals "_law_after" = some (some (.ref f30))) (l30 : K.lookup f30 = some ⟨oc30, od30, .func (PySem.W.fnOf "_law_after" "_law_after" (defArgs sLAfter) (defBody sLAfter) (defScope sLAfter) .none kV30 dc30 pm30 an30 cd30 ct30), sl30⟩) (c30 : PySem.W.codeIn K cd30 "_law_after" = true) (k30 : PySem.W.keepIn K (.ref f30) = true)
    {f31 : Addr} {oc31 : Value} {od31 an31 : Option Addr} {sl31 : Array (Option Value)} {kV31 dc31 pm31 cd31 ct31 : Value}
    (a31 : PySem.W.nsIn K mainGlobals "_law_falls" = some (some (.ref f31))) (l31 : K.lookup f31 = some ⟨oc31, od31, .func (PySem.W.fnOf "_law_falls" "_law_falls" (defArgs sLFalls) (defBody sLFalls) (defScope sLFalls) .none kV31 dc31 pm31 an31 cd31 ct31), sl31⟩) (c31 : PySem.W.codeIn K cd31 "_law_falls" = true) (k31 : PySem.W.keepIn K (.ref f31) = true)
    {f32 : Addr} {oc32 : Value} {od32 an32 : Option Addr} {sl32 : Array (Option Value)} {kV32 dc32 pm32 cd32 ct32 : Value}
    (a32 : PySem.W.nsIn K mainGlobals "_law_greedy_letter" = some (some (.ref f32))) (l32 : K.lookup f32 = some ⟨oc32, od32, .func (PySem.W.fnOf "_law_greedy_letter" "_law_greedy_letter" (defArgs sLGreedyLetter) (defBody sLGreedyLetter) (defScope sLGreedyLetter) .none kV32 dc32 pm32 an32 cd32 ct32), sl32⟩) (c32 : PySem.W.codeIn K cd32 "_law_greedy_letter" = true) (k32 : PySem.W.keepIn K (.ref f32) = true)
    {f33 : Addr} {oc33 : Value} {od33 an33 : Option Addr} {sl33 : Array (Option Value)} {kV33 dc33 pm33 cd33 ct33 : Value}
    (a33 : PySem.W.nsIn K mainGlobals "_law_plainly_made" = some (some (.ref f33))) (l33 : K.lookup f33 = some ⟨oc33, od33, .func (PySem.W.fnOf "_law_plainly_made" "_law_plainly_made" (defArgs sLPlainlyMade) (defBody sLPlainlyMade) (defScope sLPlainlyMade) .none kV33 dc33 pm33 an33 cd33 ct33), sl33⟩) (c33 : PySem.W.codeIn K cd33 "_law_plainly_made" = true) (k33 : PySem.W.keepIn K (.ref f33) = true)
    {f34 : Addr} {oc34 : Value} {od34 an34 : Option Addr} {sl34 : Array (Option Value)} {kV34 dc34 pm34 cd34 ct34 : Value}
    (a34 : PySem.W.nsIn K mainGlobals "_law_greedily" = some (some (.ref f34))) (l34 : K.lookup f34 = some ⟨oc34, od34, .func (PySem.W.fnOf "_law_greedily" "_law_greedily" (defArgs sLGreedily) (defBody sLGreedily) (defScope sLGreedily) .none kV34 dc34 pm34 an34 cd34 ct34), sl34⟩) (c34 : PySem.W.codeIn K cd34 "_law_greedily" = true) (k34 : PySem.W.keepIn K (.ref f34) = true)
    {f35 : Addr} {oc35 : Value} {od35 an35 : Option Addr} {sl35 : Array (Option Value)} {kV35 dc35 pm35 cd35 ct35 : Value}
    (a35 : PySem.W.nsIn K mainGlobals "_law_is_word" = some (some (.ref f35))) (l35 : K.lookup f35 = some ⟨oc35, od35, .func (PySem.W.fnOf "_law_is_word" "_law_is_word" (defArgs sLIsWord) (defBody sLIsWord) (defScope sLIsWord) .none kV35 dc35 pm35 an35 cd35 ct35), sl35⟩) (c35 : PySem.W.codeIn K cd35 "_law_is_word" = true) (k35 : PySem.W.keepIn K (.ref f35) = true)
    {f36 : Addr} {oc36 : Value} {od36 an36 : Option Addr} {sl36 : Array (Option Value)} {kV36 dc36 pm36 cd36 ct36 : Value}
    (a36 : PySem.W.nsIn K mainGlobals "_law_spoilt" = some (some (.ref f36))) (l36 : K.lookup f36 = some ⟨oc36, od36, .func (PySem.W.fnOf "_law_spoilt" "_law_spoilt" (defArgs sLSpoilt) (defBody sLSpoilt) (defScope sLSpoilt) .none kV36 dc36 pm36 an36 cd36 ct36), sl36⟩) (c36 : PySem.W.codeIn K cd36 "_law_spoilt" = true) (k36 : PySem.W.keepIn K (.ref f36) = true)
    {f37 : Addr} {oc37 : Value} {od37 an37 : Option Addr} {sl37 : Array (Option Value)} {kV37 dc37 pm37 cd37 ct37 : Value}
    (a37 : PySem.W.nsIn K mainGlobals "_law_right" = some (some (.ref f37))) (l37 : K.lookup f37 = some ⟨oc37, od37, .func (PySem.W.fnOf "_law_right" "_law_right" (defArgs sLRight) (defBody sLRight) (defScope sLRight) .none kV37 dc37 pm37 an37 cd37 ct37), sl37⟩) (c37 : PySem.W.codeIn K cd37 "_law_right" = true) (k37 : PySem.W.keepIn K (.ref f37) = true)
    {f38 : Addr} {oc38 : Value} {od38 an38 : Option Addr} {sl38 : Array (Option Value)} {kV38 dc38 pm38 cd38 ct38 : Value}
    (a38 : PySem.W.nsIn K mainGlobals "law" = some (some (.ref f38))) (l38 : K.lookup f38 = some ⟨oc38, od38, .func (PySem.W.fnOf "law" "law" (defArgs sLaw) (defBody sLaw) (defScope sLaw) .none kV38 dc38 pm38 an38 cd38 ct38), sl38⟩) (c38 : PySem.W.codeIn K cd38 "law" = true) (k38 : PySem.W.keepIn K (.ref f38) = true)
    {RC : Addr} (R_a : PySem.W.nsIn K mainGlobals "Round" = some (some (.ref RC))) (R_pg : PySem.W.plainGet K RC Str.empty = true) (R_hd : PySem.W.hasDictIn K RC = true) (R_po : PySem.W.plainOver K RC = true) (R_sa : PySem.W.findIn K (.ref RC) "__setattr__" = some (some (.builtin "object.__setattr__"))) (R_mk : PySem.W.makesIn K RC = true) (R_kC : PySem.W.keepIn K (.ref RC) = true) (R_n0 : PySem.W.findIn K (.ref RC) "_values" = some none) (R_n1 : PySem.W.findIn K (.ref RC) "_falls" = some none)
    {Rf0 : Addr} {Roc0 : Value} {Rod0 Ran0 : Option Addr} {Rsl0 : Array (Option Value)} {RkV0 Rdc0 Rpm0 Rcd0 Rct0 : Value} (R_m0 : PySem.W.findIn K (.ref RC) "__init__" = some (some (.ref Rf0))) (R_i0 : PySem.W.isFn K (.ref Rf0) = true) (R_l0 : K.lookup Rf0 = some ⟨Roc0, Rod0, .func (PySem.W.fnOf "__init__" "Round.__init__" (defArgs sRInit) (defBody sRInit) (defScope sRInit) .none RkV0 Rdc0 Rpm0 Ran0 Rcd0 Rct0), Rsl0⟩) (R_c0 : PySem.W.codeIn K Rcd0 "Round.__init__" = true) (R_k0 : PySem.W.keepIn K (.ref Rf0) = true)
    {Rf1 Rp1 : Addr} {Roc1 : Value} {Rod1 Ran1 : Option Addr} {Rsl1 : Array (Option Value)} {RkV1 Rdc1 Rpm1 Rcd1 Rct1 : Value} {Rr1 : List Value} (R_pa1 : PySem.W.findIn K (.ref RC) "told_values" = some (some (.ref Rp1))) (R_pg1 : PySem.W.specialIn K (.ref Rp1) "__get__" = some (some (.builtin "property.__get__"))) (R_pt1 : PySem.W.takesIn K (.ref Rp1) = some true) (R_pr1 : PySem.W.recIn K Rp1 "property" = some (.ref Rf1 :: Rr1)) (R_l1 : K.lookup Rf1 = some ⟨Roc1, Rod1, .func (PySem.W.fnOf "told_values" "Round.told_values" (defArgs sRTold) (defBody sRTold) (defScope sRTold) .none RkV1 Rdc1 Rpm1 Ran1 Rcd1 Rct1), Rsl1⟩) (R_c1 : PySem.W.codeIn K Rcd1 "Round.told_values" = true) (R_k1 : PySem.W.keepIn K (.ref Rf1) = true)
    {Rf2 Rp2 : Addr} {Roc2 : Value} {Rod2 Ran2 : Option Addr} {Rsl2 : Array (Option Value)} {RkV2 Rdc2 Rpm2 Rcd2 Rct2 : Value} {Rr2 : List Value} (R_pa2 : PySem.W.findIn K (.ref RC) "shift" = some (some (.ref Rp2))) (R_pg2 : PySem.W.specialIn K (.ref Rp2) "__get__" = some (some (.builtin "property.__get__"))) (R_pt2 : PySem.W.takesIn K (.ref Rp2) = some true) (R_pr2 : PySem.W.recIn K Rp2 "property" = some (.ref Rf2 :: Rr2)) (R_l2 : K.lookup Rf2 = some ⟨Roc2, Rod2, .func (PySem.W.fnOf "shift" "Round.shift" (defArgs sRShift) (defBody sRShift) (defScope sRShift) .none RkV2 Rdc2 Rpm2 Ran2 Rcd2 Rct2), Rsl2⟩) (R_c2 : PySem.W.codeIn K Rcd2 "Round.shift" = true) (R_k2 : PySem.W.keepIn K (.ref Rf2) = true)
    {Rf3 Rp3 : Addr} {Roc3 : Value} {Rod3 Ran3 : Option Addr} {Rsl3 : Array (Option Value)} {RkV3 Rdc3 Rpm3 Rcd3 Rct3 : Value} {Rr3 : List Value} (R_pa3 : PySem.W.findIn K (.ref RC) "falls" = some (some (.ref Rp3))) (R_pg3 : PySem.W.specialIn K (.ref Rp3) "__get__" = some (some (.builtin "property.__get__"))) (R_pt3 : PySem.W.takesIn K (.ref Rp3) = some true) (R_pr3 : PySem.W.recIn K Rp3 "property" = some (.ref Rf3 :: Rr3)) (R_l3 : K.lookup Rf3 = some ⟨Roc3, Rod3, .func (PySem.W.fnOf "falls" "Round.falls" (defArgs sRFalls) (defBody sRFalls) (defScope sRFalls) .none RkV3 Rdc3 Rpm3 Ran3 Rcd3 Rct3), Rsl3⟩) (R_c3 : PySem.W.codeIn K Rcd3 "Round.falls" = true) (R_k3 : PySem.W.keepIn K (.ref Rf3) = true)
    {Rf4 : Addr} {Roc4 : Value} {Rod4 Ran4 : Option Addr} {Rsl4 : Array (Option Value)} {RkV4 Rdc4 Rpm4 Rcd4 Rct4 : Value} (R_m4 : PySem.W.findIn K (.ref RC) "__len__" = some (some (.ref Rf4))) (R_i4 : PySem.W.isFn K (.ref Rf4) = true) (R_l4 : K.lookup Rf4 = some ⟨Roc4, Rod4, .func (PySem.W.fnOf "__len__" "Round.__len__" (defArgs sRLen) (defBody sRLen) (defScope sRLen) .none RkV4 Rdc4 Rpm4 Ran4 Rcd4 Rct4), Rsl4⟩) (R_c4 : PySem.W.codeIn K Rcd4 "Round.__len__" = true) (R_k4 : PySem.W.keepIn K (.ref Rf4) = true) (X_sf : PySem.W.selfFirst K RC = true) (X_ne : PySem.W.findIn K (.ref RC) "__ne__" = some (some (.builtin "object.__ne__"))) (X_ca : PySem.W.findIn K (.ref RC) "__class__" = some (some (.builtin "object.__class__"))) (X_cn : PySem.W.specialIn K (.builtin "object.__class__") "__get__" = some (some (.builtin "getset_descriptor.__get__"))) (X_ct : PySem.W.takesIn K (.builtin "object.__class__") = some true) (X_cm : PySem.W.mroIn K RC (.type "object") = some true) (X_ty : PySem.W.typeIn K (.ref RC) = some (.type "type")) (X_nN : PySem.W.notFirst K RC (.type "NoneType") = true) (X_nI : PySem.W.notFirst K RC (.type "int") = true) (X_nS : PySem.W.notFirst K RC (.type "str") = true) (X_nL : PySem.W.notFirst K RC (.type "list") = true) (X_nT : PySem.W.notFirst K RC (.type "tuple") = true) :
    ∃ fd : FuncData, (∀ (s : Shared) (v : Value), BindsTo s fd ⟨[v], []⟩ [("_law_script", v)]) ∧ ∀ base : Heap, K.In base → base.Ns mainGlobals mg → FnOk P w K mg base CX0 9 fa fd ["_law_script"] (spLaw K) := by
  have e := hfa.symm.trans (PySem.W.mg_of X G a38)
  cases e
  have RF0 := fun_mk (st := sRInit) R_l0 R_c0 R_k0
  have Rb0 := RF0.binds (ps := ["self", "values"]) fun _ _ _ _ _ _ us hl => match us, hl with | [_, _], _ => rfl
  have RF1 := fun_mk (st := sRTold) R_l1 R_c1 R_k1
  have Rb1 := RF1.binds (ps := ["self"]) fun _ _ _ _ _ _ us hl => match us, hl with | [_], _ => rfl
  have RF2 := fun_mk (st := sRShift) R_l2 R_c2 R_k2
  have Rb2 := RF2.binds (ps := ["self"]) fun _ _ _ _ _ _ us hl => match us, hl with | [_], _ => rfl
  have RF3 := fun_mk (st := sRFalls) R_l3 R_c3 R_k3
  have Rb3 := RF3.binds (ps := ["self"]) fun _ _ _ _ _ _ us hl => match us, hl with | [_], _ => rfl
  have RF4 := fun_mk (st := sRLen) R_l4 R_c4 R_k4
  have Rb4 := RF4.binds (ps := ["self"]) fun _ _ _ _ _ _ us hl => match us, hl with | [_], _ => rfl
  have R : RTxt K mg RC := ⟨⟨R_pg, R_hd, R_po, R_sa⟩, R_n0, R_n1, PySem.W.mg_of X G R_a, ⟨_, _, ⟨R_mk, R_m0, R_i0, R_kC⟩, RF0, Rb0⟩, ⟨_, _, _, ⟨R_pa1, R_pg1, R_pt1, ⟨_, R_pr1⟩⟩, RF1, Rb1⟩, ⟨_, _, _, ⟨R_pa2, R_pg2, R_pt2, ⟨_, R_pr2⟩⟩, RF2, Rb2⟩, ⟨_, _, _, ⟨R_pa3, R_pg3, R_pt3, ⟨_, R_pr3⟩⟩, RF3, Rb3⟩, ⟨_, _, ⟨R_m4, R_i4, R_k4⟩, RF4, Rb4⟩, ⟨X_sf, X_ne, X_ca, X_cn, X_ct, X_cm, kit_no R_hd X_ty X_nN, kit_no R_hd X_ty X_nI, kit_no R_hd X_ty X_nS, kit_no R_hd X_ty X_nL, kit_no R_hd X_ty X_nT, X_nN, X_nI, X_nS, X_nL, X_nT⟩⟩
  have T : Txt K mg :=
    { z_abs := PySem.W.mg_none_of X G z_abs, z_all := PySem.W.mg_none_of X G z_all, z_bool := PySem.W.mg_none_of X G z_bool, z_int := PySem.W.mg_none_of X G z_int, z_isinstance := PySem.W.mg_none_of X G z_isinstance, z_len := PySem.W.mg_none_of X G z_len, z_list := PySem.W.mg_none_of X G z_list, z_max := PySem.W.mg_none_of X G z_max, z_min := PySem.W.mg_none_of X G z_min, z_range := PySem.W.mg_none_of X G z_range, z_sorted := PySem.W.mg_none_of X G z_sorted, z_sum := PySem.W.mg_none_of X G z_sum, z_tuple := PySem.W.mg_none_of X G z_tuple, v_BOUND := vBOUND, v_DIGITS := ⟨tDIGITS, PySem.W.mg_of X G gDIGITS⟩, v_MAX_ROUND := ⟨tMAX_ROUND, PySem.W.mg_of X G gMAX_ROUND⟩, v_MAX_FALLS := ⟨tMAX_FALLS, PySem.W.mg_of X G gMAX_FALLS⟩, v_MAX_WORD := ⟨tMAX_WORD, PySem.W.mg_of X G gMAX_WORD⟩,
      d_is_integer := mk_def (ps := ["value"]) X G a0 l0 c0 k0 fun _ _ _ _ _ _ us hl => match us, hl with | [_], _ => rfl,
      d_is_between := mk_def (ps := ["value", "low", "high"]) X G a1 l1 c1 k1 fun _ _ _ _ _ _ us hl => match us, hl with | [_, _, _], _ => rfl,
      d_is_pair := mk_def (ps := ["value"]) X G a2 l2 c2 k2 fun _ _ _ _ _ _ us hl => match us, hl with | [_], _ => rfl,
      d_is_row := mk_def (ps := ["value", "many", "low", "high"]) X G a3 l3 c3 k3 fun _ _ _ _ _ _ us hl => match us, hl with | [_, _, _, _], _ => rfl,
      d_check_between := mk_def (ps := ["value", "low", "high"]) X G a4 l4 c4 k4 fun _ _ _ _ _ _ us hl => match us, hl with | [_, _, _], _ => rfl,
      d_check_digits := mk_def (ps := ["numbers"]) X G a5 l5 c5 k5 fun _ _ _ _ _ _ us hl => match us, hl with | [_], _ => rfl,
      d_is_round := mk_def (ps := ["value"]) X G a6 l6 c6 k6 fun _ _ _ _ _ _ us hl => match us, hl with | [_], _ => rfl,
      d_value_in := mk_def (ps := ["values", "i"]) X G a7 l7 c7 k7 fun _ _ _ _ _ _ us hl => match us, hl with | [_, _], _ => rfl,
      d_shift_in := mk_def (ps := ["values"]) X G a8 l8 c8 k8 fun _ _ _ _ _ _ us hl => match us, hl with | [_], _ => rfl,
      d_falls_in := mk_def (ps := ["values"]) X G a9 l9 c9 k9 fun _ _ _ _ _ _ us hl => match us, hl with | [_], _ => rfl,
      d_told_round := mk_def (ps := ["values"]) X G a10 l10 c10 k10 fun _ _ _ _ _ _ us hl => match us, hl with | [_], _ => rfl,
      d_check_map := mk_def (ps := ["p"]) X G a11 l11 c11 k11 fun _ _ _ _ _ _ us hl => match us, hl with | [_], _ => rfl,
      d_exchanged := mk_def (ps := ["values", "c"]) X G a12 l12 c12 k12 fun _ _ _ _ _ _ us hl => match us, hl with | [_, _], _ => rfl,
      d_check_falls := mk_def (ps := ["p"]) X G a13 l13 c13 k13 fun _ _ _ _ _ _ us hl => match us, hl with | [_], _ => rfl,
      d_is_rising := mk_def (ps := ["values", "c"]) X G a14 l14 c14 k14 fun _ _ _ _ _ _ us hl => match us, hl with | [_, _], _ => rfl,
      d_raised_by := mk_def (ps := ["values", "letters"]) X G a15 l15 c15 k15 fun _ _ _ _ _ _ us hl => match us, hl with | [_, _], _ => rfl,
      d_first_fall := mk_def (ps := ["values"]) X G a16 l16 c16 k16 fun _ _ _ _ _ _ us hl => match us, hl with | [_], _ => rfl,
      d_letters_in := mk_def (ps := ["values"]) X G a17 l17 c17 k17 fun _ _ _ _ _ _ us hl => match us, hl with | [_], _ => rfl,
      d_told_greedy := mk_def (ps := ["values"]) X G a18 l18 c18 k18 fun _ _ _ _ _ _ us hl => match us, hl with | [_], _ => rfl,
      d_is_word := mk_def (ps := ["m", "value"]) X G a19 l19 c19 k19 fun _ _ _ _ _ _ us hl => match us, hl with | [_, _], _ => rfl,
      d_check_word := mk_def (ps := ["m", "word"]) X G a20 l20 c20 k20 fun _ _ _ _ _ _ us hl => match us, hl with | [_, _], _ => rfl,
      d_plain_values := mk_def (ps := ["m", "word"]) X G a21 l21 c21 k21 fun _ _ _ _ _ _ us hl => match us, hl with | [_, _], _ => rfl,
      d_made_of := mk_def (ps := ["m", "word"]) X G a22 l22 c22 k22 fun _ _ _ _ _ _ us hl => match us, hl with | [_, _], _ => rfl,
      d_greedily_made := mk_def (ps := ["m", "word"]) X G a23 l23 c23 k23 fun _ _ _ _ _ _ us hl => match us, hl with | [_, _], _ => rfl,
      d_word_of := mk_def (ps := ["p"]) X G a24 l24 c24 k24 fun _ _ _ _ _ _ us hl => match us, hl with | [_], _ => rfl,
      d_is_word_of := mk_def (ps := ["p", "value"]) X G a25 l25 c25 k25 fun _ _ _ _ _ _ us hl => match us, hl with | [_, _], _ => rfl,
      d_l_dice := mk_def (ps := ["_law_script", "_law_at_here"]) X G a26 l26 c26 k26 fun _ _ _ _ _ _ us hl => match us, hl with | [_, _], _ => rfl,
      d_l_roll := mk_def (ps := ["_law_dice_here", "_law_total"]) X G a27 l27 c27 k27 fun _ _ _ _ _ _ us hl => match us, hl with | [_, _], _ => rfl,
      d_l_one_of := mk_def (ps := ["_law_dice_here", "_law_items"]) X G a28 l28 c28 k28 fun _ _ _ _ _ _ us hl => match us, hl with | [_, _], _ => rfl,
      d_l_at := mk_def (ps := ["_law_values", "_law_i"]) X G a29 l29 c29 k29 fun _ _ _ _ _ _ us hl => match us, hl with | [_, _], _ => rfl,
      d_l_after := mk_def (ps := ["_law_values", "_law_c"]) X G a30 l30 c30 k30 fun _ _ _ _ _ _ us hl => match us, hl with | [_, _], _ => rfl,
      d_l_falls := mk_def (ps := ["_law_values"]) X G a31 l31 c31 k31 fun _ _ _ _ _ _ us hl => match us, hl with | [_], _ => rfl,
      d_l_greedy_letter := mk_def (ps := ["_law_values", "_law_c"]) X G a32 l32 c32 k32 fun _ _ _ _ _ _ us hl => match us, hl with | [_, _], _ => rfl,
      d_l_plainly_made := mk_def (ps := ["_law_m", "_law_word"]) X G a33 l33 c33 k33 fun _ _ _ _ _ _ us hl => match us, hl with | [_, _], _ => rfl,
      d_l_greedily := mk_def (ps := ["_law_m", "_law_word"]) X G a34 l34 c34 k34 fun _ _ _ _ _ _ us hl => match us, hl with | [_, _], _ => rfl,
      d_l_is_word := mk_def (ps := ["_law_m", "_law_value"]) X G a35 l35 c35 k35 fun _ _ _ _ _ _ us hl => match us, hl with | [_, _], _ => rfl,
      d_l_spoilt := mk_def (ps := ["_law_dice_here", "_law_m", "_law_word"]) X G a36 l36 c36 k36 fun _ _ _ _ _ _ us hl => match us, hl with | [_, _, _], _ => rfl,
      d_l_right := mk_def (ps := ["_law_dice_here"]) X G a37 l37 c37 k37 fun _ _ _ _ _ _ us hl => match us, hl with | [_], _ => rfl }
  have F := fun_mk (st := sLaw) l38 c38 k38
  exact ⟨PySem.W.fnOf "law" "law" (defArgs sLaw) (defBody sLaw) (defScope sLaw) .none kV38 dc38 pm38 an38 cd38 ct38, fun s v => .of_eq rfl, fun base _ _ => ok_law T R F⟩
/-- the end of the law's row, what the loose names hold told -/
theorem walk_x {l : PySem.W.OpenLaw} {k : Nat} {q : Program} {loose : List Str} {lv : List (Str × PySem.W.WData)} {YP : World → Heap → Prop} {d : DefRec} {K : Params → PySem.W.Frag}
    (hn : l.most = some 63) (hdf : d.params.defaults = []) (hr : Room k callerA) (hY : ∀ (w : World) (h : Heap), YP w h → (K w.params).In h)
    (F : ∀ (w : World) (mg : Str → Option Value) (fa : Addr) (h : Heap), (K w.params).In h → h.Ns mainGlobals mg → PySem.W.XL q lv mg h → mg d.name = some (.ref fa) →
      ∃ fd : FuncData, (∀ (s : Shared) (u : Value), BindsTo s fd ⟨[u], []⟩ [("_law_script", u)]) ∧
        ∀ base : Heap, (K w.params).In base → base.Ns mainGlobals mg → FnOk l.prog w (K w.params) mg base CX0 k fa fd ["_law_script"] (spLaw (K w.params))) :
    PySem.W.WalkO q loose (PySem.W.XL q lv) YP l.row.toRowW d [] (fun f vs => PySem.call f vs) := by
  refine Att.attach_call hn hdf fun w s₀ s₁ mg mb fa o pm cd doc a vs ns G Y ho hd hcd hmg hobj hints hlen hg => ?_
  obtain ⟨fd, hb, hF⟩ := F w mg fa _ (hY w _ Y) G.T.g G.X hmg
  exact law_call (hY w _ Y) G.T.g G.T.b G.T.builtins G.T.nolimit hg hobj hints (Nat.le_trans hlen (by decide)) hr hF hb (fun H _ hS => ⟨a, ns, rfl, hS, hlen, fun _ => rfl⟩) fun H e s' z => z
end K1

open PySem PySem.W PyProof.Rows
set_option maxHeartbeats 0 in
theorem PySem.Challenge.cw_ringstairs_k38_whole_words_of_round_maps_holds : PySem.Challenge.rw_ringstairs_k38_whole_words_of_round_maps.Holds := by
  w_on; o_law; k_head; (case hw => w_witness2)
  k_fill
  refine K1.walk_x (k := 9) rfl rfl ⟨rfl, by decide, by decide⟩ (fun w h Y => PySem.W.kIn_of Y) ?F
  case F =>
    intro w mg fa h KX G XF hmg
    have vBOUND : ∃ t, mg "BOUND" = some (.int (10 ^ 60) t) := by
      obtain ⟨v, e1, e2⟩ := XF.2.val _ (List.mem_cons_self ..)
      cases e2
      exact ⟨_, e1⟩
    refine' K1.all_mk KX G hmg vBOUND ?gDIGITS ?gMAX_ROUND ?gMAX_FALLS ?gMAX_WORD ?z_abs ?z_all ?z_bool ?z_int ?z_isinstance ?z_len ?z_list ?z_max ?z_min ?z_range ?z_sorted ?z_sum ?z_tuple ?a0 ?l0 ?c0 ?k0 ?a1 ?l1 ?c1 ?k1 ?a2 ?l2 ?c2 ?k2 ?a3 ?l3 ?c3 ?k3 ?a4 ?l4 ?c4 ?k4 ?a5 ?l5 ?c5 ?k5 ?a6 ?l6 ?c6 ?k6 ?a7 ?l7 ?c7 ?k7 ?a8 ?l8 ?c8 ?k8 ?a9 ?l9 ?c9 ?k9 ?a10 ?l10 ?c10 ?k10 ?a11 ?l11 ?c11 ?k11 ?a12 ?l12 ?c12 ?k12 ?a13 ?l13 ?c13 ?k13 ?a14 ?l14 ?c14 ?k14 ?a15 ?l15 ?c15 ?k15 ?a16 ?l16 ?c16 ?k16 ?a17 ?l17 ?c17 ?k17 ?a18 ?l18 ?c18 ?k18 ?a19 ?l19 ?c19 ?k19 ?a20 ?l20 ?c20 ?k20 ?a21 ?l21 ?c21 ?k21 ?a22 ?l22 ?c22 ?k22 ?a23 ?l23 ?c23 ?k23 ?a24 ?l24 ?c24 ?k24 ?a25 ?l25 ?c25 ?k25 ?a26 ?l26 ?c26 ?k26 ?a27 ?l27 ?c27 ?k27 ?a28 ?l28 ?c28 ?k28 ?a29 ?l29 ?c29 ?k29 ?a30 ?l30 ?c30 ?k30 ?a31 ?l31 ?c31 ?k31 ?a32 ?l32 ?c32 ?k32 ?a33 ?l33 ?c33 ?k33 ?a34 ?l34 ?c34 ?k34 ?a35 ?l35 ?c35 ?k35 ?a36 ?l36 ?c36 ?k36 ?a37 ?l37 ?c37 ?k37 ?a38 ?l38 ?c38 ?k38 ?R_a ?R_pg ?R_hd ?R_po ?R_sa ?R_mk ?R_kC ?R_n0 ?R_n1 ?R_m0 ?R_i0 ?R_l0 ?R_c0 ?R_k0 ?R_pa1 ?R_pg1 ?R_pt1 ?R_pr1 ?R_l1 ?R_c1 ?R_k1 ?R_pa2 ?R_pg2 ?R_pt2 ?R_pr2 ?R_l2 ?R_c2 ?R_k2 ?R_pa3 ?R_pg3 ?R_pt3 ?R_pr3 ?R_l3 ?R_c3 ?R_k3 ?R_m4 ?R_i4 ?R_l4 ?R_c4 ?R_k4 ?X_sf ?X_ne ?X_ca ?X_cn ?X_ct ?X_cm ?X_ty ?X_nN ?X_nI ?X_nS ?X_nL ?X_nT
    (case gDIGITS => k_is); (case gMAX_ROUND => k_is); (case gMAX_FALLS => k_is); (case gMAX_WORD => k_is); (case z_abs => k_is); (case z_all => k_is); (case z_bool => k_is); (case z_int => k_is)
    (case z_isinstance => k_is); (case z_len => k_is); (case z_list => k_is); (case z_max => k_is); (case z_min => k_is); (case z_range => k_is); (case z_sorted => k_is); (case z_sum => k_is)
    (case z_tuple => k_is); (case a0 => k_is); (case l0 => k_is); (case c0 => k_is); (case k0 => k_is); (case a1 => k_is); (case l1 => k_is); (case c1 => k_is)
    (case k1 => k_is); (case a2 => k_is); (case l2 => k_is); (case c2 => k_is); (case k2 => k_is); (case a3 => k_is); (case l3 => k_is); (case c3 => k_is)
    (case k3 => k_is); (case a4 => k_is); (case l4 => k_is); (case c4 => k_is); (case k4 => k_is); (case a5 => k_is); (case l5 => k_is); (case c5 => k_is)
    (case k5 => k_is); (case a6 => k_is); (case l6 => k_is); (case c6 => k_is); (case k6 => k_is); (case a7 => k_is); (case l7 => k_is); (case c7 => k_is)
    (case k7 => k_is); (case a8 => k_is); (case l8 => k_is); (case c8 => k_is); (case k8 => k_is); (case a9 => k_is); (case l9 => k_is); (case c9 => k_is)
    (case k9 => k_is); (case a10 => k_is); (case l10 => k_is); (case c10 => k_is); (case k10 => k_is); (case a11 => k_is); (case l11 => k_is); (case c11 => k_is)
    (case k11 => k_is); (case a12 => k_is); (case l12 => k_is); (case c12 => k_is); (case k12 => k_is); (case a13 => k_is); (case l13 => k_is); (case c13 => k_is)
    (case k13 => k_is); (case a14 => k_is); (case l14 => k_is); (case c14 => k_is); (case k14 => k_is); (case a15 => k_is); (case l15 => k_is); (case c15 => k_is)
    (case k15 => k_is); (case a16 => k_is); (case l16 => k_is); (case c16 => k_is); (case k16 => k_is); (case a17 => k_is); (case l17 => k_is); (case c17 => k_is)
    (case k17 => k_is); (case a18 => k_is); (case l18 => k_is); (case c18 => k_is); (case k18 => k_is); (case a19 => k_is); (case l19 => k_is); (case c19 => k_is)
    (case k19 => k_is); (case a20 => k_is); (case l20 => k_is); (case c20 => k_is); (case k20 => k_is); (case a21 => k_is); (case l21 => k_is); (case c21 => k_is)
    (case k21 => k_is); (case a22 => k_is); (case l22 => k_is); (case c22 => k_is); (case k22 => k_is); (case a23 => k_is); (case l23 => k_is); (case c23 => k_is)
    (case k23 => k_is); (case a24 => k_is); (case l24 => k_is); (case c24 => k_is); (case k24 => k_is); (case a25 => k_is); (case l25 => k_is); (case c25 => k_is)
    (case k25 => k_is); (case a26 => k_is); (case l26 => k_is); (case c26 => k_is); (case k26 => k_is); (case a27 => k_is); (case l27 => k_is); (case c27 => k_is)
    (case k27 => k_is); (case a28 => k_is); (case l28 => k_is); (case c28 => k_is); (case k28 => k_is); (case a29 => k_is); (case l29 => k_is); (case c29 => k_is)
    (case k29 => k_is); (case a30 => k_is); (case l30 => k_is); (case c30 => k_is); (case k30 => k_is); (case a31 => k_is); (case l31 => k_is); (case c31 => k_is)
    (case k31 => k_is); (case a32 => k_is); (case l32 => k_is); (case c32 => k_is); (case k32 => k_is); (case a33 => k_is); (case l33 => k_is); (case c33 => k_is)
    (case k33 => k_is); (case a34 => k_is); (case l34 => k_is); (case c34 => k_is); (case k34 => k_is); (case a35 => k_is); (case l35 => k_is); (case c35 => k_is)
    (case k35 => k_is); (case a36 => k_is); (case l36 => k_is); (case c36 => k_is); (case k36 => k_is); (case a37 => k_is); (case l37 => k_is); (case c37 => k_is)
    (case k37 => k_is); (case a38 => k_is); (case l38 => k_is); (case c38 => k_is); (case k38 => k_is)
    (case R_a => k_is)
    (case R_pg => k_is)
    (case R_hd => k_is)
    (case R_po => k_is)
    (case R_sa => k_is)
    (case R_mk => k_is)
    (case R_kC => k_is)
    (case R_n0 => k_is)
    (case R_n1 => k_is)
    (case R_m0 => k_is)
    (case R_i0 => k_is)
    (case R_l0 => k_is)
    (case R_c0 => k_is)
    (case R_k0 => k_is)
    (case R_pa1 => k_is)
    (case R_pg1 => k_is)
    (case R_pt1 => k_is)
    (case R_pr1 => k_is)
    (case R_l1 => k_is)
    (case R_c1 => k_is)
    (case R_k1 => k_is)
    (case R_pa2 => k_is)
    (case R_pg2 => k_is)
    (case R_pt2 => k_is)
    (case R_pr2 => k_is)
    (case R_l2 => k_is)
    (case R_c2 => k_is)
    (case R_k2 => k_is)
    (case R_pa3 => k_is)
    (case R_pg3 => k_is)
    (case R_pt3 => k_is)
    (case R_pr3 => k_is)
    (case R_l3 => k_is)
    (case R_c3 => k_is)
    (case R_k3 => k_is)
    (case R_m4 => k_is)
    (case R_i4 => k_is)
    (case R_l4 => k_is)
    (case R_c4 => k_is)
    (case R_k4 => k_is)
    (case X_sf => k_is)
    (case X_ne => k_is)
    (case X_ca => k_is)
    (case X_cn => k_is)
    (case X_ct => k_is)
    (case X_cm => k_is)
    (case X_ty => k_is)
    (case X_nN => k_is)
    (case X_nI => k_is)
    (case X_nS => k_is)
    (case X_nL => k_is)
    (case X_nT => k_is)

