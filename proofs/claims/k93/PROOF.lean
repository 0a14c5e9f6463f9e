import PyProof.Rows.All
import Wide.All
import OpenK.AllK
import Wide.FinOn
import HandS.ForMost
import KE.GoesEnum
import PySem.Challenge.RW_ringstairs_k93_whole_counts_of_classes_o
import HandS.ForExc
import HandS.Wide
import HandS.SortInts
import HandS.Zip
import HandS.Style
import HandS.Rev
import HandS.TupMul
import HandS.IsInst
import HandS.Evl
import HandS.Gcd
import HandS.RevRange
import HandS.Iter
import HandS.Small
import HandS.Conv
import HandS.DictComp
import KE.KDictSum
import PyProof.Rows.SortLt
import HandS.NamedTupSort
import HandS.SortRule
import KE.KDictDisplayH
import HandS.TupAny
import HandS.Walk
import HandS.SetKeys
import KE.KDictCopyH
import KE.KDictPairs
import KE.KDictOf
import KE.KEqDict
import HandS.More
import KE.KMathG
set_option Elab.async false
set_option linter.all false
set_option maxRecDepth 100000
set_option maxHeartbeats 4000000
/-! plain mathematics for the orders and the diagonals -/
namespace K1M
/-- the step: the i-th place on the way from the right door by the left door -/
theorem dvd_iff {n s i : Nat} (hn : 0 < n) : (i * s) % n = 0 ↔ (n / Nat.gcd n s) ∣ i := by
  have hg : 0 < Nat.gcd n s := Nat.gcd_pos_of_pos_left _ hn
  have hc : Nat.Coprime (n / Nat.gcd n s) (s / Nat.gcd n s) := Nat.coprime_div_gcd_div_gcd hg
  have hn' : n = Nat.gcd n s * (n / Nat.gcd n s) := (Nat.mul_div_cancel' (Nat.gcd_dvd_left n s)).symm
  have hs' : s = Nat.gcd n s * (s / Nat.gcd n s) := (Nat.mul_div_cancel' (Nat.gcd_dvd_right n s)).symm
  constructor
  · intro h
    have d : n ∣ i * s := Nat.dvd_of_mod_eq_zero h
    have d2 : Nat.gcd n s * (n / Nat.gcd n s) ∣ Nat.gcd n s * (i * (s / Nat.gcd n s)) := by
      rw [← hn']
      have e : Nat.gcd n s * (i * (s / Nat.gcd n s)) = i * s := by
        rw [Nat.mul_left_comm, ← hs']
      rw [e]
      exact d
    have d3 := Nat.dvd_of_mul_dvd_mul_left hg d2
    exact hc.dvd_of_dvd_mul_right d3
  · rintro ⟨c, rfl⟩
    apply Nat.mod_eq_zero_of_dvd
    refine ⟨c * (s / Nat.gcd n s), ?_⟩
    have e : n / Nat.gcd n s * c * s = n / Nat.gcd n s * c * (Nat.gcd n s * (s / Nat.gcd n s)) := by rw [← hs']
    rw [e]
    have e2 : n * (c * (s / Nat.gcd n s)) = Nat.gcd n s * (n / Nat.gcd n s) * (c * (s / Nat.gcd n s)) := by rw [← hn']
    rw [e2]
    simp only [Nat.mul_assoc, Nat.mul_left_comm, Nat.mul_comm]
def ord (n s : Nat) : Nat := n / Nat.gcd n s
theorem ord_pos {n s : Nat} (hn : 0 < n) : 0 < ord n s := Nat.div_pos (Nat.gcd_le_left s hn) (Nat.gcd_pos_of_pos_left _ hn)
theorem ord_le {n s : Nat} : ord n s ≤ n := Nat.div_le_self _ _
theorem ord_ge2 {n s : Nat} (h1 : 1 ≤ s) (h2 : s < n) : 2 ≤ ord n s := by
  have hn : 0 < n := by omega
  have hg : 0 < Nat.gcd n s := Nat.gcd_pos_of_pos_left _ hn
  have hle : Nat.gcd n s ≤ s := Nat.le_of_dvd h1 (Nat.gcd_dvd_right n s)
  have hn' : n = Nat.gcd n s * ord n s := (Nat.mul_div_cancel' (Nat.gcd_dvd_left n s)).symm
  rcases Nat.lt_or_ge (ord n s) 2 with h | h
  · exfalso
    have hp := ord_pos (s := s) hn
    have e1 : ord n s = 1 := by omega
    rw [e1, Nat.mul_one] at hn'
    omega
  · exact h
/-- the way: while the next is not 0 and there are fewer than n -/
def stp (n s i : Nat) : Nat := (i * s) % n
theorem stp_zero_iff {n s i : Nat} (hn : 0 < n) : stp n s i = 0 ↔ ord n s ∣ i := dvd_iff hn
theorem stp_mod {n s i : Nat} (hn : 0 < n) : stp n s (i % ord n s) = stp n s i := by
  have h0 : (ord n s * s) % n = 0 := (stp_zero_iff (i := ord n s) hn).mpr (Nat.dvd_refl _)
  have e : i = ord n s * (i / ord n s) + i % ord n s := (Nat.div_add_mod i (ord n s)).symm
  have e2 : i * s = (i / ord n s) * (ord n s * s) + (i % ord n s) * s := by
    have : (ord n s * (i / ord n s) + i % ord n s) * s = (i / ord n s) * (ord n s * s) + (i % ord n s) * s := by
      rw [Nat.add_mul]
      congr 1
      simp only [Nat.mul_assoc, Nat.mul_left_comm, Nat.mul_comm]
    rw [← this, ← e]
  obtain ⟨q, hq⟩ := Nat.dvd_of_mod_eq_zero h0
  unfold stp
  rw [e2, hq, Nat.mul_left_comm, Nat.add_comm, Nat.add_mul_mod_self_left]
/-- the same for integers: the diagonal's place -/
theorem istp {n s : Nat} (hn : 0 < n) (c : Int) : (c * (s : Int)) % (n : Int) = ((stp n s (c % (ord n s : Int)).toNat : Nat) : Int) := by
  have hm : 0 < ord n s := ord_pos hn
  have hm' : (0 : Int) < (ord n s : Int) := by exact_mod_cast hm
  have hr0 : 0 ≤ c % (ord n s : Int) := Int.emod_nonneg _ (by omega)
  have h0 : ((ord n s : Int) * (s : Int)) % (n : Int) = 0 := by
    have h0 : (ord n s * s) % n = 0 := (stp_zero_iff (i := ord n s) hn).mpr (Nat.dvd_refl _)
    have := congrArg (fun x : Nat => (x : Int)) h0
    simpa using this
  have e : c = (ord n s : Int) * (c / (ord n s : Int)) + c % (ord n s : Int) := (Int.mul_ediv_add_emod c (ord n s : Int)).symm
  have e2 : c * (s : Int) = (c / (ord n s : Int)) * ((ord n s : Int) * (s : Int)) + (c % (ord n s : Int)) * (s : Int) := by
    have : ((ord n s : Int) * (c / (ord n s : Int)) + c % (ord n s : Int)) * (s : Int) = (c / (ord n s : Int)) * ((ord n s : Int) * (s : Int)) + (c % (ord n s : Int)) * (s : Int) := by
      rw [Int.add_mul]
      congr 1
      rw [Int.mul_assoc, Int.mul_left_comm]
    rw [← this, ← e]
  rw [e2, Int.add_emod, Int.mul_emod, h0, Int.mul_zero, Int.zero_emod, Int.zero_add, Int.emod_emod]
  unfold stp
  have e3 : c % (ord n s : Int) = (((c % (ord n s : Int)).toNat : Nat) : Int) := (Int.toNat_of_nonneg hr0).symm
  conv => lhs; rw [e3]
  simp
/-- does_let tells just the place -/
theorem lets_iff {n : Nat} {x p : Int} (hn : 0 < n) (h0 : 0 ≤ p) (h1 : p < n) : (x - p) % (n : Int) = 0 ↔ x % (n : Int) = p := by
  have hn' : (0 : Int) < n := by exact_mod_cast hn
  constructor
  · intro h
    have e := Int.emod_emod_of_dvd x (Int.dvd_refl (n : Int))
    have h2 : x = (n : Int) * ((x - p) / n) + p := by
      have := Int.mul_ediv_add_emod (x - p) n
      omega
    rw [h2, Int.add_comm, Int.add_mul_emod_self_left]
    exact Int.emod_eq_of_lt h0 h1
  · intro h
    have h2 := Int.mul_ediv_add_emod x n
    have h3 : x - p = (n : Int) * (x / n) := by omega
    rw [h3, Int.mul_emod_right]
/-- the stop of the loop is the order -/
theorem stop_is {n s k : Nat} (hn : 0 < n) (hk : 1 ≤ k) (hkn : k ≤ n) (hlow : ∀ i, 0 < i → i < k → stp n s i ≠ 0) (hstop : stp n s k = 0 ∨ k = n) : k = ord n s := by
  have hm := ord_pos (s := s) hn
  have hmn : ord n s ≤ n := ord_le
  have h1 : k ≤ ord n s := by
    rcases Nat.lt_or_ge (ord n s) k with h | h
    · exact absurd ((stp_zero_iff hn).mpr (Nat.dvd_refl _)) (hlow _ hm h)
    · exact h
  rcases hstop with h | h
  · have d := (stp_zero_iff hn).mp h
    have := Nat.le_of_dvd hk d
    omega
  · omega
end K1M

/-! plain mathematics for the written names -/
namespace K1N
def nAt (rs : List (Int × Int)) (j : Nat) : Nat := (rs.getD j (0, 0)).1.toNat
def sAt (rs : List (Int × Int)) (j : Nat) : Int := (rs.getD j (0, 0)).2
def row (j n : Nat) : List (Int × Int) := (List.range n).map fun (q : Nat) => ((j : Int), (q : Int))
def pre (rs : List (Int × Int)) : Nat → List (Int × Int)
  | 0 => []
  | i + 1 => pre rs i ++ row i (nAt rs i)
/-- a place that is its own written name -/
def own (rs : List (Int × Int)) (p : Int × Int) : Bool := !(decide (0 < p.1) && decide (p.2 = sAt rs p.1.toNat))
def names (rs : List (Int × Int)) : List (Int × Int) := (pre rs rs.length).filter (own rs)
def sumTo (rs : List (Int × Int)) : Nat → Nat
  | 0 => 0
  | i + 1 => sumTo rs i + nAt rs i
theorem row_succ (j n : Nat) : row j (n + 1) = row j n ++ [((j : Int), (n : Int))] := by
  unfold row
  rw [List.range_succ, List.map_append]
  rfl
theorem row_len (j n : Nat) : (row j n).length = n := by
  unfold row
  rw [List.length_map, List.length_range]
theorem pre_len {rs : List (Int × Int)} (h : ∀ j, nAt rs j ≤ 60) : ∀ i, (pre rs i).length ≤ 60 * i
  | 0 => Nat.le_refl _
  | i + 1 => by
    show (pre rs i ++ row i (nAt rs i)).length ≤ 60 * (i + 1)
    rw [List.length_append, row_len]
    have := pre_len h i
    have := h i
    omega
theorem row0 (rs : List (Int × Int)) : ∀ n, ((row 0 n).filter (own rs)).length = n
  | 0 => rfl
  | n + 1 => by
    rw [row_succ, List.filter_append, List.length_append, row0 rs n]
    have : own rs (((0 : Nat) : Int), (n : Int)) = true := rfl
    rw [List.filter_cons, if_pos this]
    rfl
theorem rowS (rs : List (Int × Int)) (j : Nat) (s : Nat) (hs : sAt rs (j + 1) = (s : Int)) : ∀ n, ((row (j + 1) n).filter (own rs)).length = if s < n then n - 1 else n
  | 0 => rfl
  | n + 1 => by
    rw [row_succ, List.filter_append, List.length_append, rowS rs j s hs n]
    by_cases c : n = s
    · have e : own rs (((j + 1 : Nat) : Int), (n : Int)) = false := by
        unfold own
        rw [show (((j + 1 : Nat) : Int)).toNat = j + 1 by omega, hs, decide_eq_true (show (0 : Int) < ((j + 1 : Nat) : Int) by omega), decide_eq_true (show (n : Int) = (s : Int) by omega)]
        rfl
      have e2 : [(((j + 1 : Nat) : Int), (n : Int))].filter (own rs) = [] := by
        rw [List.filter_cons, if_neg (show ¬ own rs (((j + 1 : Nat) : Int), (n : Int)) = true by rw [e]; decide)]
        rfl
      rw [e2, if_neg (show ¬ s < n by omega), if_pos (show s < n + 1 by omega)]
      show n + 0 = n + 1 - 1
      omega
    · have e : own rs (((j + 1 : Nat) : Int), (n : Int)) = true := by
        unfold own
        rw [show (((j + 1 : Nat) : Int)).toNat = j + 1 by omega, hs, decide_eq_false (show ¬ (n : Int) = (s : Int) by omega), Bool.and_false]
        rfl
      rw [List.filter_cons, if_pos e]
      show (if s < n then n - 1 else n) + 1 = _
      by_cases c2 : s < n
      · rw [if_pos c2, if_pos (by omega)]
        omega
      · rw [if_neg c2, if_neg (by omega)]
/-- how many written names -/
theorem count_to {rs : List (Int × Int)} (h : ∀ j, j < rs.length → 1 ≤ sAt rs j ∧ sAt rs j < (nAt rs j : Int)) : ∀ i, 1 ≤ i → i ≤ rs.length → ((pre rs i).filter (own rs)).length + i = sumTo rs i + 1
  | 0, z, _ => absurd z (by decide)
  | 1, _, h1 => by
    show (([] ++ row 0 (nAt rs 0)).filter (own rs)).length + 1 = 0 + nAt rs 0 + 1
    rw [List.nil_append, row0]
    omega
  | i + 2, _, h1 => by
    have ih := count_to h (i + 1) (by omega) (by omega)
    have hs := h (i + 1) (by omega)
    have hr := rowS rs i (sAt rs (i + 1)).toNat (by omega) (nAt rs (i + 1))
    rw [if_pos (by omega)] at hr
    show ((pre rs (i + 1) ++ row (i + 1) (nAt rs (i + 1))).filter (own rs)).length + (i + 2) = sumTo rs (i + 1) + nAt rs (i + 1) + 1
    rw [List.filter_append, List.length_append, hr]
    omega
theorem nAt_left {a b : List (Int × Int)} {j : Nat} (h : j < a.length) : nAt (a ++ b) j = nAt a j := by
  unfold nAt
  rw [List.getD_eq_getElem?_getD, List.getD_eq_getElem?_getD, List.getElem?_append_left h]
theorem nAt_right {a b : List (Int × Int)} {j : Nat} : nAt (a ++ b) (a.length + j) = nAt b j := by
  unfold nAt
  rw [List.getD_eq_getElem?_getD, List.getD_eq_getElem?_getD, List.getElem?_append_right (by omega), Nat.add_sub_cancel_left]
theorem sum_left {a b : List (Int × Int)} : ∀ i, i ≤ a.length → sumTo (a ++ b) i = sumTo a i
  | 0, _ => rfl
  | i + 1, h => by
    show sumTo (a ++ b) i + nAt (a ++ b) i = sumTo a i + nAt a i
    rw [sum_left i (by omega), nAt_left (by omega)]
theorem sum_right {a b : List (Int × Int)} : ∀ i, sumTo (a ++ b) (a.length + i) = sumTo a a.length + sumTo b i
  | 0 => by
    rw [Nat.add_zero, sum_left _ (Nat.le_refl _)]
    rfl
  | i + 1 => by
    show sumTo (a ++ b) (a.length + i) + nAt (a ++ b) (a.length + i) = sumTo a a.length + (sumTo b i + nAt b i)
    rw [sum_right i, nAt_right, Nat.add_assoc]
theorem names_joined {a b : List (Int × Int)} (ha : 1 ≤ a.length) (hb : 1 ≤ b.length) (h1 : ∀ j, j < a.length → 1 ≤ sAt a j ∧ sAt a j < (nAt a j : Int)) (h2 : ∀ j, j < b.length → 1 ≤ sAt b j ∧ sAt b j < (nAt b j : Int))
    (h3 : ∀ j, j < (a ++ b).length → 1 ≤ sAt (a ++ b) j ∧ sAt (a ++ b) j < (nAt (a ++ b) j : Int)) : (names (a ++ b)).length + 1 = (names a).length + (names b).length := by
  unfold names
  have e1 := count_to h1 a.length ha (Nat.le_refl _)
  have e2 := count_to h2 b.length hb (Nat.le_refl _)
  have e3 := count_to h3 (a ++ b).length (by rw [List.length_append]; omega) (Nat.le_refl _)
  have e4 := sum_right (a := a) (b := b) b.length
  rw [List.length_append] at e3 ⊢
  omega
end K1N

/-! enumerate over a tuple, one argument -/
namespace EnT
open PySem PySem.Spec PyProof.Rows L2
theorem made {v : Value} {o : Obj} {Hy : Heap → Prop} (B : Begins v o Hy) : Meets (Builtin.«enumerate.__new__» ⟨[.type "enumerate", v], []⟩) (fun _ R s => Hy s.heap ∧
      R (.ok (.ret (.ref (s.heap.push o).objs.size))) { s with heap := (s.heap.push o).push { cls := .type "enumerate", data := .fields #[.none, .bool false, .ref s.heap.objs.size, rawInt 0, .none, .none] } }) :=
  .of_wp fun prog w A R s z => by
    obtain ⟨hp, gs, dr, tk, os⟩ := s
    obtain ⟨z1, z2⟩ := z
    have sb := sub_enumerate
    have it1 : ∀ {A2 : Around} {E2 : Value → Shared → Prop} {Q2 : Value → Shared → Prop}, Q2 (.ref hp.objs.size) ⟨hp.push o, gs, dr, tk, os⟩ → wpAny (model prog w) A2 (pyIter v) Q2 E2 ⟨hp, gs, dr, tk, os⟩ :=
      fun y => B.iter prog w _ _ ⟨hp, gs, dr, tk, os⟩ _ z1 y
    wp_walk using it1
    refine wpAny_stack_any fun _ => wpAny_pure ?_
    split
    · rename_i c _ _ _ _ _
      cases (c == Value.type "enumerate")
      · wp_walk using it1
        exact ⟨_, rfl, z2⟩
      · wp_walk using it1
        exact ⟨_, rfl, z2⟩
    · wp_walk using it1
      exact ⟨_, rfl, z2⟩
section
variable {prog : Program} {w : World} {A : Around} {E : Value → Shared → Prop} {s : Shared}
theorem call_made {v : Value} {o : Obj} {Hy : Heap → Prop} {Q : Value → Shared → Prop} (B : Begins v o Hy) (h1 : Hy s.heap)
    (k : ∀ h2, IsEnum h2 (s.heap.objs.size + 1) s.heap.objs.size 0 .none → h2.get? s.heap.objs.size = some o → (∀ b u, s.heap.get? b = some u → h2.get? b = some u) → Q (.ref (s.heap.objs.size + 1)) { s with heap := h2 }) :
    wpAny (model prog w) A (call (.type "enumerate") [v]) Q E s := by
  refine callType_new F.called_enumerate (by decide) (F.typeCall_enumerate_1 _) (F.newCall_enumerate_1 _) (fun obj => F.args_object_init_2 obj _) F.entry_enumerate_new (made B) ⟨h1, ?_⟩
  have sz : (s.heap.push o).objs.size = s.heap.objs.size + 1 := by rw [Heap.size_push]
  show _ ∧ _
  rw [sz]
  have en := Heap.get?_push_size (s.heap.push o) (o := { cls := .type "enumerate", data := .fields #[.none, .bool false, .ref s.heap.objs.size, rawInt 0, .none, .none] }) rfl
  rw [sz] at en
  exact ⟨⟨_, en, rfl⟩, k _ en (Heap.get?_push_of_some _ (Heap.get?_push_size _ B.free)) fun b u y => Heap.get?_push_of_some _ (Heap.get?_push_of_some _ y)⟩
end
/-- the tuple at a, each item in a new pair with its number -/
def IteT (K : PySem.W.Frag) (a : Addr) : It :=
  ⟨fun i H => ∃ (ts : List V) (x : V), SqT K H a ts ∧ ts[i]? = some x, fun i H v H' => ∃ T x, v = .ref T ∧ H T = none ∧ H' = upd H T (.tup [.int (i : Nat), x]) ∧ ∀ ts, SqT K H a ts → ts[i]? = some x, fun i H => ∃ ts : List V, SqT K H a ts ∧ ts.length = i⟩
theorem tup_inj {X : Cx} {pins : List (Addr × Obj)} {σ : L2.St} {H : Hp} {s : Shared} {a : Addr} {xs ys : List V} (I : Inv X pins σ H s) (h1 : SqT X.K H a xs) (h2 : SqT X.K H a ys) : xs = ys := by
  obtain ⟨i1, r1, ⟨o1, g1, c1, n1, d1⟩, _⟩ := I.tuple h1
  obtain ⟨i2, r2, ⟨o2, g2, c2, n2, d2⟩, _⟩ := I.tuple h2
  rw [g1] at g2
  have e := Option.some.inj g2
  subst e
  rw [d1] at d2
  injection d2 with e1 _
  have e3 : i1 = i2 := by simpa using e1
  subst e3
  exact Vals.inj r1 r2
theorem turn {P : Program} {w : World} {K : PySem.W.Frag} {elts : List Expr} {kk : Nat} {tpos : Pos} (a e it : Addr) :
    Turn P w K (.Tuple elts kk tpos) (IteT K a) [e, it] e (fun i h => (∃ old, IsEnum h e it ((i : Nat) : Int) old) ∧ h.IsTupleIter it a i ∧ e ≠ it ∧ a ≠ e ∧ a ≠ it) where
  mem := by simp
  obj := fun i h st b hb => by
    obtain ⟨⟨old, he⟩, ⟨o, ho, hc, hd⟩, _⟩ := st
    rcases (show b = e ∨ b = it by simpa using hb) with z | z
    · rw [z]
      exact ⟨_, he, fun v q => nomatch q⟩
    · rw [z]
      exact ⟨o, ho, fun v q => by rw [hd] at q; cases q⟩
  keep := fun i h h' st k => by
    obtain ⟨⟨old, he⟩, ⟨o, ho, hc, hd⟩, n1, n2, n3⟩ := st
    exact ⟨⟨old, k e (by simp) _ he⟩, ⟨o, k it (by simp) _ ho, hc, hd⟩, n1, n2, n3⟩
  item := by
    intro X hP hw hK hc i pins s σ H E I hf st hg
    subst hP hw hK
    obtain ⟨⟨old, he⟩, hit, n1, n2, n3⟩ := st
    obtain ⟨xs, x, hq, hx⟩ := hg
    obtain ⟨its, rv, p, _⟩ := I.tuple hq
    obtain ⟨u, hu, ru⟩ := rv.get hx
    have hel : e < s.heap.objs.size := Heap.lt_size he
    have hil : it < s.heap.objs.size := by
      obtain ⟨_, q, _⟩ := hit
      exact Heap.lt_size q
    have hlt : i < its.toArray.size := by
      have := (List.getElem?_eq_some_iff.mp hu).1
      simpa using this
    have hh : X.A.in1.handled = none := I.ok.hd hc
    have DT := Draws.tuple (prog := X.prog) (w := X.w) hh it a n3 its.toArray
    refine wpAny_pyNext_enum_itemD DT he ⟨hit, p⟩ hlt n1 (by simp [n1, Ne.symm n2]) fun y h1 tk hy ho hst hT hsz hk => ?_
    have ey : y = u := by
      have q : its.toArray[i]? = some u := by simpa using hu
      exact Option.some.inj (hy.symm.trans q)
    subst ey
    refine ⟨_, rfl, wpAny_letOwnedTupleGo_enum (s := { s with heap := h1, toks := tk + 1 }) ho fun h2 he2 sb => ?_⟩
    have hT2 : h2.get? s.heap.objs.size = some { cls := .type "tuple", data := .seq #[.int i tk, y] } := (sb.2 _ (Nat.ne_of_gt hel)).trans hT
    have new : ObjOk X.prog X.w (upd H s.heap.objs.size (.tup [.int (i : Nat), x])) h2 s.heap.objs.size (.tup [.int (i : Nat), x]) :=
      ⟨show 2 ≤ sizeLine by decide, [.int i tk, y], .cons ⟨_, rfl⟩ (.cons ru .nil), ⟨_, hT2, rfl, _, rfl⟩⟩
    have I1 : Inv X pins σ (upd H s.heap.objs.size (.tup [.int (i : Nat), x])) { s with heap := h2, toks := tk + 1 } :=
      I.turnedNew (ch := [e, it]) (fun b ob hb q => (sb.2 b (fun z => hb (by simp [z]))).trans (hk b ob (fun z => hb (by simp [z])) (fun z => hb (by simp [z])) q)) hf (Nat.le_refl _) new
    obtain ⟨oi, g1, g2, g3⟩ := hst.1
    refine ⟨.ref s.heap.objs.size, _, I1, rfl, ⟨_, x, rfl, I.hok.fresh (Nat.le_refl _), rfl, fun ys hys => by rw [tup_inj I hys hq]; exact hx⟩, ⟨⟨y, ?_⟩, ⟨oi, (sb.2 it (Ne.symm n1)).trans g1, g2, g3⟩, n1, n2, n3⟩, fun b hb => ?_⟩
    · rw [show ((i + 1 : Nat) : Int) = (i : Int) + 1 by omega]
      exact he2
    · have hb2 : b < s.heap.objs.size := by
        rcases (show b = e ∨ b = it by simpa using hb) with z | z
        · rw [z]
          exact hel
        · rw [z]
          exact hil
      rw [upd_ne (Nat.ne_of_lt hb2)]
      exact (hf b hb).1
  done := by
    intro X hP hw hK hc i pins s σ H E I hf st hg
    subst hP hw hK
    obtain ⟨⟨old, he⟩, hit, n1, n2, n3⟩ := st
    obtain ⟨xs, hq, hx⟩ := hg
    obtain ⟨its, rv, p, _⟩ := I.tuple hq
    obtain ⟨f0, f1, f2, f3, f4, f5⟩ := hf it (by simp)
    have hl := rv.length
    have hn : its.toArray.size = i := by
      rw [List.size_toArray]
      omega
    have hh : X.A.in1.handled = none := I.ok.hd hc
    have DT := Draws.tuple (prog := X.prog) (w := X.w) hh it a n3 its.toArray
    refine wpAny_pyNext_enum_endD DT he ⟨?_, p⟩ fun h1 eb => ⟨rfl, I.turned (t' := s.toks) (fun b o hb q => eb b o hb q) f0 f1 f3 f4 f5⟩
    rw [hn]
    exact hit
  self := fun A i s Q E st h => by
    obtain ⟨⟨_, he⟩, _⟩ := st
    exact wpAny_pyIter_enum he h
def iEnumT (K : PySem.W.Frag) (ta : TA) : TI := fun σ H R => ta σ H fun vs H1 => ∃ a xs, vs = [.ref a] ∧ SqT K H1 a xs ∧ R (IteT K a) H1
theorem pi_enumT {X : Cx} {e : Expr} {ta : TA} {p pos tpos : Pos} {elts : List Expr} {kk : Nat} (hg : Gl X "enumerate") (hm : X.mg "enumerate" = none) (ha : PA X [e] ta) (hs : starEach [e] X.env = [(false, eval e X.env)] := by rfl) :
    PI X (.Tuple elts kk tpos) (.Call (.Name "enumerate" p) [e] [] pos) (iEnumT X.K ta) := by
  refine ⟨fun pins s σ H R I h => ?_⟩
  refine Call_ (ld_blt I hg hm boot_enumerate (PyProof.Rows.callWith_type1 (thn (ha.run pos pins s σ H _ I h) fun us s1 ⟨vs, H1, I1, r1, y1⟩ => ?_) hs rfl))
  obtain ⟨a, xs, ex, hq, q⟩ := y1
  subst ex
  cases r1 with
  | cons r rr =>
    cases rr
    cases r
    obtain ⟨its, rv, p2, _⟩ := I1.tuple hq
    have hal : a < s1.heap.objs.size := by
      obtain ⟨o, g, _⟩ := p2
      exact Heap.lt_size g
    refine call_made (begins_tuple a its.toArray) p2 fun h2 he hit hk => wpAny_pyIter_enum he ?_
    have I2 : Inv X pins σ H1 { s1 with heap := h2 } := I1.kept (t' := s1.toks) hk
    refine ⟨s1.heap.objs.size + 1, [s1.heap.objs.size + 1, s1.heap.objs.size], _, _, H1, rfl, I2, turn a (s1.heap.objs.size + 1) s1.heap.objs.size, ⟨⟨.none, he⟩, ⟨_, hit, rfl, rfl⟩, Nat.succ_ne_self _, Nat.ne_of_lt (Nat.lt_succ_of_lt hal), Nat.ne_of_lt hal⟩, fun b hb => ?_, q⟩
    have hle : s1.heap.objs.size ≤ b := by
      rcases (show b = s1.heap.objs.size + 1 ∨ b = s1.heap.objs.size by simpa using hb) with z | z
      · rw [z]
        exact Nat.le_add_right _ _
      · rw [z]
        exact Nat.le_refl _
    exact I1.fpOk hle (I1.hok.fresh hle)
end EnT

namespace K1
open PySem PySem.Spec PyProof.Rows L2 Evl
def topS (i : Nat) : Stmt := PySem.Challenge.pw_ringstairs_k93_whole_counts_of_classes_o.main.body.getD i (.Pass ⟨0, 0, 0, 0⟩)
abbrev sIsInteger : Stmt := topS 9
abbrev nIsInteger : List Str := ["value"]
theorem scIsInteger : FnScope nIsInteger ["value"] (defScope sIsInteger) := ⟨rfl, rfl, rfl, by decide +kernel, rfl, by decide +kernel, by decide +kernel⟩
abbrev sIsBetween : Stmt := topS 10
abbrev nIsBetween : List Str := ["value", "low", "high"]
theorem scIsBetween : FnScope nIsBetween ["value", "low", "high"] (defScope sIsBetween) := ⟨rfl, rfl, rfl, by decide +kernel, rfl, by decide +kernel, by decide +kernel⟩
abbrev sIsPair : Stmt := topS 11
abbrev nIsPair : List Str := ["value"]
theorem scIsPair : FnScope nIsPair ["value"] (defScope sIsPair) := ⟨rfl, rfl, rfl, by decide +kernel, rfl, by decide +kernel, by decide +kernel⟩
abbrev sCheckInteger : Stmt := topS 12
abbrev nCheckInteger : List Str := ["value"]
theorem scCheckInteger : FnScope nCheckInteger ["value"] (defScope sCheckInteger) := ⟨rfl, rfl, rfl, by decide +kernel, rfl, by decide +kernel, by decide +kernel⟩
abbrev sCheckBetween : Stmt := topS 13
abbrev nCheckBetween : List Str := ["value", "low", "high"]
theorem scCheckBetween : FnScope nCheckBetween ["value", "low", "high"] (defScope sCheckBetween) := ⟨rfl, rfl, rfl, by decide +kernel, rfl, by decide +kernel, by decide +kernel⟩
abbrev sIsRing : Stmt := topS 17
abbrev nIsRing : List Str := ["value", "places", "door"]
theorem scIsRing : FnScope nIsRing ["value"] (defScope sIsRing) := ⟨rfl, rfl, rfl, by decide +kernel, rfl, by decide +kernel, by decide +kernel⟩
abbrev sIsChain : Stmt := topS 18
abbrev nIsChain : List Str := ["value", "ring"]
theorem scIsChain : FnScope nIsChain ["value"] (defScope sIsChain) := ⟨rfl, rfl, rfl, by decide +kernel, rfl, by decide +kernel, by decide +kernel⟩
abbrev sCheckRing : Stmt := topS 19
abbrev nCheckRing : List Str := ["ring"]
theorem scCheckRing : FnScope nCheckRing ["ring"] (defScope sCheckRing) := ⟨rfl, rfl, rfl, by decide +kernel, rfl, by decide +kernel, by decide +kernel⟩
abbrev sCheckChain : Stmt := topS 20
abbrev nCheckChain : List Str := ["chain"]
theorem scCheckChain : FnScope nCheckChain ["chain"] (defScope sCheckChain) := ⟨rfl, rfl, rfl, by decide +kernel, rfl, by decide +kernel, by decide +kernel⟩
abbrev sOrderOf : Stmt := topS 21
abbrev nOrderOf : List Str := ["ring"]
theorem scOrderOf : FnScope nOrderOf ["ring"] (defScope sOrderOf) := ⟨rfl, rfl, rfl, by decide +kernel, rfl, by decide +kernel, by decide +kernel⟩
abbrev sIsHeap : Stmt := topS 24
abbrev nIsHeap : List Str := ["value", "ahead", "height"]
theorem scIsHeap : FnScope nIsHeap ["value"] (defScope sIsHeap) := ⟨rfl, rfl, rfl, by decide +kernel, rfl, by decide +kernel, by decide +kernel⟩
abbrev sCheckHeap : Stmt := topS 25
abbrev nCheckHeap : List Str := ["heap"]
theorem scCheckHeap : FnScope nCheckHeap ["heap"] (defScope sCheckHeap) := ⟨rfl, rfl, rfl, by decide +kernel, rfl, by decide +kernel, by decide +kernel⟩
abbrev sHeightAt : Stmt := topS 26
abbrev nHeightAt : List Str := ["heap", "column"]
theorem scHeightAt : FnScope nHeightAt ["heap", "column"] (defScope sHeightAt) := ⟨rfl, rfl, rfl, by decide +kernel, rfl, by decide +kernel, by decide +kernel⟩
abbrev sHasBox : Stmt := topS 27
abbrev nHasBox : List Str := ["heap", "columns", "rows"]
theorem scHasBox : FnScope nHasBox ["heap", "columns", "rows"] (defScope sHasBox) := ⟨rfl, rfl, rfl, by decide +kernel, rfl, by decide +kernel, by decide +kernel⟩
abbrev sLengthsOf : Stmt := topS 28
abbrev nLengthsOf : List Str := ["heap", "height", "row"]
theorem scLengthsOf : FnScope nLengthsOf ["heap"] (defScope sLengthsOf) := ⟨rfl, rfl, rfl, by decide +kernel, rfl, by decide +kernel, by decide +kernel⟩
abbrev sHookAt : Stmt := topS 29
abbrev nHookAt : List Str := ["heap", "lengths", "column", "row"]
theorem scHookAt : FnScope nHookAt ["heap", "lengths", "column", "row"] (defScope sHookAt) := ⟨rfl, rfl, rfl, by decide +kernel, rfl, by decide +kernel, by decide +kernel⟩
abbrev sOpenColumns : Stmt := topS 30
abbrev nOpenColumns : List Str := ["heap", "columns", "column"]
theorem scOpenColumns : FnScope nOpenColumns ["heap"] (defScope sOpenColumns) := ⟨rfl, rfl, rfl, by decide +kernel, rfl, by decide +kernel, by decide +kernel⟩
abbrev sHeaped : Stmt := topS 31
abbrev nHeaped : List Str := ["heap", "columns", "heights", "column", "height"]
theorem scHeaped : FnScope nHeaped ["heap", "columns"] (defScope sHeaped) := ⟨rfl, rfl, rfl, by decide +kernel, rfl, by decide +kernel, by decide +kernel⟩
abbrev sRestsWithin : Stmt := topS 33
abbrev nRestsWithin : List Str := ["whole", "heap", "order", "columns", "column", "height", "rest"]
theorem scRestsWithin : FnScope nRestsWithin ["whole", "heap", "order"] (defScope sRestsWithin) := ⟨rfl, rfl, rfl, by decide +kernel, rfl, by decide +kernel, by decide +kernel⟩
abbrev sStepsWithin : Stmt := topS 34
abbrev nStepsWithin : List Str := ["whole", "heap", "order", "columns", "rest"]
theorem scStepsWithin : FnScope nStepsWithin ["whole", "heap", "order"] (defScope sStepsWithin) := ⟨rfl, rfl, rfl, by decide +kernel, rfl, by decide +kernel, by decide +kernel⟩
abbrev sTuplesOf : Stmt := topS 39
abbrev nTuplesOf : List Str := ["chain", "many", "ring"]
theorem scTuplesOf : FnScope nTuplesOf ["chain"] (defScope sTuplesOf) := ⟨rfl, rfl, rfl, by decide +kernel, rfl, by decide +kernel, by decide +kernel⟩
abbrev sCutHeaps : Stmt := topS 40
abbrev nCutHeaps : List Str := ["chain", "columns", "rows", "whole", "many", "ring", "more", "heap", "steps", "made"]
theorem scCutHeaps : FnScope nCutHeaps ["chain", "columns", "rows"] (defScope sCutHeaps) := ⟨rfl, rfl, rfl, by decide +kernel, rfl, by decide +kernel, by decide +kernel⟩
abbrev sClassesByHeap : Stmt := topS 41
abbrev nClassesByHeap : List Str := ["chain", "columns", "rows", "many", "heap"]
theorem scClassesByHeap : FnScope nClassesByHeap ["chain", "columns", "rows"] (defScope sClassesByHeap) := ⟨rfl, rfl, rfl, by decide +kernel, rfl, by decide +kernel, by decide +kernel⟩
abbrev sClassesAtLeast : Stmt := topS 42
abbrev nClassesAtLeast : List Str := ["chain", "degree", "k", "columns", "rows"]
theorem scClassesAtLeast : FnScope nClassesAtLeast ["chain", "degree", "k"] (defScope sClassesAtLeast) := ⟨rfl, rfl, rfl, by decide +kernel, rfl, by decide +kernel, by decide +kernel⟩
abbrev sLeastRichness : Stmt := topS 43
abbrev nLeastRichness : List Str := ["chain", "degree"]
theorem scLeastRichness : FnScope nLeastRichness ["chain", "degree"] (defScope sLeastRichness) := ⟨rfl, rfl, rfl, by decide +kernel, rfl, by decide +kernel, by decide +kernel⟩
abbrev sRichnessIn : Stmt := topS 44
abbrev nRichnessIn : List Str := ["heap", "short", "least", "k"]
theorem scRichnessIn : FnScope nRichnessIn ["heap", "short", "least"] (defScope sRichnessIn) := ⟨rfl, rfl, rfl, by decide +kernel, rfl, by decide +kernel, by decide +kernel⟩
abbrev sClassesByRichness : Stmt := topS 45
abbrev nClassesByRichness : List Str := ["chain", "degree", "least", "short", "many", "found", "heap", "k"]
theorem scClassesByRichness : FnScope nClassesByRichness ["chain", "degree"] (defScope sClassesByRichness) := ⟨rfl, rfl, rfl, by decide +kernel, rfl, by decide +kernel, by decide +kernel⟩
abbrev sStandardCount : Stmt := topS 46
abbrev nStandardCount : List Str := ["heap", "lengths", "product", "column", "height", "row"]
theorem scStandardCount : FnScope nStandardCount ["heap"] (defScope sStandardCount) := ⟨rfl, rfl, rfl, by decide +kernel, rfl, by decide +kernel, by decide +kernel⟩
abbrev sStandardFillings : Stmt := topS 47
abbrev nStandardFillings : List Str := ["heap"]
theorem scStandardFillings : FnScope nStandardFillings ["heap"] (defScope sStandardFillings) := ⟨rfl, rfl, rfl, by decide +kernel, rfl, by decide +kernel, by decide +kernel⟩
abbrev sLDice : Stmt := topS 49
abbrev nLDice : List Str := ["_law_script", "_law_at", "_law_cell", "_law_great", "_law_left", "_law_mixed"]
theorem scLDice : FnScope nLDice ["_law_script", "_law_at"] (defScope sLDice) := ⟨rfl, rfl, rfl, by decide +kernel, rfl, by decide +kernel, by decide +kernel⟩
abbrev sLRoll : Stmt := topS 50
abbrev nLRoll : List Str := ["_law_dice_here", "_law_total", "_law_size", "_law_drawn", "_law_one", "_law_two"]
theorem scLRoll : FnScope nLRoll ["_law_dice_here", "_law_total"] (defScope sLRoll) := ⟨rfl, rfl, rfl, by decide +kernel, rfl, by decide +kernel, by decide +kernel⟩
abbrev sLOneOf : Stmt := topS 51
abbrev nLOneOf : List Str := ["_law_dice_here", "_law_items"]
theorem scLOneOf : FnScope nLOneOf ["_law_dice_here", "_law_items"] (defScope sLOneOf) := ⟨rfl, rfl, rfl, by decide +kernel, rfl, by decide +kernel, by decide +kernel⟩
abbrev sLCommon : Stmt := topS 52
abbrev nLCommon : List Str := ["_law_one", "_law_other"]
theorem scLCommon : FnScope nLCommon ["_law_one", "_law_other"] (defScope sLCommon) := ⟨rfl, rfl, rfl, by decide +kernel, rfl, by decide +kernel, by decide +kernel⟩
abbrev sLRing : Stmt := topS 53
abbrev nLRing : List Str := ["_law_dice_here", "_law_most", "_law_n"]
theorem scLRing : FnScope nLRing ["_law_dice_here", "_law_most"] (defScope sLRing) := ⟨rfl, rfl, rfl, by decide +kernel, rfl, by decide +kernel, by decide +kernel⟩
abbrev sLRingOf : Stmt := topS 54
abbrev nLRingOf : List Str := ["_law_dice_here", "_law_k", "_law_times", "_law_more", "_law_steps", "_law_one"]
theorem scLRingOf : FnScope nLRingOf ["_law_dice_here", "_law_k", "_law_times"] (defScope sLRingOf) := ⟨rfl, rfl, rfl, by decide +kernel, rfl, by decide +kernel, by decide +kernel⟩
abbrev sLChain : Stmt := topS 55
abbrev nLChain : List Str := ["_law_dice_here", "_law_rings", "_law_most", "_law_k", "_law_turn"]
theorem scLChain : FnScope nLChain ["_law_dice_here", "_law_rings", "_law_most"] (defScope sLChain) := ⟨rfl, rfl, rfl, by decide +kernel, rfl, by decide +kernel, by decide +kernel⟩
abbrev sLGrown : Stmt := topS 56
abbrev nLGrown : List Str := ["_law_heap_here", "_law_ring_here", "_law_x", "_law_n", "_law_s", "_law_found", "_law_column", "_law_height", "_law_can_rise"]
theorem scLGrown : FnScope nLGrown ["_law_heap_here", "_law_ring_here", "_law_x"] (defScope sLGrown) := ⟨rfl, rfl, rfl, by decide +kernel, rfl, by decide +kernel, by decide +kernel⟩
abbrev sLHeap : Stmt := topS 57
abbrev nLHeap : List Str := ["_law_chain_here", "_law_x", "_law_heap_here", "_law_ring_here", "_law_place"]
theorem scLHeap : FnScope nLHeap ["_law_chain_here", "_law_x"] (defScope sLHeap) := ⟨rfl, rfl, rfl, by decide +kernel, rfl, by decide +kernel, by decide +kernel⟩
abbrev sLRich : Stmt := topS 58
abbrev nLRich : List Str := ["_law_heap_here", "_law_rings", "_law_total", "_law_k", "_law_rows"]
theorem scLRich : FnScope nLRich ["_law_heap_here", "_law_rings", "_law_total"] (defScope sLRich) := ⟨rfl, rfl, rfl, by decide +kernel, rfl, by decide +kernel, by decide +kernel⟩
abbrev sLLowChain : Stmt := topS 59
abbrev nLLowChain : List Str := ["_law_dice_here", "_law_most", "_law_found", "_law_size", "_law_turn", "_law_n", "_law_s"]
theorem scLLowChain : FnScope nLLowChain ["_law_dice_here", "_law_most"] (defScope sLLowChain) := ⟨rfl, rfl, rfl, by decide +kernel, rfl, by decide +kernel, by decide +kernel⟩
abbrev sLAllTuples : Stmt := topS 60
abbrev nLAllTuples : List Str := ["_law_chain_here", "_law_most", "_law_found", "_law_n", "_law_s", "_law_later", "_law_one", "_law_place"]
theorem scLAllTuples : FnScope nLAllTuples ["_law_chain_here", "_law_most"] (defScope sLAllTuples) := ⟨rfl, rfl, rfl, by decide +kernel, rfl, by decide +kernel, by decide +kernel⟩
abbrev sLCut : Stmt := topS 61
abbrev nLCut : List Str := ["_law_heap_here", "_law_columns", "_law_rows", "_law_height"]
theorem scLCut : FnScope nLCut ["_law_heap_here", "_law_columns", "_law_rows"] (defScope sLCut) := ⟨rfl, rfl, rfl, by decide +kernel, rfl, by decide +kernel, by decide +kernel⟩
abbrev sLCounted : Stmt := topS 62
abbrev nLCounted : List Str := ["_law_values", "_law_found", "_law_value"]
theorem scLCounted : FnScope nLCounted ["_law_values"] (defScope sLCounted) := ⟨rfl, rfl, rfl, by decide +kernel, rfl, by decide +kernel, by decide +kernel⟩
abbrev sLStandard : Stmt := topS 63
abbrev nLStandard : List Str := ["_law_heap_here", "_law_found", "_law_left", "_law_later", "_law_one", "_law_column", "_law_less", "_law_height"]
theorem scLStandard : FnScope nLStandard ["_law_heap_here"] (defScope sLStandard) := ⟨rfl, rfl, rfl, by decide +kernel, rfl, by decide +kernel, by decide +kernel⟩
abbrev sLCountsRight : Stmt := topS 64
abbrev nLCountsRight : List Str := ["_law_dice_here", "_law_chain_here", "_law_size", "_law_heaps", "_law_columns", "_law_rows", "_law_found", "_law_total", "_law_rich_here", "_law_k", "_law_due", "_law_other", "_law_x", "_law_heap_here", "_law_one"]
theorem scLCountsRight : FnScope nLCountsRight ["_law_dice_here"] (defScope sLCountsRight) := ⟨rfl, rfl, rfl, by decide +kernel, rfl, by decide +kernel, by decide +kernel⟩
abbrev sLFarRight : Stmt := topS 65
abbrev nLFarRight : List Str := ["_law_dice_here", "_law_columns", "_law_rows", "_law_size", "_law_least", "_law_chain_here", "_law_turn", "_law_k", "_law_due", "_law_total"]
theorem scLFarRight : FnScope nLFarRight ["_law_dice_here"] (defScope sLFarRight) := ⟨rfl, rfl, rfl, by decide +kernel, rfl, by decide +kernel, by decide +kernel⟩
abbrev sLaw : Stmt := topS 66
abbrev nLaw : List Str := ["_law_script", "_law_at", "_law_dice_here"]
theorem scLaw : FnScope nLaw ["_law_script"] (defScope sLaw) := ⟨rfl, rfl, rfl, by decide +kernel, rfl, by decide +kernel, by decide +kernel⟩
/-- a def of the text at its place, and how its arguments bind -/
structure DefAt (K : PySem.W.Frag) (mg : Str → Option Value) (x : Str) (st : Stmt) (ps : List Str) (f : Addr) (fd : FuncData) : Prop where
  F : Fun K x x st f fd
  g : mg x = some (.ref f)
  b : Binds K fd ps []
/-- what the top has written -/
structure Txt (K : PySem.W.Frag) (mg : Str → Option Value) : Prop where
  z_abs : mg "abs" = none
  z_all : mg "all" = none
  z_bool : mg "bool" = none
  z_enumerate : mg "enumerate" = none
  z_int : mg "int" = none
  z_isinstance : mg "isinstance" = none
  z_len : mg "len" = none
  z_list : mg "list" = none
  z_max : mg "max" = none
  z_min : mg "min" = none
  z_range : mg "range" = none
  z_sorted : mg "sorted" = none
  z_sum : mg "sum" = none
  z_tuple : mg "tuple" = none
  z_zip : mg "zip" = none
  v_BOUND : ∃ t, mg "BOUND" = some (.int (10 ^ 60) t)
  v_RINGS : ∃ t, mg "MOST_RINGS" = some (.int 12 t)
  v_PLACES : ∃ t, mg "MOST_PLACES" = some (.int 60 t)
  v_SIDE : ∃ t, mg "MOST_SIDE" = some (.int 60 t)
  v_MOST_CUT : ∃ t, mg "MOST_CUT" = some (.int 6 t)
  v_MOST_K : ∃ t, mg "MOST_K" = some (.int 40 t)
  v_MOST_STANDARD : ∃ t, mg "MOST_STANDARD" = some (.int 200 t)
  v_factorial : mg "factorial" = some (.builtin "math.factorial")
  v_gcd : mg "gcd" = some (.builtin "math.gcd")
  d_is_integer : ∃ f fd, DefAt K mg "is_integer" sIsInteger ["value"] f fd
  d_is_between : ∃ f fd, DefAt K mg "is_between" sIsBetween ["value", "low", "high"] f fd
  d_is_pair : ∃ f fd, DefAt K mg "is_pair" sIsPair ["value"] f fd
  d_check_integer : ∃ f fd, DefAt K mg "check_integer" sCheckInteger ["value"] f fd
  d_check_between : ∃ f fd, DefAt K mg "check_between" sCheckBetween ["value", "low", "high"] f fd
  d_is_ring : ∃ f fd, DefAt K mg "is_ring" sIsRing ["value"] f fd
  d_is_chain : ∃ f fd, DefAt K mg "is_chain" sIsChain ["value"] f fd
  d_check_ring : ∃ f fd, DefAt K mg "check_ring" sCheckRing ["ring"] f fd
  d_check_chain : ∃ f fd, DefAt K mg "check_chain" sCheckChain ["chain"] f fd
  d_order_of : ∃ f fd, DefAt K mg "order_of" sOrderOf ["ring"] f fd
  d_is_heap : ∃ f fd, DefAt K mg "is_heap" sIsHeap ["value"] f fd
  d_check_heap : ∃ f fd, DefAt K mg "check_heap" sCheckHeap ["heap"] f fd
  d_height_at : ∃ f fd, DefAt K mg "height_at" sHeightAt ["heap", "column"] f fd
  d_has_box : ∃ f fd, DefAt K mg "has_box" sHasBox ["heap", "columns", "rows"] f fd
  d_lengths_of : ∃ f fd, DefAt K mg "lengths_of" sLengthsOf ["heap"] f fd
  d_hook_at : ∃ f fd, DefAt K mg "hook_at" sHookAt ["heap", "lengths", "column", "row"] f fd
  d_open_columns : ∃ f fd, DefAt K mg "open_columns" sOpenColumns ["heap"] f fd
  d_heaped : ∃ f fd, DefAt K mg "heaped" sHeaped ["heap", "columns"] f fd
  d_rests_within : ∃ f fd, DefAt K mg "rests_within" sRestsWithin ["whole", "heap", "order"] f fd
  d_steps_within : ∃ f fd, DefAt K mg "steps_within" sStepsWithin ["whole", "heap", "order"] f fd
  d_tuples_of : ∃ f fd, DefAt K mg "tuples_of" sTuplesOf ["chain"] f fd
  d_cut_heaps : ∃ f fd, DefAt K mg "cut_heaps" sCutHeaps ["chain", "columns", "rows"] f fd
  d_classes_by_heap : ∃ f fd, DefAt K mg "classes_by_heap" sClassesByHeap ["chain", "columns", "rows"] f fd
  d_classes_at_least : ∃ f fd, DefAt K mg "classes_at_least" sClassesAtLeast ["chain", "degree", "k"] f fd
  d_least_richness : ∃ f fd, DefAt K mg "least_richness" sLeastRichness ["chain", "degree"] f fd
  d_richness_in : ∃ f fd, DefAt K mg "richness_in" sRichnessIn ["heap", "short", "least"] f fd
  d_classes_by_richness : ∃ f fd, DefAt K mg "classes_by_richness" sClassesByRichness ["chain", "degree"] f fd
  d_standard_count : ∃ f fd, DefAt K mg "standard_count" sStandardCount ["heap"] f fd
  d_standard_fillings : ∃ f fd, DefAt K mg "standard_fillings" sStandardFillings ["heap"] f fd
  d_l_dice : ∃ f fd, DefAt K mg "_law_dice" sLDice ["_law_script", "_law_at"] f fd
  d_l_roll : ∃ f fd, DefAt K mg "_law_roll" sLRoll ["_law_dice_here", "_law_total"] f fd
  d_l_one_of : ∃ f fd, DefAt K mg "_law_one_of" sLOneOf ["_law_dice_here", "_law_items"] f fd
  d_l_common : ∃ f fd, DefAt K mg "_law_common" sLCommon ["_law_one", "_law_other"] f fd
  d_l_ring : ∃ f fd, DefAt K mg "_law_ring" sLRing ["_law_dice_here", "_law_most"] f fd
  d_l_ring_of : ∃ f fd, DefAt K mg "_law_ring_of" sLRingOf ["_law_dice_here", "_law_k", "_law_times"] f fd
  d_l_chain : ∃ f fd, DefAt K mg "_law_chain" sLChain ["_law_dice_here", "_law_rings", "_law_most"] f fd
  d_l_grown : ∃ f fd, DefAt K mg "_law_grown" sLGrown ["_law_heap_here", "_law_ring_here", "_law_x"] f fd
  d_l_heap : ∃ f fd, DefAt K mg "_law_heap" sLHeap ["_law_chain_here", "_law_x"] f fd
  d_l_rich : ∃ f fd, DefAt K mg "_law_rich" sLRich ["_law_heap_here", "_law_rings", "_law_total"] f fd
  d_l_low_chain : ∃ f fd, DefAt K mg "_law_low_chain" sLLowChain ["_law_dice_here", "_law_most"] f fd
  d_l_all_tuples : ∃ f fd, DefAt K mg "_law_all_tuples" sLAllTuples ["_law_chain_here", "_law_most"] f fd
  d_l_cut : ∃ f fd, DefAt K mg "_law_cut" sLCut ["_law_heap_here", "_law_columns", "_law_rows"] f fd
  d_l_counted : ∃ f fd, DefAt K mg "_law_counted" sLCounted ["_law_values"] f fd
  d_l_standard : ∃ f fd, DefAt K mg "_law_standard" sLStandard ["_law_heap_here"] f fd
  d_l_counts_right : ∃ f fd, DefAt K mg "_law_counts_right" sLCountsRight ["_law_dice_here"] f fd
  d_l_far_right : ∃ f fd, DefAt K mg "_law_far_right" sLFarRight ["_law_dice_here"] f fd
end K1

namespace K1
open PySem PySem.Spec PyProof.Rows L2 Evl
/-! ### great powers -/
def CPowW (i j : Int) : Prop := 0 ≤ j ∧ (Builtin.Int.intBits i : Int) * j ≤ 2 ^ 27
theorem op_powW {X : Cx} : OpR X (binaryOp .Pow) (rI CPowW fun i j => .int (i ^ j.toNat)) := opI fun _ _ _ _ _ _ _ hc q => pow_int hc.1 hc.2 q
/-! ### values that are looked at -/
/-- no int -/
inductive NotInt (K : PySem.W.Frag) (H : Hp) : V → Prop where
  | bl (b : Bool) : NotInt K H (.bl b)
  | non : NotInt K H .non
  | str (x : Str) : NotInt K H (.str x)
  | lst {a : Addr} {xs : List V} (e : H a = some (.lst xs)) : NotInt K H (.ref a)
  | tup {a : Addr} {xs : List V} (e : H a = some (.tup xs)) : NotInt K H (.ref a)
  | dK {a : Addr} {kvs : List (Key × V)} (e : H a = some (.dK kvs)) : NotInt K H (.ref a)
inductive IntB (K : PySem.W.Frag) (H : Hp) : V → Bool → Prop where
  | int (i : Int) : IntB K H (.int i) (decide (-(10 ^ 60) < i) && decide (i < 10 ^ 60))
  | no {x : V} (h : NotInt K H x) : IntB K H x false
/-- between two ints -/
inductive BtwB (K : PySem.W.Frag) (H : Hp) (lo hi : Int) : V → Bool → Prop where
  | int (i : Int) : BtwB K H lo hi (.int i) ((decide (-(10 ^ 60) < i) && decide (i < 10 ^ 60)) && (decide (lo ≤ i) && decide (i ≤ hi)))
  | no {x : V} (h : NotInt K H x) : BtwB K H lo hi x false
theorem NotInt.ty {K : PySem.W.Frag} {H : Hp} {x : V} (h : NotInt K H x) : ∃ t : Value, TyX K H x t ∧ ((PySem.W.kitOne K t (.type "int") = some false) ∨ (t = .type "bool")) := by
  cases h with
  | bl b => exact ⟨_, .base (.bl b), .inr rfl⟩
  | non => exact ⟨_, .base .non, .inl (kit_ty (by decide +kernel))⟩
  | str x => exact ⟨_, .base (.str x), .inl (kit_ty (by decide +kernel))⟩
  | lst e => exact ⟨_, .base (.lst e), .inl (kit_ty (by decide +kernel))⟩
  | tup e => exact ⟨_, .base (.tup e), .inl (kit_ty (by decide +kernel))⟩
  | dK e => exact ⟨_, .base (.dK e), .inl (kit_ty (by decide +kernel))⟩
theorem NotInt.mono {K : PySem.W.Frag} {H H' : Hp} {x : V} (e : Ex H H') (h : NotInt K H x) : NotInt K H' x := by
  cases h with
  | bl b => exact .bl b
  | non => exact .non
  | str x => exact .str x
  | lst q => exact .lst (e _ _ q)
  | tup q => exact .tup (e _ _ q)
  | dK q => exact .dK (e _ _ q)
section
variable {P : Program} {w : World} {K : PySem.W.Frag} {mg : Str → Option Value} {base : Heap}
def spIsInteger (K : PySem.W.Frag) : Sp := fun vs H Q _ => ∃ x b, vs = [x] ∧ IntB K H x b ∧ ∀ H', Ex H H' → Q (.bl b) H'
theorem ok_is_integer (T : Txt K mg) {f : Addr} {fd : FuncData} (D : DefAt K mg "is_integer" sIsInteger ["value"] f fd) : FnOk P w K mg base CX0 1 f fd ["value"] (spIsInteger K) := by
  refine D.F.ok scIsInteger (fun vs H Q E h => ?_) (fun cdv A outer s H vs Q E hr h => ?_)
  · obtain ⟨x, b, rfl, _⟩ := h
    rfl
  · obtain ⟨x, b, rfl, hb, q⟩ := h
    obtain ⟨tB, vB⟩ := T.v_BOUND
    refine ⟨_, pss_one (ps_ret (pe_and (pe_callB call_isi (by rfl) T.z_isinstance (by decide +kernel) (pa_cons (pv 0) (pa_cons (pe_bltn (v := .ty "int") (by rfl) T.z_int (by decide +kernel) rfl) pa_nil)))
      (pe_and (pe_not (pe_callB call_isi (by rfl) T.z_isinstance (by decide +kernel) (pa_cons (pv 0) (pa_cons (pe_bltn (v := .ty "bool") (by rfl) T.z_bool (by decide +kernel) rfl) pa_nil))))
      (pe_one (pe_chain op_lt op_lt (pe_un un_neg (pe_glob (v := .int (10 ^ 60)) rfl vB ⟨_, rfl⟩)) (pv 0) (pe_glob (v := .int (10 ^ 60)) rfl vB ⟨_, rfl⟩)))))), ?_⟩
    cases hb with
    | int i =>
      refine ⟨.int i, rfl, .int i, .ty "int", .type "int", .type "int", true, rfl, .ty _, .base (.int i), kit_ty (by decide +kernel), true, rfl, iteT ?_⟩
      refine ⟨.int i, rfl, .int i, .ty "bool", .type "int", .type "bool", false, rfl, .ty _, .base (.int i), kit_ty (by decide +kernel), false, rfl, true, rfl, iteT ?_⟩
      refine ⟨_, rfl, .int i, rfl, _, _, rfl, rfl, _, rfl, ite2 (fun c => ?_) (fun c => ?_)⟩
      · refine ⟨_, _, rfl, rfl, ?_⟩
        have e : decide (-(10 ^ 60) < i) = true := c
        rw [e, Bool.true_and] at q
        exact q _ (Ex.refl _)
      · have e : decide (-(10 ^ 60) < i) = false := Bool.eq_false_iff.mpr c
        rw [e, Bool.false_and] at q
        exact q _ (Ex.refl _)
    | no hn =>
      obtain ⟨t, ty, h | rfl⟩ := hn.ty
      · exact ⟨x, rfl, x, .ty "int", t, .type "int", false, rfl, .ty _, ty, h, false, rfl, iteF (q _ (Ex.refl _))⟩
      · refine ⟨x, rfl, x, .ty "int", .type "bool", .type "int", true, rfl, .ty _, ty, kit_ty (by decide +kernel), true, rfl, iteT ?_⟩
        exact ⟨x, rfl, x, .ty "bool", .type "bool", .type "bool", true, rfl, .ty _, ty, kit_ty (by decide +kernel), true, rfl, false, rfl, iteF (q _ (Ex.refl _))⟩
def spIsBetween (K : PySem.W.Frag) : Sp := fun vs H Q _ => ∃ x lo hi b, vs = [x, .int lo, .int hi] ∧ BtwB K H lo hi x b ∧ ∀ H', Ex H H' → Q (.bl b) H'
theorem ok_is_between (T : Txt K mg) {f : Addr} {fd : FuncData} (D : DefAt K mg "is_between" sIsBetween ["value", "low", "high"] f fd) : FnOk P w K mg base CX0 2 f fd ["value", "low", "high"] (spIsBetween K) := by
  refine D.F.ok scIsBetween (fun vs H Q E h => ?_) (fun cdv A outer s H vs Q E hr h => ?_)
  · obtain ⟨x, lo, hi, b, rfl, _⟩ := h
    rfl
  · obtain ⟨x, lo, hi, b, rfl, hb, q⟩ := h
    obtain ⟨f1, fd1, D1⟩ := T.d_is_integer
    refine ⟨_, pss_one (ps_ret (pe_and (pe_call (ok_is_integer T D1) hr (by rfl) D1.g D1.F.kp D1.b .nil pass0 (pa_cons (pv 0) pa_nil)) (pe_one (pe_chain op_le op_le (pv 1) (pv 0) (pv 2))))), ?_⟩
    cases hb with
    | int i =>
      refine ⟨.int i, rfl, .int i, _, rfl, .int i, fun H1 e1 => ⟨_, rfl, ite2 (fun c => ?_) (fun c => ?_)⟩⟩
      · refine ⟨.int lo, rfl, .int i, rfl, _, _, rfl, rfl, _, rfl, ?_⟩
        rw [c, Bool.true_and] at q
        refine ite2 (fun c2 => ⟨.int hi, rfl, _, _, rfl, rfl, ?_⟩) (fun c2 => ?_)
        · have e : decide (lo ≤ i) = true := c2
          rw [e, Bool.true_and] at q
          exact q _ e1
        · have e : decide (lo ≤ i) = false := Bool.eq_false_iff.mpr c2
          rw [e, Bool.false_and] at q
          exact q _ e1
      · rw [Bool.eq_false_iff.mpr c, Bool.false_and] at q
        exact q _ e1
    | no hn => exact ⟨x, rfl, x, false, rfl, .no hn, fun H1 e1 => ⟨false, rfl, iteF (q _ e1)⟩⟩
end
end K1

namespace K1
open PySem PySem.Spec PyProof.Rows L2 Evl
/-! ### the dice -/
def Dice (H : Hp) (d : Addr) : Prop := ∃ l m c : Int, H d = some (.lst [.int l, .int m, .int c])
/-- all but the dice is as it was -/
def Keep (d : Addr) (H H' : Hp) : Prop := ∀ b o, b ≠ d → H b = some o → H' b = some o
theorem Keep.refl (d : Addr) (H : Hp) : Keep d H H := fun _ _ _ h => h
theorem Keep.trans {d : Addr} {H H1 H2 : Hp} (a : Keep d H H1) (b : Keep d H1 H2) : Keep d H H2 := fun x o n h => b x o n (a x o n h)
theorem Keep.ex {d : Addr} {H H' : Hp} (e : Ex H H') : Keep d H H' := fun b o _ h => e b o h
theorem Keep.dice {d : Addr} {H : Hp} {o : HO} : Keep d H (upd H d o) := fun b u n h => by
  rw [upd_ne n]
  exact h
theorem Keep.new {d p : Addr} {H : Hp} {o : HO} (h : H p = none) : Keep d H (upd H p o) := .ex (.new h)
/-- a thing that H did not know may change -/
theorem Keep.mut {d p : Addr} {H H' : Hp} {o : HO} (e : Keep d H H') (h : H p = none) : Keep d H (upd H' p o) := fun b u n q => by
  rw [upd_ne (ne_of_none q h)]
  exact e b u n q
theorem Keep.free {d p : Addr} {H H' : Hp} (e : Keep d H H') (n : p ≠ d) (h : H' p = none) : H p = none := by
  cases q : H p with
  | none => rfl
  | some o =>
    rw [e p o n q] at h
    cases h
theorem Dice.ex {d : Addr} {H H' : Hp} (e : Ex H H') (h : Dice H d) : Dice H' d := by
  obtain ⟨l, m, c, q⟩ := h
  exact ⟨l, m, c, e _ _ q⟩
theorem Dice.upd {d p : Addr} {H : Hp} {o : HO} (n : d ≠ p) (h : Dice H d) : Dice (L2.upd H p o) d := by
  obtain ⟨l, m, c, q⟩ := h
  exact ⟨l, m, c, by rw [upd_ne n]; exact q⟩
theorem Dice.ne_new {d p : Addr} {H : Hp} (h : Dice H d) (n : H p = none) : d ≠ p := by
  obtain ⟨l, m, c, q⟩ := h
  exact ne_of_none q n
theorem Dice.ne_tup {d p : Addr} {H : Hp} {xs : List V} (h : Dice H d) (n : H p = some (.tup xs)) : p ≠ d := by
  obtain ⟨l, m, c, q⟩ := h
  exact ne_of n q (by intro z; cases z)
theorem Keep.tup {d p : Addr} {H H' : Hp} {xs : List V} (e : Keep d H H') (h : Dice H d) (n : H p = some (.tup xs)) : H' p = some (.tup xs) := e _ _ (h.ne_tup n) n
theorem wide_n {n : Int} (h : 1 ≤ n) (h2 : n ≤ 10 ^ 50) {i : Int} : CDivW i n := wide_div (b := 200) (by omega) (by omega) (by decide) (by decide)
section
variable {P : Program} {w : World} {K : PySem.W.Frag} {mg : Str → Option Value} {base : Heap}
def spRoll : Sp := fun vs H Q _ => ∃ (d : Addr) (n : Int), vs = [.ref d, .int n] ∧ Dice H d ∧ 1 ≤ n ∧ n ≤ 10 ^ 50 ∧ ∀ (r : Int) H', 0 ≤ r → r < n → Dice H' d → Keep d H H' → Q (.int r) H'
theorem ok_roll (T : Txt K mg) {f : Addr} {fd : FuncData} (D : DefAt K mg "_law_roll" sLRoll ["_law_dice_here", "_law_total"] f fd) : FnOk P w K mg base CX0 1 f fd ["_law_dice_here", "_law_total"] spRoll := by
  refine D.F.ok scLRoll (fun vs H Q E h => ?_) (fun cdv A outer s H vs Q E hr h => ?_)
  · obtain ⟨d, n, rfl, _⟩ := h
    rfl
  · obtain ⟨d, n, rfl, ⟨l, m, c, hd⟩, h1, h2, q⟩ := h
    refine ⟨_, pss_cons (ps_set (i := 2) scLRoll.nd rfl (.inl rfl) (pe_callTy call_int1 (by rfl) T.z_int (by decide +kernel) (pa_cons (pv 1) pa_nil)))
      (pss_cons (ps_if (pt_cmpR op_gt (pe_ix ix_list (pv 0) pe_int (fun _ _ => rfl)) pe_int (nomark _))
        (pss_cons (ps_set (i := 3) scLRoll.nd rfl (.inl rfl) (pe_op op_mod (pe_ix ix_list (pv 0) pe_int (fun _ _ => rfl)) (pv 2)))
        (pss_cons (ps_asg (pe_op op_fdivW (pe_ix ix_list (pv 0) pe_int (fun _ _ => rfl)) (pv 2)) (pg_sub (pv 0) pe_int set_list))
        (pss_one (ps_ret (pe_callTy call_int1 (by rfl) T.z_int (by decide +kernel) (pa_cons (pv 3) pa_nil)))))) pss_nil)
      (pss_cons (ps_asg (pe_op op_add (pe_ix ix_list (pv 0) pe_int (fun _ _ => rfl)) pe_int) (pg_sub (pv 0) pe_int set_list))
      (pss_cons (ps_set (i := 4) scLRoll.nd rfl (.inl rfl) (pe_op op_mod (pe_op op_add (pe_ix ix_list (pv 0) pe_int (fun _ _ => rfl)) (pe_op op_mul pe_int (pe_ix ix_list (pv 0) pe_int (fun _ _ => rfl)))) pe_int))
      (pss_cons (ps_set (i := 5) scLRoll.nd rfl (.inl rfl) (pe_op op_add (pe_op op_mul (pe_op op_mod (pe_op op_mul (pv 4) (pv 4)) pe_int) (pv 4)) (pe_op op_mul pe_int (pe_ix ix_list (pv 0) pe_int (fun _ _ => rfl)))))
      (pss_cons (ps_set (i := 5) scLRoll.nd rfl (.inl rfl) (pe_op op_mod (pv 5) pe_int))
      (pss_one (ps_ret (pe_callTy call_int1 (by rfl) T.z_int (by decide +kernel) (pa_cons (pe_op op_mod (pe_op op_fdiv (pv 5) pe_int) (pv 2)) pa_nil))))))))), ?_⟩
    refine ⟨.int n, rfl, .inl ⟨n, rfl, ?_⟩⟩
    have S0 : SqL K H d [.int l, .int m, .int c] := SqL.of hd
    refine ⟨.ref d, rfl, d, _, 0, .int l, rfl, rfl, S0, rfl, l, 0, rfl, rfl, _, rfl, ite2 (fun cc => ?_) (fun cc => ?_)⟩
    · refine ⟨.ref d, rfl, d, _, 0, .int l, rfl, rfl, S0, rfl, .int n, rfl, l, n, rfl, rfl, by omega, ?_⟩
      refine ⟨.ref d, rfl, d, _, 0, .int l, rfl, rfl, S0, rfl, .int n, rfl, l, n, rfl, rfl, wide_n h1 h2, .ref d, rfl, d, _, 0, 0, rfl, rfl, hd, rfl, ?_⟩
      refine ⟨_, rfl, .inl ⟨l % n, rfl, ?_⟩⟩
      exact q _ _ (Int.emod_nonneg _ (by omega)) (Int.emod_lt_of_pos _ (by omega)) ⟨_, _, _, upd_same⟩ Keep.dice
    · refine ⟨.ref d, rfl, d, _, 2, .int c, rfl, rfl, S0, rfl, c, 1, rfl, rfl, .ref d, rfl, d, _, 2, 2, rfl, rfl, hd, rfl, ?_⟩
      generalize hH1 : upd H d _ = H1
      have hd1 : H1 d = some (.lst [.int l, .int m, .int (c + 1)]) := by
        rw [← hH1]
        exact upd_same
      have k1 : Keep d H H1 := by
        rw [← hH1]
        exact Keep.dice
      have S1 : SqL K H1 d [.int l, .int m, .int (c + 1)] := SqL.of hd1
      refine ⟨.ref d, rfl, d, _, 1, .int m, rfl, rfl, S1, rfl, .ref d, rfl, d, _, 2, .int (c + 1), rfl, rfl, S1, rfl, _, _, rfl, rfl, .inl (by decide), _, _, rfl, rfl, _, _, rfl, rfl, by show (0 : Int) < _; decide, ?_⟩
      refine ⟨_, rfl, _, rfl, (m + 1000409 * (c + 1)) % 2305843009213693951, (m + 1000409 * (c + 1)) % 2305843009213693951, rfl, rfl, .inl (by constructor <;> omega), _, _, rfl, rfl, by show (0 : Int) < _; decide, _, rfl, _, (m + 1000409 * (c + 1)) % 2305843009213693951, rfl, rfl, .inr (by constructor <;> omega), ?_⟩
      refine ⟨.ref d, rfl, d, _, 2, .int (c + 1), rfl, rfl, S1, rfl, _, _, rfl, rfl, .inl (by decide), _, _, rfl, rfl, ?_⟩
      refine ⟨_, rfl, _, _, rfl, rfl, by show (0 : Int) < _; decide, ?_⟩
      refine ⟨_, rfl, _, _, rfl, rfl, ⟨by decide, by decide⟩, .int n, rfl, _, n, rfl, rfl, by omega, .inl ⟨_, rfl, ?_⟩⟩
      exact q _ _ (Int.emod_nonneg _ (by omega)) (Int.emod_lt_of_pos _ (by omega)) ⟨_, _, _, hd1⟩ k1
def spOneOf (K : PySem.W.Frag) : Sp := fun vs H Q _ => ∃ (d a : Addr) (xs : List V), vs = [.ref d, .ref a] ∧ Dice H d ∧ H a = some (.lst xs) ∧ a ≠ d ∧ 1 ≤ xs.length ∧ xs.length ≤ 1000 ∧ ∀ x H', x ∈ xs → Dice H' d → Keep d H H' → Q x H'
theorem ok_one_of (T : Txt K mg) {f : Addr} {fd : FuncData} (D : DefAt K mg "_law_one_of" sLOneOf ["_law_dice_here", "_law_items"] f fd) : FnOk P w K mg base CX0 2 f fd ["_law_dice_here", "_law_items"] (spOneOf K) := by
  refine D.F.ok scLOneOf (fun vs H Q E h => ?_) (fun cdv A outer s H vs Q E hr h => ?_)
  · obtain ⟨d, a, xs, rfl, _⟩ := h
    rfl
  · obtain ⟨d, a, xs, rfl, hd, ha, nad, h1, h2, q⟩ := h
    obtain ⟨f1, fd1, D1⟩ := T.d_l_roll
    refine ⟨_, pss_one (ps_ret (pe_ix ix_list (pv 1) (pe_call (ok_roll T D1) hr (by rfl) D1.g D1.F.kp D1.b .nil pass0 (pa_cons (pv 0) (pa_cons (pe_callB call_len_seq (by rfl) T.z_len PySem.boot_len (pa_cons (pv 1) pa_nil)) pa_nil))) (fun _ _ => rfl))), ?_⟩
    refine ⟨.ref a, rfl, .ref d, rfl, .ref a, rfl, a, xs, rfl, .inl (SqL.of ha), d, _, rfl, hd, by omega, by omega, fun r H1 r0 r1 hd1 k1 => ?_⟩
    have hx : xs[r.toNat]? = some (xs[r.toNat]'(by omega)) := List.getElem?_eq_getElem _
    refine ⟨a, xs, r, _, rfl, rfl, SqL.of (k1 _ _ nad ha), ?_, q (xs[r.toNat]'(by omega)) H1 (List.getElem_mem _) hd1 k1⟩
    exact at_of (show r = ((r.toNat : Nat) : Int) by omega) hx
/-- a drawn ring -/
def RingAt (H : Hp) (most : Int) (x : V) (n s : Int) : Prop := ∃ t, x = .ref t ∧ H t = some (.tup [.int n, .int s]) ∧ 2 ≤ n ∧ n ≤ most ∧ 1 ≤ s ∧ s < n
def spRing : Sp := fun vs H Q _ => ∃ (d : Addr) (most : Int), vs = [.ref d, .int most] ∧ Dice H d ∧ 2 ≤ most ∧ most ≤ 1000 ∧ ∀ x n s H', RingAt H' most x n s → Dice H' d → Keep d H H' → Q x H'
theorem ok_ring (T : Txt K mg) {f : Addr} {fd : FuncData} (D : DefAt K mg "_law_ring" sLRing ["_law_dice_here", "_law_most"] f fd) : FnOk P w K mg base CX0 2 f fd ["_law_dice_here", "_law_most"] spRing := by
  refine D.F.ok scLRing (fun vs H Q E h => ?_) (fun cdv A outer s H vs Q E hr h => ?_)
  · obtain ⟨d, a, rfl, _⟩ := h
    rfl
  · obtain ⟨d, most, rfl, hd, h1, h2, q⟩ := h
    obtain ⟨f1, fd1, D1⟩ := T.d_l_roll
    refine ⟨_, pss_cons (ps_set (i := 2) scLRing.nd rfl (.inl rfl) (pe_op op_add pe_int (pe_call (ok_roll T D1) hr (by rfl) D1.g D1.F.kp D1.b .nil pass0 (pa_cons (pv 0) (pa_cons (pe_op op_sub (pv 1) pe_int) pa_nil)))))
      (pss_one (ps_ret (pe_tup (pa_cons (pv 2) (pa_cons (pe_op op_add pe_int (pe_call (ok_roll T D1) hr (by rfl) D1.g D1.F.kp D1.b .nil pass0 (pa_cons (pv 0) (pa_cons (pe_op op_sub (pv 2) pe_int) pa_nil)))) pa_nil))))), ?_⟩
    refine ⟨.ref d, rfl, .int most, rfl, _, _, rfl, rfl, d, _, rfl, hd, by omega, by omega, fun r H1 r0 r1 hd1 k1 => ?_⟩
    refine ⟨2, r, rfl, rfl, _, rfl, .ref d, rfl, .int (2 + r), rfl, _, _, rfl, rfl, d, _, rfl, hd1, by omega, by omega, fun r' H2 r0' r1' hd2 k2 => ?_⟩
    refine ⟨1, r', rfl, rfl, by show 2 ≤ sizeLine; decide, fun t ht => ?_⟩
    exact q _ (2 + r) (1 + r') _ ⟨t, rfl, upd_same, by omega, by omega, by omega, by omega⟩ (hd2.upd (hd2.ne_new ht)) ((k1.trans k2).trans (Keep.new ht))
end
end K1

namespace K1
open PySem PySem.Spec PyProof.Rows L2 Evl
section
variable {P : Program} {w : World} {K : PySem.W.Frag} {mg : Str → Option Value} {base : Heap}
def spDice (K : PySem.W.Frag) : Sp := fun vs H Q _ => ∃ (a : Addr) (ns : List Int) (i : Nat), vs = [.ref a, .int i] ∧ SqL K H a (ns.map V.int) ∧ ∀ p H', H p = none → Ex H H' → Dice H' p → Q (.ref p) H'
theorem ok_dice (T : Txt K mg) {f : Addr} {fd : FuncData} (D : DefAt K mg "_law_dice" sLDice ["_law_script", "_law_at"] f fd) : FnOk P w K mg base CX0 1 f fd ["_law_script", "_law_at"] (spDice K) := by
  refine D.F.ok scLDice (fun vs H Q E h => ?_) (fun cdv A outer s H vs Q E hr h => ?_)
  · obtain ⟨d, n, i, rfl, _⟩ := h
    rfl
  · obtain ⟨a, ns, i, rfl, hS, q⟩ := h
    refine ⟨_, pss_cons (ps_set (i := 2) scLDice.nd rfl (.inl rfl) (pe_op op_add (pe_op op_mul pe_int (pv 1)) pe_int))
      (pss_cut (ps_if (pt_cmpR op_lt (pv 1) (pe_callB call_len_seq (by rfl) T.z_len PySem.boot_len (pa_cons (pv 0) pa_nil)) (nomark _))
        (pss_one (ps_set (i := 2) scLDice.nd rfl (.inl rfl) (pe_ix ix_list (pv 0) (pv 1) (fun _ _ => rfl)))) pss_nil)
      (pss_cons (ps_set (i := 3) scLDice.nd rfl (.inl rfl) (pe_op op_mod (pe_callTy call_int1 (by rfl) T.z_int (by decide +kernel) (pa_cons (pe_callB call_abs (by rfl) T.z_abs (by decide +kernel) (pa_cons (pv 2) pa_nil)) pa_nil)) (pe_op op_powW (pe_op op_pow pe_int pe_int) pe_int)))
      (pss_cons (ps_set (i := 4) scLDice.nd rfl (.inl rfl) (pe_op op_fdivW (pv 3) (pe_op op_pow pe_int pe_int)))
      (pss_cons (ps_set (i := 5) scLDice.nd rfl (.inl rfl) (pe_op op_add (pe_op op_add (pe_op op_add (pe_op op_mul (pe_op op_mod (pv 3) pe_int) pe_int) (pe_op op_mul pe_int (pv 1))) (pe_op op_mul pe_int (pe_callTy call_int1 (by rfl) T.z_int (by decide +kernel) (pa_cons (pe_cmpR op_lt (pv 2) pe_int (nomark _)) pa_nil)))) pe_int))
      (pss_one (ps_ret (pe_lst (pa_cons (pv 4) (pa_cons (pe_op op_mod (pv 5) pe_int) (pa_cons pe_int pa_nil))))))))) ), ?_⟩
    refine ⟨_, rfl, _, _, rfl, rfl, .inl (by decide), _, _, rfl, rfl, ?_⟩
    refine ⟨fun σ' H' => ∃ cell : Int, σ' = [some (.ref a), some (.int i), some (.int cell), none, none, none] ∧ H' = H, ?_, ?_⟩
    · refine ⟨_, rfl, .ref a, rfl, a, _, rfl, .inl hS, _, _, rfl, rfl, _, rfl, ite2 (fun c => ?_) (fun c => ⟨_, rfl, rfl⟩)⟩
      have c' : (i : Int) < ((ns.map V.int).length : Int) := of_decide_eq_true c
      rw [List.length_map] at c'
      have hx : (ns.map V.int)[i]? = some (.int (ns[i]'(by omega))) := by
        rw [List.getElem?_map, List.getElem?_eq_getElem (by omega)]
        rfl
      exact ⟨.ref a, rfl, _, rfl, a, _, _, _, rfl, rfl, hS, atI_nat hx, _, rfl, rfl⟩
    · rintro σ' H' ⟨cell, rfl, rfl⟩
      refine ⟨_, rfl, _, rfl, .inl ⟨_, rfl, _, _, rfl, rfl, ⟨by decide, by decide, by decide⟩, _, _, rfl, rfl, ⟨by decide, by decide +kernel⟩, _, _, rfl, rfl, by show (0 : Int) < (10 ^ Int.toNat 60) ^ Int.toNat 10; decide +kernel, ?_⟩⟩
      refine ⟨_, rfl, _, _, rfl, rfl, ⟨by decide, by decide, by decide⟩, _, _, rfl, rfl, wide_div (b := 60) (by decide +kernel) (by decide +kernel) (by decide) (by decide), ?_⟩
      refine ⟨_, rfl, _, _, rfl, rfl, by show (0 : Int) < _; decide, _, _, rfl, rfl, .inr (by decide), _, rfl, _, _, rfl, rfl, .inl (by decide), _, _, rfl, rfl, _, rfl, _, _, rfl, rfl, .inr ⟨_, rfl, _, _, rfl, rfl, .inl (by decide), _, _, rfl, rfl, _, _, rfl, rfl, ?_⟩⟩
      refine ⟨_, rfl, _, rfl, _, _, rfl, rfl, by show (0 : Int) < _; decide, by show 3 ≤ sizeLine; decide, fun p hp => ?_⟩
      exact q p _ hp (Ex.new hp) ⟨_, _, _, upd_same⟩
/-- the greatest common divisor -/
def spCommon : Sp := fun vs H Q _ => ∃ (a b : Nat), vs = [.int a, .int b] ∧ ∀ H', Ex H H' → Q (.int (Nat.gcd a b : Nat)) H'
theorem ok_common (T : Txt K mg) {f : Addr} {fd : FuncData} (D : DefAt K mg "_law_common" sLCommon ["_law_one", "_law_other"] f fd) : FnOk P w K mg base CX0 1 f fd ["_law_one", "_law_other"] spCommon := by
  refine D.F.ok scLCommon (fun vs H Q E h => ?_) (fun cdv A outer s H vs Q E hr h => ?_)
  · obtain ⟨d, n, rfl, _⟩ := h
    rfl
  · obtain ⟨a, b, rfl, q⟩ := h
    refine ⟨_, pss_cons (ps_while PassesOwn.never (pt_cmpR op_ne (pv 1) pe_int (nomark _))
        (pss_one (ps_par (i := 0) (j := 1) (by rfl) scLCommon.nd rfl rfl (by decide) rfl rfl (pa_cons (pv 1) (pa_cons (pe_op op_mod (pv 0) (pv 1)) pa_nil)) (by rfl))))
      (pss_one (ps_ret (pv 0))), ?_⟩
    refine q_while (fun m σ' H' => ∃ x y : Nat, σ' = [some (.int x), some (.int y)] ∧ m = y ∧ Nat.gcd x y = Nat.gcd a b ∧ Ex H H') b ⟨a, b, rfl, rfl, rfl, Ex.refl _⟩ (fun m σ' H' hW => ?_)
    obtain ⟨x, y, rfl, rfl, hg, e1⟩ := hW
    refine ⟨_, et_test (ev_op (ev_var (v := .int (m : Int)) rfl) ev_c (rv_ne rfl)), fun hb H1 e2 => ?_, fun hb H1 e2 => ?_⟩
    · have hy : m ≠ 0 := fun z => by
        subst z
        exact absurd hb (by decide)
      have hm : (x : Int) % (m : Int) = ((x % m : Nat) : Int) := by simp
      refine ⟨fun σ2 H2 => σ2 = [some (.int m), some (.int ((x % m : Nat) : Int))] ∧ H2 = H1, fun σ2 H2 hN => ?_, ?_⟩
      · obtain ⟨rfl, rfl⟩ := hN
        refine ⟨x % m, Nat.mod_lt _ (by omega), m, x % m, rfl, rfl, ?_, e1.trans e2⟩
        rw [← hg, Nat.gcd_comm m (x % m), ← Nat.gcd_rec, Nat.gcd_comm]
      · refine ⟨_, rfl, _, rfl, _, rfl, (x : Int), (m : Int), rfl, rfl, by omega, _, _, rfl, ?_⟩
        refine ⟨?_, rfl⟩
        show [some (V.int (m : Int)), some (V.int ((x : Int) % (m : Int)))] = _
        rw [hm]
    · have hy : m = 0 := by
        by_cases z : m = 0
        · exact z
        · exfalso
          have : (!decide (V.int (m : Int) = V.int 0)) = true := by
            rw [decide_eq_false (fun q => z (by have := V.int.inj q; omega))]
            rfl
          rw [this] at hb
          cases hb
      subst hy
      refine ⟨_, rfl, ?_⟩
      rw [Nat.gcd_zero_right] at hg
      rw [hg]
      exact q _ (e1.trans e2)
/-- a drawn ring of one order -/
def spRingOf : Sp := fun vs H Q _ => ∃ (d : Addr) (k t : Int), vs = [.ref d, .int k, .int t] ∧ Dice H d ∧ 2 ≤ k ∧ k ≤ 100 ∧ 1 ≤ t ∧ t ≤ 1000 ∧ ∀ x n s H', RingAt H' (k * t) x n s → Dice H' d → Keep d H H' → Q x H'
theorem ok_ring_of (T : Txt K mg) {f : Addr} {fd : FuncData} (D : DefAt K mg "_law_ring_of" sLRingOf ["_law_dice_here", "_law_k", "_law_times"] f fd) : FnOk P w K mg base CX0 3 f fd ["_law_dice_here", "_law_k", "_law_times"] spRingOf := by
  refine D.F.ok scLRingOf (fun vs H Q E h => ?_) (fun cdv A outer s H vs Q E hr h => ?_)
  · obtain ⟨d, n, t, rfl, _⟩ := h
    rfl
  · obtain ⟨d, k, t, rfl, hd, h1, h2, h3, h4, q⟩ := h
    obtain ⟨f1, fd1, D1⟩ := T.d_l_roll
    obtain ⟨f2, fd2, D2⟩ := T.d_l_common
    obtain ⟨f3, fd3, D3⟩ := T.d_l_one_of
    have hr1 : Room 1 _ := hr.mono (by decide)
    refine ⟨_, pss_cons (ps_set (i := 3) scLRingOf.nd rfl (.inl rfl) (pe_op op_add pe_int (pe_call (ok_roll T D1) hr1 (by rfl) D1.g D1.F.kp D1.b .nil pass0 (pa_cons (pv 0) (pa_cons (pv 2) pa_nil)))))
      (pss_cons (ps_setLc (i := 4) (own := [("_law_one", 5)]) (g := gName 5) (by rfl) scLRingOf.nd rfl rfl (sw_true rfl rfl rfl (by decide +kernel)) (pi_range2 (by rfl) T.z_range (pa_cons pe_int (pa_cons (pv 1) pa_nil)))
        (blkOk_by (N := nLRingOf) (sc := defScope sLRingOf) (by decide +kernel)) (fun _ _ _ _ _ => pg_name (i := 5) scLRingOf.nd rfl (Or.inl rfl))
        (fun _ _ _ _ _ => pts_one (pt_cmpR op_eq (pe_call (ok_common T D2) hr1 (by rfl) D2.g D2.F.kp D2.b .nil pass0 (pa_cons (pv 1) (pa_cons (pv 5) pa_nil))) pe_int (nomark _))) (fun _ _ _ _ _ => pv 5))
      (pss_one (ps_ret (pe_tup (pa_cons (pe_op op_mul (pv 1) (pv 3)) (pa_cons (pe_op op_mul (pv 3) (pe_call (ok_one_of T D3) hr (by rfl) D3.g D3.F.kp D3.b .nil pass0 (pa_cons (pv 0) (pa_cons (pv 4) pa_nil)))) pa_nil)))))), ?_⟩
    refine ⟨.ref d, rfl, .int t, rfl, d, _, rfl, hd, by omega, by omega, fun r H1 r0 r1 hd1 k1 => ?_⟩
    refine ⟨1, r, rfl, rfl, .int k, rfl, 1, k, rfl, by omega, fun Dl hD => ?_⟩
    have ndl : d ≠ Dl := hd1.ne_new hD
    have hD0 : H Dl = none := k1.free ndl.symm hD
    refine lc_range (lo := 1) (n := (k - 1).toNat) (fun i H' => ∃ js : List Int, H' Dl = some (.lst (js.map V.int)) ∧ js.length ≤ i ∧ (∀ j ∈ js, 1 ≤ j ∧ j < k) ∧ (1 ≤ i → 1 ≤ js.length) ∧ Keep d H H' ∧ Dice H' d)
      ⟨[], upd_same, Nat.le_refl _, by simp, by omega, k1.trans (Keep.new hD), hd1.upd (hd1.ne_new hD)⟩ (fun i H' hi hp => ?_) (fun H' hp => ?_)
    · obtain ⟨js, a1, a2, a3, a4, a5, a6⟩ := hp
      refine ⟨rfl, .int k, rfl, .int (1 + (i : Int)), rfl, k.toNat, 1 + i, ?_, fun H2 e2 => ?_⟩
      · show [V.int k, V.int (1 + (i : Int))] = [V.int ((k.toNat : Nat) : Int), V.int (((1 + i : Nat)) : Int)]
        rw [show ((k.toNat : Nat) : Int) = k by omega, show (((1 + i : Nat)) : Int) = 1 + (i : Int) by omega]
      · refine ⟨rfl, _, rfl, ite2 (fun c => ?_) (fun c => ?_)⟩
        · refine ⟨_, rfl, js.map V.int, e2 _ _ a1, ?_, js ++ [1 + (i : Int)], ?_, ?_, ?_, ?_, ?_, ?_⟩
          · rw [List.length_map]
            exact small1000 (by omega)
          · rw [List.map_append]
            exact upd_same
          · rw [List.length_append]
            exact Nat.add_le_add_right a2 1
          · intro j hj
            rcases List.mem_append.mp hj with hj | hj
            · exact a3 j hj
            · have := List.mem_singleton.mp hj
              omega
          · intro _
            rw [List.length_append]
            exact Nat.le_add_left _ _
          · exact (a5.trans (Keep.ex e2)).mut hD0
          · exact (a6.ex e2).upd ndl
        · refine ⟨js, e2 _ _ a1, by omega, a3, fun _ => ?_, a5.trans (Keep.ex e2), a6.ex e2⟩
          by_cases z : i = 0
          · subst z
            refine absurd ?_ c
            rw [show k.toNat.gcd (1 + 0) = 1 from Nat.gcd_one_right k.toNat]
            rfl
          · exact a4 (by omega)
    · obtain ⟨js, a1, a2, a3, a4, a5, a6⟩ := hp
      have hl : 1 ≤ js.length := a4 (by omega)
      have hb : 1 ≤ 1 + r ∧ 1 + r ≤ t := by omega
      have hkm : k * (1 + r) ≤ k * t := Int.mul_le_mul_of_nonneg_left hb.2 (by omega)
      have hk2 : 2 ≤ k * (1 + r) := by
        have := Int.mul_le_mul_of_nonneg_left hb.1 (show (0 : Int) ≤ k by omega)
        omega
      refine ⟨.int k, rfl, .int (1 + r), rfl, k, 1 + r, rfl, rfl, .inl (by constructor <;> omega), .int (1 + r), rfl, .ref d, rfl, .ref Dl, rfl, d, Dl, _, rfl, a6, a1, ndl.symm, by rw [List.length_map]; exact hl, by rw [List.length_map]; omega, fun x H2 hx hd2 k2 => ?_⟩
      obtain ⟨j, hj, rfl⟩ := List.mem_map.mp hx
      obtain ⟨j1, j2⟩ := a3 j hj
      refine ⟨1 + r, j, rfl, rfl, .inl (by constructor <;> omega), by show 2 ≤ sizeLine; decide, fun p hp => ?_⟩
      have c1 : 1 ≤ (1 + r) * j := by
        have := Int.mul_le_mul_of_nonneg_left j1 (show (0 : Int) ≤ 1 + r by omega)
        omega
      have c2 : (1 + r) * j < k * (1 + r) := by
        rw [Int.mul_comm k (1 + r)]
        exact Int.mul_lt_mul_of_pos_left j2 (by omega)
      exact q _ _ _ _ ⟨p, rfl, upd_same, hk2, hkm, c1, c2⟩ (hd2.upd (hd2.ne_new hp)) ((a5.trans k2).trans (Keep.new hp))
end
end K1

namespace K1
open PySem PySem.Spec PyProof.Rows L2 Evl
/-! ### chains -/
theorem RingAt.keep {d : Addr} {H H' : Hp} {most n s : Int} {x : V} (e : Keep d H H') (h : Dice H d) (r : RingAt H most x n s) : RingAt H' most x n s := by
  obtain ⟨t, rfl, ht, q⟩ := r
  exact ⟨t, rfl, e.tup h ht, q⟩
theorem RingAt.ex {H H' : Hp} {most n s : Int} {x : V} (e : Ex H H') (r : RingAt H most x n s) : RingAt H' most x n s := by
  obtain ⟨t, rfl, ht, q⟩ := r
  exact ⟨t, rfl, e _ _ ht, q⟩
theorem RingAt.upd {H : Hp} {most n s : Int} {x : V} {p : Addr} {o : HO} (h : ∀ t, x = .ref t → t ≠ p) (r : RingAt H most x n s) : RingAt (upd H p o) most x n s := by
  obtain ⟨t, rfl, ht, q⟩ := r
  exact ⟨t, rfl, by rw [upd_ne (h t rfl)]; exact ht, q⟩
theorem RingAt.most {H : Hp} {m m' n s : Int} {x : V} (h : m ≤ m') (r : RingAt H m x n s) : RingAt H m' x n s := by
  obtain ⟨t, rfl, ht, q1, q2, q3, q4⟩ := r
  exact ⟨t, rfl, ht, q1, by omega, q3, q4⟩
/-- rings at values, one by one -/
abbrev RingsAt (H : Hp) (most : Int) (xs : List V) (rs : List (Int × Int)) : Prop := Paired (fun x (r : Int × Int) => RingAt H most x r.1 r.2) xs rs
theorem paired_snoc {α β : Type} {R : α → β → Prop} {x : α} {y : β} (h : R x y) : ∀ {xs : List α} {ys : List β}, Paired R xs ys → Paired R (xs ++ [x]) (ys ++ [y])
  | _, _, .nil => .cons h .nil
  | _, _, .cons r t => .cons r (paired_snoc h t)
theorem paired_imp {α β : Type} {R S : α → β → Prop} (h : ∀ x y, R x y → S x y) : ∀ {xs : List α} {ys : List β}, Paired R xs ys → Paired S xs ys
  | _, _, .nil => .nil
  | _, _, .cons r t => .cons (h _ _ r) (paired_imp h t)
theorem paired_append {α β : Type} {R : α → β → Prop} : ∀ {xs xs' : List α} {ys ys' : List β}, Paired R xs ys → Paired R xs' ys' → Paired R (xs ++ xs') (ys ++ ys')
  | _, _, _, _, .nil, s => s
  | _, _, _, _, .cons r t, s => .cons r (paired_append t s)
theorem paired_get {α β : Type} {R : α → β → Prop} : ∀ {xs : List α} {ys : List β} {i : Nat} {x : α}, Paired R xs ys → xs[i]? = some x → ∃ y, ys[i]? = some y ∧ R x y
  | _, _, _, _, .nil, e => by simp at e
  | _, _, 0, _, .cons r _, e => by simp at e; subst e; exact ⟨_, rfl, r⟩
  | _, _, i + 1, x, .cons _ t, e => by
    obtain ⟨u, h1, h2⟩ := paired_get (i := i) (x := x) t (by simpa using e)
    exact ⟨u, by simpa using h1, h2⟩
theorem paired_len {α β : Type} {R : α → β → Prop} {xs : List α} {ys : List β} (h : Paired R xs ys) : xs.length = ys.length := Paired.length h
section
variable {P : Program} {w : World} {K : PySem.W.Frag} {mg : Str → Option Value} {base : Heap}
def spChain : Sp := fun vs H Q _ => ∃ (d : Addr) (g most : Int), vs = [.ref d, .int g, .int most] ∧ Dice H d ∧ 1 ≤ g ∧ g ≤ 100 ∧ 2 ≤ most ∧ most ≤ 60 ∧
  ∀ p xs rs H', H' p = some (.tup xs) → RingsAt H' most xs rs → (xs.length : Int) = g → Dice H' d → Keep d H H' → Q (.ref p) H'
/-- what stands behind i rings of the list at D -/
def ChW (d Dl : Addr) (H : Hp) (most : Int) (i : Nat) (H' : Hp) : Prop := ∃ xs rs, H' Dl = some (.lst xs) ∧ RingsAt H' most xs rs ∧ xs.length = i ∧ Keep d H H' ∧ Dice H' d
theorem ChW.turn {d Dl : Addr} {H H' H2 : Hp} {most n s : Int} {x : V} {i : Nat} (W : ChW d Dl H most i H') (ndl : d ≠ Dl) (hD0 : H Dl = none) (k : Keep d H' H2) (hd : Dice H2 d) (r : RingAt H2 most x n s) (hi : i < 1000) :
    ∃ acc, H2 Dl = some (.lst acc) ∧ acc.length < sizeLine ∧ ChW d Dl H most (i + 1) (upd H2 Dl (.lst (acc ++ [x]))) := by
  obtain ⟨xs, rs, a1, a2, a3, a4, a5⟩ := W
  have e1 : H2 Dl = some (.lst xs) := k _ _ ndl.symm a1
  have nt : ∀ {y : V} {n s : Int}, RingAt H2 most y n s → RingAt (upd H2 Dl (.lst (xs ++ [x]))) most y n s := fun {y n s} q => q.upd fun t ht => by
    obtain ⟨t', rfl, ht', _⟩ := q
    cases ht
    exact ne_of ht' e1 (by intro z; cases z)
  refine ⟨xs, e1, small1000 (by omega), xs ++ [x], rs ++ [(n, s)], upd_same, paired_snoc (R := fun x (r : Int × Int) => RingAt (upd H2 Dl (.lst (xs ++ [_]))) most x r.1 r.2) (y := (n, s)) (nt r) (paired_imp (R := fun x (r : Int × Int) => RingAt H' most x r.1 r.2) (fun y r' q => nt (q.keep k a5)) a2), ?_, (a4.trans k).mut hD0, hd.upd ndl⟩
  rw [List.length_append, a3]
  rfl
theorem ok_chain (T : Txt K mg) {f : Addr} {fd : FuncData} (D : DefAt K mg "_law_chain" sLChain ["_law_dice_here", "_law_rings", "_law_most"] f fd) : FnOk P w K mg base CX0 4 f fd ["_law_dice_here", "_law_rings", "_law_most"] spChain := by
  refine D.F.ok scLChain (fun vs H Q E h => ?_) (fun cdv A outer s H vs Q E hr h => ?_)
  · obtain ⟨d, n, t, rfl, _⟩ := h
    rfl
  · obtain ⟨d, g, most, rfl, hd, h1, h2, h3, h4, q⟩ := h
    obtain ⟨f1, fd1, D1⟩ := T.d_l_roll
    obtain ⟨f2, fd2, D2⟩ := T.d_l_ring_of
    obtain ⟨f3, fd3, D3⟩ := T.d_l_ring
    have hr1 : Room 1 _ := hr.mono (by decide)
    have hr2 : Room 2 _ := hr.mono (by decide)
    refine ⟨_, pss_cons (ps_if (pt_cmpR op_eq (pe_call (ok_roll T D1) hr1 (by rfl) D1.g D1.F.kp D1.b .nil pass0 (pa_cons (pv 0) (pa_cons pe_int pa_nil))) pe_int (nomark _))
        (pss_cons (ps_set (i := 3) scLChain.nd rfl (.inr rfl) (pe_op op_add pe_int (pe_call (ok_roll T D1) hr1 (by rfl) D1.g D1.F.kp D1.b .nil pass0 (pa_cons (pv 0) (pa_cons (pe_callB (call_min2 rfl) (by rfl) T.z_min (by decide +kernel) (pa_cons pe_int (pa_cons (pe_op op_sub (pv 2) pe_int) pa_nil))) pa_nil)))))
        (pss_one (ps_ret (pe_callTy call_tuple_of (by rfl) T.z_tuple (by decide +kernel) (pa_cons (pe_lc (own := [("_law_turn", 4)]) (g := gName 4) (tt := tYes) rfl scLChain.nd (pi_range1 (by rfl) T.z_range (pa_cons (pv 1) pa_nil))
          (blkOk_by (N := nLChain) (sc := defScope sLChain) (by decide +kernel)) (fun _ _ _ _ _ => pg_name (i := 4) scLChain.nd rfl (Or.inl rfl)) (fun _ _ _ _ _ => pts_nil)
          (fun _ _ _ _ _ => pe_call (ok_ring_of T D2) hr (by rfl) D2.g D2.F.kp D2.b .nil pass0 (pa_cons (pv 0) (pa_cons (pv 3) (pa_cons (pe_op op_fdiv (pv 2) (pv 3)) pa_nil))))) pa_nil))))) pss_nil)
      (pss_one (ps_ret (pe_callTy call_tuple_of (by rfl) T.z_tuple (by decide +kernel) (pa_cons (pe_lc (own := [("_law_turn", 4)]) (g := gName 4) (tt := tYes) rfl scLChain.nd (pi_range1 (by rfl) T.z_range (pa_cons (pv 1) pa_nil))
          (blkOk_by (N := nLChain) (sc := defScope sLChain) (by decide +kernel)) (fun _ _ _ _ _ => pg_name (i := 4) scLChain.nd rfl (Or.inl rfl)) (fun _ _ _ _ _ => pts_nil)
          (fun _ _ _ _ _ => pe_call (ok_ring T D3) hr2 (by rfl) D3.g D3.F.kp D3.b .nil pass0 (pa_cons (pv 0) (pa_cons (pv 2) pa_nil)))) pa_nil)))), ?_⟩
    refine ⟨.ref d, rfl, d, 3, rfl, hd, by omega, by omega, fun r H1 r0 r1 hd1 k1 => ?_⟩
    refine ⟨rfl, _, rfl, ite2 (fun c => ?_) (fun c => ?_)⟩
    · refine ⟨.ref d, rfl, .int most, rfl, most, 1, rfl, rfl, 3, most - 1, rfl, d, _, rfl, hd1, ?_, ?_, fun r' H2 r0' r1' hd2 k2 => ?_⟩
      · split <;> omega
      · split <;> omega
      have hk : 2 + r' ≤ most ∧ 2 + r' ≤ 4 := by
        split at r1' <;> omega
      refine ⟨2, r', rfl, rfl, .int g, rfl, g, rfl, by omega, by omega, fun Dl hD => ?_⟩
      have ndl : d ≠ Dl := hd2.ne_new hD
      have k12 := k1.trans k2
      have hD0 : H Dl = none := k12.free ndl.symm hD
      refine lc_range (lo := 0) (n := g.toNat) (ChW d Dl H most) ⟨[], [], upd_same, .nil, rfl, k12.trans (Keep.new hD), hd2.upd ndl⟩ (fun i H' hi W => ?_) (fun H' W => ?_)
      · have hd' := W.choose_spec.choose_spec.2.2.2.2
        have hq : 1 ≤ most / (2 + r') := Int.le_ediv_of_mul_le (by omega) (by omega)
        have hq2 : most / (2 + r') ≤ most := Int.ediv_le_self _ (by omega)
        have hq3 : (2 + r') * (most / (2 + r')) ≤ most := Int.mul_ediv_self_le (by omega)
        refine ⟨rfl, ?_⟩
        dsimp only [tYes]
        rw [if_pos rfl]
        refine ⟨.ref d, rfl, .int (2 + r'), rfl, .int most, rfl, .int (2 + r'), rfl, most, 2 + r', rfl, rfl, ⟨by omega, by omega⟩, d, 2 + r', most / (2 + r'), rfl, hd', by omega, by omega, hq, by omega, fun x n s H3 hx hd3 k3 => ?_⟩
        exact W.turn ndl hD0 k3 hd3 (hx.most hq3) (by omega)
      · obtain ⟨xs, rs, a1, a2, a3, a4, a5⟩ := W
        refine ⟨Dl, xs, rfl, .inl ⟨SqL.of a1, fun p hp => q p xs rs _ upd_same (paired_imp (fun y r' z => RingAt.ex (.new hp) z) a2) (by omega) (a5.upd (a5.ne_new hp)) (a4.trans (Keep.new hp))⟩⟩
    · refine ⟨.int g, rfl, g, rfl, by omega, by omega, fun Dl hD => ?_⟩
      have ndl : d ≠ Dl := hd1.ne_new hD
      have hD0 : H Dl = none := k1.free ndl.symm hD
      refine lc_range (lo := 0) (n := g.toNat) (ChW d Dl H most) ⟨[], [], upd_same, .nil, rfl, k1.trans (Keep.new hD), hd1.upd ndl⟩ (fun i H' hi W => ?_) (fun H' W => ?_)
      · have hd' := W.choose_spec.choose_spec.2.2.2.2
        refine ⟨rfl, ?_⟩
        dsimp only [tYes]
        rw [if_pos rfl]
        refine ⟨.ref d, rfl, .int most, rfl, d, most, rfl, hd', by omega, by omega, fun x n s H3 hx hd3 k3 => ?_⟩
        exact W.turn ndl hD0 k3 hd3 hx (by omega)
      · obtain ⟨xs, rs, a1, a2, a3, a4, a5⟩ := W
        refine ⟨Dl, xs, rfl, .inl ⟨SqL.of a1, fun p hp => q p xs rs _ upd_same (paired_imp (fun y r' z => RingAt.ex (.new hp) z) a2) (by omega) (a5.upd (a5.ne_new hp)) (a4.trans (Keep.new hp))⟩⟩
end
end K1

namespace K1
open PySem PySem.Spec PyProof.Rows L2 Evl
/-! ### judges of rings and chains -/
/-- no tuple -/
inductive NotTup (K : PySem.W.Frag) (H : Hp) : V → Prop where
  | bl (b : Bool) : NotTup K H (.bl b)
  | non : NotTup K H .non
  | int (i : Int) : NotTup K H (.int i)
  | str (x : Str) : NotTup K H (.str x)
  | lst {a : Addr} {xs : List V} (e : H a = some (.lst xs)) : NotTup K H (.ref a)
  | dK {a : Addr} {kvs : List (Key × V)} (e : H a = some (.dK kvs)) : NotTup K H (.ref a)
theorem NotTup.ty {K : PySem.W.Frag} {H : Hp} {x : V} (h : NotTup K H x) : ∃ t : Value, TyX K H x t ∧ PySem.W.kitOne K t (.type "tuple") = some false := by
  cases h with
  | bl b => exact ⟨_, .base (.bl b), (kit_ty (by decide +kernel))⟩
  | non => exact ⟨_, .base .non, (kit_ty (by decide +kernel))⟩
  | int x => exact ⟨_, .base (.int x), (kit_ty (by decide +kernel))⟩
  | str x => exact ⟨_, .base (.str x), (kit_ty (by decide +kernel))⟩
  | lst e => exact ⟨_, .base (.lst e), (kit_ty (by decide +kernel))⟩
  | dK e => exact ⟨_, .base (.dK e), (kit_ty (by decide +kernel))⟩
theorem NotTup.mono {K : PySem.W.Frag} {H H' : Hp} {x : V} (e : Ex H H') (h : NotTup K H x) : NotTup K H' x := by
  cases h with
  | bl b => exact .bl b
  | non => exact .non
  | int x => exact .int x
  | str x => exact .str x
  | lst q => exact .lst (e _ _ q)
  | dK q => exact .dK (e _ _ q)
theorem BtwB.mono {K : PySem.W.Frag} {H H' : Hp} {lo hi : Int} {x : V} {b : Bool} (e : Ex H H') (h : BtwB K H lo hi x b) : BtwB K H' lo hi x b := by
  cases h with
  | int i => exact .int i
  | no h => exact .no (h.mono e)
theorem BtwB.yes {K : PySem.W.Frag} {H : Hp} {lo hi i : Int} (h1 : lo ≤ i) (h2 : i ≤ hi) (h3 : -(10 ^ 60) < i) (h4 : i < 10 ^ 60) : BtwB K H lo hi (.int i) true := by
  have := BtwB.int (K := K) (H := H) (lo := lo) (hi := hi) i
  rw [decide_eq_true h1, decide_eq_true h2, decide_eq_true h3, decide_eq_true h4] at this
  exact this
theorem BtwB.out {K : PySem.W.Frag} {H : Hp} {lo hi i : Int} (h1 : ¬ (lo ≤ i ∧ i ≤ hi)) : BtwB K H lo hi (.int i) false := by
  have := BtwB.int (K := K) (H := H) (lo := lo) (hi := hi) i
  have e : (decide (lo ≤ i) && decide (i ≤ hi)) = false := by
    by_cases c : lo ≤ i
    · have c2 : ¬ i ≤ hi := fun z => h1 ⟨c, z⟩
      rw [decide_eq_false c2, Bool.and_false]
    · rw [decide_eq_false c, Bool.false_and]
  rw [e, Bool.and_false] at this
  exact this
inductive PairB (K : PySem.W.Frag) (H : Hp) : V → Bool → Prop where
  | no {x : V} (h : NotTup K H x) : PairB K H x false
  | tup {a : Addr} {xs : List V} (e : H a = some (.tup xs)) : PairB K H (.ref a) (decide (xs.length = 2))
inductive RingB (K : PySem.W.Frag) (H : Hp) : V → Bool → Prop where
  | no {x : V} (h : NotTup K H x) : RingB K H x false
  | len {a : Addr} {xs : List V} (e : H a = some (.tup xs)) (h : xs.length ≠ 2) : RingB K H (.ref a) false
  | first {a : Addr} {x y : V} (e : H a = some (.tup [x, y])) (h : BtwB K H 2 60 x false) : RingB K H (.ref a) false
  | both {a : Addr} {n : Int} {y : V} {b : Bool} (e : H a = some (.tup [.int n, y])) (h1 : 2 ≤ n) (h2 : n ≤ 60) (h : BtwB K H 1 (n - 1) y b) : RingB K H (.ref a) b
theorem RingB.mono {K : PySem.W.Frag} {H H' : Hp} {x : V} {b : Bool} (e : Ex H H') (h : RingB K H x b) : RingB K H' x b := by
  cases h with
  | no h => exact .no (h.mono e)
  | len q h => exact .len (e _ _ q) h
  | first q h => exact .first (e _ _ q) (h.mono e)
  | both q h1 h2 h => exact .both (e _ _ q) h1 h2 (h.mono e)
inductive ChainB (K : PySem.W.Frag) (H : Hp) : V → Bool → Prop where
  | no {x : V} (h : NotTup K H x) : ChainB K H x false
  | len {a : Addr} {xs : List V} (e : H a = some (.tup xs)) (h : ¬ (1 ≤ xs.length ∧ xs.length ≤ 12)) : ChainB K H (.ref a) false
  | tup {a : Addr} {xs : List V} {bs : List Bool} (e : H a = some (.tup xs)) (h : 1 ≤ xs.length ∧ xs.length ≤ 12) (hb : Paired (RingB K H) xs bs) : ChainB K H (.ref a) (bs.all id)
theorem RingAt.ring {K : PySem.W.Frag} {H : Hp} {most n s : Int} {x : V} (h : RingAt H most x n s) (hm : most ≤ 60) : RingB K H x true := by
  obtain ⟨t, rfl, ht, h1, h2, h3, h4⟩ := h
  exact .both ht h1 (by omega) (.yes h3 (by omega) (by omega) (by omega))
section
variable {P : Program} {w : World} {K : PySem.W.Frag} {mg : Str → Option Value} {base : Heap}
def spIsPair (K : PySem.W.Frag) : Sp := fun vs H Q _ => ∃ x b, vs = [x] ∧ PairB K H x b ∧ ∀ H', Ex H H' → Q (.bl b) H'
theorem ok_is_pair (T : Txt K mg) {f : Addr} {fd : FuncData} (D : DefAt K mg "is_pair" sIsPair ["value"] f fd) : FnOk P w K mg base CX0 1 f fd ["value"] (spIsPair K) := by
  refine D.F.ok scIsPair (fun vs H Q E h => ?_) (fun cdv A outer s H vs Q E hr h => ?_)
  · obtain ⟨x, b, rfl, _⟩ := h
    rfl
  · obtain ⟨x, b, rfl, hb, q⟩ := h
    refine ⟨_, pss_one (ps_ret (pe_and (pe_callB call_isi (by rfl) T.z_isinstance (by decide +kernel) (pa_cons (pv 0) (pa_cons (pe_bltn (v := .ty "tuple") (by rfl) T.z_tuple (by decide +kernel) rfl) pa_nil)))
      (pe_one (pe_cmpR op_eq (pe_callB call_len (by rfl) T.z_len PySem.boot_len (pa_cons (pv 0) pa_nil)) pe_int (nomark _))))), ?_⟩
    cases hb with
    | no hn =>
      obtain ⟨t, ty, h⟩ := hn.ty
      exact ⟨x, rfl, x, .ty "tuple", t, .type "tuple", false, rfl, .ty _, ty, h, false, rfl, iteF (q _ (Ex.refl _))⟩
    | @tup a xs e =>
      refine ⟨_, rfl, .ref a, .ty "tuple", .type "tuple", .type "tuple", true, rfl, .ty _, .base (.tup e), kit_ty (by decide +kernel), true, rfl, iteT ?_⟩
      refine ⟨_, rfl, _, xs.length, rfl, .inr ⟨_, SqT.of e, rfl⟩, rfl, ?_⟩
      have e2 : decide (V.int (xs.length : Int) = V.int 2) = decide (xs.length = 2) := by
        by_cases c : xs.length = 2
        · rw [c]
          rfl
        · rw [decide_eq_false c, decide_eq_false (fun z => c (by have := V.int.inj z; omega))]
      rw [e2]
      exact q _ (Ex.refl _)
def spIsRing (K : PySem.W.Frag) : Sp := fun vs H Q _ => ∃ x b, vs = [x] ∧ RingB K H x b ∧ ∀ H', Ex H H' → Q (.bl b) H'
theorem ok_is_ring (T : Txt K mg) {f : Addr} {fd : FuncData} (D : DefAt K mg "is_ring" sIsRing ["value"] f fd) : FnOk P w K mg base CX0 3 f fd ["value"] (spIsRing K) := by
  refine D.F.ok scIsRing (fun vs H Q E h => ?_) (fun cdv A outer s H vs Q E hr h => ?_)
  · obtain ⟨x, b, rfl, _⟩ := h
    rfl
  · obtain ⟨x, b, rfl, hb, q⟩ := h
    obtain ⟨f1, fd1, D1⟩ := T.d_is_pair
    obtain ⟨f2, fd2, D2⟩ := T.d_is_between
    obtain ⟨tM, vM⟩ := T.v_PLACES
    have hr1 : Room 1 _ := hr.mono (by decide)
    refine ⟨_, pss_cons (ps_if (pt_not (pt_val (pe_call (ok_is_pair T D1) hr1 (by rfl) D1.g D1.F.kp D1.b .nil pass0 (pa_cons (pv 0) pa_nil)))) (pss_one (ps_ret pe_bl)) pss_nil)
      (pss_cons (ps_asg (pv 0) (pg_tup (by rfl) (pgs_cons (pg_name (i := 1) scIsRing.nd rfl (.inl rfl)) (pgs_cons (pg_name (i := 2) scIsRing.nd rfl (.inl rfl)) pgs_nil))))
      (pss_one (ps_ret (pe_and (pe_call (ok_is_between T D2) hr (by rfl) D2.g D2.F.kp D2.b .nil pass0 (pa_cons (pv 1) (pa_cons pe_int (pa_cons (pe_glob (v := .int 60) rfl vM ⟨_, rfl⟩) pa_nil))))
        (pe_one (pe_call (ok_is_between T D2) hr (by rfl) D2.g D2.F.kp D2.b .nil pass0 (pa_cons (pv 2) (pa_cons pe_int (pa_cons (pe_op op_sub (pv 1) pe_int) pa_nil))))))))), ?_⟩
    cases hb with
    | no h => exact ⟨x, rfl, x, false, rfl, .no h, fun H1 e1 => ⟨false, rfl, iteT (q _ e1)⟩⟩
    | @len a xs e h => exact ⟨_, rfl, .ref a, false, rfl, by have := PairB.tup (K := K) e; rw [decide_eq_false h] at this; exact this, fun H1 e1 => ⟨false, rfl, iteT (q _ e1)⟩⟩
    | @first a x y e h =>
      refine ⟨_, rfl, .ref a, true, rfl, .tup e, fun H1 e1 => ⟨true, rfl, iteF ?_⟩⟩
      refine ⟨_, rfl, a, [x, y], rfl, SqT.of (e1 _ _ e), rfl, x, [y], rfl, y, [], rfl, rfl, ?_⟩
      exact ⟨x, rfl, x, 2, 60, false, rfl, h.mono e1, fun H2 e2 => ⟨false, rfl, iteF (q _ (e1.trans e2))⟩⟩
    | @both a n y b e h1 h2 h =>
      refine ⟨_, rfl, .ref a, true, rfl, .tup e, fun H1 e1 => ⟨true, rfl, iteF ?_⟩⟩
      refine ⟨_, rfl, a, [.int n, y], rfl, SqT.of (e1 _ _ e), rfl, .int n, [y], rfl, y, [], rfl, rfl, ?_⟩
      refine ⟨.int n, rfl, .int n, 2, 60, true, rfl, .yes h1 h2 (by omega) (by omega), fun H2 e2 => ⟨true, rfl, iteT ?_⟩⟩
      exact ⟨y, rfl, .int n, rfl, n, 1, rfl, rfl, y, 1, n - 1, b, rfl, h.mono (e1.trans e2), fun H3 e3 => q _ ((e1.trans e2).trans e3)⟩
def spIsChain (K : PySem.W.Frag) : Sp := fun vs H Q _ => ∃ x b, vs = [x] ∧ ChainB K H x b ∧ ∀ H', Ex H H' → Q (.bl b) H'
theorem ok_is_chain (T : Txt K mg) {f : Addr} {fd : FuncData} (D : DefAt K mg "is_chain" sIsChain ["value"] f fd) : FnOk P w K mg base CX0 4 f fd ["value"] (spIsChain K) := by
  refine D.F.ok scIsChain (fun vs H Q E h => ?_) (fun cdv A outer s H vs Q E hr h => ?_)
  · obtain ⟨x, b, rfl, _⟩ := h
    rfl
  · obtain ⟨x, b, rfl, hb, q⟩ := h
    obtain ⟨f1, fd1, D1⟩ := T.d_is_ring
    obtain ⟨tM, vM⟩ := T.v_RINGS
    refine ⟨_, pss_cons (ps_if (PW.pt (pw_or (pt_not (pt_val (pe_callB call_isi (by rfl) T.z_isinstance (by decide +kernel) (pa_cons (pv 0) (pa_cons (pe_bltn (v := .ty "tuple") (by rfl) T.z_tuple (by decide +kernel) rfl) pa_nil)))))
        (pw_or1 (pt_not (pt_chain op_le op_le pe_int (pe_callB call_len (by rfl) T.z_len PySem.boot_len (pa_cons (pv 0) pa_nil)) (pe_glob (v := .int 12) rfl vM ⟨_, rfl⟩)))))) (pss_one (ps_ret pe_bl)) pss_nil)
      (pss_one (ps_ret (pe_callB (cr_all rfl) (by rfl) T.z_all (by decide +kernel) (pa_cons (pe_lc (own := [("ring", 1)]) (g := gName 1) (tt := tYes) rfl scIsChain.nd (pi_tup (pv 0))
          (blkOk_by (N := nIsChain) (sc := defScope sIsChain) (by decide +kernel)) (fun _ _ _ _ _ => pg_name (i := 1) scIsChain.nd rfl (Or.inl rfl)) (fun _ _ _ _ _ => pts_nil)
          (fun _ _ _ _ _ => pe_call (ok_is_ring T D1) hr (by rfl) D1.g D1.F.kp D1.b .nil pass0 (pa_cons (pv 1) pa_nil))) pa_nil)))), ?_⟩
    cases hb with
    | no hn =>
      obtain ⟨t, ty, h⟩ := hn.ty
      exact ⟨x, rfl, x, .ty "tuple", t, .type "tuple", false, rfl, .ty _, ty, h, false, rfl, iteT (iteT (q _ (Ex.refl _)))⟩
    | @len a xs e h =>
      refine ⟨_, rfl, .ref a, .ty "tuple", .type "tuple", .type "tuple", true, rfl, .ty _, .base (.tup e), kit_ty (by decide +kernel), true, rfl, iteF ?_⟩
      refine ⟨_, rfl, _, xs.length, rfl, .inr ⟨_, SqT.of e, rfl⟩, _, _, rfl, rfl, _, rfl, ite2 (fun c => ?_) (fun c => ?_)⟩
      · refine ⟨_, _, rfl, rfl, _, rfl, ?_⟩
        have c2 : ¬ ((xs.length : Int) ≤ 12) := fun z => h ⟨by have : (1 : Int) ≤ (xs.length : Int) := of_decide_eq_true c; omega, by omega⟩
        rw [decide_eq_false c2]
        exact iteT (q _ (Ex.refl _))
      · exact ⟨_, rfl, iteT (q _ (Ex.refl _))⟩
    | @tup a xs bs e h hb =>
      refine ⟨_, rfl, .ref a, .ty "tuple", .type "tuple", .type "tuple", true, rfl, .ty _, .base (.tup e), kit_ty (by decide +kernel), true, rfl, iteF ?_⟩
      refine ⟨_, rfl, _, xs.length, rfl, .inr ⟨_, SqT.of e, rfl⟩, _, _, rfl, rfl, _, rfl, ite2 (fun c => ?_) (fun c => ?_)⟩
      · refine ⟨_, _, rfl, rfl, _, rfl, ?_⟩
        rw [decide_eq_true (show (xs.length : Int) ≤ 12 by omega)]
        refine iteF ?_
        refine ⟨_, rfl, a, rfl, ⟨_, SqT.of e⟩, fun Dl hD => ?_⟩
        refine lc_tup (K := K) (a := a) (xs := xs) (fun i H' => H' Dl = some (.lst ((bs.take i).map V.bl)) ∧ Ex H H') ⟨upd_same, Ex.new hD⟩ (fun i H' _ hp => SqT.of (hp.2 _ _ e)) (fun i x H' hx hp => ?_) (fun H' hp => ?_)
        · obtain ⟨y, hy, hR⟩ := paired_get hb hx
          refine ⟨rfl, ?_⟩
          dsimp only [tYes]
          rw [if_pos rfl]
          refine ⟨x, rfl, x, y, rfl, hR.mono hp.2, fun H2 e2 => ⟨_, e2 _ _ hp.1, ?_, ?_, ?_⟩⟩
          · have := (List.getElem?_eq_some_iff.mp hx).1
            rw [List.length_map, List.length_take]
            exact small1000 (Nat.le_trans (Nat.min_le_left _ _) (by omega))
          · rw [upd_same, List.take_add_one, hy, List.map_append]
            rfl
          · exact Ex.mut (hp.2.trans e2) hD
        · refine ⟨Dl, bs, rfl, ?_, q _ hp.2⟩
          have e3 : bs.take xs.length = bs := List.take_of_length_le (by rw [paired_len hb]; exact Nat.le_refl _)
          have h1 := hp.1
          rw [e3] at h1
          exact SqL.of h1
      · exact absurd (decide_eq_true (show (1 : Int) ≤ (xs.length : Int) by omega)) c
end
end K1

namespace K1
open PySem PySem.Spec PyProof.Rows L2 Evl
/-! ### orders and diagonals -/
section
variable {P : Program} {w : World} {K : PySem.W.Frag} {mg : Str → Option Value} {base : Heap}
def spCheckInteger (K : PySem.W.Frag) : Sp := fun vs H Q _ => ∃ i : Int, vs = [.int i] ∧ -(10 ^ 60) < i ∧ i < 10 ^ 60 ∧ ∀ H', Ex H H' → Q .non H'
theorem ok_check_integer (T : Txt K mg) {f : Addr} {fd : FuncData} (D : DefAt K mg "check_integer" sCheckInteger ["value"] f fd) : FnOk P w K mg base CX0 2 f fd ["value"] (spCheckInteger K) := by
  refine D.F.ok scCheckInteger (fun vs H Q E h => ?_) (fun cdv A outer s H vs Q E hr h => ?_)
  · obtain ⟨x, rfl, _⟩ := h
    rfl
  · obtain ⟨i, rfl, h1, h2, q⟩ := h
    obtain ⟨f1, fd1, D1⟩ := T.d_is_integer
    refine ⟨_, pss_one (ps_if (pt_not (pt_val (pe_call (ok_is_integer T D1) hr (by rfl) D1.g D1.F.kp D1.b .nil pass0 (pa_cons (pv 0) pa_nil)))) pss_never pss_nil), ?_⟩
    refine ⟨_, rfl, .int i, true, rfl, ?_, fun H1 e1 => ⟨true, rfl, iteF (q _ e1)⟩⟩
    have := IntB.int (K := K) (H := H) i
    rw [decide_eq_true h1, decide_eq_true h2] at this
    exact this
def spCheckRing (K : PySem.W.Frag) : Sp := fun vs H Q _ => ∃ x, vs = [x] ∧ RingB K H x true ∧ ∀ H', Ex H H' → Q .non H'
theorem ok_check_ring (T : Txt K mg) {f : Addr} {fd : FuncData} (D : DefAt K mg "check_ring" sCheckRing ["ring"] f fd) : FnOk P w K mg base CX0 4 f fd ["ring"] (spCheckRing K) := by
  refine D.F.ok scCheckRing (fun vs H Q E h => ?_) (fun cdv A outer s H vs Q E hr h => ?_)
  · obtain ⟨x, rfl, _⟩ := h
    rfl
  · obtain ⟨x, rfl, hb, q⟩ := h
    obtain ⟨f1, fd1, D1⟩ := T.d_is_ring
    refine ⟨_, pss_one (ps_if (pt_not (pt_val (pe_call (ok_is_ring T D1) hr (by rfl) D1.g D1.F.kp D1.b .nil pass0 (pa_cons (pv 0) pa_nil)))) pss_never pss_nil), ?_⟩
    exact ⟨_, rfl, x, true, rfl, hb, fun H1 e1 => ⟨true, rfl, iteF (q _ e1)⟩⟩
def spCheckChain (K : PySem.W.Frag) : Sp := fun vs H Q _ => ∃ x, vs = [x] ∧ ChainB K H x true ∧ ∀ H', Ex H H' → Q .non H'
theorem ok_check_chain (T : Txt K mg) {f : Addr} {fd : FuncData} (D : DefAt K mg "check_chain" sCheckChain ["chain"] f fd) : FnOk P w K mg base CX0 5 f fd ["chain"] (spCheckChain K) := by
  refine D.F.ok scCheckChain (fun vs H Q E h => ?_) (fun cdv A outer s H vs Q E hr h => ?_)
  · obtain ⟨x, rfl, _⟩ := h
    rfl
  · obtain ⟨x, rfl, hb, q⟩ := h
    obtain ⟨f1, fd1, D1⟩ := T.d_is_chain
    refine ⟨_, pss_one (ps_if (pt_not (pt_val (pe_call (ok_is_chain T D1) hr (by rfl) D1.g D1.F.kp D1.b .nil pass0 (pa_cons (pv 0) pa_nil)))) pss_never pss_nil), ?_⟩
    exact ⟨_, rfl, x, true, rfl, hb, fun H1 e1 => ⟨true, rfl, iteF (q _ e1)⟩⟩
def spOrderOf : Sp := fun vs H Q _ => ∃ x n s, vs = [x] ∧ RingAt H 60 x n s ∧ ∀ H', Ex H H' → Q (.int (K1M.ord n.natAbs s.natAbs : Nat)) H'
theorem ok_order_of (T : Txt K mg) {f : Addr} {fd : FuncData} (D : DefAt K mg "order_of" sOrderOf ["ring"] f fd) : FnOk P w K mg base CX0 5 f fd ["ring"] spOrderOf := by
  refine D.F.ok scOrderOf (fun vs H Q E h => ?_) (fun cdv A outer s H vs Q E hr h => ?_)
  · obtain ⟨x, n, s, rfl, _⟩ := h
    rfl
  · obtain ⟨x, n, s, rfl, hx, q⟩ := h
    obtain ⟨f1, fd1, D1⟩ := T.d_check_ring
    refine ⟨_, pss_cons (ps_expr (pe_call (ok_check_ring T D1) hr (by rfl) D1.g D1.F.kp D1.b .nil pass0 (pa_cons (pv 0) pa_nil)))
      (pss_one (ps_ret (pe_op op_fdivN (pe_ix ix_tup (pv 0) pe_int (fun _ _ => rfl)) (pe_callBfun cr_gcd (by rfl) T.v_gcd (pa_cons (pe_ix ix_tup (pv 0) pe_int (fun _ _ => rfl)) (pa_cons (pe_ix ix_tup (pv 0) pe_int (fun _ _ => rfl)) pa_nil)))))), ?_⟩
    refine ⟨_, rfl, x, rfl, hx.ring (Int.le_refl _), fun H1 e1 => ?_⟩
    obtain ⟨t, rfl, ht, h1, h2, h3, h4⟩ := hx
    have ht1 := SqT.of (K := K) (e1 _ _ ht)
    refine ⟨_, rfl, t, _, 0, .int n, rfl, rfl, ht1, rfl, _, rfl, t, _, 0, .int n, rfl, rfl, ht1, rfl, _, rfl, t, _, 1, .int s, rfl, rfl, ht1, rfl, n, s, rfl, ?_⟩
    have hg : 0 < Nat.gcd n.natAbs s.natAbs := Nat.gcd_pos_of_pos_left _ (by omega)
    have hle : Nat.gcd n.natAbs s.natAbs ≤ n.natAbs := Nat.gcd_le_left _ (by omega)
    refine ⟨n, _, rfl, rfl, ⟨by omega, by omega⟩, ?_⟩
    have e : n.fdiv ((Nat.gcd n.natAbs s.natAbs : Nat) : Int) = ((K1M.ord n.natAbs s.natAbs : Nat) : Int) := by
      rw [Int.fdiv_eq_ediv_of_nonneg _ (by omega)]
      conv => lhs; lhs; rw [show n = ((n.natAbs : Nat) : Int) by omega]
      rfl
    show Q (V.int (n.fdiv ((Nat.gcd n.natAbs s.natAbs : Nat) : Int))) H1
    rw [e]
    exact q _ e1
def spLets : Sp := fun vs H Q _ => ∃ x n s p c, vs = [x, .int p, .int c] ∧ RingAt H 60 x n s ∧ ∀ H', Ex H H' → Q (.bl (decide ((c * s - p) % n = 0))) H'
def spDoesLet : Sp := fun vs H Q _ => ∃ x n s p c, vs = [x, .int p, .int c] ∧ RingAt H 60 x n s ∧ 0 ≤ p ∧ p < n ∧ -(10 ^ 60) < c ∧ c < 10 ^ 60 ∧ ∀ H', Ex H H' → Q (.bl (decide ((c * s) % n = p))) H'
end
end K1

/-! plain mathematics of heaps: heights of columns that do not ascend -/
namespace HM
def hAt (h : List Nat) (c : Nat) : Nat := h.getD c 0
theorem hAt_lt {h : List Nat} {c : Nat} (hc : c < h.length) : h[c]? = some (hAt h c) := by
  unfold hAt
  rw [List.getD_eq_getElem?_getD, List.getElem?_eq_getElem hc]
  rfl
theorem hAt_ge {h : List Nat} {c : Nat} (hc : h.length ≤ c) : hAt h c = 0 := by
  unfold hAt
  rw [List.getD_eq_getElem?_getD, List.getElem?_eq_none hc]
  rfl
structure IsHeap (h : List Nat) : Prop where
  pos : ∀ c, c < h.length → 0 < hAt h c
  fall : ∀ c, hAt h (c + 1) ≤ hAt h c
theorem IsHeap.nil : IsHeap [] := ⟨fun c hc => absurd hc (Nat.not_lt_zero c), fun c => by rw [hAt_ge (Nat.zero_le _), hAt_ge (Nat.zero_le _)]; exact Nat.le_refl _⟩
theorem IsHeap.le {h : List Nat} (H : IsHeap h) {c : Nat} : ∀ {d : Nat}, c ≤ d → hAt h d ≤ hAt h c
  | 0, hd => by
    have : c = 0 := by omega
    rw [this]
    exact Nat.le_refl _
  | d + 1, hd => by
    by_cases e : c = d + 1
    · rw [e]
      exact Nat.le_refl _
    · exact Nat.le_trans (H.fall d) (H.le (by omega))
/-- two heaps with the same heights are one -/
theorem heap_ext {h h' : List Nat} (H : IsHeap h) (H' : IsHeap h') (e : ∀ c, hAt h c = hAt h' c) : h = h' := by
  have l : h.length = h'.length := by
    rcases Nat.lt_trichotomy h.length h'.length with q | q | q
    · have a := H'.pos _ q
      rw [← e, hAt_ge (Nat.le_refl _)] at a
      omega
    · exact q
    · have a := H.pos _ q
      rw [e, hAt_ge (Nat.le_refl _)] at a
      omega
  refine List.ext_getElem? fun c => ?_
  by_cases hc : c < h.length
  · rw [hAt_lt hc, hAt_lt (by omega), e]
  · rw [List.getElem?_eq_none (by omega), List.getElem?_eq_none (by omega)]
/-- a square can be added on top of the column -/
def opn (h : List Nat) (c : Nat) : Bool := decide (c = 0) || decide (hAt h c < hAt h (c - 1))
theorem opn_le {h : List Nat} {c : Nat} (o : opn h c = true) : c ≤ h.length := by
  unfold opn at o
  by_cases hc : c ≤ h.length
  · exact hc
  · rw [decide_eq_false (show ¬ c = 0 by omega), hAt_ge (show h.length ≤ c by omega), hAt_ge (show h.length ≤ c - 1 by omega)] at o
    exact absurd o (by decide)
theorem opn_lt {h : List Nat} {c : Nat} (o : opn h (c + 1) = true) : hAt h (c + 1) < hAt h c := by
  unfold opn at o
  rw [decide_eq_false (show ¬ c + 1 = 0 by omega), Bool.false_or] at o
  exact of_decide_eq_true o
def b2n (b : Bool) : Nat := if b = true then 1 else 0
theorem b2n_le (b : Bool) : b2n b ≤ 1 := by cases b <;> decide
def grow (h : List Nat) (g : Nat → Bool) : List Nat := (List.range h.length).map (fun c => hAt h c + b2n (g c)) ++ (if g h.length = true then [1] else [])
theorem grow_len (h : List Nat) (g : Nat → Bool) : (grow h g).length = h.length + b2n (g h.length) := by
  unfold grow b2n
  rw [List.length_append, List.length_map, List.length_range]
  split <;> rfl
theorem hAt_grow {h : List Nat} {g : Nat → Bool} (hg : ∀ c, g c = true → opn h c = true) (c : Nat) : hAt (grow h g) c = hAt h c + b2n (g c) := by
  unfold hAt
  rw [List.getD_eq_getElem?_getD, List.getD_eq_getElem?_getD]
  unfold grow
  by_cases hc : c < h.length
  · rw [List.getElem?_append_left (by rw [List.length_map, List.length_range]; exact hc), List.getElem?_map, List.getElem?_range hc, hAt_lt hc]
    rfl
  · rw [List.getElem?_append_right (by rw [List.length_map, List.length_range]; omega), List.length_map, List.length_range, List.getElem?_eq_none (show h.length ≤ c by omega)]
    by_cases e : c = h.length
    · subst e
      rw [Nat.sub_self]
      unfold b2n
      by_cases q : g h.length = true
      · rw [if_pos q, if_pos q]
        rfl
      · rw [if_neg q, if_neg q]
        rfl
    · have q : g c = false := by
        cases q : g c with
        | false => rfl
        | true => exact absurd (opn_le (hg c q)) (by omega)
      rw [q]
      have l : (if g h.length = true then [1] else []).length ≤ 1 := by split <;> decide
      rw [List.getElem?_eq_none (by omega)]
      rfl
theorem grow_heap {h : List Nat} {g : Nat → Bool} (H : IsHeap h) (hg : ∀ c, g c = true → opn h c = true) : IsHeap (grow h g) := by
  refine ⟨fun c hc => ?_, fun c => ?_⟩
  · rw [hAt_grow hg]
    rw [grow_len] at hc
    by_cases q : c < h.length
    · have := H.pos c q
      omega
    · have : c = h.length := by
        have := b2n_le (g h.length)
        omega
      subst this
      omega
  · rw [hAt_grow hg, hAt_grow hg]
    have := H.fall c
    cases q : g (c + 1) with
    | false =>
      show hAt h (c + 1) + 0 ≤ _
      omega
    | true =>
      have := opn_lt (hg _ q)
      show hAt h (c + 1) + 1 ≤ _
      omega
/-- heights and one more, 0, with some more -/
def hts (h : List Nat) (f : Nat → Nat) : List Nat := (List.range (h.length + 1)).map fun c => hAt h c + f c
theorem hts_len (h : List Nat) (f : Nat → Nat) : (hts h f).length = h.length + 1 := by
  unfold hts
  rw [List.length_map, List.length_range]
theorem hts_get {h : List Nat} {f : Nat → Nat} {c : Nat} (hc : c ≤ h.length) : (hts h f)[c]? = some (hAt h c + f c) := by
  unfold hts
  rw [List.getElem?_map, List.getElem?_range (by omega)]
  rfl
theorem hts_zero (h : List Nat) : h ++ [0] = hts h fun _ => 0 := by
  refine List.ext_getElem? fun c => ?_
  by_cases q : c < h.length
  · rw [List.getElem?_append_left q, hAt_lt q, hts_get (by omega)]
    rfl
  · by_cases e : c = h.length
    · subst e
      rw [List.getElem?_append_right (Nat.le_refl _), Nat.sub_self, hts_get (Nat.le_refl _), hAt_ge (Nat.le_refl _)]
      rfl
    · rw [List.getElem?_eq_none (by rw [List.length_append]; show h.length + 1 ≤ c; omega), List.getElem?_eq_none (by rw [hts_len]; omega)]
def cnt (cols : List Nat) (c : Nat) : Nat := (cols.filter fun d => d == c).length
theorem cnt_snoc (cols : List Nat) (d c : Nat) : cnt (cols ++ [d]) c = cnt cols c + b2n (d == c) := by
  unfold cnt
  rw [List.filter_append, List.length_append]
  cases q : (d == c) with
  | true =>
    rw [List.filter_cons, if_pos q]
    rfl
  | false =>
    rw [List.filter_cons, if_neg (by rw [q]; decide)]
    rfl
theorem hts_set {h : List Nat} {cols : List Nat} {d : Nat} (hd : d ≤ h.length) : (hts h (cnt cols)).set d (hAt h d + cnt cols d + 1) = hts h (cnt (cols ++ [d])) := by
  refine List.ext_getElem? fun c => ?_
  rw [List.getElem?_set]
  by_cases e : d = c
  · subst e
    rw [if_pos rfl, if_pos (by rw [hts_len]; omega), hts_get hd, cnt_snoc]
    show some _ = some (hAt h d + (cnt cols d + b2n (d == d)))
    rw [beq_self_eq_true]
    rfl
  · rw [if_neg e]
    by_cases q : c ≤ h.length
    · rw [hts_get q, hts_get q, cnt_snoc]
      have : (d == c) = false := by simpa using e
      rw [this]
      rfl
    · rw [List.getElem?_eq_none (by rw [hts_len]; omega), List.getElem?_eq_none (by rw [hts_len]; omega)]
theorem range_filter_cnt (n : Nat) (g : Nat → Bool) (c : Nat) : cnt ((List.range n).filter g) c = b2n (decide (c < n) && g c) := by
  induction n with
  | zero => rfl
  | succ n ih =>
    rw [List.range_succ, List.filter_append]
    have e : cnt ((List.range n).filter g ++ [n].filter g) c = cnt ((List.range n).filter g) c + cnt ([n].filter g) c := by
      unfold cnt
      rw [List.filter_append, List.length_append]
    rw [e, ih]
    by_cases q : g n = true
    · have : [n].filter g = [n] := by
        rw [List.filter_cons, if_pos q]
        rfl
      rw [this]
      unfold cnt
      by_cases z : n = c
      · subst z
        rw [List.filter_cons, if_pos (beq_self_eq_true n), decide_eq_false (Nat.lt_irrefl n), decide_eq_true (Nat.lt_succ_self n), q]
        rfl
      · rw [List.filter_cons, if_neg (show ¬ (n == c) = true by simpa using z)]
        have : decide (c < n) = decide (c < n + 1) := decide_eq_decide.mpr (by omega)
        rw [this]
        rfl
    · have : [n].filter g = [] := by
        rw [List.filter_cons, if_neg q]
        rfl
      rw [this]
      by_cases z : c = n
      · subst z
        have : g c = false := by simpa using q
        rw [this, Bool.and_false, Bool.and_false]
        rfl
      · have : decide (c < n) = decide (c < n + 1) := decide_eq_decide.mpr (by omega)
        rw [this]
        rfl
/-- what heaped makes of columns -/
theorem hts_filter {h : List Nat} (hp : ∀ c, c < h.length → 0 < hAt h c) {g : Nat → Bool} {f : Nat → Nat} (hf : ∀ c, c ≤ h.length → f c = b2n (g c)) : (hts h f).filter (fun x => decide (0 < x)) = grow h g := by
  unfold hts grow
  rw [List.range_succ, List.map_append, List.filter_append]
  have e1 : ((List.range h.length).map fun c => hAt h c + f c).filter (fun x => decide (0 < x)) = (List.range h.length).map fun c => hAt h c + b2n (g c) := by
    have e : ((List.range h.length).map fun c => hAt h c + f c) = (List.range h.length).map fun c => hAt h c + b2n (g c) := by
      refine List.map_congr_left fun c hc => ?_
      rw [hf c (Nat.le_of_lt (List.mem_range.mp hc))]
    rw [e]
    refine List.filter_eq_self.mpr fun x hx => ?_
    obtain ⟨c, hc, rfl⟩ := List.mem_map.mp hx
    have := hp c (List.mem_range.mp hc)
    exact decide_eq_true (by omega)
  rw [e1]
  congr 1
  show [hAt h h.length + f h.length].filter _ = _
  rw [hAt_ge (Nat.le_refl _), hf _ (Nat.le_refl _)]
  unfold b2n
  by_cases q : g h.length = true
  · rw [if_pos q, if_pos q]
    rfl
  · rw [if_neg q, if_neg q]
    rfl
/-- the diagonal of the square on top -/
def dg (h : List Nat) (c : Nat) : Int := (c : Int) - (hAt h c : Int)
theorem dg_lt {h : List Nat} (H : IsHeap h) {c d : Nat} (hcd : c < d) : dg h c < dg h d := by
  unfold dg
  have := H.le (Nat.le_of_lt hcd)
  omega
theorem dg_inj {h : List Nat} (H : IsHeap h) {c d : Nat} (e : dg h c = dg h d) : c = d := by
  rcases Nat.lt_trichotomy c d with q | q | q
  · have := dg_lt H q
    omega
  · exact q
  · have := dg_lt H q
    omega
theorem dg_two {h : List Nat} (H : IsHeap h) {c d : Nat} (hcd : c < d) (o : opn h d = true) : dg h c + 2 ≤ dg h d := by
  obtain ⟨e, rfl⟩ : ∃ e, d = e + 1 := ⟨d - 1, by omega⟩
  have a := opn_lt o
  have b := H.le (show c ≤ e by omega)
  unfold dg
  omega
def oc (h : List Nat) : List Nat := (List.range (h.length + 1)).filter (opn h)
theorem oc_mem {h : List Nat} {c : Nat} : c ∈ oc h ↔ opn h c = true := by
  unfold oc
  rw [List.mem_filter, List.mem_range]
  exact ⟨fun z => z.2, fun z => ⟨Nat.lt_succ_of_le (opn_le z), z⟩⟩
end HM

/-! own rules: xs[i] op= e of a list; range(n) as a value, walked later -/
namespace LX
open PySem PySem.Spec PyProof.Rows L2
section
variable {X : Cx}
/-- xs[i] by values, 0 ≤ i -/
def rGetL (K : PySem.W.Frag) : V → V → Hp → VK → Prop := fun o i H Q => ∃ (a : Addr) (ys : List V) (j : Nat) (v : V), o = .ref a ∧ i = .int (j : Int) ∧ SqL K H a ys ∧ ys[j]? = some v ∧ Q v H
theorem get_list : PGet X (rGetL X.K) := by
  intro pins s σ H o i ov iv Q I ro ri h
  obtain ⟨a, ys, j, v, rfl, rfl, hq, hv, q⟩ := h
  cases ro
  obtain ⟨t, rfl⟩ := ri
  obtain ⟨its, r, pl, hz⟩ := I.list hq
  obtain ⟨u, hu, ru⟩ := r.get hv
  have hn := line63
  have hj := (List.getElem?_eq_some_iff.mp hu).1
  have hl := r.length
  exact wpAny_getItem_list pl.isList (by omega) (by omega) (by simpa using hu) ⟨v, H, I, ru, q⟩
/-- range(n), a new range object -/
theorem cr_range1 : CallR X (.type "range") (fun vs H Q => ∃ j, vs = [V.int j] ∧ ∀ p, H p = none → Q (.ref p) (upd H p (.rng 0 j))) := by
  intro pins s σ H vs us Q I r h
  obtain ⟨j, rfl, q⟩ := h
  obtain ⟨u1, rfl, rj⟩ := vals1 r
  obtain ⟨t, rfl⟩ := rj
  have nw : ObjOk X.prog X.w (upd H s.heap.objs.size (.rng 0 j)) (s.heap.push { cls := .type "range", data := .fields #[.int 0 s.toks, .int j t, .int 1 (s.toks + 1)] }) s.heap.objs.size (.rng 0 j) := ⟨s.toks, t, s.toks + 1, Heap.get?_push_size _ rfl⟩
  exact call_range_1 ⟨.ref s.heap.objs.size, _, I.laid (t' := s.toks + 1 + 1) (fun b o e => Heap.get?_push_of_some _ e) (Nat.le_refl _) nw, rfl, q _ (I.hok.fresh (Nat.le_refl _))⟩
/-- a range object that stands, walked -/
def iRngV (te : TE) : TI := fun σ H R => te σ H fun x H1 => ∃ (p : Addr) (lo hi : Int), x = .ref p ∧ H1 p = some (.rng lo hi) ∧ (-(2 ^ 62) ≤ lo ∧ lo < 2 ^ 62 ∧ -(2 ^ 62) ≤ hi ∧ hi < 2 ^ 62) ∧ R (Itr lo (hi - lo).toNat) H1
theorem pi_rngV {tg e : Expr} {te : TE} (he : PE X e te) : PI X tg e (iRngV te) := by
  refine ⟨fun pins s σ H R I h => ?_⟩
  refine thn (he.run pins s σ H _ I h) fun u s1 ⟨x, H1, I1, r1, p, lo, hi, ex, hp, ⟨b1, b2, b3, b4⟩, q⟩ => ?_
  subst ex
  obtain rfl : u = Value.ref p := r1
  obtain ⟨t, u, v, g⟩ := (show ObjOk X.prog X.w H1 s1.heap p (.rng lo hi) from I1.hok p _ hp)
  refine wpAny_pyIter_range (s := s1) g (small_one b1 b2 b3 b4) ?_
  refine ⟨s1.heap.objs.size, [s1.heap.objs.size], _, _, H1, rfl, I1.kept (t' := s1.toks) fun b o e => Heap.get?_push_of_some _ e, turn_range _ lo (hi - lo).toNat, ?_, fun b hb => ?_, q⟩
  · have e1 : lo + ((0 : Nat) : Int) * 1 = lo := by simp
    have e2 : (((hi - lo).toNat : Nat) : Int) - ((0 : Nat) : Int) = Builtin.Range.rangeSize lo hi 1 := by
      rw [rangeSize_one]
      split <;> omega
    show IsRangeIter _ _ (lo + ((0 : Nat) : Int) * 1) ((((hi - lo).toNat : Nat) : Int) - ((0 : Nat) : Int)) 1
    rw [e1, e2]
    exact Heap.get?_push_size _ rfl
  · obtain rfl : b = s1.heap.objs.size := by simpa using hb
    exact I1.fpOk (Nat.le_refl _) (I1.hok.fresh (Nat.le_refl _))
end
end LX

namespace K1
open PySem PySem.Spec PyProof.Rows L2 Evl HM LX
/-! ### heaps -/
def hv (h : List Nat) : List V := h.map fun (n : Nat) => V.int (n : Int)
theorem hv_len (h : List Nat) : (hv h).length = h.length := List.length_map ..
theorem hv_get {h : List Nat} {c : Nat} (hc : c < h.length) : (hv h)[c]? = some (V.int (hAt h c : Int)) := by
  unfold hv
  rw [List.getElem?_map, hAt_lt hc]
  rfl
def HeapAt (H : Hp) (p : Addr) (h : List Nat) : Prop := H p = some (.tup (hv h))
/-- a heap that the package takes -/
structure Good (h : List Nat) : Prop where
  heap : IsHeap h
  len : h.length ≤ 60
  top : hAt h 0 ≤ 60
theorem Good.all {h : List Nat} (G : Good h) (c : Nat) : hAt h c ≤ 60 := Nat.le_trans (G.heap.le (Nat.zero_le c)) G.top
section
variable {P : Program} {w : World} {K : PySem.W.Frag} {mg : Str → Option Value} {base : Heap}
def spCheckBetween (K : PySem.W.Frag) : Sp := fun vs H Q _ => ∃ i lo hi : Int, vs = [.int i, .int lo, .int hi] ∧ lo ≤ i ∧ i ≤ hi ∧ -(10 ^ 60) < i ∧ i < 10 ^ 60 ∧ ∀ H', Ex H H' → Q .non H'
theorem ok_check_between (T : Txt K mg) {f : Addr} {fd : FuncData} (D : DefAt K mg "check_between" sCheckBetween ["value", "low", "high"] f fd) : FnOk P w K mg base CX0 3 f fd ["value", "low", "high"] (spCheckBetween K) := by
  refine D.F.ok scCheckBetween (fun vs H Q E h => ?_) (fun cdv A outer s H vs Q E hr h => ?_)
  · obtain ⟨i, lo, hi, rfl, _⟩ := h
    rfl
  · obtain ⟨i, lo, hi, rfl, h1, h2, h3, h4, q⟩ := h
    obtain ⟨f1, fd1, D1⟩ := T.d_is_between
    refine ⟨_, pss_one (ps_if (pt_not (pt_val (pe_call (ok_is_between T D1) hr (by rfl) D1.g D1.F.kp D1.b .nil pass0 (pa_cons (pv 0) (pa_cons (pv 1) (pa_cons (pv 2) pa_nil)))))) pss_never pss_nil), ?_⟩
    exact ⟨_, rfl, _, rfl, _, rfl, _, lo, hi, true, rfl, .yes h1 h2 h3 h4, fun H1 e1 => ⟨true, rfl, iteF (q _ e1)⟩⟩
def spIsHeap (K : PySem.W.Frag) : Sp := fun vs H Q _ => ∃ p h, vs = [.ref p] ∧ HeapAt H p h ∧ Good h ∧ ∀ H', Ex H H' → Q (.bl true) H'
theorem ok_is_heap (T : Txt K mg) {f : Addr} {fd : FuncData} (D : DefAt K mg "is_heap" sIsHeap ["value"] f fd) : FnOk P w K mg base CX0 3 f fd ["value"] (spIsHeap K) := by
  refine D.F.ok scIsHeap (fun vs H Q E h => ?_) (fun cdv A outer s H vs Q E hr h => ?_)
  · obtain ⟨p, h, rfl, _⟩ := h
    rfl
  · obtain ⟨p, h, rfl, hp, G, q⟩ := h
    obtain ⟨f1, fd1, D1⟩ := T.d_is_between
    obtain ⟨tM, vM⟩ := T.v_SIDE
    refine ⟨_, pss_cons (ps_if (PW.pt (pw_or (pt_not (pt_val (pe_callB call_isi (by rfl) T.z_isinstance (by decide +kernel) (pa_cons (pv 0) (pa_cons (pe_bltn (v := .ty "tuple") (by rfl) T.z_tuple (by decide +kernel) rfl) pa_nil)))))
        (pw_or1 (pt_cmpR op_gt (pe_callB call_len (by rfl) T.z_len PySem.boot_len (pa_cons (pv 0) pa_nil)) (pe_glob (v := .int 60) rfl vM ⟨_, rfl⟩) (nomark _))))) (pss_one (ps_ret pe_bl)) pss_nil)
      (pss_cons (ps_set (i := 1) scIsHeap.nd rfl (.inl rfl) (pe_glob (v := .int 60) rfl vM ⟨_, rfl⟩))
      (pss_cons (ps_for PassesOwn.never rfl (pi_tup (pv 0)) (pg_name (i := 2) scIsHeap.nd rfl (.inl rfl))
        (pss_cons (ps_if (pt_not (pt_val (pe_call (ok_is_between T D1) hr (by rfl) D1.g D1.F.kp D1.b .nil pass0 (pa_cons (pv 2) (pa_cons pe_int (pa_cons (pv 1) pa_nil)))))) (pss_one (ps_ret pe_bl)) pss_nil)
        (pss_one (ps_set (i := 1) scIsHeap.nd rfl (.inl rfl) (pv 2)))))
      (pss_one (ps_ret pe_bl)))), ?_⟩
    refine ⟨_, rfl, .ref p, .ty "tuple", .type "tuple", .type "tuple", true, rfl, .ty _, .base (.tup hp), kit_ty (by decide +kernel), true, rfl, iteF ?_⟩
    refine ⟨_, rfl, _, (hv h).length, rfl, .inr ⟨_, SqT.of hp, rfl⟩, _, _, rfl, rfl, _, rfl, ?_⟩
    rw [hv_len, decide_eq_false (show ¬ (60 : Int) < (h.length : Int) by have := G.len; omega)]
    refine iteF ?_
    refine ⟨_, rfl, p, rfl, ⟨_, SqT.of hp⟩, for_tup (K := K) (a := p) (xs := hv h) (fun i σ' H' => ∃ (a : Nat) (y : Option V), σ' = [some (.ref p), some (.int (a : Int)), y] ∧ hAt h i ≤ a ∧ a ≤ 60 ∧ Ex H H') ⟨60, none, rfl, G.all 0, Nat.le_refl _, Ex.refl _⟩ (fun i σ' H' _ hW => ?_) (fun i x σ' H' hx hW => ?_) (fun σ' H' hW => ?_)⟩
    · obtain ⟨_, _, _, _, _, e⟩ := hW
      exact SqT.of (e _ _ hp)
    · obtain ⟨a, y, rfl, h1, h2, e⟩ := hW
      have hi : i < h.length := by
        have := (List.getElem?_eq_some_iff.mp hx).1
        rw [hv_len] at this
        exact this
      rw [hv_get hi] at hx
      obtain rfl := Option.some.inj hx
      have hp0 := G.heap.pos i hi
      refine ⟨_, rfl, _, rfl, _, 1, a, true, rfl, .yes (by omega) (by omega) (by omega) (by omega), fun H1 e1 => ⟨true, rfl, iteF ?_⟩⟩
      exact ⟨_, rfl, hAt h i, _, rfl, G.heap.fall i, by omega, e.trans e1⟩
    · obtain ⟨a, y, rfl, h1, h2, e⟩ := hW
      exact q _ e
def spCheckHeap (K : PySem.W.Frag) : Sp := fun vs H Q _ => ∃ p h, vs = [.ref p] ∧ HeapAt H p h ∧ Good h ∧ ∀ H', Ex H H' → Q .non H'
theorem ok_check_heap (T : Txt K mg) {f : Addr} {fd : FuncData} (D : DefAt K mg "check_heap" sCheckHeap ["heap"] f fd) : FnOk P w K mg base CX0 4 f fd ["heap"] (spCheckHeap K) := by
  refine D.F.ok scCheckHeap (fun vs H Q E h => ?_) (fun cdv A outer s H vs Q E hr h => ?_)
  · obtain ⟨p, h, rfl, _⟩ := h
    rfl
  · obtain ⟨p, h, rfl, hp, G, q⟩ := h
    obtain ⟨f1, fd1, D1⟩ := T.d_is_heap
    refine ⟨_, pss_one (ps_if (pt_not (pt_val (pe_call (ok_is_heap T D1) hr (by rfl) D1.g D1.F.kp D1.b .nil pass0 (pa_cons (pv 0) pa_nil)))) pss_never pss_nil), ?_⟩
    exact ⟨_, rfl, p, h, rfl, hp, G, fun H1 e1 => ⟨true, rfl, iteF (q _ e1)⟩⟩
def spHeightAt : Sp := fun vs H Q _ => ∃ p h, ∃ c : Nat, vs = [.ref p, .int (c : Int)] ∧ HeapAt H p h ∧ ∀ H', Ex H H' → Q (.int (hAt h c : Int)) H'
theorem ok_height_at (T : Txt K mg) {f : Addr} {fd : FuncData} (D : DefAt K mg "height_at" sHeightAt ["heap", "column"] f fd) : FnOk P w K mg base CX0 1 f fd ["heap", "column"] spHeightAt := by
  refine D.F.ok scHeightAt (fun vs H Q E h => ?_) (fun cdv A outer s H vs Q E hr h => ?_)
  · obtain ⟨p, h, c, rfl, _⟩ := h
    rfl
  · obtain ⟨p, h, c, rfl, hp, q⟩ := h
    refine ⟨_, pss_one (ps_ret (pe_ifExp (pt_cmpR op_lt (pv 1) (pe_callB call_len_seq (by rfl) T.z_len PySem.boot_len (pa_cons (pv 0) pa_nil)) (nomark _)) (pe_ix ix_tup (pv 0) (pv 1) (fun _ _ => rfl)) pe_int)), ?_⟩
    refine ⟨_, rfl, _, rfl, p, _, rfl, .inr (SqT.of hp), _, _, rfl, rfl, _, rfl, ite2 (fun cc => ?_) (fun cc => ?_)⟩
    · have hc : c < h.length := by
        have : (c : Int) < ((hv h).length : Int) := of_decide_eq_true cc
        rw [hv_len] at this
        omega
      exact ⟨_, rfl, _, rfl, p, _, _, _, rfl, rfl, SqT.of hp, atI_nat (hv_get hc), q _ (Ex.refl _)⟩
    · have hc : h.length ≤ c := by
        have : ¬ (c : Int) < ((hv h).length : Int) := fun z => cc (decide_eq_true z)
        rw [hv_len] at this
        omega
      have := hAt_ge hc
      have q2 := q _ (Ex.refl _)
      rw [this] at q2
      exact q2
/-- the list of columns -/
def spOpenColumns : Sp := fun vs H Q _ => ∃ p h, vs = [.ref p] ∧ HeapAt H p h ∧ h.length ≤ 100 ∧ ∀ a H', Ex H H' → H a = none → H' a = some (.lst (hv (oc h))) → Q (.ref a) H'
theorem oc_snoc (h : List Nat) (i : Nat) : ((List.range (i + 1)).filter (opn h)) = ((List.range i).filter (opn h)) ++ (if opn h i = true then [i] else []) := by
  rw [List.range_succ, List.filter_append]
  by_cases q : opn h i = true
  · rw [if_pos q, List.filter_cons, if_pos q]
    rfl
  · rw [if_neg q, List.filter_cons, if_neg q]
    rfl
theorem hv_snoc (l : List Nat) (c : Nat) : hv (l ++ [c]) = hv l ++ [V.int (c : Int)] := by
  unfold hv
  rw [List.map_append]
  rfl
theorem ok_open_columns (T : Txt K mg) {f : Addr} {fd : FuncData} (D : DefAt K mg "open_columns" sOpenColumns ["heap"] f fd) : FnOk P w K mg base CX0 2 f fd ["heap"] spOpenColumns := by
  refine D.F.ok scOpenColumns (fun vs H Q E h => ?_) (fun cdv A outer s H vs Q E hr h => ?_)
  · obtain ⟨p, h, rfl, _⟩ := h
    rfl
  · obtain ⟨p, h, rfl, hp, hl, q⟩ := h
    obtain ⟨f1, fd1, D1⟩ := T.d_height_at
    refine ⟨_, pss_cons (ps_set (i := 1) scOpenColumns.nd rfl (.inl rfl) (pe_callTy cr_range1 (by rfl) T.z_range (by decide +kernel) (pa_cons (pe_op op_add (pe_callB call_len_seq (by rfl) T.z_len PySem.boot_len (pa_cons (pv 0) pa_nil)) pe_int) pa_nil)))
      (pss_one (ps_ret (pe_lc (own := [("column", 2)]) (g := gName 2) rfl scOpenColumns.nd (pi_rngV (pv 1)) (blkOk_by (N := nOpenColumns) (sc := defScope sOpenColumns) (by decide +kernel)) (fun _ _ _ _ _ => pg_name (i := 2) scOpenColumns.nd rfl (Or.inl rfl))
        (fun _ _ _ _ _ => pts_one (PW.pt (pw_or (pt_cmpR op_eq (pv 2) pe_int (nomark _)) (pw_or1 (pt_cmpR op_gt (pe_ix (show IxR _ (rIxT K) from ix_tup) (pv 0) (pe_op op_sub (pv 2) pe_int) (fun _ _ => rfl)) (pe_call (ok_height_at T D1) hr (by rfl) D1.g D1.F.kp D1.b .nil pass0 (pa_cons (pv 0) (pa_cons (pv 2) pa_nil))) (nomark _))))))
        (fun _ _ _ _ _ => pv 2)))), ?_⟩
    refine ⟨_, rfl, p, _, rfl, .inr (SqT.of hp), _, _, rfl, rfl, _, rfl, fun r hr0 => ?_⟩
    have e1 := Ex.new (o := .rng 0 (((hv h).length : Int) + 1)) hr0
    have hr1 : (upd H r (.rng 0 (((hv h).length : Int) + 1))) r = some (.rng 0 (((hv h).length : Int) + 1)) := upd_same
    generalize hG : upd H r (.rng 0 (((hv h).length : Int) + 1)) = H1 at *
    have hp1 : HeapAt H1 p h := e1 _ _ hp
    refine ⟨.ref r, rfl, r, 0, _, rfl, hr1, ⟨by decide, by decide, by rw [hv_len]; omega, by rw [hv_len]; omega⟩, fun Dl hD => ?_⟩
    refine lc_range (lo := 0) (n := (((hv h).length : Int) + 1 - 0).toNat) (fun i H' => H' Dl = some (.lst (hv ((List.range i).filter (opn h)))) ∧ Ex H1 H') ⟨upd_same, Ex.new hD⟩ (fun i H' hi hW => ?_) (fun H' hW => ?_)
    · obtain ⟨w1, w2⟩ := hW
      rw [hv_len] at hi
      have hi' : i ≤ h.length := by omega
      have hp2 := w2 _ _ hp1
      have ll : (hv ((List.range i).filter (opn h))).length < sizeLine := by
        rw [hv_len]
        have := List.length_filter_le (opn h) (List.range i)
        rw [List.length_range] at this
        exact small1000 (by omega)
      have fin : ∀ H3, Ex H' H3 → opn h i = true → ∃ acc, H3 Dl = some (.lst acc) ∧ acc.length < sizeLine ∧ (upd H3 Dl (.lst (acc ++ [V.int (0 + (i : Int))]))) Dl = some (.lst (hv ((List.range (i + 1)).filter (opn h)))) ∧ Ex H1 (upd H3 Dl (.lst (acc ++ [V.int (0 + (i : Int))]))) := fun H3 e3 o => by
        refine ⟨_, e3 _ _ w1, ll, ?_, Ex.mut (w2.trans e3) hD⟩
        rw [upd_same, oc_snoc, if_pos o, hv_snoc, Int.zero_add]
      refine ⟨rfl, _, rfl, rfl, _, rfl, ite2 (fun c => ?_) (fun c => ?_)⟩
      · have c2 : i = 0 := by
          have := V.int.inj (of_decide_eq_true c)
          omega
        have o : opn h i = true := by
          unfold opn
          rw [decide_eq_true c2, Bool.true_or]
        exact ⟨_, rfl, fin H' (Ex.refl _) o⟩
      · have c2 : i ≠ 0 := fun z => c (by subst z; rfl)
        have hx : (hv h)[i - 1]? = some (V.int (hAt h (i - 1) : Int)) := hv_get (by omega)
        refine ⟨_, rfl, _, rfl, _, _, rfl, rfl, p, _, _, _, rfl, rfl, SqT.of hp2, at_of (show (0 + (i : Int)) - 1 = ((i - 1 : Nat) : Int) by omega) hx, _, rfl, _, rfl, p, h, i, by rw [Int.zero_add]; rfl, hp2, fun H3 e3 => ⟨_, _, rfl, rfl, _, rfl, ite2 (fun cc => ?_) (fun cc => ?_)⟩⟩
        · have o : opn h i = true := by
            unfold opn
            have := of_decide_eq_true cc
            rw [decide_eq_true (show hAt h i < hAt h (i - 1) by omega), Bool.or_true]
          exact ⟨_, rfl, fin H3 e3 o⟩
        · have o : ¬ opn h i = true := fun z => by
            unfold opn at z
            rw [decide_eq_false c2, Bool.false_or] at z
            have := of_decide_eq_true z
            exact cc (decide_eq_true (by omega))
          refine ⟨?_, w2.trans e3⟩
          rw [oc_snoc, if_neg o, List.append_nil]
          exact e3 _ _ w1
    · obtain ⟨w1, w2⟩ := hW
      have e : (((hv h).length : Int) + 1 - 0).toNat = h.length + 1 := by
        rw [hv_len]
        omega
      rw [e] at w1
      exact q Dl H' (e1.trans w2) (fresh_back e1 hD) w1
end
end K1

namespace K1
open PySem PySem.Spec PyProof.Rows L2 Evl HM LX
theorem hv_set {l : List Nat} {d x : Nat} : (hv l).set d (V.int (x : Int)) = hv (l.set d x) := by
  unfold hv
  rw [List.map_set]
theorem hv_at {l : List Nat} {i x : Nat} (h : l[i]? = some x) : (hv l)[i]? = some (V.int (x : Int)) := by
  unfold hv
  rw [List.getElem?_map, h]
  rfl
theorem hv_inv {l : List Nat} {i : Nat} {v : V} (h : (hv l)[i]? = some v) : ∃ x, l[i]? = some x ∧ v = V.int (x : Int) := by
  unfold hv at h
  rw [List.getElem?_map] at h
  cases e : l[i]? with
  | none =>
    rw [e] at h
    cases h
  | some x =>
    rw [e] at h
    exact ⟨x, rfl, (Option.some.inj h).symm⟩
theorem take_filter_snoc {α : Type} {l : List α} {i : Nat} {x : α} (g : α → Bool) (h : l[i]? = some x) : (l.take (i + 1)).filter g = (l.take i).filter g ++ (if g x = true then [x] else []) := by
  rw [List.take_add_one, h, List.filter_append]
  show _ ++ [x].filter g = _
  by_cases q : g x = true
  · rw [if_pos q, List.filter_cons, if_pos q]
    rfl
  · rw [if_neg q, List.filter_cons, if_neg q]
    rfl
section
variable {P : Program} {w : World} {K : PySem.W.Frag} {mg : Str → Option Value} {base : Heap}
def spHeaped : Sp := fun vs H Q _ => ∃ p a h cols, vs = [.ref p, .ref a] ∧ HeapAt H p h ∧ H a = some (.lst (hv cols)) ∧ h.length ≤ 100 ∧ (∀ c ∈ cols, c ≤ h.length) ∧
  ∀ r H', Ex H H' → HeapAt H' r ((hts h (cnt cols)).filter fun x => decide (0 < x)) → Q (.ref r) H'
theorem ok_heaped (T : Txt K mg) {f : Addr} {fd : FuncData} (D : DefAt K mg "heaped" sHeaped ["heap", "columns"] f fd) : FnOk P w K mg base CX0 1 f fd ["heap", "columns"] spHeaped := by
  refine D.F.ok scHeaped (fun vs H Q E h => ?_) (fun cdv A outer s H vs Q E hr h => ?_)
  · obtain ⟨p, a, h, cols, rfl, _⟩ := h
    rfl
  · obtain ⟨p, a, h, cols, rfl, hp, ha, hl, hc, q⟩ := h
    refine ⟨_, pss_cons (ps_set (i := 2) scHeaped.nd rfl (.inl rfl) (pe_op op_cat (pe_callTy call_list_of (by rfl) T.z_list (by decide +kernel) (pa_cons (pv 0) pa_nil)) (pe_lst (pa_cons pe_int pa_nil))))
      (pss_cons (ps_for PassesOwn.never rfl (pi_list (pv 1)) (pg_name (i := 3) scHeaped.nd rfl (.inl rfl)) (pss_one (ps_augS (pv 2) (pv 3) get_list pe_int ip_add set_list)))
      (pss_one (ps_ret (pe_callTy call_tuple_of (by rfl) T.z_tuple (by decide +kernel) (pa_cons (pe_lc (own := [("height", 4)]) (g := gName 4) rfl scHeaped.nd (pi_list (pv 2)) (blkOk_by (N := nHeaped) (sc := defScope sHeaped) (by decide +kernel)) (fun _ _ _ _ _ => pg_name (i := 4) scHeaped.nd rfl (Or.inl rfl))
        (fun _ _ _ _ _ => pts_one (pt_cmpR op_gt (pv 4) pe_int (nomark _))) (fun _ _ _ _ _ => pv 4)) pa_nil))))), ?_⟩
    refine ⟨_, rfl, p, hv h, rfl, .inr (SqT.of hp), fun l1 hl1 => ⟨by show 1 ≤ sizeLine; decide, fun l2 hl2 => ?_⟩⟩
    have e1 := Ex.new (o := .lst (hv h)) hl1
    have e2 := Ex.new (o := .lst [V.int 0]) hl2
    refine ⟨l1, l2, hv h, [V.int 0], rfl, rfl, e2 _ _ upd_same, upd_same, ?_, fun l3 hl3 => ?_⟩
    · rw [hv_len]
      exact sz_of (by show h.length + 1 ≤ _; omega)
    have e03 : Ex H (upd (upd (upd H l1 (.lst (hv h))) l2 (.lst [V.int 0])) l3 (.lst (hv h ++ [V.int 0]))) := (e1.trans e2).trans (Ex.new hl3)
    have n3 : H l3 = none := fresh_back (e1.trans e2) hl3
    have g3 : (upd (upd (upd H l1 (.lst (hv h))) l2 (.lst [V.int 0])) l3 (.lst (hv h ++ [V.int 0]))) l3 = some (.lst (hv (hts h (cnt [])))) := by
      rw [upd_same, show hts h (cnt []) = h ++ [0] from (hts_zero h).symm, hv_snoc]
      rfl
    generalize upd (upd (upd H l1 (.lst (hv h))) l2 (.lst [V.int 0])) l3 (.lst (hv h ++ [V.int 0])) = H3 at *
    refine ⟨.ref a, rfl, a, rfl, ⟨_, SqL.of (e03 _ _ ha)⟩, for_list (K := K) (a := a) (xs := hv cols) (fun i σ' H' => ∃ y, σ' = [some (.ref p), some (.ref a), some (.ref l3), y, none] ∧ H' l3 = some (.lst (hv (hts h (cnt (cols.take i))))) ∧ Ex H H') ⟨none, rfl, g3, e03⟩ (fun i σ' H' _ hW => ?_) (fun i x σ' H' hx hW => ?_) (fun σ' H' hW => ?_)⟩
    · obtain ⟨_, _, _, e⟩ := hW
      exact SqL.of (e _ _ ha)
    · obtain ⟨y, rfl, w1, w2⟩ := hW
      obtain ⟨c, hcx, rfl⟩ := hv_inv hx
      have hcl : c ≤ h.length := hc c (List.mem_of_getElem? hcx)
      have gt : (hts h (cnt (cols.take i)))[c]? = some (hAt h c + cnt (cols.take i) c) := hts_get hcl
      refine ⟨_, rfl, _, rfl, l3, _, c, _, rfl, rfl, SqL.of w1, hv_at gt, _, _, rfl, rfl, l3, _, _, c, rfl, rfl, w1, ?_, ?_⟩
      · refine ixN_nat ?_
        rw [hv_len, hts_len]
        omega
      · refine ⟨_, rfl, ?_, Ex.mut w2 n3⟩
        rw [upd_same]
        dsimp only
        rw [show ((hAt h c + cnt (cols.take i) c : Nat) : Int) + 1 = ((hAt h c + cnt (cols.take i) c + 1 : Nat) : Int) by omega, hv_set, hts_set hcl, List.take_add_one, hcx]
        rfl
    · obtain ⟨y, rfl, w1, w2⟩ := hW
      rw [hv_len, List.take_length] at w1
      refine ⟨.ref l3, rfl, l3, rfl, ⟨_, SqL.of w1⟩, fun Dl hD => ?_⟩
      refine lc_list (K := K) (a := l3) (xs := hv (hts h (cnt cols))) (fun i H2 => H2 Dl = some (.lst (hv (((hts h (cnt cols)).take i).filter fun x => decide (0 < x)))) ∧ Ex H' H2) ⟨upd_same, Ex.new hD⟩ (fun i H2 _ hp2 => SqL.of (hp2.2 _ _ w1)) (fun i x H2 hx hp2 => ?_) (fun H2 hp2 => ?_)
      · obtain ⟨v1, v2⟩ := hp2
        obtain ⟨c, hcx, rfl⟩ := hv_inv hx
        refine ⟨rfl, _, rfl, _, _, rfl, rfl, _, rfl, ite2 (fun cc => ?_) (fun cc => ?_)⟩
        · have c0 : 0 < c := by
            have := of_decide_eq_true cc
            omega
          refine ⟨_, rfl, _, v1, ?_, ?_, Ex.mut v2 hD⟩
          · rw [hv_len]
            have a1 := List.length_filter_le (fun x => decide (0 < x)) ((hts h (cnt cols)).take i)
            have a2 : ((hts h (cnt cols)).take i).length ≤ (hts h (cnt cols)).length := by
              rw [List.length_take]
              exact Nat.min_le_right _ _
            rw [hts_len] at a2
            exact small1000 (by omega)
          · rw [upd_same, take_filter_snoc _ hcx, if_pos (decide_eq_true c0), hv_snoc]
        · have c0 : ¬ 0 < c := fun z => cc (decide_eq_true (by omega))
          refine ⟨?_, v2⟩
          rw [take_filter_snoc _ hcx, if_neg (by rw [decide_eq_false c0]; decide), List.append_nil]
          exact v1
      · obtain ⟨v1, v2⟩ := hp2
        rw [hv_len, List.take_length] at v1
        exact ⟨Dl, _, rfl, .inl ⟨SqL.of v1, fun r hr => q r _ ((w2.trans v2).trans (Ex.new hr)) upd_same⟩⟩
/-- which columns a ring with a place adds to -/
def gl (h : List Nat) (n s q : Int) (c : Nat) : Bool := opn h c && decide ((dg h c * s - q) % n = 0)
theorem gl_opn {h : List Nat} {n s q : Int} (c : Nat) (z : gl h n s q c = true) : opn h c = true := by
  unfold gl at z
  exact (Bool.and_eq_true_iff.mp z).1
def spGrownBy : Sp := fun vs H Q _ => ∃ p h x n s q, vs = [.ref p, x, .int q] ∧ HeapAt H p h ∧ IsHeap h ∧ h.length ≤ 100 ∧ RingAt H 60 x n s ∧ ∀ r H', Ex H H' → HeapAt H' r (grow h (gl h n s q)) → Q (.ref r) H'
end
end K1

/-! own walks: comprehensions and loops over zip and enumerate of tuples, zip of lists of any lengths -/
namespace ZW
open PySem PySem.Spec PyProof.Rows L2
theorem lc_zipT {K : PySem.W.Frag} {a b : Addr} {xs ys : List V} {n : Nat} {g : TG} {tt : TT} {te : TE} {vs : List Nat} {σ : L2.St} {H1 : Hp} {D : Addr} {Qd : Hp → Prop} (hx : n ≤ xs.length) (hy : n ≤ ys.length) (hn : xs.length ≤ n ∨ ys.length ≤ n)
    (Pv : Nat → Hp → Prop) (h0 : Pv 0 (upd H1 D (.lst []))) (hq : ∀ i H, Pv i H → SqT K H a xs ∧ SqT K H b ys)
    (hs : ∀ i x y T H, i < n → xs[i]? = some x → ys[i]? = some y → Pv i H → H T = none → g (.ref T) (wipe σ vs) (upd H T (.tup [x, y])) fun σ2 H2 => wipe σ2 vs = wipe σ vs ∧ tt σ2 H2 fun c H3 =>
      if c = true then te σ2 H3 fun z H4 => ∃ acc, H4 D = some (.lst acc) ∧ acc.length < sizeLine ∧ Pv (i + 1) (upd H4 D (.lst (acc ++ [z]))) else Pv (i + 1) H3) (hd : ∀ H, Pv n H → Qd H) :
    ∃ W : Nat → Nat → Hp → Prop, (∃ m, W 0 m (upd H1 D (.lst []))) ∧ ∀ i m H, W i m H →
      ((RZ.ItzT K a b).stop i H ∧ Qd H) ∨ ((RZ.ItzT K a b).go i H ∧ ∃ Nx : Hp → Prop, (∀ H', Nx H' → ∃ m', m' < m ∧ W (i + 1) m' H') ∧ ∀ v H', (RZ.ItzT K a b).yld i H v H' → g v (wipe σ vs) H' fun σ2 H2 => wipe σ2 vs = wipe σ vs ∧ tt σ2 H2 fun c H3 =>
        if c = true then te σ2 H3 fun z H4 => ∃ acc, H4 D = some (.lst acc) ∧ acc.length < sizeLine ∧ Nx (upd H4 D (.lst (acc ++ [z]))) else Nx H3) := by
  refine ⟨fun i m H => m = n - i ∧ i ≤ n ∧ Pv i H, ⟨n, (Nat.sub_zero n).symm, Nat.zero_le _, h0⟩, ?_⟩
  rintro i m H ⟨rfl, hi, p⟩
  obtain ⟨qa, qb⟩ := hq i H p
  by_cases hlt : i < n
  · have e1 : xs[i]? = some (xs[i]'(by omega)) := List.getElem?_eq_getElem _
    have e2 : ys[i]? = some (ys[i]'(by omega)) := List.getElem?_eq_getElem _
    refine .inr ⟨⟨xs, ys, _, _, qa, qb, e1, e2⟩, Pv (i + 1), fun H' p' => ⟨n - (i + 1), by omega, rfl, hlt, p'⟩, fun v H' hy' => ?_⟩
    obtain ⟨T, x, y, rfl, nT, rfl, fx, fy⟩ := hy'
    exact hs i x y T H hlt (fx _ qa) (fy _ qb) p nT
  · have e : i = n := by omega
    subst e
    exact .inl ⟨⟨xs, ys, qa, qb, by omega⟩, hd H p⟩
theorem for_zipT {K : PySem.W.Frag} {a b : Addr} {xs ys : List V} {n : Nat} {g : TG} {tb : TS} {D : Ends} {σ : L2.St} {H : Hp} (hx : n ≤ xs.length) (hy : n ≤ ys.length) (hn : xs.length ≤ n ∨ ys.length ≤ n)
    (Pv : Nat → L2.St → Hp → Prop) (h0 : Pv 0 σ H) (hq : ∀ i σ H, Pv i σ H → SqT K H a xs ∧ SqT K H b ys)
    (hs : ∀ i x y T σ H, i < n → xs[i]? = some x → ys[i]? = some y → Pv i σ H → H T = none → g (.ref T) σ (upd H T (.tup [x, y])) fun σ2 H2 => tb { D with nx := Pv (i + 1), ct := Pv (i + 1), bk := D.nx } σ2 H2) (hd : ∀ σ H, Pv n σ H → D.nx σ H) :
    ∃ W : Nat → Nat → L2.St → Hp → Prop, (∃ m, W 0 m σ H) ∧ ∀ i m σ H, W i m σ H →
      ((RZ.ItzT K a b).stop i H ∧ D.nx σ H) ∨ ((RZ.ItzT K a b).go i H ∧ ∃ N : L2.St → Hp → Prop, (∀ σ' H', N σ' H' → ∃ m', m' < m ∧ W (i + 1) m' σ' H') ∧ ∀ v H', (RZ.ItzT K a b).yld i H v H' → g v σ H' fun σ2 H2 => tb { D with nx := N, ct := N, bk := D.nx } σ2 H2) := by
  refine ⟨fun i m σ H => m = n - i ∧ i ≤ n ∧ Pv i σ H, ⟨n, (Nat.sub_zero n).symm, Nat.zero_le _, h0⟩, ?_⟩
  rintro i m σ H ⟨rfl, hi, p⟩
  obtain ⟨qa, qb⟩ := hq i σ H p
  by_cases hlt : i < n
  · have e1 : xs[i]? = some (xs[i]'(by omega)) := List.getElem?_eq_getElem _
    have e2 : ys[i]? = some (ys[i]'(by omega)) := List.getElem?_eq_getElem _
    refine .inr ⟨⟨xs, ys, _, _, qa, qb, e1, e2⟩, Pv (i + 1), fun σ' H' p' => ⟨n - (i + 1), by omega, rfl, hlt, p'⟩, fun v H' hy' => ?_⟩
    obtain ⟨T, x, y, rfl, nT, rfl, fx, fy⟩ := hy'
    exact hs i x y T σ H hlt (fx _ qa) (fy _ qb) p nT
  · have e : i = n := by omega
    subst e
    exact .inl ⟨⟨xs, ys, qa, qb, by omega⟩, hd σ H p⟩
theorem lc_zipL {K : PySem.W.Frag} {a b : Addr} {xs ys : List V} {n : Nat} {g : TG} {tt : TT} {te : TE} {vs : List Nat} {σ : L2.St} {H1 : Hp} {D : Addr} {Qd : Hp → Prop} (hx : n ≤ xs.length) (hy : n ≤ ys.length) (hn : xs.length ≤ n ∨ ys.length ≤ n)
    (Pv : Nat → Hp → Prop) (h0 : Pv 0 (upd H1 D (.lst []))) (hq : ∀ i H, Pv i H → SqL K H a xs ∧ SqL K H b ys)
    (hs : ∀ i x y T H, i < n → xs[i]? = some x → ys[i]? = some y → Pv i H → H T = none → g (.ref T) (wipe σ vs) (upd H T (.tup [x, y])) fun σ2 H2 => wipe σ2 vs = wipe σ vs ∧ tt σ2 H2 fun c H3 =>
      if c = true then te σ2 H3 fun z H4 => ∃ acc, H4 D = some (.lst acc) ∧ acc.length < sizeLine ∧ Pv (i + 1) (upd H4 D (.lst (acc ++ [z]))) else Pv (i + 1) H3) (hd : ∀ H, Pv n H → Qd H) :
    ∃ W : Nat → Nat → Hp → Prop, (∃ m, W 0 m (upd H1 D (.lst []))) ∧ ∀ i m H, W i m H →
      ((Itz K a b).stop i H ∧ Qd H) ∨ ((Itz K a b).go i H ∧ ∃ Nx : Hp → Prop, (∀ H', Nx H' → ∃ m', m' < m ∧ W (i + 1) m' H') ∧ ∀ v H', (Itz K a b).yld i H v H' → g v (wipe σ vs) H' fun σ2 H2 => wipe σ2 vs = wipe σ vs ∧ tt σ2 H2 fun c H3 =>
        if c = true then te σ2 H3 fun z H4 => ∃ acc, H4 D = some (.lst acc) ∧ acc.length < sizeLine ∧ Nx (upd H4 D (.lst (acc ++ [z]))) else Nx H3) := by
  refine ⟨fun i m H => m = n - i ∧ i ≤ n ∧ Pv i H, ⟨n, (Nat.sub_zero n).symm, Nat.zero_le _, h0⟩, ?_⟩
  rintro i m H ⟨rfl, hi, p⟩
  obtain ⟨qa, qb⟩ := hq i H p
  by_cases hlt : i < n
  · have e1 : xs[i]? = some (xs[i]'(by omega)) := List.getElem?_eq_getElem _
    have e2 : ys[i]? = some (ys[i]'(by omega)) := List.getElem?_eq_getElem _
    refine .inr ⟨⟨xs, ys, _, _, qa, qb, e1, e2⟩, Pv (i + 1), fun H' p' => ⟨n - (i + 1), by omega, rfl, hlt, p'⟩, fun v H' hy' => ?_⟩
    obtain ⟨T, x, y, rfl, nT, rfl, fx, fy⟩ := hy'
    exact hs i x y T H hlt (fx _ qa) (fy _ qb) p nT
  · have e : i = n := by omega
    subst e
    exact .inl ⟨⟨xs, ys, qa, qb, by omega⟩, hd H p⟩
theorem for_zipL {K : PySem.W.Frag} {a b : Addr} {xs ys : List V} {n : Nat} {g : TG} {tb : TS} {D : Ends} {σ : L2.St} {H : Hp} (hx : n ≤ xs.length) (hy : n ≤ ys.length) (hn : xs.length ≤ n ∨ ys.length ≤ n)
    (Pv : Nat → L2.St → Hp → Prop) (h0 : Pv 0 σ H) (hq : ∀ i σ H, Pv i σ H → SqL K H a xs ∧ SqL K H b ys)
    (hs : ∀ i x y T σ H, i < n → xs[i]? = some x → ys[i]? = some y → Pv i σ H → H T = none → g (.ref T) σ (upd H T (.tup [x, y])) fun σ2 H2 => tb { D with nx := Pv (i + 1), ct := Pv (i + 1), bk := D.nx } σ2 H2) (hd : ∀ σ H, Pv n σ H → D.nx σ H) :
    ∃ W : Nat → Nat → L2.St → Hp → Prop, (∃ m, W 0 m σ H) ∧ ∀ i m σ H, W i m σ H →
      ((Itz K a b).stop i H ∧ D.nx σ H) ∨ ((Itz K a b).go i H ∧ ∃ N : L2.St → Hp → Prop, (∀ σ' H', N σ' H' → ∃ m', m' < m ∧ W (i + 1) m' σ' H') ∧ ∀ v H', (Itz K a b).yld i H v H' → g v σ H' fun σ2 H2 => tb { D with nx := N, ct := N, bk := D.nx } σ2 H2) := by
  refine ⟨fun i m σ H => m = n - i ∧ i ≤ n ∧ Pv i σ H, ⟨n, (Nat.sub_zero n).symm, Nat.zero_le _, h0⟩, ?_⟩
  rintro i m σ H ⟨rfl, hi, p⟩
  obtain ⟨qa, qb⟩ := hq i σ H p
  by_cases hlt : i < n
  · have e1 : xs[i]? = some (xs[i]'(by omega)) := List.getElem?_eq_getElem _
    have e2 : ys[i]? = some (ys[i]'(by omega)) := List.getElem?_eq_getElem _
    refine .inr ⟨⟨xs, ys, _, _, qa, qb, e1, e2⟩, Pv (i + 1), fun σ' H' p' => ⟨n - (i + 1), by omega, rfl, hlt, p'⟩, fun v H' hy' => ?_⟩
    obtain ⟨T, x, y, rfl, nT, rfl, fx, fy⟩ := hy'
    exact hs i x y T σ H hlt (fx _ qa) (fy _ qb) p nT
  · have e : i = n := by omega
    subst e
    exact .inl ⟨⟨xs, ys, qa, qb, by omega⟩, hd σ H p⟩
theorem for_enumT {K : PySem.W.Frag} {a : Addr} {xs : List V} {g : TG} {tb : TS} {D : Ends} {σ : L2.St} {H : Hp} (Pv : Nat → L2.St → Hp → Prop) (h0 : Pv 0 σ H) (hq : ∀ i σ H, Pv i σ H → SqT K H a xs)
    (hs : ∀ i x T σ H, xs[i]? = some x → Pv i σ H → H T = none → g (.ref T) σ (upd H T (.tup [.int (i : Nat), x])) fun σ2 H2 => tb { D with nx := Pv (i + 1), ct := Pv (i + 1), bk := D.nx } σ2 H2) (hd : ∀ σ H, Pv xs.length σ H → D.nx σ H) :
    ∃ W : Nat → Nat → L2.St → Hp → Prop, (∃ m, W 0 m σ H) ∧ ∀ i m σ H, W i m σ H →
      ((EnT.IteT K a).stop i H ∧ D.nx σ H) ∨ ((EnT.IteT K a).go i H ∧ ∃ N : L2.St → Hp → Prop, (∀ σ' H', N σ' H' → ∃ m', m' < m ∧ W (i + 1) m' σ' H') ∧ ∀ v H', (EnT.IteT K a).yld i H v H' → g v σ H' fun σ2 H2 => tb { D with nx := N, ct := N, bk := D.nx } σ2 H2) := by
  refine ⟨fun i m σ H => m = xs.length - i ∧ i ≤ xs.length ∧ Pv i σ H, ⟨xs.length, (Nat.sub_zero _).symm, Nat.zero_le _, h0⟩, ?_⟩
  rintro i m σ H ⟨rfl, hi, p⟩
  have qa := hq i σ H p
  by_cases hlt : i < xs.length
  · have e1 : xs[i]? = some (xs[i]'hlt) := List.getElem?_eq_getElem _
    refine .inr ⟨⟨xs, _, qa, e1⟩, Pv (i + 1), fun σ' H' p' => ⟨xs.length - (i + 1), by omega, rfl, hlt, p'⟩, fun v H' hy' => ?_⟩
    obtain ⟨T, x, rfl, nT, rfl, fx⟩ := hy'
    exact hs i x T σ H (fx _ qa) p nT
  · have e : i = xs.length := by omega
    subst e
    exact .inl ⟨⟨xs, qa, rfl⟩, hd σ H p⟩
theorem lc_enumT {K : PySem.W.Frag} {a : Addr} {xs : List V} {g : TG} {tt : TT} {te : TE} {vs : List Nat} {σ : L2.St} {H1 : Hp} {D : Addr} {Qd : Hp → Prop} (Pv : Nat → Hp → Prop) (h0 : Pv 0 (upd H1 D (.lst []))) (hq : ∀ i H, Pv i H → SqT K H a xs)
    (hs : ∀ i x T H, xs[i]? = some x → Pv i H → H T = none → g (.ref T) (wipe σ vs) (upd H T (.tup [.int (i : Nat), x])) fun σ2 H2 => wipe σ2 vs = wipe σ vs ∧ tt σ2 H2 fun c H3 =>
      if c = true then te σ2 H3 fun z H4 => ∃ acc, H4 D = some (.lst acc) ∧ acc.length < sizeLine ∧ Pv (i + 1) (upd H4 D (.lst (acc ++ [z]))) else Pv (i + 1) H3) (hd : ∀ H, Pv xs.length H → Qd H) :
    ∃ W : Nat → Nat → Hp → Prop, (∃ m, W 0 m (upd H1 D (.lst []))) ∧ ∀ i m H, W i m H →
      ((EnT.IteT K a).stop i H ∧ Qd H) ∨ ((EnT.IteT K a).go i H ∧ ∃ Nx : Hp → Prop, (∀ H', Nx H' → ∃ m', m' < m ∧ W (i + 1) m' H') ∧ ∀ v H', (EnT.IteT K a).yld i H v H' → g v (wipe σ vs) H' fun σ2 H2 => wipe σ2 vs = wipe σ vs ∧ tt σ2 H2 fun c H3 =>
        if c = true then te σ2 H3 fun z H4 => ∃ acc, H4 D = some (.lst acc) ∧ acc.length < sizeLine ∧ Nx (upd H4 D (.lst (acc ++ [z]))) else Nx H3) := by
  refine ⟨fun i m H => m = xs.length - i ∧ i ≤ xs.length ∧ Pv i H, ⟨xs.length, (Nat.sub_zero _).symm, Nat.zero_le _, h0⟩, ?_⟩
  rintro i m H ⟨rfl, hi, p⟩
  have qa := hq i H p
  by_cases hlt : i < xs.length
  · have e1 : xs[i]? = some (xs[i]'hlt) := List.getElem?_eq_getElem _
    refine .inr ⟨⟨xs, _, qa, e1⟩, Pv (i + 1), fun H' p' => ⟨xs.length - (i + 1), by omega, rfl, hlt, p'⟩, fun v H' hy' => ?_⟩
    obtain ⟨T, x, rfl, nT, rfl, fx⟩ := hy'
    exact hs i x T H (fx _ qa) p nT
  · have e : i = xs.length := by omega
    subst e
    exact .inl ⟨⟨xs, qa, rfl⟩, hd H p⟩
end ZW

namespace K1
open PySem PySem.Spec PyProof.Rows L2 Evl HM LX ZW
theorem grow_good {h : List Nat} {g : Nat → Bool} (G : IsHeap h) (h1 : h.length < 60) (h2 : hAt h 0 < 60) (hg : ∀ c, g c = true → opn h c = true) : Good (grow h g) := by
  refine ⟨grow_heap G hg, ?_, ?_⟩
  · rw [grow_len]
    have := b2n_le (g h.length)
    omega
  · rw [hAt_grow hg]
    have := b2n_le (g 0)
    omega
/-- ints of a tuple of places -/
def PlacesT (H : Hp) (a : Addr) (ps : List Int) : Prop := H a = some (.tup (ps.map V.int))
/-- the heaps behind each ring -/
def hseq (rs : List (Int × Int)) (ps : List Int) : Nat → List Nat
  | 0 => []
  | i + 1 => grow (hseq rs ps i) (gl (hseq rs ps i) (K1N.nAt rs i) (K1N.sAt rs i) (ps.getD i 0))
theorem hseq_ok (rs : List (Int × Int)) (ps : List Int) : ∀ i, IsHeap (hseq rs ps i) ∧ (hseq rs ps i).length ≤ i ∧ hAt (hseq rs ps i) 0 ≤ i
  | 0 => ⟨IsHeap.nil, Nat.le_refl _, Nat.le_refl _⟩
  | i + 1 => by
    obtain ⟨a, b, c⟩ := hseq_ok rs ps i
    refine ⟨grow_heap a gl_opn, ?_, ?_⟩
    · show (grow _ _).length ≤ _
      rw [grow_len]
      have := b2n_le (gl (hseq rs ps i) (K1N.nAt rs i) (K1N.sAt rs i) (ps.getD i 0) (hseq rs ps i).length)
      omega
    · show hAt (grow _ _) 0 ≤ _
      rw [hAt_grow gl_opn]
      have := b2n_le (gl (hseq rs ps i) (K1N.nAt rs i) (K1N.sAt rs i) (ps.getD i 0) 0)
      omega
theorem rings_nth4 {H : Hp} {most : Int} {xs : List V} {rs : List (Int × Int)} (h : RingsAt H most xs rs) {j : Nat} {x : V} (hx : xs[j]? = some x) : RingAt H most x (K1N.nAt rs j : Int) (K1N.sAt rs j) := by
  obtain ⟨r, hr, q⟩ := paired_get h hx
  have e : rs.getD j (0, 0) = r := by
    rw [List.getD_eq_getElem?_getD, hr]
    rfl
  obtain ⟨t, e1, e2, e3, e4, e5, e6⟩ := id q
  unfold K1N.nAt K1N.sAt
  rw [e, show ((r.1.toNat : Nat) : Int) = r.1 by omega]
  exact q
theorem rings_ex4 {H H' : Hp} {most : Int} {xs : List V} {rs : List (Int × Int)} (e : Ex H H') (h : RingsAt H most xs rs) : RingsAt H' most xs rs := paired_imp (fun _ _ z => RingAt.ex e z) h
theorem rings_chain4 {K : PySem.W.Frag} {H : Hp} {a : Addr} {xs : List V} {rs : List (Int × Int)} (h : RingsAt H 60 xs rs) (ha : H a = some (.tup xs)) (h1 : 1 ≤ xs.length) (h2 : xs.length ≤ 12) : ChainB K H (.ref a) true := by
  have p : ∀ {xs : List V} {rs : List (Int × Int)}, RingsAt H 60 xs rs → Paired (RingB K H) xs (List.replicate xs.length true) := by
    intro xs rs h
    induction h with
    | nil => exact .nil
    | cons r _ ih => exact .cons (RingAt.ring r (Int.le_refl _)) ih
  have q := ChainB.tup (K := K) ha ⟨h1, h2⟩ (p h)
  rw [show (List.replicate xs.length true).all id = true by simp] at q
  exact q
section
variable {P : Program} {w : World} {K : PySem.W.Frag} {mg : Str → Option Value} {base : Heap}
def spGrown : Sp := fun vs H Q _ => ∃ p h x n s q, vs = [.ref p, x, .int q] ∧ HeapAt H p h ∧ IsHeap h ∧ h.length < 60 ∧ hAt h 0 < 60 ∧ RingAt H 60 x n s ∧ 0 ≤ q ∧ q < n ∧ ∀ r H', Ex H H' → HeapAt H' r (grow h (gl h n s q)) → Q (.ref r) H'
def spCheckPlaces (K : PySem.W.Frag) : Sp := fun vs H Q _ => ∃ c a xs rs ps, vs = [.ref c, .ref a] ∧ H c = some (.tup xs) ∧ RingsAt H 60 xs rs ∧ xs.length ≤ 12 ∧ PlacesT H a ps ∧ ps.length = xs.length ∧ (∀ j : Nat, j < ps.length → 0 ≤ ps.getD j 0 ∧ ps.getD j 0 < (K1N.nAt rs j : Int)) ∧ ∀ H', Ex H H' → Q .non H'
def spLiesTold (K : PySem.W.Frag) : Sp := fun vs H Q E => spCheckPlaces K vs H (fun _ H' => Q (.bl true) H') E
/-- the list of the heaps -/
def spHeapsOf : Sp := fun vs H Q _ => ∃ c a xs rs ps, vs = [.ref c, .ref a] ∧ H c = some (.tup xs) ∧ RingsAt H 60 xs rs ∧ xs.length ≤ 12 ∧ PlacesT H a ps ∧ ps.length = xs.length ∧
  ∀ (p : Addr) (as : List Addr) (H' : Hp), Ex H H' → H p = none → H' p = some (.lst (as.map V.ref)) → as.length = xs.length + 1 → (∀ i b, as[i]? = some b → HeapAt H' b (hseq rs ps i)) → Q (.ref p) H'
end
end K1

namespace K1
open PySem PySem.Spec PyProof.Rows L2 Evl HM LX ZW
theorem at_end {as : List Addr} {g : Nat} (h : as.length = g + 1) : atI (as.map V.ref) (-1) = some (V.ref (as[g]'(by omega))) := by
  have e : as = as.take g ++ [as[g]'(by omega)] := by
    have := List.take_append_getElem (l := as) (i := g) (by omega)
    rw [this, List.take_of_length_le (by omega)]
  have e2 : as.map V.ref = (as.take g).map V.ref ++ [V.ref (as[g]'(by omega))] := by
    conv => lhs; rw [e]
    rw [List.map_append]
    rfl
  rw [e2]
  exact atI_last _ _
section
variable {P : Program} {w : World} {K : PySem.W.Frag} {mg : Str → Option Value} {base : Heap}
def spHeapOf : Sp := fun vs H Q _ => ∃ c a xs rs ps, vs = [.ref c, .ref a] ∧ H c = some (.tup xs) ∧ RingsAt H 60 xs rs ∧ (1 ≤ xs.length ∧ xs.length ≤ 12) ∧ PlacesT H a ps ∧ ps.length = xs.length ∧ (∀ j : Nat, j < ps.length → 0 ≤ ps.getD j 0 ∧ ps.getD j 0 < (K1N.nAt rs j : Int)) ∧
  ∀ (b : Addr) H', Ex H H' → HeapAt H' b (hseq rs ps xs.length) → Q (.ref b) H'
def spHeapsAlong : Sp := fun vs H Q _ => ∃ c a xs rs ps, vs = [.ref c, .ref a] ∧ H c = some (.tup xs) ∧ RingsAt H 60 xs rs ∧ (1 ≤ xs.length ∧ xs.length ≤ 12) ∧ PlacesT H a ps ∧ ps.length = xs.length ∧ (∀ j : Nat, j < ps.length → 0 ≤ ps.getD j 0 ∧ ps.getD j 0 < (K1N.nAt rs j : Int)) ∧
  ∀ (r : Addr) (as : List Addr) H', Ex H H' → H' r = some (.tup (as.map V.ref)) → as.length = xs.length + 1 → (∀ i b, as[i]? = some b → HeapAt H' b (hseq rs ps i)) → Q (.ref r) H'
/-- how many squares the first columns have -/
def sumT (h : List Nat) : Nat → Nat
  | 0 => 0
  | i + 1 => sumT h i + hAt h i
theorem sumT_le {h : List Nat} (G : Good h) : ∀ i, sumT h i ≤ 60 * i
  | 0 => Nat.le_refl _
  | i + 1 => by
    show sumT h i + hAt h i ≤ _
    have := sumT_le G i
    have := G.all i
    omega
def spSquares : Sp := fun vs H Q _ => ∃ p h, vs = [.ref p] ∧ HeapAt H p h ∧ Good h ∧ ∀ r ys H', Ex H H' → H' r = some (.tup ys) → ys.length = sumT h h.length → Q (.ref r) H'
end
end K1

namespace K1
open PySem PySem.Spec PyProof.Rows L2 Evl HM LX ZW
/-! ### data: ints in lists and tuples -/
theorem dp_ints {K : PySem.W.Frag} {H : Hp} : ∀ ns : List Int, DpAll K H (ns.map V.int) (ns.map PyData.int)
  | [] => .nil
  | n :: r => .cons (.int n) (dp_ints r)
theorem can_ints : ∀ l : List Int, PyData.canLayAll0 (l.map PyData.int) = true
  | [] => rfl
  | b :: r => by simp [PyData.canLayAll0, PyData.canLay0, can_ints r]
theorem shaped_intsL (ns : List Int) : SeqAt.shaped (.list (ns.map PyData.int)) = true := by
  induction ns with
  | nil => rfl
  | cons b r ih => exact ih
theorem depth_ints : ∀ l : List Int, PyData.depthAll (l.map PyData.int) ≤ 60
  | [] => by decide
  | b :: r => by
    have := depth_ints r
    simp only [List.map_cons, PyData.depthAll, PyData.depth]
    omega
theorem shaped_intsT (ns : List Int) : SeqAt.shaped (.tuple (ns.map PyData.int)) = true := by
  unfold SeqAt.shaped
  have h1 : (PyData.tuple (ns.map PyData.int)).canLay0 = true := by simp [PyData.canLay0, can_ints ns]
  have h2 : (PyData.tuple (ns.map PyData.int)).depth ≤ 64 := by
    have := depth_ints ns
    simp only [PyData.depth]
    omega
  rw [h1, decide_eq_true h2]
  rfl
theorem eqv_intsL (ns : List Int) : PyData.eqv (.list (ns.map PyData.int)) (.list (ns.map PyData.int)) = true := SeqAt.eqv_refl _ (by simp [PyData.canLay0, can_ints ns])
theorem eqv_intsT (ns : List Int) : PyData.eqv (.tuple (ns.map PyData.int)) (.tuple (ns.map PyData.int)) = true := SeqAt.eqv_refl _ (by simp [PyData.canLay0, can_ints ns])
theorem eqv_nil : PyData.eqv (.list []) (.list []) = true := eqv_intsL []
theorem eqv_consnil (d : PyData) (ds : List PyData) : PyData.eqv (.list (d :: ds)) (.list []) = false := by simp [PyData.eqv, PyData.eqvAll]
theorem erase_perm {ls : List Int} {i : Nat} {y : Int} (h : ls[i]? = some y) : ls.Perm (y :: ls.eraseIdx i) := by
  induction ls generalizing i with
  | nil => simp at h
  | cons x r ih =>
    cases i with
    | zero =>
      obtain rfl := Option.some.inj h
      exact .refl _
    | succ i =>
      have := ih (i := i) h
      exact (List.Perm.cons x this).trans (List.Perm.swap y x _)
theorem map_erase {α β : Type} (g : α → β) : ∀ (ls : List α) (i : Nat), (ls.eraseIdx i).map g = (ls.map g).eraseIdx i
  | [], _ => rfl
  | _ :: _, 0 => rfl
  | x :: r, i + 1 => congrArg (g x :: ·) (map_erase g r i)
section
variable {P : Program} {w : World} {K : PySem.W.Frag} {mg : Str → Option Value} {base : Heap}
def spMixed : Sp := fun vs H Q _ => ∃ (d a : Addr) (ns : List Int), vs = [.ref d, .ref a] ∧ Dice H d ∧ H a = some (.lst (ns.map V.int)) ∧ ns.length ≤ 1000 ∧
  ∀ (p : Addr) (ms : List Int) H', ms.Perm ns → H' p = some (.lst (ms.map V.int)) → Dice H' d → Keep d H H' → Q (.ref p) H'
end
end K1

namespace K1
open PySem PySem.Spec PyProof.Rows L2 Evl HM LX ZW
theorem getD_snoc_lt {l : List Int} {x : Int} {j : Nat} (h : j < l.length) : (l ++ [x]).getD j 0 = l.getD j 0 := by
  rw [List.getD_eq_getElem?_getD, List.getD_eq_getElem?_getD, List.getElem?_append_left h]
theorem getD_snoc_eq {l : List Int} {x : Int} : (l ++ [x]).getD l.length 0 = x := by
  rw [List.getD_eq_getElem?_getD, List.getElem?_append_right (Nat.le_refl _), Nat.sub_self]
  rfl
def PlOk (rs : List (Int × Int)) (ps : List Int) : Prop := ∀ j : Nat, j < ps.length → 0 ≤ ps.getD j 0 ∧ ps.getD j 0 < (K1N.nAt rs j : Int)
theorem PlOk.snoc {rs : List (Int × Int)} {ps : List Int} {x : Int} (h : PlOk rs ps) (h0 : 0 ≤ x) (h1 : x < (K1N.nAt rs ps.length : Int)) : PlOk rs (ps ++ [x]) := by
  intro j hj
  by_cases c : j < ps.length
  · rw [getD_snoc_lt c]
    exact h j c
  · have e : j = ps.length := by
      rw [List.length_append] at hj
      have : ([x] : List Int).length = 1 := rfl
      omega
    subst e
    rw [getD_snoc_eq]
    exact ⟨h0, h1⟩
section
variable {P : Program} {w : World} {K : PySem.W.Frag} {mg : Str → Option Value} {base : Heap}
def spTuple : Sp := fun vs H Q _ => ∃ d c xs rs, vs = [.ref d, .ref c] ∧ Dice H d ∧ H c = some (.tup xs) ∧ RingsAt H 60 xs rs ∧ xs.length ≤ 12 ∧
  ∀ (a : Addr) (ps : List Int) H', PlacesT H' a ps → ps.length = xs.length → PlOk rs ps → Dice H' d → Keep d H H' → Q (.ref a) H'
end
end K1

/-! plain mathematics of heaps, continued: growing column by column, tries, squares added in any order -/
namespace HM
theorem range_hAt (h : List Nat) : (List.range h.length).map (hAt h) = h := by
  refine List.ext_getElem? fun c => ?_
  by_cases q : c < h.length
  · rw [List.getElem?_map, List.getElem?_range q, hAt_lt q]
    rfl
  · rw [List.getElem?_eq_none (by rw [List.length_map, List.length_range]; omega), List.getElem?_eq_none (by omega)]
/-- grown at the first columns -/
def fr (h : List Nat) (g : Nat → Bool) (i : Nat) : List Nat := (List.range h.length).map (fun c => hAt h c + b2n (decide (c < i) && g c)) ++ (if (decide (h.length < i) && g h.length) = true then [1] else [])
theorem fr_zero (h : List Nat) (g : Nat → Bool) : fr h g 0 = h := by
  unfold fr
  rw [decide_eq_false (Nat.not_lt_zero _), Bool.false_and, if_neg (by decide), List.append_nil]
  conv => rhs; rw [← range_hAt h]
  refine List.map_congr_left fun c _ => ?_
  rw [decide_eq_false (Nat.not_lt_zero _), Bool.false_and]
  rfl
theorem fr_end (h : List Nat) (g : Nat → Bool) : fr h g (h.length + 1) = grow h g := by
  unfold fr grow
  rw [decide_eq_true (Nat.lt_succ_self _), Bool.true_and]
  congr 1
  refine List.map_congr_left fun c hc => ?_
  rw [decide_eq_true (show c < h.length + 1 from Nat.lt_succ_of_lt (List.mem_range.mp hc)), Bool.true_and]
theorem fr_skip {h : List Nat} {g : Nat → Bool} {i : Nat} (q : g i = false) : fr h g (i + 1) = fr h g i := by
  have e : ∀ c, (decide (c < i + 1) && g c) = (decide (c < i) && g c) := fun c => by
    by_cases z : c = i
    · subst z
      rw [q, Bool.and_false, Bool.and_false]
    · have : decide (c < i + 1) = decide (c < i) := decide_eq_decide.mpr (by omega)
      rw [this]
  unfold fr
  rw [e]
  congr 1
  exact List.map_congr_left fun c _ => by rw [e]
theorem fr_low {h : List Nat} {g : Nat → Bool} {i : Nat} (hi : i ≤ h.length) : fr h g i = (List.range h.length).map (fun c => hAt h c + b2n (decide (c < i) && g c)) := by
  unfold fr
  rw [decide_eq_false (show ¬ h.length < i by omega), Bool.false_and, if_neg (by decide), List.append_nil]
theorem fr_low_len {h : List Nat} {g : Nat → Bool} {i : Nat} (hi : i ≤ h.length) : (fr h g i).length = h.length := by
  rw [fr_low hi, List.length_map, List.length_range]
theorem fr_set {h : List Nat} {g : Nat → Bool} {i : Nat} (hi : i < h.length) (q : g i = true) : (fr h g i).set i (hAt h i + 1) = fr h g (i + 1) := by
  rw [fr_low (show i ≤ h.length by omega), fr_low (show i + 1 ≤ h.length by omega)]
  refine List.ext_getElem? fun c => ?_
  rw [List.getElem?_set]
  by_cases e : i = c
  · subst e
    rw [if_pos rfl, if_pos (by rw [List.length_map, List.length_range]; exact hi), List.getElem?_map, List.getElem?_range hi]
    show some _ = some (hAt h i + b2n (decide (i < i + 1) && g i))
    rw [decide_eq_true (Nat.lt_succ_self i), q]
    rfl
  · rw [if_neg e, List.getElem?_map, List.getElem?_map]
    have : decide (c < i + 1) = decide (c < i) := decide_eq_decide.mpr (by omega)
    by_cases l : c < h.length
    · rw [List.getElem?_range l]
      show some (hAt h c + b2n (decide (c < i) && g c)) = some (hAt h c + b2n (decide (c < i + 1) && g c))
      rw [this]
    · rw [List.getElem?_eq_none (by rw [List.length_range]; omega)]
      rfl
theorem fr_app {h : List Nat} {g : Nat → Bool} (q : g h.length = true) : fr h g h.length ++ [1] = fr h g (h.length + 1) := by
  rw [fr_end, fr_low (Nat.le_refl _)]
  unfold grow
  rw [if_pos q]
  congr 1
  refine List.map_congr_left fun c hc => ?_
  rw [decide_eq_true (List.mem_range.mp hc), Bool.true_and]
/-! ### tries -/
def Falls (ns : List Int) : Prop := (∀ j, j + 1 < ns.length → ns.getD (j + 1) 0 ≤ ns.getD j 0) ∧ ∀ y ∈ ns, (0 : Int) ≤ y
/-- heights with 0 behind them, one changed -/
def chg (h : List Nat) (st : Int) (c : Nat) : List Int := (List.range (h.length + 1)).map fun x => (hAt h x : Int) + (if x = c then st else 0)
theorem chg_len (h : List Nat) (st : Int) (c : Nat) : (chg h st c).length = h.length + 1 := by
  unfold chg
  rw [List.length_map, List.length_range]
theorem chg_get {h : List Nat} {st : Int} {c x : Nat} (hx : x ≤ h.length) : (chg h st c).getD x 0 = (hAt h x : Int) + (if x = c then st else 0) := by
  unfold chg
  rw [List.getD_eq_getElem?_getD, List.getElem?_map, List.getElem?_range (by omega)]
  rfl
/-- columns at which a try leaves a heap -/
def tr (h : List Nat) (st : Int) (c : Nat) : Bool := if st = 1 then opn h c else decide (hAt h (c + 1) < hAt h c)
theorem chg_falls {h : List Nat} (H : IsHeap h) {st : Int} (hst : st = 1 ∨ st = -1) {c : Nat} (hc : c ≤ h.length) : Falls (chg h st c) ↔ tr h st c = true := by
  have hm : ∀ y, y ∈ chg h st c → ∃ x, x ≤ h.length ∧ y = (hAt h x : Int) + (if x = c then st else 0) := fun y hy => by
    unfold chg at hy
    obtain ⟨x, hx, rfl⟩ := List.mem_map.mp hy
    exact ⟨x, Nat.le_of_lt_succ (List.mem_range.mp hx), rfl⟩
  have hm2 : ∀ x, x ≤ h.length → (hAt h x : Int) + (if x = c then st else 0) ∈ chg h st c := fun x hx => List.mem_map.mpr ⟨x, List.mem_range.mpr (Nat.lt_succ_of_le hx), rfl⟩
  rcases hst with rfl | rfl
  · unfold tr
    rw [if_pos rfl]
    constructor
    · rintro ⟨f1, f2⟩
      unfold opn
      by_cases z : c = 0
      · rw [decide_eq_true z, Bool.true_or]
      · have a := f1 (c - 1) (by rw [chg_len]; omega)
        rw [show c - 1 + 1 = c by omega, chg_get hc, chg_get (by omega), if_pos rfl, if_neg (by omega)] at a
        rw [decide_eq_true (show hAt h c < hAt h (c - 1) by omega), Bool.or_true]
    · intro o
      refine ⟨fun j hj => ?_, fun y hy => ?_⟩
      · rw [chg_len] at hj
        rw [chg_get (show j + 1 ≤ h.length by omega), chg_get (show j ≤ h.length by omega)]
        have := H.fall j
        by_cases z : j + 1 = c
        · subst z
          have := opn_lt o
          rw [if_pos rfl, if_neg (by omega)]
          omega
        · rw [if_neg z]
          split <;> omega
      · obtain ⟨x, _, rfl⟩ := hm y hy
        split <;> omega
  · unfold tr
    rw [if_neg (by decide)]
    constructor
    · rintro ⟨f1, f2⟩
      by_cases z : c = h.length
      · have := f2 _ (hm2 c hc)
        rw [if_pos rfl, z, hAt_ge (Nat.le_refl _)] at this
        exact absurd this (by decide)
      · have a := f1 c (by rw [chg_len]; omega)
        rw [chg_get (by omega), chg_get hc, if_pos rfl, if_neg (by omega)] at a
        exact decide_eq_true (by omega)
    · intro o
      have o' := of_decide_eq_true o
      refine ⟨fun j hj => ?_, fun y hy => ?_⟩
      · rw [chg_len] at hj
        rw [chg_get (show j + 1 ≤ h.length by omega), chg_get (show j ≤ h.length by omega)]
        have := H.fall j
        by_cases z : j = c
        · subst z
          rw [if_pos rfl, if_neg (by omega)]
          omega
        · rw [if_neg z]
          split <;> omega
      · obtain ⟨x, _, rfl⟩ := hm y hy
        split
        · next z =>
          subst z
          omega
        · omega
def tv (h : List Nat) (st : Int) (c : Nat) : Int := if st = 1 then dg h c else dg h c + 1
def trs (h : List Nat) (st : Int) (i : Nat) : List Int := ((List.range i).filter (tr h st)).map (tv h st)
theorem tv_lt {h : List Nat} (H : IsHeap h) {st : Int} {c d : Nat} (hcd : c < d) : tv h st c < tv h st d := by
  have := dg_lt H hcd
  unfold tv
  split <;> omega
theorem range_lt (n : Nat) : (List.range n).Pairwise (· < ·) := List.pairwise_lt_range
theorem trs_sorted {h : List Nat} (H : IsHeap h) (st : Int) (i : Nat) : (trs h st i).Pairwise (· ≤ ·) := by
  unfold trs
  refine List.pairwise_map.mpr ?_
  refine ((range_lt i).filter _).imp fun {a b} hab => ?_
  have := tv_lt H (st := st) hab
  omega
theorem sorted_eq : ∀ {a b : List Int}, a.Perm b → a.Pairwise (· ≤ ·) → b.Pairwise (· ≤ ·) → a = b
  | [], b, p, _, _ => (List.nil_perm.mp p).symm
  | x :: a, [], p, _, _ => absurd p.length_eq (by simp)
  | x :: a, y :: b, p, ha, hb => by
    have e : x = y := by
      have h1 : y ∈ x :: a := p.mem_iff.mpr List.mem_cons_self
      have h2 : x ∈ y :: b := p.mem_iff.mp List.mem_cons_self
      rcases List.mem_cons.mp h1 with z | z
      · exact z.symm
      · rcases List.mem_cons.mp h2 with u | u
        · exact u
        · have q1 := (List.pairwise_cons.mp ha).1 y z
          have q2 := (List.pairwise_cons.mp hb).1 x u
          omega
    subst e
    rw [sorted_eq ((List.perm_cons x).mp p) (List.pairwise_cons.mp ha).2 (List.pairwise_cons.mp hb).2]
theorem trs_add (h : List Nat) : trs h 1 (h.length + 1) = (oc h).map (dg h) := by
  have e : tr h 1 = opn h := funext fun c => if_pos rfl
  have e2 : tv h 1 = dg h := funext fun c => if_pos rfl
  unfold trs oc
  rw [e, e2]
theorem trs_sub (h : List Nat) : trs h (-1) (h.length + 1) = ((List.range h.length).filter fun c => decide (hAt h (c + 1) < hAt h c)).map fun c => dg h c + 1 := by
  have e : tr h (-1) = fun c => decide (hAt h (c + 1) < hAt h c) := funext fun c => if_neg (by decide)
  have e2 : tv h (-1) = fun c => dg h c + 1 := funext fun c => if_neg (by decide)
  unfold trs
  rw [e, e2, List.range_succ, List.filter_append, List.filter_cons, if_neg (by rw [hAt_ge (Nat.le_refl h.length)]; simp)]
  simp
theorem oc_two {h : List Nat} (H : IsHeap h) : ((oc h).map (dg h)).Pairwise (fun a b => a + 2 ≤ b) := by
  refine List.pairwise_map.mpr ?_
  unfold oc
  have : ((List.range (h.length + 1)).filter (opn h)).Pairwise (fun a b => a < b) := (range_lt _).filter _
  refine (List.Pairwise.and_mem.mp this).imp fun {a b} hab => ?_
  exact dg_two H hab.2.2 (List.mem_filter.mp hab.2.1).2
theorem two_next {l : List Int} (h : l.Pairwise (fun a b => a + 2 ≤ b)) {i : Nat} {x y : Int} (hx : l[i]? = some x) (hy : l[i + 1]? = some y) : x + 2 ≤ y := by
  obtain ⟨h1, rfl⟩ := List.getElem?_eq_some_iff.mp hx
  obtain ⟨h2, rfl⟩ := List.getElem?_eq_some_iff.mp hy
  exact List.pairwise_iff_getElem.mp h i (i + 1) h1 h2 (by omega)
/-! ### squares added in any order -/
def adm (h : List Nat) (ms : List Int) (i : Nat) (c : Nat) : Bool := opn h c && decide (dg h c ∈ ms.take i)
theorem adm_opn {h : List Nat} {ms : List Int} {i : Nat} (c : Nat) (z : adm h ms i c = true) : opn h c = true := by
  unfold adm at z
  exact (Bool.and_eq_true_iff.mp z).1
theorem adm_zero (h : List Nat) (ms : List Int) : grow h (adm h ms 0) = h := by
  have e : adm h ms 0 = fun _ => false := funext fun c => by
    unfold adm
    rw [List.take_zero, decide_eq_false (by simp), Bool.and_false]
  rw [e]
  unfold grow
  rw [if_neg (show ¬ false = true by decide), List.append_nil]
  exact range_hAt h
theorem grow_opn {h : List Nat} {g : Nat → Bool} (hg : ∀ c, g c = true → opn h c = true) {c : Nat} (o : opn h c = true) (q : g c = false) : opn (grow h g) c = true := by
  unfold opn
  by_cases z : c = 0
  · rw [decide_eq_true z, Bool.true_or]
  · obtain ⟨e, rfl⟩ : ∃ e, c = e + 1 := ⟨c - 1, by omega⟩
    have a := opn_lt o
    have b : hAt (grow h g) (e + 1) < hAt (grow h g) (e + 1 - 1) := by
      rw [hAt_grow hg, hAt_grow hg, q, show e + 1 - 1 = e by omega]
      have : b2n false = 0 := rfl
      omega
    rw [decide_eq_true b, Bool.or_true]
theorem grow_dg {h : List Nat} {g : Nat → Bool} (hg : ∀ c, g c = true → opn h c = true) {c : Nat} (q : g c = false) : dg (grow h g) c = dg h c := by
  unfold dg
  rw [hAt_grow hg, q]
  rfl
theorem adm_no {h : List Nat} (_ : IsHeap h) {ms : List Int} (nd : ms.Nodup) {i c : Nat} (hi : ms[i]? = some (dg h c)) : adm h ms i c = false := by
  unfold adm
  have : ¬ dg h c ∈ ms.take i := fun z => by
    obtain ⟨j, hj, e⟩ := List.getElem_of_mem z
    rw [List.length_take] at hj
    obtain ⟨hi', e'⟩ := List.getElem?_eq_some_iff.mp hi
    rw [List.getElem_take] at e
    have := (List.nodup_iff_pairwise_ne.mp nd)
    have := List.pairwise_iff_getElem.mp this j i (by omega) hi' (by omega)
    exact this (e.trans e'.symm)
  rw [decide_eq_false this, Bool.and_false]
theorem adm_next {h : List Nat} (H : IsHeap h) {ms : List Int} (nd : ms.Nodup) {i c : Nat} (o : opn h c = true) (hi : ms[i]? = some (dg h c)) {g1 : Nat → Bool} (hg1 : ∀ x, g1 x = (c == x)) :
    grow (grow h (adm h ms i)) g1 = grow h (adm h ms (i + 1)) := by
  have no := adm_no H nd hi
  have h1 : IsHeap (grow h (adm h ms i)) := grow_heap H adm_opn
  have o1 : ∀ x, g1 x = true → opn (grow h (adm h ms i)) x = true := fun x z => by
    rw [hg1] at z
    have e : c = x := by simpa using z
    subst e
    exact grow_opn adm_opn o no
  refine heap_ext (grow_heap h1 o1) (grow_heap H adm_opn) fun x => ?_
  rw [hAt_grow o1, hAt_grow adm_opn, hAt_grow adm_opn, hg1]
  by_cases e : c = x
  · subst e
    have yes : adm h ms (i + 1) c = true := by
      unfold adm
      rw [o, List.take_add_one, hi, decide_eq_true (by simp)]
      rfl
    rw [no, yes, beq_self_eq_true]
    rfl
  · have e2 : (c == x) = false := by simpa using e
    have e3 : adm h ms (i + 1) x = adm h ms i x := by
      unfold adm
      have : (dg h x ∈ ms.take (i + 1)) ↔ dg h x ∈ ms.take i := by
        rw [List.take_add_one, hi, List.mem_append]
        constructor
        · rintro (z | z)
          · exact z
          · have : dg h x = dg h c := by simpa using z
            exact absurd (dg_inj H this).symm e
        · exact Or.inl
      rw [decide_eq_decide.mpr this]
    rw [e2, e3]
    rfl
end HM

namespace K1
open PySem PySem.Spec PyProof.Rows L2 Evl HM LX ZW
section
variable {P : Program} {w : World} {K : PySem.W.Frag} {mg : Str → Option Value} {base : Heap}
def spLGrown : Sp := fun vs H Q _ => ∃ p h x n s q, vs = [.ref p, x, .int q] ∧ HeapAt H p h ∧ h.length ≤ 100 ∧ RingAt H 60 x n s ∧ ∀ r H', Ex H H' → HeapAt H' r (grow h (gl h n s q)) → Q (.ref r) H'
theorem ok_lgrown (T : Txt K mg) {f : Addr} {fd : FuncData} (D : DefAt K mg "_law_grown" sLGrown ["_law_heap_here", "_law_ring_here", "_law_x"] f fd) : FnOk P w K mg base CX0 1 f fd ["_law_heap_here", "_law_ring_here", "_law_x"] spLGrown := by
  refine D.F.ok scLGrown (fun vs H Q E h => ?_) (fun cdv A outer s₀ H vs Q E hr h => ?_)
  · obtain ⟨p, h, x, n, s, q, rfl, _⟩ := h
    rfl
  · obtain ⟨p, h, x, n, s, q, rfl, hp, hl, hx, k⟩ := h
    refine ⟨_, pss_cons (ps_asg (pv 1) (pg_tup (by rfl) (pgs_cons (pg_name (i := 3) scLGrown.nd rfl (.inl rfl)) (pgs_cons (pg_name (i := 4) scLGrown.nd rfl (.inl rfl)) pgs_nil))))
      (pss_cons (ps_set (i := 5) scLGrown.nd rfl (.inl rfl) (pe_callTy call_list_of (by rfl) T.z_list (by decide +kernel) (pa_cons (pv 0) pa_nil)))
      (pss_cons (ps_for PassesOwn.never rfl (pi_range1 (by rfl) T.z_range (pa_cons (pe_op op_add (pe_callB call_len_seq (by rfl) T.z_len PySem.boot_len (pa_cons (pv 0) pa_nil)) pe_int) pa_nil)) (pg_name (i := 6) scLGrown.nd rfl (.inl rfl))
        (pss_cut (ps_set (i := 7) scLGrown.nd rfl (.inl rfl) (pe_ifExp (pt_cmpR op_lt (pv 6) (pe_callB call_len_seq (by rfl) T.z_len PySem.boot_len (pa_cons (pv 0) pa_nil)) (nomark _)) (pe_ix ix_tup (pv 0) (pv 6) (fun _ _ => rfl)) pe_int))
        (pss_cut (ps_set (i := 8) scLGrown.nd rfl (.inl rfl) (pe_or (pe_cmpR op_eq (pv 6) pe_int (nomark _)) (pe_one (pe_cmpR op_gt (pe_ix ix_tup (pv 0) (pe_op op_sub (pv 6) pe_int) (fun _ _ => rfl)) (pv 7) (nomark _)))))
        (pss_one (ps_if (PW.pt (pw_and (pt_val (pv 8)) (pw_and1 (pt_cmpR op_eq (pe_op op_mod (pe_op op_sub (pe_op op_mul (pe_op op_sub (pv 6) (pv 7)) (pv 4)) (pv 2)) (pv 3)) pe_int (nomark _)))))
          (pss_one (ps_if (pt_cmpR op_lt (pv 6) (pe_callB call_len_seq (by rfl) T.z_len PySem.boot_len (pa_cons (pv 0) pa_nil)) (nomark _))
            (pss_one (ps_asg (pe_op op_add (pv 7) pe_int) (pg_sub (pv 5) (pv 6) set_list)))
            (pss_one (ps_expr (pe_bm PySem.F.plainAttrs_list PySem.F.slot_list_append PySem.F.type_list_append mt_append (pv 5) (pa_cons pe_int pa_nil)))))) pss_nil)))))
      (pss_one (ps_ret (pe_callTy call_tuple_of (by rfl) T.z_tuple (by decide +kernel) (pa_cons (pv 5) pa_nil)))))), ?_⟩
    obtain ⟨t, rfl, ht, b1, b2, b3, b4⟩ := id hx
    refine ⟨_, rfl, t, [.int n, .int s], rfl, SqT.of ht, rfl, .int n, [.int s], rfl, .int s, [], rfl, rfl, ?_⟩
    refine ⟨_, rfl, p, hv h, rfl, .inr (SqT.of hp), fun l hl0 => ?_⟩
    have e1 := Ex.new (o := .lst (hv h)) hl0
    have g0 : (upd H l (.lst (hv h))) l = some (.lst (hv (fr h (gl h n s q) 0))) := by
      rw [upd_same, fr_zero]
    generalize upd H l (.lst (hv h)) = H1 at *
    refine ⟨_, rfl, p, _, rfl, .inr (SqT.of (e1 _ _ hp)), _, _, rfl, rfl, _, rfl, by rw [hv_len]; omega, by rw [hv_len]; omega, ?_⟩
    refine for_range (lo := 0) (n := (((hv h).length : Int) + 1).toNat) (fun i σ' H' => ∃ (y6 y7 y8 : Option V), σ' = [some (.ref p), some (.ref t), some (.int q), some (.int n), some (.int s), some (.ref l), y6, y7, y8] ∧ H' l = some (.lst (hv (fr h (gl h n s q) i))) ∧ Ex H H')
      ⟨none, none, none, rfl, g0, e1⟩ (fun i σ' H' hi hW => ?_) (fun σ' H' hW => ?_)
    · obtain ⟨y6, y7, y8, rfl, w1, w2⟩ := hW
      rw [hv_len] at hi
      have hi' : i ≤ h.length := by omega
      have hp2 := w2 _ _ hp
      have e0 : (0 : Int) + (i : Int) = (i : Int) := Int.zero_add _
      refine ⟨fun σ2 H2 => σ2 = [some (.ref p), some (.ref t), some (.int q), some (.int n), some (.int s), some (.ref l), some (.int (0 + (i : Int))), some (.int (hAt h i : Int)), y8] ∧ H2 = H', ?_, ?_⟩
      · refine ⟨_, rfl, _, rfl, p, _, rfl, .inr (SqT.of hp2), _, _, rfl, rfl, _, rfl, ite2 (fun cc => ?_) (fun cc => ?_)⟩
        · have c2 : i < h.length := by
            have := of_decide_eq_true cc
            rw [hv_len] at this
            omega
          exact ⟨_, rfl, _, rfl, p, _, _, _, rfl, rfl, SqT.of hp2, at_of e0 (hv_get c2), rfl, rfl⟩
        · have c2 : h.length ≤ i := by
            have : ¬ ((0 : Int) + (i : Int) < ((hv h).length : Int)) := fun z => cc (decide_eq_true z)
            rw [hv_len] at this
            omega
          refine ⟨?_, rfl⟩
          rw [hAt_ge c2]
          rfl
      · rintro σ2 H2 ⟨rfl, rfl⟩
        refine ⟨fun σ3 H3 => σ3 = [some (.ref p), some (.ref t), some (.int q), some (.int n), some (.int s), some (.ref l), some (.int (0 + (i : Int))), some (.int (hAt h i : Int)), some (.bl (opn h i))] ∧ H3 = H2, ?_, ?_⟩
        · refine ⟨_, rfl, rfl, _, rfl, ite2 (fun cc => ?_) (fun cc => ?_)⟩
          · have c2 : i = 0 := by
              have := V.int.inj (of_decide_eq_true cc)
              omega
            refine ⟨?_, rfl⟩
            have : opn h i = true := by
              unfold opn
              rw [decide_eq_true c2, Bool.true_or]
            rw [this]
            rfl
          · have c2 : i ≠ 0 := fun z => cc (by subst z; rfl)
            refine ⟨_, rfl, _, rfl, _, _, rfl, rfl, p, _, _, _, rfl, rfl, SqT.of hp2, at_of (show (0 + (i : Int)) - 1 = ((i - 1 : Nat) : Int) by omega) (hv_get (by omega)), _, rfl, _, _, rfl, rfl, ?_, rfl⟩
            have : opn h i = decide ((hAt h i : Int) < (hAt h (i - 1) : Int)) := by
              unfold opn
              rw [decide_eq_false c2, Bool.false_or]
              exact decide_eq_decide.mpr (by omega)
            rw [this]
            rfl
        · rintro σ3 H3 ⟨rfl, rfl⟩
          refine ⟨_, rfl, _, rfl, ite2 (fun cc => ?_) (fun cc => ?_)⟩
          · refine ⟨_, rfl, _, rfl, _, _, rfl, rfl, _, rfl, _, _, rfl, rfl, .inr (by constructor <;> omega), _, rfl, _, _, rfl, rfl, _, rfl, _, _, rfl, rfl, by omega, rfl, _, rfl, ite2 (fun c3 => ?_) (fun c3 => ?_)⟩
            · have yes : gl h n s q i = true := by
                unfold gl
                rw [cc, Bool.true_and]
                have z := V.int.inj (of_decide_eq_true c3)
                rw [Int.zero_add] at z
                exact decide_eq_true z
              refine ⟨_, rfl, _, rfl, p, _, rfl, .inr (SqT.of hp2), _, _, rfl, rfl, _, rfl, ite2 (fun c4 => ?_) (fun c4 => ?_)⟩
              · have c5 : i < h.length := by
                  have := of_decide_eq_true c4
                  rw [hv_len] at this
                  omega
                refine ⟨_, rfl, _, _, rfl, rfl, _, rfl, _, rfl, l, _, _, i, rfl, rfl, w1, ?_, _, _, _, rfl, ?_, Ex.mut w2 hl0⟩
                · rw [e0]
                  refine ixN_nat ?_
                  rw [hv_len, fr_low_len hi']
                  exact c5
                · rw [upd_same]
                  dsimp only
                  rw [show ((hAt h i : Int)) + 1 = ((hAt h i + 1 : Nat) : Int) by omega, hv_set, fr_set c5 yes]
              · have c5 : i = h.length := by
                  have : ¬ ((0 : Int) + (i : Int) < ((hv h).length : Int)) := fun z => c4 (decide_eq_true z)
                  rw [hv_len] at this
                  omega
                subst c5
                refine ⟨_, rfl, .inl ⟨rfl, _, SqL.of w1⟩, l, _, _, rfl, rfl, w1, ?_, _, _, _, rfl, ?_, Ex.mut w2 hl0⟩
                · rw [hv_len, fr_low_len (Nat.le_refl _)]
                  exact small1000 (by omega)
                · rw [upd_same, ← fr_app yes, hv_snoc]
                  rfl
            · have no : gl h n s q i = false := by
                unfold gl
                have z : ¬ ((dg h i * s - q) % n = 0) := fun z => c3 (decide_eq_true (congrArg V.int (by rw [Int.zero_add]; exact z)))
                rw [decide_eq_false z, Bool.and_false]
              refine ⟨_, _, _, rfl, ?_, w2⟩
              rw [fr_skip no]
              exact w1
          · have no : gl h n s q i = false := by
              unfold gl
              rw [Bool.eq_false_iff.mpr cc, Bool.false_and]
            refine ⟨_, _, _, rfl, ?_, w2⟩
            rw [fr_skip no]
            exact w1
    · obtain ⟨y6, y7, y8, rfl, w1, w2⟩ := hW
      have e : (((hv h).length : Int) + 1).toNat = h.length + 1 := by
        rw [hv_len]
        omega
      rw [e, fr_end] at w1
      exact ⟨_, rfl, l, _, rfl, .inl ⟨SqL.of w1, fun r hr' => k r _ (w2.trans (Ex.new hr')) upd_same⟩⟩
end
end K1

namespace K1
open PySem PySem.Spec PyProof.Rows L2 Evl HM LX ZW
theorem pair_heap {l : List Nat} (hp : l.Pairwise (fun a b => b ≤ a)) (h0 : ∀ x ∈ l, 0 < x) : IsHeap l := by
  refine ⟨fun c hc => h0 _ (List.mem_of_getElem? (hAt_lt hc)), fun c => ?_⟩
  by_cases q : c + 1 < l.length
  · obtain ⟨h1, e1⟩ := List.getElem?_eq_some_iff.mp (hAt_lt q)
    obtain ⟨h2, e2⟩ := List.getElem?_eq_some_iff.mp (hAt_lt (show c < l.length by omega))
    have := List.pairwise_iff_getElem.mp hp c (c + 1) h2 h1 (by omega)
    rw [e1, e2] at this
    exact this
  · rw [hAt_ge (show l.length ≤ c + 1 by omega)]
    exact Nat.zero_le _
theorem hv_nat {js : List Int} (h : ∀ j ∈ js, 0 ≤ j) : js.map V.int = hv (js.map Int.toNat) := by
  unfold hv
  rw [List.map_map]
  refine List.map_congr_left fun j hj => ?_
  show V.int j = V.int ((j.toNat : Nat) : Int)
  rw [Int.toNat_of_nonneg (h j hj)]
theorem pl_get {ps : List Int} {i : Nat} {x : V} (hx : (ps.map V.int)[i]? = some x) : x = .int (ps.getD i 0) := by
  rw [List.getElem?_map] at hx
  rw [List.getD_eq_getElem?_getD]
  cases e : ps[i]? with
  | none =>
    rw [e] at hx
    cases hx
  | some p =>
    rw [e] at hx
    exact (Option.some.inj hx).symm
section
variable {P : Program} {w : World} {K : PySem.W.Frag} {mg : Str → Option Value} {base : Heap}
def spLHeap : Sp := fun vs H Q _ => ∃ c a xs rs ps, vs = [.ref c, .ref a] ∧ H c = some (.tup xs) ∧ RingsAt H 60 xs rs ∧ xs.length ≤ 12 ∧ PlacesT H a ps ∧ ps.length = xs.length ∧ ∀ b H', Ex H H' → HeapAt H' b (hseq rs ps xs.length) → Q (.ref b) H'
theorem ok_lheap (T : Txt K mg) {f : Addr} {fd : FuncData} (D : DefAt K mg "_law_heap" sLHeap ["_law_chain_here", "_law_x"] f fd) : FnOk P w K mg base CX0 2 f fd ["_law_chain_here", "_law_x"] spLHeap := by
  refine D.F.ok scLHeap (fun vs H Q E h => ?_) (fun cdv A outer s₀ H vs Q E hr h => ?_)
  · obtain ⟨c, a, xs, rs, ps, rfl, _⟩ := h
    rfl
  · obtain ⟨c, a, xs, rs, ps, rfl, hc, hR, hl, ha, hlen, q⟩ := h
    obtain ⟨f1, fd1, D1⟩ := T.d_l_grown
    refine ⟨_, pss_cons (ps_set (i := 2) scLHeap.nd rfl (.inl rfl) (pe_tup pa_nil))
      (pss_cons (ps_for PassesOwn.never rfl (RZ.pi_zipA (by rfl) T.z_zip (pa_cons (pv 0) (pa_cons (pv 1) pa_nil))) (pg_tup (by rfl) (pgs_cons (pg_name (i := 3) scLHeap.nd rfl (.inl rfl)) (pgs_cons (pg_name (i := 4) scLHeap.nd rfl (.inl rfl)) pgs_nil)))
        (pss_one (ps_set (i := 2) scLHeap.nd rfl (.inl rfl) (pe_call (ok_lgrown T D1) hr (by rfl) D1.g D1.F.kp D1.b .nil pass0 (pa_cons (pv 2) (pa_cons (pv 3) (pa_cons (pv 4) pa_nil)))))))
      (pss_one (ps_ret (pv 2)))), ?_⟩
    refine ⟨by show 0 ≤ sizeLine; decide, fun t0 ht0 => ?_⟩
    have e1 := Ex.new (o := .tup []) ht0
    have g0 : HeapAt (upd H t0 (.tup [])) t0 (hseq rs ps 0) := upd_same
    generalize upd H t0 (.tup []) = H1 at *
    refine ⟨_, rfl, _, rfl, c, a, _, _, rfl, .inr ⟨SqT.of (e1 _ _ hc), SqT.of (e1 _ _ ha), ?_⟩⟩
    refine for_zipT (K := K) (a := c) (b := a) (xs := xs) (ys := ps.map V.int) (n := xs.length) (Nat.le_refl _) (by rw [List.length_map]; omega) (.inl (Nat.le_refl _))
      (fun i σ' H' => ∃ (b : Addr) (y3 y4 : Option V), σ' = [some (.ref c), some (.ref a), some (.ref b), y3, y4] ∧ HeapAt H' b (hseq rs ps i) ∧ Ex H H') ⟨t0, none, none, rfl, g0, e1⟩ (fun i σ' H' hW => ?_) (fun i x y Tp σ' H' hi hx hy hW nT => ?_) (fun σ' H' hW => ?_)
    · obtain ⟨_, _, _, _, _, e⟩ := hW
      exact ⟨SqT.of (e _ _ hc), SqT.of (e _ _ ha)⟩
    · obtain ⟨b, y3, y4, rfl, w1, w2⟩ := hW
      have eT := Ex.new (o := .tup [x, y]) nT
      obtain rfl := pl_get hy
      have hx1 := rings_nth4 (rings_ex4 (w2.trans eT) hR) hx
      obtain ⟨ok1, ok2, ok3⟩ := hseq_ok rs ps i
      refine ⟨Tp, _, rfl, SqT.of upd_same, rfl, x, [_], rfl, _, [], rfl, rfl, ?_⟩
      refine ⟨_, rfl, _, rfl, _, rfl, b, hseq rs ps i, x, _, _, _, rfl, eT _ _ w1, by omega, hx1, fun r H4 e4 hr4 => ?_⟩
      exact ⟨r, _, _, rfl, hr4, (w2.trans eT).trans e4⟩
    · obtain ⟨b, y3, y4, rfl, w1, w2⟩ := hW
      exact ⟨_, rfl, q b _ w2 w1⟩
def spDrawnHeap : Sp := fun vs H Q _ => ∃ d, vs = [.ref d] ∧ Dice H d ∧ ∀ b h H', HeapAt H' b h → IsHeap h → h.length ≤ 9 → hAt h 0 ≤ 9 → Dice H' d → Keep d H H' → Q (.ref b) H'
end
end K1

/-! plain mathematics of heaps: how many columns reach to a diagonal; heaps of two rules that are one but moved -/
namespace HM
/-- just k columns end at or below the diagonal t -/
def IsF (h : List Nat) (t : Int) (k : Nat) : Prop := (∀ c, c < k → dg h c ≤ t) ∧ t < dg h k
open Classical in
noncomputable def F (h : List Nat) (t : Int) : Nat := if e : ∃ k, IsF h t k then Classical.choose e else 0
theorem dg_ge {h : List Nat} (H : IsHeap h) (c : Nat) : (c : Int) - (hAt h 0 : Int) ≤ dg h c := by
  have := H.le (Nat.zero_le c)
  unfold dg
  omega
theorem dg_le (h : List Nat) (c : Nat) : dg h c ≤ (c : Int) := by
  unfold dg
  omega
theorem exF {h : List Nat} (H : IsHeap h) (t : Int) : ∃ k, IsF h t k := by
  have key : ∀ n : Nat, (∃ k, IsF h t k) ∨ ∀ c, c < n → dg h c ≤ t := by
    intro n
    induction n with
    | zero => exact .inr fun c hc => absurd hc (Nat.not_lt_zero c)
    | succ n ih =>
      rcases ih with e | a
      · exact .inl e
      · by_cases q : dg h n ≤ t
        · refine .inr fun c hc => ?_
          rcases Nat.lt_or_ge c n with z | z
          · exact a c z
          · have : c = n := by omega
            subst this
            exact q
        · exact .inl ⟨n, a, by omega⟩
  rcases key ((t + hAt h 0 + 1).toNat + 1) with e | a
  · exact e
  · have h1 := a _ (Nat.lt_succ_self _)
    have h2 := dg_ge H (t + hAt h 0 + 1).toNat
    omega
theorem F_spec {h : List Nat} (H : IsHeap h) (t : Int) : IsF h t (F h t) := by
  unfold F
  rw [dif_pos (exF H t)]
  exact Classical.choose_spec (exF H t)
theorem IsF.uniq {h : List Nat} {t : Int} {j k : Nat} (a : IsF h t j) (b : IsF h t k) : j = k := by
  rcases Nat.lt_trichotomy j k with q | q | q
  · have := b.1 j q
    have := a.2
    omega
  · exact q
  · have := a.1 k q
    have := b.2
    omega
theorem F_eq {h : List Nat} (H : IsHeap h) {t : Int} {k : Nat} (a : IsF h t k) : F h t = k := (F_spec H t).uniq a
theorem F_mono {h : List Nat} (H : IsHeap h) (t : Int) : F h t ≤ F h (t + 1) ∧ F h (t + 1) ≤ F h t + 1 := by
  have a := F_spec H t
  have b := F_spec H (t + 1)
  constructor
  · refine Nat.le_of_not_lt fun q => ?_
    have := a.1 _ q
    have := b.2
    omega
  · refine Nat.le_of_not_lt fun q => ?_
    have h1 := b.1 _ q
    have h3 := a.2
    have h2 := dg_lt H (Nat.lt_succ_self (F h t))
    show False
    have : dg h (F h t + 1) = dg h (F h t).succ := rfl
    omega
/-- the rule of growth in these numbers -/
theorem F_grow {h : List Nat} (H : IsHeap h) {L : Int → Prop} [DecidablePred L] {g : Nat → Bool} (hg : ∀ c, g c = (opn h c && decide (L (dg h c)))) (t : Int) :
    F (grow h g) t = F h t + if L (t + 1) ∧ F h (t + 1) = F h t + 1 ∧ F h (t - 1) = F h t then 1 else 0 := by
  have ho : ∀ c, g c = true → opn h c = true := fun c z => by
    rw [hg, Bool.and_eq_true] at z
    exact z.1
  have hd : ∀ c, dg (grow h g) c = dg h c - (b2n (g c) : Int) := fun c => by
    unfold dg
    rw [hAt_grow ho]
    omega
  have G := grow_heap H ho
  have a := F_spec H t
  have ap := F_spec H (t + 1)
  have am := F_spec H (t - 1)
  have m1 := F_mono H t
  have m2 := F_mono H (t - 1)
  rw [show t - 1 + 1 = t by omega] at m2
  refine F_eq G ?_
  generalize hk : F h t = k at *
  by_cases c : L (t + 1) ∧ F h (t + 1) = k + 1 ∧ F h (t - 1) = k
  · rw [if_pos c]
    obtain ⟨c1, c2, c3⟩ := c
    rw [c2] at ap
    rw [c3] at am
    have e1 := ap.1 k (Nat.lt_succ_self k)
    have e2 := a.2
    have e : dg h k = t + 1 := by omega
    have op : opn h k = true := by
      cases k with
      | zero => rfl
      | succ j =>
        unfold opn
        rw [Bool.or_eq_true]
        refine .inr (decide_eq_true ?_)
        show hAt h (j + 1) < hAt h j
        have e3 := am.1 j (Nat.lt_succ_self j)
        unfold dg at e e3
        omega
    have gk : g k = true := by
      rw [hg, op, e, decide_eq_true c1]
      rfl
    refine ⟨fun x hx => ?_, ?_⟩
    · rw [hd]
      by_cases z : x = k
      · rw [z, gk]
        show _ - ((1 : Nat) : Int) ≤ _
        omega
      · have := a.1 x (by omega)
        omega
    · rw [hd]
      have h1 := dg_lt H (Nat.lt_succ_self k)
      have h2 := b2n_le (g (k + 1))
      have : dg h (k + 1) = dg h k.succ := rfl
      have h3 : g (k + 1) = true → False ∨ True := fun _ => .inr trivial
      by_cases z : dg h (k + 1) = t + 2
      · have : g (k + 1) = false ∨ g (k + 1) = true := by cases g (k + 1) <;> simp
        rcases this with q | q
        · rw [q]
          show _ < _ - ((0 : Nat) : Int)
          omega
        · have q2 := ho _ q
          have := opn_lt q2
          unfold dg at z e
          omega
      · omega
  · rw [if_neg c, Nat.add_zero]
    refine ⟨fun x hx => ?_, ?_⟩
    · rw [hd]
      have := a.1 x hx
      omega
    · rw [hd]
      have a2 := a.2
      cases q : g k with
      | false =>
        show _ < _ - ((0 : Nat) : Int)
        omega
      | true =>
        show _ < _ - ((1 : Nat) : Int)
        refine Int.lt_of_not_ge fun z => c ?_
        have e : dg h k = t + 1 := by omega
        have q1 := q
        rw [hg, Bool.and_eq_true] at q1
        refine ⟨by have := of_decide_eq_true q1.2; rwa [e] at this, ?_, ?_⟩
        · have : F h (t + 1) ≠ k := fun y => by
            have := ap.2
            rw [y] at this
            omega
          omega
        · refine Nat.le_antisymm m2.1 (Nat.le_of_not_lt fun y => ?_)
          have hj : k = F h (t - 1) + 1 := by omega
          have e1 := am.2
          have e2 := a.1 _ y
          have op := q1.1
          rw [hj] at op
          have := opn_lt op
          rw [hj] at e
          unfold dg at e e1 e2
          omega
/-- two heaps, the second with one column more that reaches, all diagonals moved by one -/
def Rl (h m : List Nat) : Prop := ∀ t : Int, F h t ≤ F m (t + 1) ∧ F m (t + 1) ≤ F h t + 1 ∧ F m (t + 1) + F h (t + 1) ≤ F m (t + 2) + F h t
theorem Rl.grow {h m : List Nat} (R : Rl h m) (H : IsHeap h) (M : IsHeap m) {L : Int → Prop} [DecidablePred L] (nL : ∀ d, L d → ¬ L (d + 1)) {g g' : Nat → Bool} (hg : ∀ c, g c = (opn h c && decide (L (dg h c)))) (hg' : ∀ c, g' c = (opn m c && decide (L (dg m c - 1)))) : Rl (grow h g) (grow m g') := by
  intro t
  have s := fun u => F_grow H hg u
  have s' := fun u => F_grow (L := fun d => L (d - 1)) M hg' u
  rw [s t, s (t + 1), s' (t + 1), s' (t + 2)]
  have r1 := R (t - 1)
  have r2 := R t
  have r3 := R (t + 1)
  have r4 := R (t + 2)
  have a1 := F_mono H (t - 1)
  have a2 := F_mono H t
  have a3 := F_mono H (t + 1)
  have b1 := F_mono M t
  have b2 := F_mono M (t + 1)
  have b3 := F_mono M (t + 2)
  have n1 := nL (t + 1)
  simp only [show t - 1 + 1 = t by omega, show t - 1 + 2 = t + 1 by omega, show t + 1 + 1 = t + 2 by omega, show t + 1 - 1 = t by omega, show t + 2 + 1 = t + 3 by omega, show t + 2 - 1 = t + 1 by omega, show t + 1 + 2 = t + 3 by omega, show t + 2 + 2 = t + 4 by omega, show t + 3 - 1 = t + 2 by omega] at *
  generalize F h (t - 1) = x0 at *
  generalize F h t = x1 at *
  generalize F h (t + 1) = x2 at *
  generalize F h (t + 2) = x3 at *
  generalize F h (t + 3) = x4 at *
  generalize F m t = y0 at *
  generalize F m (t + 1) = y1 at *
  generalize F m (t + 2) = y2 at *
  generalize F m (t + 3) = y3 at *
  generalize F m (t + 4) = y4 at *
  clear s s' R hg hg' nL
  by_cases p1 : L (t + 1)
  · have p2 := n1 p1
    simp only [p1, p2, true_and, false_and, if_false]
    split <;> split <;> omega
  · by_cases p2 : L (t + 2)
    · simp only [p1, p2, true_and, false_and, if_false]
      split <;> split <;> omega
    · simp only [p1, p2, false_and, if_false]
      omega
theorem F_nil (t : Int) : F [] t = (t + 1).toNat := by
  refine F_eq IsHeap.nil ⟨fun c hc => ?_, ?_⟩
  · have := dg_le [] c
    omega
  · unfold dg
    rw [hAt_ge (Nat.zero_le _)]
    omega
theorem Rl.nil : Rl [] [] := fun t => by
  rw [F_nil, F_nil, F_nil]
  omega
theorem F_low {h : List Nat} (H : IsHeap h) (t : Int) : (t + 1).toNat ≤ F h t := by
  refine Nat.le_of_not_lt fun q => ?_
  have := (F_spec H t).2
  have := dg_le h (F h t)
  omega
theorem F_high {h : List Nat} (H : IsHeap h) {t : Int} (q : (h.length : Int) ≤ t + 1) : F h t = (t + 1).toNat := by
  refine F_eq H ⟨fun c hc => ?_, ?_⟩
  · have := dg_le h c
    omega
  · unfold dg
    rw [hAt_ge (by omega)]
    omega
theorem F_zero {h : List Nat} (H : IsHeap h) {t : Int} (q : t < -(hAt h 0 : Int)) : F h t = 0 :=
  F_eq H ⟨fun c hc => absurd hc (Nat.not_lt_zero c), by unfold dg; omega⟩
theorem F_up {h : List Nat} (H : IsHeap h) {t : Int} {d : Nat} (q : t < (d : Int) - (hAt h 0 : Int)) : F h t ≤ d := by
  refine Nat.le_of_not_lt fun z => ?_
  have := (F_spec H t).1 d z
  have := dg_ge H d
  omega
theorem F_step {h : List Nat} (H : IsHeap h) (t : Int) : ∀ b : Nat, F h t ≤ F h (t + b) ∧ F h (t + b) ≤ F h t + b
  | 0 => by
    rw [show t + ((0 : Nat) : Int) = t by omega]
    omega
  | b + 1 => by
    have a := F_step H t b
    have := F_mono H (t + b)
    rw [show t + ((b + 1 : Nat) : Int) = t + b + 1 by omega]
    omega
end HM

/-! plain mathematics of heaps: what two have in common, what one holds, heaps turned over -/
namespace HM
theorem nat_ext {a b : Nat} (h : ∀ c, c < a ↔ c < b) : a = b := by
  rcases Nat.lt_trichotomy a b with q | q | q
  · exact absurd ((h a).mpr q) (Nat.lt_irrefl a)
  · exact q
  · exact absurd ((h b).mp q) (Nat.lt_irrefl b)
/-- the open columns whose diagonal is let -/
def gp (p : Int → Bool) (h : List Nat) (c : Nat) : Bool := opn h c && p (dg h c)
theorem gp_opn {p : Int → Bool} {h : List Nat} (c : Nat) (z : gp p h c = true) : opn h c = true := (Bool.and_eq_true_iff.mp z).1
/-! ### what two heaps have in common -/
def meet (a b : List Nat) : List Nat := (List.range (min a.length b.length)).map fun c => min (hAt a c) (hAt b c)
theorem hAt_meet (a b : List Nat) (c : Nat) : hAt (meet a b) c = min (hAt a c) (hAt b c) := by
  by_cases q : c < min a.length b.length
  · unfold hAt meet
    rw [List.getD_eq_getElem?_getD, List.getElem?_map, List.getElem?_range q]
    rfl
  · rw [hAt_ge (show (meet a b).length ≤ c by unfold meet; rw [List.length_map, List.length_range]; omega)]
    by_cases u : c < a.length
    · rw [hAt_ge (show b.length ≤ c by omega), Nat.min_zero]
    · rw [hAt_ge (show a.length ≤ c by omega), Nat.zero_min]
theorem meet_len (a b : List Nat) : (meet a b).length = min a.length b.length := by
  unfold meet
  rw [List.length_map, List.length_range]
theorem meet_heap {a b : List Nat} (A : IsHeap a) (B : IsHeap b) : IsHeap (meet a b) := by
  refine ⟨fun c hc => ?_, fun c => ?_⟩
  · rw [meet_len] at hc
    rw [hAt_meet]
    have := A.pos c (by omega)
    have := B.pos c (by omega)
    omega
  · rw [hAt_meet, hAt_meet]
    have := A.fall c
    have := B.fall c
    omega
theorem opn_iff {h : List Nat} {c : Nat} : opn h c = true ↔ (c = 0 ∨ hAt h c < hAt h (c - 1)) := by
  unfold opn
  rw [Bool.or_eq_true, decide_eq_true_iff, decide_eq_true_iff]
theorem bool_ext {a b : Bool} (h : a = true ↔ b = true) : a = b := by
  cases a <;> cases b <;> simp_all
theorem meet_gp {p : Int → Bool} {a b : List Nat} (B : IsHeap b) {c : Nat} (q : hAt a c < hAt b c) : gp p (meet a b) c = gp p a c := by
  have e : hAt (meet a b) c = hAt a c := by
    rw [hAt_meet]
    omega
  have d : dg (meet a b) c = dg a c := by
    unfold dg
    rw [e]
  have o : opn (meet a b) c = opn a c := bool_ext (by
    rw [opn_iff, opn_iff, e, hAt_meet]
    have := B.le (show c - 1 ≤ c by omega)
    omega)
  unfold gp
  rw [d, o]
theorem meet_comm (a b : List Nat) : meet a b = meet b a := by
  unfold meet
  rw [Nat.min_comm]
  exact List.map_congr_left fun c _ => Nat.min_comm _ _
theorem meet_gp2 {p : Int → Bool} {a b : List Nat} {c : Nat} (q : hAt a c = hAt b c) : gp p (meet a b) c = (gp p a c && gp p b c) := by
  have e : hAt (meet a b) c = hAt a c := by
    rw [hAt_meet]
    omega
  have d : dg (meet a b) c = dg a c := by
    unfold dg
    rw [e]
  have d2 : dg b c = dg a c := by
    unfold dg
    rw [q]
  have o : opn (meet a b) c = (opn a c && opn b c) := bool_ext (by
    rw [Bool.and_eq_true, opn_iff, opn_iff, opn_iff, e, hAt_meet, ← q]
    omega)
  unfold gp
  rw [d, d2, o]
  cases opn a c <;> cases opn b c <;> cases p (dg a c) <;> rfl
theorem meet_grow {p : Int → Bool} {a b : List Nat} (A : IsHeap a) (B : IsHeap b) : grow (meet a b) (gp p (meet a b)) = meet (grow a (gp p a)) (grow b (gp p b)) := by
  refine heap_ext (grow_heap (meet_heap A B) gp_opn) (meet_heap (grow_heap A gp_opn) (grow_heap B gp_opn)) fun c => ?_
  rw [hAt_grow gp_opn, hAt_meet, hAt_meet, hAt_grow gp_opn, hAt_grow gp_opn]
  rcases Nat.lt_trichotomy (hAt a c) (hAt b c) with q | q | q
  · rw [meet_gp B q]
    have := b2n_le (gp p a c)
    omega
  · rw [meet_gp2 q, q]
    cases gp p a c <;> cases gp p b c <;> (unfold b2n; simp) <;> omega
  · rw [meet_comm, meet_gp A q]
    have := b2n_le (gp p b c)
    omega
/-! ### what is held -/
def Sub (f h : List Nat) : Prop := ∀ c, hAt f c ≤ hAt h c
theorem Sub.refl (h : List Nat) : Sub h h := fun _ => Nat.le_refl _
theorem Sub.len {f h : List Nat} (F : IsHeap f) (s : Sub f h) : f.length ≤ h.length := by
  rcases Nat.lt_or_ge h.length f.length with q | q
  · have a := F.pos _ q
    have b := s h.length
    rw [hAt_ge (Nat.le_refl _)] at b
    omega
  · exact q
theorem sub_grow {p : Int → Bool} {f h : List Nat} {g : Nat → Bool} (s : Sub f h) (hg : ∀ c, g c = true → gp p f c = true) : Sub (grow f g) (grow h (gp p h)) := fun c => by
  rw [hAt_grow fun c z => gp_opn c (hg c z), hAt_grow gp_opn]
  have a := s c
  by_cases q : g c = true
  · have z := hg c q
    by_cases e : hAt f c < hAt h c
    · have := b2n_le (g c)
      omega
    · have e2 : hAt f c = hAt h c := by omega
      have : gp p h c = true := by
        unfold gp at z ⊢
        rw [Bool.and_eq_true] at z ⊢
        refine ⟨opn_iff.mpr ?_, ?_⟩
        · have := opn_iff.mp z.1
          have := s (c - 1)
          omega
        · have d : dg h c = dg f c := by
            unfold dg
            rw [e2]
          rw [d]
          exact z.2
      rw [q, this]
      omega
  · have : g c = false := by simpa using q
    rw [this]
    show _ + 0 ≤ _
    omega
theorem sub_more {f h : List Nat} {g : Nat → Bool} (s : Sub f h) (hg : ∀ c, g c = true → opn h c = true) : Sub f (grow h g) := fun c => by
  rw [hAt_grow hg]
  have := s c
  omega
/-! ### turned over -/
def conj (h : List Nat) : List Nat := (List.range (hAt h 0)).map fun r => (h.filter fun x => decide (r < x)).length
theorem IsHeap.pairs {h : List Nat} (H : IsHeap h) : h.Pairwise (fun a b => b ≤ a) := by
  refine List.pairwise_iff_getElem.mpr fun i j hi hj hij => ?_
  have := H.le (Nat.le_of_lt hij)
  have a := hAt_lt hi
  have b := hAt_lt hj
  rw [List.getElem?_eq_getElem hi] at a
  rw [List.getElem?_eq_getElem hj] at b
  rw [Option.some.inj a, Option.some.inj b]
  exact this
theorem cnt_iff : ∀ (l : List Nat), l.Pairwise (fun a b => b ≤ a) → ∀ c r, c < (l.filter fun x => decide (r < x)).length ↔ r < hAt l c
  | [], _, c, r => by
    rw [hAt_ge (Nat.zero_le _)]
    constructor
    · intro z
      exact absurd z (Nat.not_lt_zero c)
    · intro z
      exact absurd z (Nat.not_lt_zero r)
  | x :: l, hp, c, r => by
    obtain ⟨h1, h2⟩ := List.pairwise_cons.mp hp
    by_cases q : r < x
    · rw [List.filter_cons, if_pos (decide_eq_true q), List.length_cons]
      cases c with
      | zero => exact ⟨fun _ => q, fun _ => Nat.zero_lt_succ _⟩
      | succ c =>
        have := cnt_iff l h2 c r
        show c + 1 < _ + 1 ↔ r < hAt l c
        omega
    · have none : ∀ y ∈ x :: l, ¬ r < y := fun y hy => by
        rcases List.mem_cons.mp hy with rfl | hy
        · exact q
        · have := h1 y hy
          omega
      have e : ((x :: l).filter fun y => decide (r < y)) = [] := List.filter_eq_nil_iff.mpr fun y hy => by
        rw [decide_eq_false (none y hy)]
        decide
      rw [e]
      constructor
      · intro z
        exact absurd z (Nat.not_lt_zero c)
      · intro z
        by_cases u : c < (x :: l).length
        · exact absurd z (none _ (List.mem_of_getElem? (hAt_lt u)))
        · rw [hAt_ge (by omega)] at z
          exact absurd z (Nat.not_lt_zero r)
theorem conj_len (h : List Nat) : (conj h).length = hAt h 0 := by
  unfold conj
  rw [List.length_map, List.length_range]
theorem conj_iff {h : List Nat} (H : IsHeap h) (c r : Nat) : c < hAt (conj h) r ↔ r < hAt h c := by
  by_cases q : r < hAt h 0
  · have e : hAt (conj h) r = (h.filter fun x => decide (r < x)).length := by
      unfold hAt conj
      rw [List.getD_eq_getElem?_getD, List.getElem?_map, List.getElem?_range q]
      rfl
    rw [e]
    exact cnt_iff h H.pairs c r
  · rw [hAt_ge (by rw [conj_len]; omega)]
    have := H.le (Nat.zero_le c)
    constructor
    · intro z
      exact absurd z (Nat.not_lt_zero c)
    · intro z
      omega
theorem conj_heap {h : List Nat} (H : IsHeap h) : IsHeap (conj h) := by
  refine ⟨fun r hr => ?_, fun r => ?_⟩
  · rw [conj_len] at hr
    exact (conj_iff H 0 r).mpr hr
  · rcases Nat.lt_or_ge (hAt (conj h) r) (hAt (conj h) (r + 1)) with z | z
    · have a := (conj_iff H _ _).mp z
      exact absurd ((conj_iff H (hAt (conj h) r) r).mpr (by omega)) (Nat.lt_irrefl _)
    · exact z
theorem turn_sq {p p' : Int → Bool} (hp : ∀ z, p z = true → p' (-z) = true) {h k : List Nat} (hk : ∀ c r, c < hAt k r ↔ r < hAt h c) {c : Nat} (g : gp p h c = true) : c = hAt k (hAt h c) ∧ gp p' k (hAt h c) = true := by
  unfold gp at g
  obtain ⟨o, z⟩ := Bool.and_eq_true_iff.mp g
  have o' := opn_iff.mp o
  have e : hAt k (hAt h c) = c := by
    have a : ¬ c < hAt k (hAt h c) := fun z => absurd ((hk _ _).mp z) (Nat.lt_irrefl _)
    rcases Nat.lt_or_ge (hAt k (hAt h c)) c with q | q
    · have b : ¬ (c - 1 < hAt k (hAt h c)) := by omega
      rw [hk] at b
      omega
    · omega
  refine ⟨e.symm, ?_⟩
  unfold gp
  rw [Bool.and_eq_true]
  refine ⟨opn_iff.mpr ?_, ?_⟩
  · by_cases q : hAt h c = 0
    · exact .inl q
    · refine .inr ?_
      rw [e]
      exact (hk _ _).mpr (by omega)
  · have : dg k (hAt h c) = -(dg h c) := by
      unfold dg
      rw [e]
      omega
    rw [this]
    exact hp _ z
theorem conj_grow {p p' : Int → Bool} (hp : ∀ z, p' (-z) = p z) {h : List Nat} (H : IsHeap h) : conj (grow h (gp p h)) = grow (conj h) (gp p' (conj h)) := by
  have G := grow_heap H (gp_opn (p := p) (h := h))
  have C := conj_heap H
  refine heap_ext (conj_heap G) (grow_heap C gp_opn) fun r => nat_ext fun c => ?_
  rw [conj_iff G, hAt_grow gp_opn, hAt_grow gp_opn]
  have k := conj_iff H c r
  by_cases q : r < hAt h c
  · have := k.mpr q
    omega
  · have q2 : ¬ c < hAt (conj h) r := fun z => q (k.mp z)
    constructor
    · intro z
      cases u : gp p h c with
      | false =>
        rw [u] at z
        exact absurd z (by show ¬ r < hAt h c + 0; omega)
      | true =>
        rw [u] at z
        have z' : r < hAt h c + 1 := z
        have e : r = hAt h c := by omega
        obtain ⟨a, b⟩ := turn_sq (p := p) (p' := p') (fun z y => (hp z).trans y) (conj_iff H) u
        subst e
        rw [b]
        show c < _ + 1
        omega
    · intro z
      cases u : gp p' (conj h) r with
      | false =>
        rw [u] at z
        exact absurd z (by show ¬ c < hAt (conj h) r + 0; omega)
      | true =>
        rw [u] at z
        have z' : c < hAt (conj h) r + 1 := z
        have e : c = hAt (conj h) r := by omega
        have back : ∀ y, p' y = true → p (-y) = true := fun y hy => by
          have := hp (-y)
          rw [Int.neg_neg] at this
          rw [← this]
          exact hy
        obtain ⟨a, b⟩ := turn_sq (p := p') (p' := p) back (h := conj h) (k := h) (fun c r => (conj_iff H r c).symm) u
        subst e
        rw [b]
        show r < _ + 1
        omega
end HM

/-! own rule: a dict comprehension whose keys are tuples -/
namespace DR
open PySem PySem.Spec PyProof.Rows L2
/-- the block's own store, the key a tuple of ints and texts -/
theorem put_tup {X : Cx} {pins : List (Addr × Obj)} {σ : L2.St} {H : Hp} {s : Shared} {E : Value → Shared → Prop} {D b : Addr} {kvs : List (List Key × V)} {k : List Key} {v : V} {r : Value} {Q : Unit → Shared → Prop} (hu : X.A.units < cLine) (I : Inv X pins σ H s) (hD : H D = some (.dT kvs)) (hz : kvs.length < sizeLine)
    (hb : H b = some (.tup (k.map kV))) (rv : RelV v r) (h : ∀ s', Inv X pins σ (upd H D (.dT (putK kvs k v))) s' → Q () s') : wpAny (model X.prog X.w) X.A (dictSet D (.ref b) r) Q E s := by
  obtain ⟨z, lo, xs, rel, dd⟩ := dt_of I.hok hD
  have hx : xs.length ≤ sizeLine := by rw [← Paired.length rel]; exact z
  have hl : (putK kvs k v).length ≤ sizeLine := by have := length_putK kvs k v; omega
  refine wpAny_dictSet_heap (hsz := hx) (show (tupleKind (mixKind X.prog X.w)).room X.A from hu) (key_of I.hok hb) dd fun h' dd' hs => h _ ?_
  obtain ⟨q, es, ep, hq, h2, h3, h4, _, h5⟩ := dd'
  refine d_write I (by rw [hD]; exact True.intro) hs ⟨q, hq⟩ ⟨hl, lo, _, (rel.put k hb rv).keeps fun c ys ec => ?_, q, es, ep, hq, h2, h3, h4, h5⟩
  rw [upd_ne (ne_of ec hD (fun z => nomatch z))]
  exact ec
/-- {k: v for target in iter if ..}, the keys tuples of ints and texts; D the new dict -/
def tDcT (wi : TI) (g : TG) (tt : TT) (tk tv : TE) (vs : List Nat) : TE := fun σ H Q => wi σ H fun J H1 => ∀ D, H1 D = none → ∃ W : Nat → Nat → Hp → Prop, (∃ m, W 0 m (upd H1 D (.dT []))) ∧ ∀ i m H, W i m H →
  (J.stop i H ∧ Q (.ref D) H) ∨ (J.go i H ∧ ∃ Nx : Hp → Prop, (∀ H', Nx H' → ∃ m', m' < m ∧ W (i + 1) m' H') ∧ ∀ x H', J.yld i H x H' → g x (wipe σ vs) H' fun σ2 H2 => wipe σ2 vs = wipe σ vs ∧ tt σ2 H2 fun b H3 =>
    if b = true then tk σ2 H3 fun y H4 => tv σ2 H4 fun z H5 => ∃ kvs k c, y = .ref c ∧ H5 c = some (.tup (k.map kV)) ∧ H5 D = some (.dT kvs) ∧ kvs.length < sizeLine ∧ Nx (upd H5 D (.dT (putK kvs k z))) else Nx H3)
theorem pe_dcT {X : Cx} {kx vx tg iter : Expr} {ifs : List Expr} {scope : Scope} {own : List (Str × Nat)} {pos : Pos} {wi : TI} {g : TG} {tt : TT} {tk tv : TE} (hc : X.calm = true) (hu : X.A.units < cLine) (hN : X.N.Nodup) (hi : PI X tg iter wi) (ok : BlkOk X.N X.env.scope scope own)
    (hg : ∀ (s : Shared) (H : Hp) (C : Addr) (cl : List (Str × Addr)) (fp : List Addr), PG (X.blk s H scope (compEnvC scope cl C X.env) fp) tg g) (ht : ∀ (s : Shared) (H : Hp) (C : Addr) (cl : List (Str × Addr)) (fp : List Addr), PTs (X.blk s H scope (compEnvC scope cl C X.env) fp) ifs tt)
    (hk : ∀ (s : Shared) (H : Hp) (C : Addr) (cl : List (Str × Addr)) (fp : List Addr), PE (X.blk s H scope (compEnvC scope cl C X.env) fp) kx tk)
    (he : ∀ (s : Shared) (H : Hp) (C : Addr) (cl : List (Str × Addr)) (fp : List Addr), PE (X.blk s H scope (compEnvC scope cl C X.env) fp) vx tv) (hs : ∀ x, foldedSetIterable iter X.env x = pure x := by intro _; rfl) :
    PE X (.DictComp kx vx [⟨tg, iter, ifs, 0⟩] scope pos) (tDcT wi g tt tk tv (own.map (·.2))) := by
  refine ⟨fun pins s σ H Q I h => ?_⟩
  rw [arm_eval_DictComp]
  have cap : ∀ y ∈ scope.names, y.2 = .free → ∃ c, X.env.cells.lookup y.1 = some c := fun y hy e => (ok.free y hy e).elim (fun k => I.ok.has _ (.inl k)) fun k => I.ok.has _ (.inr k)
  refine wpAny_comprehension_free (use := none) rfl hs (closure_ok cap) ok.kind (fun y hy e => by rw [ok.uniq y hy, e])
    (thn (hi.run pins s σ H _ I h) fun xv s1 hx => thn hx fun itv s2 h2 => ?_)
  obtain ⟨it, fp, tn, J, H2, e, I2, T, st2, f2, q⟩ := h2
  subst e
  refine wpAny_newObj_type (newEnv_comp ?_)
  generalize hD : s2.heap.objs.size = D
  have nD : H2 D = none := I2.hok.fresh (Nat.le_of_eq hD)
  obtain ⟨W, ⟨m0, w0⟩, turn⟩ := q D nD
  have J3 : ∃ s3 : Shared, s3 = { s2 with heap := s2.heap.push { cls := .type "dict", data := .dict #[] } } := ⟨_, rfl⟩
  obtain ⟨s3, hs3⟩ := J3
  have h3 : s3.heap = s2.heap.push { cls := .type "dict", data := .dict #[] } := by rw [hs3]
  have I3 : Inv X pins σ (upd H2 D (.dT [])) s3 := by
    rw [hs3]
    refine I2.laid (t' := s2.toks) (fun b o e => Heap.get?_push_of_some _ e) (Nat.le_of_eq hD) ?_
    rw [← hD]
    exact dt_empty s2.heap I2.big
  have low : ∀ b ∈ fp, b < s2.heap.objs.size := fun b hb => by
    obtain ⟨o, e, _⟩ := T.obj _ _ st2 b hb
    exact Heap.lt_size e
  have f3 : ∀ b ∈ fp, FpOk X pins (upd H2 D (.dT [])) b ∧ b < s3.heap.objs.size := fun b hb => by
    have lt := low b hb
    refine ⟨⟨?_, (f2 b hb).2⟩, by rw [h3, Heap.size_push]; exact Nat.lt_succ_of_lt lt⟩
    rw [upd_ne (by rw [← hD]; exact Nat.ne_of_lt lt)]
    exact (f2 b hb).1
  have st3 : tn 0 s3.heap := T.keep _ _ _ st2 fun b _ o e => by rw [h3]; exact Heap.get?_push_of_some _ e
  have I4 := block_start I3 ok hN f3
  have pg := hg s3 (upd H2 D (.dT [])) s3.heap.objs.size (cellsFrom (s3.heap.objs.size + 1) scope.names (cloFrom X.env.cells scope.names [])) fp
  have pt := ht s3 (upd H2 D (.dT [])) s3.heap.objs.size (cellsFrom (s3.heap.objs.size + 1) scope.names (cloFrom X.env.cells scope.names [])) fp
  have pk := hk s3 (upd H2 D (.dT [])) s3.heap.objs.size (cellsFrom (s3.heap.objs.size + 1) scope.names (cloFrom X.env.cells scope.names [])) fp
  have pe := he s3 (upd H2 D (.dT [])) s3.heap.objs.size (cellsFrom (s3.heap.objs.size + 1) scope.names (cloFrom X.env.cells scope.names [])) fp
  rw [← hs3]
  show codeAny _ _ (.compStart (.DictComp kx vx [⟨tg, iter, ifs, 0⟩] scope pos) 0 (.ref it) (.ref D) (compEnvC scope (cellsFrom (s3.heap.objs.size + 1) scope.names (cloFrom X.env.cells scope.names [])) s3.heap.objs.size X.env)) (compPost (model X.prog X.w) X.A X.xe none (EP X pins σ Q) (.ref D) s3.heap.objs.size) { s3 with heap := pushCells (s3.heap.push { cls := .type "dict", data := .dict #[] }) scope.names }
  have clear : ∀ b ∈ fp, (upd H2 D (.dT [])) b = none := fun b hb => (f3 b hb).1.1
  generalize hce : compEnvC scope (cellsFrom (s3.heap.objs.size + 1) scope.names (cloFrom X.env.cells scope.names [])) s3.heap.objs.size X.env = ce at I4 pg pt pk pe ⊢
  have cL : ce.locals = s3.heap.objs.size := by subst hce; rfl
  generalize upd H2 D (.dT []) = H3 at I3 I4 pg pt pk pe w0 clear f3
  generalize hs4 : ({ s3 with heap := pushCells (s3.heap.push { cls := .type "dict", data := .dict #[] }) scope.names } : Shared) = s4 at I4 ⊢
  have st4 : tn 0 s4.heap := T.keep _ _ _ st3 fun b _ o e => by rw [← hs4]; exact pushCells_keeps _ _ _ _ (Heap.get?_push_of_some _ e)
  have stat : ∀ {σ' : L2.St} {H' : Hp} {s' : Shared}, Inv (X.blk s3 H3 scope ce fp) [] σ' H' s' → (∀ b ∈ fp, H' b = none) → ∀ b ∈ fp, FpOk (X.blk s3 H3 scope ce fp) [] H' b := fun {σ' H' s'} I' hn b hb =>
    ⟨hn b hb, (I'.ok.exf b hb).1, I'.ok.exfs b hb, .inl hb, fun x c e => (I'.ok.exf b hb).2 x c e, fun p hp => absurd (show p ∈ ([] : List (Addr × Obj)) ++ [] from hp) (by simp)⟩
  have loop : codeAny (model X.prog X.w) X.A (.compLoop (.DictComp kx vx [⟨tg, iter, ifs, 0⟩] scope pos) 0 (.ref it) (.ref D) ce) (compPost (model X.prog X.w) X.A X.xe none (EP X pins σ Q) (.ref D) s3.heap.objs.size) s4 := by
    refine compLoop_anyD (fun n s' => ∃ i H', Inv (X.blk s3 H3 scope ce fp) [] (wipe σ (own.map (·.2))) H' s' ∧ tn i s'.heap ∧ (∀ b ∈ fp, H' b = none) ∧ W i n H') ?_ m0 ⟨0, H3, I4, st4, clear, w0⟩
    rintro n s5 ⟨i, H5, I5, st5, n5, w5⟩
    rcases turn i n H5 w5 with ⟨stop, qq⟩ | ⟨go, Nx, hNx, step⟩
    · refine thnF (T.done (X.blk s3 H3 scope ce fp) rfl rfl rfl hc i [] s5 _ H5 (fun _ _ => False) I5 (stat I5 n5) st5 stop) fun r s6 ⟨hr, I6⟩ => ?_
      subst hr
      have I7 : Inv X pins σ H5 s6 := I3.call' (ch := fp) I6.os I6.base I6.hok I6.bare fun b hb => ⟨(f3 b hb).1.2.2.2.1, (f3 b hb).1.2.1, (f3 b hb).1.2.2.2.2.1, (f3 b hb).1.2.2.2.2.2⟩
      have nC : H5 s3.heap.objs.size = none := cL ▸ (show H5 ce.locals = none from I6.free)
      obtain ⟨m, hn, _⟩ := I6.loc
      have hn' : s6.heap.Ns s3.heap.objs.size m := cL ▸ (show s6.heap.Ns ce.locals m from hn)
      obtain ⟨f0, f1, f3', f4, f5, f6⟩ := I3.fpOk (Nat.le_refl _) nC
      exact ⟨m, hn', fun h'' sb => ⟨.ref D, H5, I7.turned (t' := s6.toks) (fun b o hb e => (sb.2 b hb).trans e) f0 f1 f4 f5 f6, rfl, qq⟩⟩
    · refine thnF (T.item (X.blk s3 H3 scope ce fp) rfl rfl rfl hc i [] s5 _ H5 (fun _ _ => False) I5 (stat I5 n5) st5 go) fun r s6 ⟨u, hr, h6⟩ => ?_
      subst hr
      refine thnF h6 fun _ s7 ⟨x, H7, I7, r7, y7, st7, n7⟩ => ?_
      have P7 := I7.pinned (stat I7 n7) (T.obj _ _ st7)
      refine thnF (pg.run _ s7 _ H7 x u _ P7 r7 (step x H7 y7)) fun _ s8 ⟨σ8, H8, I8, hw8, q8⟩ => ?_
      refine thnF (pt.run _ s8 σ8 H8 _ I8 q8) fun b s9 ⟨H9, I9, q9⟩ => ?_
      have over : ∀ {s' : Shared} {H' : Hp}, Inv (X.blk s3 H3 scope ce fp) ([] ++ pinsAt fp s7.heap) σ8 H' s' → Nx H' → ∃ m, m < n ∧ ∃ i H', Inv (X.blk s3 H3 scope ce fp) [] (wipe σ (own.map (·.2))) H' s' ∧ tn i s'.heap ∧ (∀ b ∈ fp, H' b = none) ∧ W i m H' := fun {s' H'} I' nx => by
        obtain ⟨m', hm, w'⟩ := hNx H' nx
        have pin' : ∀ b ∈ fp, ∀ o, s7.heap.get? b = some o → s'.heap.get? b = some o ∧ H' b = none := fun b hb o e =>
          let z := I'.pin (b, o) (List.mem_append_right _ (List.mem_append_right _ (mem_pinsAt hb e)))
          ⟨z.1, z.2.1⟩
        refine ⟨m', hm, i + 1, H', (I'.unpinned (pins := [])).weak (by rw [← hw8, wipe_length]) (fun j v e => ?_), T.keep _ _ _ st7 fun b hb o e => (pin' b hb o e).1, fun b hb => ?_, w'⟩
        · rw [← hw8] at e
          exact (wipe_some e).1
        · obtain ⟨o, e, _⟩ := T.obj _ _ st7 b hb
          exact (pin' b hb o e).2
      cases b with
      | false => exact over I9 (by simpa using q9)
      | true =>
        simp only [if_true] at q9 ⊢
        refine thnF (pk.run _ s9 σ8 H9 _ I9 q9) fun z s10 ⟨yk, H10, I10, r10, q10⟩ => ?_
        refine thnF (pe.run _ s10 σ8 H10 _ I10 q10) fun z2 s11 ⟨yv, H11, I11, r11, kvs, k, c, ek, hc11, hD11, hz11, nx⟩ => ?_
        subst ek
        cases (show z = Value.ref c from r10)
        exact put_tup (X := X.blk s3 H3 scope ce fp) hu I11 hD11 hz11 hc11 r11 fun s12 I12 => over I12 nx
  exact codeAny_compStart_dict loop (T.self X.A 0 _ _ _ st4 loop)
end DR

/-! own rules: sorted(d) of a dict whose keys are pairs of ints -/
namespace DR
open PySem PySem.Spec PyProof.Rows L2 PySem.W
/-- the pair that a reference names -/
def keyP (H : Hp) : V → Int × Int
  | .ref t => match H t with
    | some (.tup [.int i, .int j]) => (i, j)
    | _ => (0, 0)
  | _ => (0, 0)
theorem keyP_of {H : Hp} {t : Addr} {i j : Int} (h : H t = some (.tup [.int i, .int j])) : keyP H (.ref t) = (i, j) := by
  show (match H t with | some (.tup [.int i, .int j]) => (i, j) | _ => ((0 : Int), (0 : Int))) = (i, j)
  rw [h]
def rSortedDT : List V → Hp → VK → Prop := fun vs H Q => ∃ (d : Addr) (kvs : List (List Key × V)), vs = [V.ref d] ∧ Rd H d (.dT kvs) ∧ (∀ p ∈ kvs, ∃ i j : Int, p.1 = [.inl i, .inl j]) ∧
  ∀ (bs : List Addr) (ys : List V) (p : Addr), IsKeys H kvs bs → ys.Perm (bs.map V.ref) → ys.Pairwise (fun x y => SrtO.lexB (keyP H y) (keyP H x) = false) → H p = none → Q (.ref p) (upd H p (.lst ys))
theorem isKeys_mem {H : Hp} : ∀ {kvs : List (List Key × V)} {bs : List Addr}, IsKeys H kvs bs → ∀ b ∈ bs, ∃ p ∈ kvs, H b = some (.tup (p.1.map kV))
  | _, _, .nil, b, hb => absurd hb (by simp)
  | p :: kvs, c :: bs, .cons r t, b, hb => by
    rcases List.mem_cons.mp hb with e | hb
    · exact ⟨p, List.mem_cons_self, e ▸ r⟩
    · obtain ⟨q, h1, h2⟩ := isKeys_mem (kvs := kvs) (bs := bs) t b hb
      exact ⟨q, List.mem_cons_of_mem _ h1, h2⟩
theorem cr_sortedDT {X : Cx} (hc : X.calm = true) : CallR X (.builtin "sorted") rSortedDT := by
  intro pins s σ H vs us Q I r h
  obtain ⟨d, kvs, rfl, hd, hkv, q⟩ := h
  obtain ⟨u, rfl, rx⟩ := r.one
  cases rx
  obtain ⟨z, hs, ks, pr, o, es, ep, ho, hx, hdt, he, hn⟩ := (show ObjOk X.prog X.w H s.heap d (.dT kvs) from hd.ok I.hok)
  have l1 : es.size = ks.length := size_of_entries he
  have l2 : kvs.length = ks.length := Paired.length pr
  refine Calls.call_function_entry kind_sorted plain_sorted entry_sorted (args_sorted1 _) ?_
  unfold Builtin.«sorted»
  refine wpAny_bind (m := checkCount "sorted" 1 1 _) (wpAny_pure ?_)
  refine wpAny_bind (kdu_collect (A := X.A.in1) (kdl_raw hs hx hdt) (I.ok.hd hc) ho (by omega) fun h' tk acc hk it => ?_)
  have ea : acc.toList = (ks.map fun x => x.2.1).map Value.ref := by
    rw [List.map_map]
    refine List.ext_getElem? fun j => ?_
    have hl : acc.toList.length = ks.length := by rw [Array.length_toList, it.1]; exact l1
    by_cases hj : j < ks.length
    · have gj : acc[j]? = some (acc[j]'(by rw [← Array.length_toList]; omega)) := Array.getElem?_eq_getElem _
      obtain ⟨en, hen, hv⟩ := it.2 j _ gj
      have qe := entry_at he j
      rw [hen, List.getElem?_eq_getElem hj] at qe
      have e2 : en = entryOfKey (tupleKind (mixKind X.prog X.w)) ks[j] := Option.some.inj qe
      rw [Array.getElem?_toList, gj, hv, e2, List.getElem?_map, List.getElem?_eq_getElem hj]
      rfl
    · rw [List.getElem?_eq_none (by omega), List.getElem?_eq_none (by rw [List.length_map]; omega)]
  have hik := isKeys_of pr
  generalize ks.map (fun x => x.2.1) = bs at ea hik
  have lb : bs.length = ks.length := by
    have := Paired.length hik
    omega
  rw [ea]
  refine wpAny_bind (wpAny_newList ?_ (by rw [List.length_map]; omega))
  have I1 : Inv X pins σ H { s with heap := h', toks := tk } := I.kept hk
  have I2 := I1.laid (t' := tk) (o := .lst (bs.map V.ref)) (h' := h'.push { cls := .type "list", data := .seq (bs.map Value.ref).toArray }) (a := h'.objs.size) (fun b u e => Heap.get?_push_of_some _ e) (Nat.le_refl _)
    ⟨by rw [List.length_map]; omega, bs.map Value.ref, 0, vals_refs bs, Heap.get?_push_size _ rfl⟩
  have nD : H h'.objs.size = none := I1.hok.fresh (Nat.le_refl _)
  have hob : (h'.push { cls := .type "list", data := .seq (bs.map Value.ref).toArray }).get? h'.objs.size = some (seqObj "list" (bs.map Value.ref).toArray 0) := Heap.get?_push_size _ rfl
  have isp : ∀ v ∈ bs.map Value.ref, Srt.IsPair (h'.push { cls := .type "list", data := .seq (bs.map Value.ref).toArray }) v (keyP H (backV v)).1 (keyP H (backV v)).2 := fun v hv => by
    obtain ⟨b, hb, rfl⟩ := List.mem_map.mp hv
    obtain ⟨p, hp, e⟩ := isKeys_mem hik b hb
    obtain ⟨i, j, e2⟩ := hkv p hp
    rw [e2] at e
    have e3 : H b = some (.tup [.int i, .int j]) := e
    have kp : keyP H (backV (Value.ref b)) = (i, j) := keyP_of e3
    rw [kp]
    obtain ⟨_, its2, r2, o2, ho2, hc2, n2, hd2⟩ := I2.hok b _ (by rw [upd_ne (ne_of_none e3 nD)]; exact e3)
    obtain ⟨u1, u2, rfl, ri, rj⟩ := vals2 r2
    obtain ⟨t1, rfl⟩ := ri
    obtain ⟨t2, rfl⟩ := rj
    exact ⟨b, o2, t1, t2, n2, rfl, ho2, hc2, hd2⟩
  have srt : wpAny (model X.prog X.w) X.A.in1 (call (.builtin "list.sort") [.ref h'.objs.size]) (fun _ s' => EP X pins σ Q (.ref h'.objs.size) s') X.xe { s with heap := h'.push { cls := .type "list", data := .seq (bs.map Value.ref).toArray }, toks := tk } := by
    refine wpAny_call_entry PyProof.Rows.slot_list_sort ⟨_, hob, rfl⟩ PyProof.Rows.entry_list_sort
      (SrtO.list_sort_ord (SrtO.swo_lex fun u => keyP H (backV u)) hob (by rw [List.length_map]; omega) (fun h2 => SrtO.pairs_sortableO (by omega) isp fun o' e => ?_) fun out h1 h2 => ⟨.none, rfl, ?_⟩) (PyProof.Rows.args_list_sort _)
    · have e' : some o' = some (seqObj "list" (bs.map Value.ref).toArray 0) := e.symm.trans hob
      cases e'
      intro c
      exact absurd (Value.type.inj c) (by decide)
    · have h3 : ∀ u ∈ out, ∃ a, u = Value.ref a := fun u hu => by
        obtain ⟨b, _, e⟩ := List.mem_map.mp (h2.perm.mem_iff.mp hu)
        exact ⟨b, e.symm⟩
      obtain ⟨ep', he'⟩ := PyProof.Rows.sortedHeap_at (vs := bs.map Value.ref) (out := out.toArray) hob
      have hp : (out.map backV).Perm (bs.map V.ref) := by
        have := h2.perm.map backV
        rw [List.map_map] at this
        exact this
      have I3 : Inv X pins σ (upd (upd H h'.objs.size (.lst (bs.map V.ref))) h'.objs.size (.lst (out.map backV))) { s with heap := PyProof.Rows.sortedHeap (h'.push { cls := .type "list", data := .seq (bs.map Value.ref).toArray }) h'.objs.size (bs.map Value.ref) out.toArray, toks := tk } := by
        refine I2.write (e := h'.objs.size) (t' := tk) (by rw [upd_same]; trivial) (.inl rfl) (fun b u hb hu => ?_) ⟨_, he'⟩ ⟨?_, out, ep', vals_back h3, he'⟩
        · rw [PyProof.Rows.sortedHeap_old hb (Heap.lt_size hu)]
          exact hu
        · rw [hp.length_eq, List.length_map]
          omega
      rw [upd_upd] at I3
      exact ⟨.ref _, _, I3, rfl, q bs _ _ hik hp (List.pairwise_map.mpr (h1.imp fun {x y} e => e)) nD⟩
  exact wpAny_bind (wpAny_holding (wpAny_mono srt (fun _ s' x => wpAny_pure ⟨_, rfl, x⟩) fun _ _ e => e))
end DR

/-! own rules: sorted of tuples of ints of any lengths, any number of them, and of a dict with such keys: the same ones in some order -/
namespace SD
open PySem PySem.Spec PyProof.Rows L2 PySem.W Srt TS
section
variable {prog : Program} {w : World} {A : Around} {E : Value → Shared → Prop} {s : Shared}
/-- two rows of ints, place by place -/
theorem lex_go {b fin : Bool} : ∀ {us vs : List Value} {ns ms : List Int} (i : Nat), IntsAre us ns → IntsAre vs ms → ∃ r : Bool, KatLex prog w A b fin (fun x s' => s' = s ∧ x = r) (us.zip vs) i s
  | [], _, _, _, i, _, _ => ⟨fin, kat_nil ⟨rfl, rfl⟩⟩
  | _ :: _, [], _, _, i, _, _ => ⟨fin, kat_nil ⟨rfl, rfl⟩⟩
  | _ :: us, _ :: vs, _, _, i, .cons x t h, .cons y u k => by
    by_cases e : x = y
    · obtain ⟨r, hr⟩ := lex_go (fin := fin) (i + 1) h k
      refine ⟨r, kat_cons (SeqAt.EqAt.int_int x t y u prog w _ _ ?_)⟩
      refine kat_go (fun _ => kat_yes hr) (fun z => ?_)
      exact absurd e (by simpa using z)
    · refine ⟨decide (x < y), kat_cons (SeqAt.EqAt.int_int x t y u prog w _ _ ?_)⟩
      refine kat_go (fun z => ?_) (fun _ => kat_no ?_)
      · exact absurd (by simpa using z) e
      · exact oneLt_ints _ ⟨rfl, rfl⟩
/-- a tuple of ints before another, by the general way -/
theorem gen_lt {v u : Value} {ns ms : List Int} (hv : TupInts s.heap v ns) (hu : TupInts s.heap u ms) (room : A.units < cLine) : wpAny (model prog w) A (oneLt' false v u) (fun x s' => s' = s ∧ x = HT.lexLt ns ms) E s := by
  obtain ⟨a, xs, rfl, ta, ia⟩ := hv
  obtain ⟨b, ys, rfl, tb, ib⟩ := hu
  refine kat_one _ _ ?_
  exact HT.lt_tupInts ta tb ia ib room ⟨rfl, rfl⟩
/-- by the way of one type -/
theorem one_lt {v u : Value} {ns ms : List Int} (hv : TupInts s.heap v ns) (hu : TupInts s.heap u ms) (room : A.units < cLine) : wpAny (model prog w) A (oneLt' true v u) (fun x s' => s' = s ∧ x = HT.lexLt ns ms) E s := by
  obtain ⟨a, xs, rfl, ta, ia⟩ := hv
  obtain ⟨b, ys, rfl, tb, ib⟩ := hu
  obtain ⟨⟨cls, dd, data, sl⟩, ho, hc, n, hd⟩ := id ta
  obtain ⟨⟨cls2, dd2, data2, sl2⟩, ho2, hc2, n2, hd2⟩ := id tb
  simp only at hc hd hc2 hd2
  subst hc hd hc2 hd2
  rw [oneLt'_eq]
  simp only [if_true]
  refine wpAny_bind (wpAny_cRoomFor room ?_)
  refine wpAny_bind (wpAny_callSpecialIfBound?_slot ⟨_, ho, rfl⟩ PySem.F.slot_tuple_lt (call_meets PySem.F.slot_tuple_lt ⟨_, ho, rfl⟩ PySem.F.entry_tuple_lt (PySem.F.args_tuple_lt_2 _ _) (HT.tuple_lt_ints a b xs ys n n2 dd dd2 sl sl2 ns ms ia ib) ⟨ho, ho2, ?_⟩))
  exact wpAny_truthy_bool ⟨rfl, rfl⟩
/-- the first places -/
theorem firsts_any : ∀ {vs : List Value}, (∀ v ∈ vs, ∃ ns, TupInts s.heap v ns) → ∃ fs : List (Option Value), fs.length = vs.length ∧ (∀ f ∈ fs, ∀ x, f = some x → ∃ i t, x = Value.int i t) ∧
    ∀ (Q : List (Option Value) → Shared → Prop) (E : Value → Shared → Prop), Q fs s → wpAny (model prog w) A (vs.mapM firstOfTuple') Q E s
  | [], _ => ⟨[], rfl, fun f hf => absurd hf (by simp), fun Q E h => by
    rw [List.mapM_nil]
    exact wpAny_pure h⟩
  | v :: vs, t => by
    obtain ⟨ns, a, xs, rfl, ⟨o, ho, hc, n, hd⟩, hi⟩ := t v (List.mem_cons_self ..)
    obtain ⟨fs, h1, h2, h3⟩ := firsts_any (vs := vs) fun u hu => t u (List.mem_cons_of_mem _ hu)
    refine ⟨xs[0]? :: fs, by rw [List.length_cons, List.length_cons, h1], fun f hf x hx => ?_, fun Q E h => ?_⟩
    · rcases List.mem_cons.mp hf with rfl | hf
      · have : x ∈ xs.toList := by
          rw [← Array.getElem?_toList] at hx
          exact List.mem_of_getElem? hx
        exact hi.all x this
      · exact h2 f hf x hx
    · rw [List.mapM_cons]
      refine wpAny_bind ?_
      rw [kas_first_eq]
      refine wpAny_bind (Looks.here (show Looks (model prog w) s.heap (typeOf (.ref a)) o.cls from (Looks.ld ho).andThen .now) ?_)
      rw [hc, if_neg (by first | decide | simp)]
      refine wpAny_bind (listItems_at ho hd (wpAny_pure ?_))
      exact wpAny_bind (h3 _ _ (wpAny_pure h))
/-- all of one type -/
theorem one_type {vs : List Value} {T : Value} {Q : Option Value → Shared → Prop} (hne : 0 < vs.length) (hT : ∀ v ∈ vs, Looks (model prog w) s.heap (typeOf v) T) (hT2 : (T == T) = true) (h : Q (some T) s) : wpAny (model prog w) A (oneTypeOnly' vs.toArray) Q E s := by
  rw [oneTypeOnly'_eq, List.mapM_toArray, map_eq_pure_bind]
  refine wpAny_bind (wpAny_bind (kas_mapM (r := T) _ (fun v hv Q' hq => (hT v hv).here hq) (wpAny_pure ?_)))
  have hall2 : ((List.map (fun _ => T) vs).toArray.all fun x => x == T) = true := by
    simp only [List.all_toArray, List.all_map, List.all_eq_true]
    intro _ _
    exact hT2
  have h0 : (List.map (fun _ => T) vs).toArray[0]? = some T := by
    cases vs with
    | nil => exact absurd hne (by simp)
    | cons _ _ => simp
  rw [h0]
  simp only [hall2, if_true]
  exact wpAny_pure h
theorem tups_sortable {a : Addr} {vs : List Value} (h0 : 0 < vs.length) (hp : ∀ v ∈ vs, ∃ ns, TupInts s.heap v ns) (ha : ∀ o, s.heap.get? a = some o → o.cls ≠ .type "tuple") (room : A.units < cLine) : Sortable prog w A s a vs := by
  intro h' keep
  have hp' : ∀ v ∈ vs, ∃ ns, TupInts h' v ns := fun v hm => by
    obtain ⟨ns, p⟩ := hp v hm
    exact ⟨ns, p.keeps fun b o e c => keep b o (fun z => by subst z; exact ha o e c) e⟩
  obtain ⟨fs, l1, l2, l3⟩ := firsts_any (prog := prog) (w := w) (A := A) (s := { s with heap := h' }) hp'
  have lt : ∀ v ∈ vs, Looks (model prog w) h' (typeOf v) (.type "tuple") := fun v hv => by
    obtain ⟨ns, b, xs, rfl, ⟨o, ho, hc, n, hd⟩, hi⟩ := hp' v hv
    rw [← hc]
    exact (Looks.ld ho).andThen .now
  by_cases hall : (fs.toArray.all fun x => x.isSome) = true
  · refine ⟨tuples' true, fun Q E hq => ?_, fun p q hm hm' => ?_⟩
    · rw [kat_kind_eq, List.mapM_toArray, map_eq_pure_bind]
      refine wpAny_bind (wpAny_bind (l3 _ _ (wpAny_pure ?_)))
      rw [if_pos hall]
      refine wpAny_bind (wpAny_rule ?_)
      have hfm : (fs.toArray.filterMap id) = (fs.filterMap id).toArray := by simp
      rw [hfm]
      have len : (fs.filterMap id).length = fs.length := by
        simp only [List.all_toArray, List.all_eq_true] at hall
        clear l1 l2 l3 hfm
        induction fs with
        | nil => rfl
        | cons f r ih =>
          have := hall f (List.mem_cons_self ..)
          cases f with
          | none => cases this
          | some x =>
            rw [List.filterMap_cons]
            show (x :: r.filterMap id).length = _
            rw [List.length_cons, List.length_cons, ih fun g hg => hall g (List.mem_cons_of_mem _ hg)]
      refine wpAny_bind (one_type (T := .type "int") (by omega) (fun v hv => ?_) (by rfl) ?_)
      · obtain ⟨f, hf, e⟩ := List.mem_filterMap.mp hv
        obtain ⟨x, t, rfl⟩ := l2 f hf v e
        exact Looks.now
      · exact wpAny_pure hq
    · obtain ⟨ns, x, xs, e1, ⟨o, ho, hc, n, hd⟩, hi⟩ := hp' _ hm
      obtain ⟨ms, y, ys, e2, ⟨o', ho', hc', n', hd'⟩, hi'⟩ := hp' _ hm'
      obtain ⟨r, hr⟩ := lex_go (prog := prog) (w := w) (A := A) (s := { s with heap := h' }) (b := true) (fin := decide (xs.size < ys.size)) 0 hi hi'
      refine ⟨r, ?_⟩
      rw [e1, e2]
      exact kat_lt ho hd ho' hd' hr
  · have pre : ∀ (κ : SortKind), ((fs[0]?.bind id).isSome = true ∧ κ = general' ∨ ¬ (fs[0]?.bind id).isSome = true ∧ κ = oneType') → ∀ (Q : SortKind → Shared → Prop) (E : Value → Shared → Prop), Q κ { s with heap := h' } → wpAny (model prog w) A (keyKind' vs.toArray) Q E { s with heap := h' } := fun κ hk Q E hq => by
      rw [kat_kind_eq, List.mapM_toArray, map_eq_pure_bind]
      refine wpAny_bind (wpAny_bind (l3 _ _ (wpAny_pure ?_)))
      rw [if_neg hall]
      have e0 : fs.toArray[0]? = fs[0]? := by simp
      rw [e0]
      rcases hk with ⟨h1, rfl⟩ | ⟨h1, rfl⟩
      · rw [if_pos h1]
        exact wpAny_pure hq
      · rw [if_neg h1]
        refine wpAny_bind (one_type (T := .type "tuple") h0 lt (by rfl) ?_)
        exact wpAny_pure hq
    by_cases h1 : (fs[0]?.bind id).isSome = true
    · refine ⟨general', pre _ (.inl ⟨h1, rfl⟩), fun p q hm hm' => ?_⟩
      obtain ⟨ns, hn⟩ := hp' _ hm
      obtain ⟨ms, hm2⟩ := hp' _ hm'
      exact ⟨_, gen_lt (s := { s with heap := h' }) hn hm2 room⟩
    · refine ⟨oneType', pre _ (.inr ⟨h1, rfl⟩), fun p q hm hm' => ?_⟩
      obtain ⟨ns, hn⟩ := hp' _ hm
      obtain ⟨ms, hm2⟩ := hp' _ hm'
      refine ⟨HT.lexLt ns ms, ?_⟩
      rw [keyLt'_oneType]
      exact one_lt (s := { s with heap := h' }) hn hm2 room
end
/-- sorted(d), the keys tuples of ints -/
def rSortedDA : List V → Hp → VK → Prop := fun vs H Q => ∃ (d : Addr) (kvs : List (List Key × V)), vs = [V.ref d] ∧ Rd H d (.dT kvs) ∧ (∀ p ∈ kvs, ∃ ns : List Int, p.1 = ns.map Sum.inl) ∧
  ∀ (bs : List Addr) (ys : List V) (p : Addr), IsKeys H kvs bs → ys.Perm (bs.map V.ref) → H p = none → Q (.ref p) (upd H p (.lst ys))
theorem keyInts (ns : List Int) : (ns.map (Sum.inl (β := Str))).map kV = ns.map V.int := by
  rw [List.map_map]
  rfl
theorem cr_sortedDA {X : Cx} (hc : X.calm = true) (hu : X.A.units + 2 < cLine) : CallR X (.builtin "sorted") rSortedDA := by
  intro pins s σ H vs us Q I r h
  obtain ⟨d, kvs, rfl, hd, hkv, q⟩ := h
  obtain ⟨u, rfl, rx⟩ := r.one
  cases rx
  obtain ⟨z, hs, ks, pr, o, es, ep, ho, hx, hdt, he, hn⟩ := (show ObjOk X.prog X.w H s.heap d (.dT kvs) from hd.ok I.hok)
  have l1 : es.size = ks.length := size_of_entries he
  have l2 : kvs.length = ks.length := Paired.length pr
  refine Calls.call_function_entry kind_sorted plain_sorted entry_sorted (args_sorted1 _) ?_
  unfold Builtin.«sorted»
  refine wpAny_bind (m := checkCount "sorted" 1 1 _) (wpAny_pure ?_)
  refine wpAny_bind (kdu_collect (A := X.A.in1) (kdl_raw hs hx hdt) (I.ok.hd hc) ho (by omega) fun h' tk acc hk it => ?_)
  have ea : acc.toList = (ks.map fun x => x.2.1).map Value.ref := by
    rw [List.map_map]
    refine List.ext_getElem? fun j => ?_
    have hl : acc.toList.length = ks.length := by rw [Array.length_toList, it.1]; exact l1
    by_cases hj : j < ks.length
    · have gj : acc[j]? = some (acc[j]'(by rw [← Array.length_toList]; omega)) := Array.getElem?_eq_getElem _
      obtain ⟨en, hen, hv⟩ := it.2 j _ gj
      have qe := entry_at he j
      rw [hen, List.getElem?_eq_getElem hj] at qe
      have e2 : en = entryOfKey (tupleKind (mixKind X.prog X.w)) ks[j] := Option.some.inj qe
      rw [Array.getElem?_toList, gj, hv, e2, List.getElem?_map, List.getElem?_eq_getElem hj]
      rfl
    · rw [List.getElem?_eq_none (by omega), List.getElem?_eq_none (by rw [List.length_map]; omega)]
  have hik := isKeys_of pr
  generalize ks.map (fun x => x.2.1) = bs at ea hik
  have lb : bs.length = ks.length := by
    have := Paired.length hik
    omega
  rw [ea]
  refine wpAny_bind (wpAny_newList ?_ (by rw [List.length_map]; omega))
  have I1 : Inv X pins σ H { s with heap := h', toks := tk } := I.kept hk
  have I2 := I1.laid (t' := tk) (o := .lst (bs.map V.ref)) (h' := h'.push { cls := .type "list", data := .seq (bs.map Value.ref).toArray }) (a := h'.objs.size) (fun b u e => Heap.get?_push_of_some _ e) (Nat.le_refl _)
    ⟨by rw [List.length_map]; omega, bs.map Value.ref, 0, vals_refs bs, Heap.get?_push_size _ rfl⟩
  have nD : H h'.objs.size = none := I1.hok.fresh (Nat.le_refl _)
  have hob : (h'.push { cls := .type "list", data := .seq (bs.map Value.ref).toArray }).get? h'.objs.size = some (seqObj "list" (bs.map Value.ref).toArray 0) := Heap.get?_push_size _ rfl
  have isp : ∀ v ∈ bs.map Value.ref, ∃ ns, TupInts (h'.push { cls := .type "list", data := .seq (bs.map Value.ref).toArray }) v ns := fun v hv => by
    obtain ⟨b, hb, rfl⟩ := List.mem_map.mp hv
    obtain ⟨p, hp, e⟩ := DR.isKeys_mem hik b hb
    obtain ⟨ns, e2⟩ := hkv p hp
    rw [e2, keyInts] at e
    obtain ⟨_, its2, r2, o2, ho2, hc2, n2, hd2⟩ := I2.hok b _ (by rw [upd_ne (ne_of_none e nD)]; exact e)
    exact ⟨ns, b, its2.toArray, rfl, ⟨o2, ho2, hc2, n2, hd2⟩, by rw [List.toList_toArray]; exact intsAre_of r2⟩
  have srt : wpAny (model X.prog X.w) X.A.in1 (call (.builtin "list.sort") [.ref h'.objs.size]) (fun _ s' => EP X pins σ Q (.ref h'.objs.size) s') X.xe { s with heap := h'.push { cls := .type "list", data := .seq (bs.map Value.ref).toArray }, toks := tk } := by
    refine wpAny_call_entry PyProof.Rows.slot_list_sort ⟨_, hob, rfl⟩ PyProof.Rows.entry_list_sort
      (Srt.list_sort_any hob (by rw [List.length_map]; omega) (fun h2 => tups_sortable (by omega) isp (fun o' e => ?_) (show X.A.units + 1 + 1 < cLine by omega)) fun out h2 => ⟨.none, rfl, ?_⟩) (PyProof.Rows.args_list_sort _)
    · have e' : some o' = some (seqObj "list" (bs.map Value.ref).toArray 0) := e.symm.trans hob
      cases e'
      intro c
      exact absurd (Value.type.inj c) (by decide)
    · have h3 : ∀ u ∈ out, ∃ a, u = Value.ref a := fun u hu => by
        obtain ⟨b, _, e⟩ := List.mem_map.mp (h2.mem_iff.mp hu)
        exact ⟨b, e.symm⟩
      obtain ⟨ep', he'⟩ := PyProof.Rows.sortedHeap_at (vs := bs.map Value.ref) (out := out.toArray) hob
      have hp : (out.map backV).Perm (bs.map V.ref) := by
        have := h2.map backV
        rw [List.map_map] at this
        exact this
      have I3 : Inv X pins σ (upd (upd H h'.objs.size (.lst (bs.map V.ref))) h'.objs.size (.lst (out.map backV))) { s with heap := PyProof.Rows.sortedHeap (h'.push { cls := .type "list", data := .seq (bs.map Value.ref).toArray }) h'.objs.size (bs.map Value.ref) out.toArray, toks := tk } := by
        refine I2.write (e := h'.objs.size) (t' := tk) (by rw [upd_same]; trivial) (.inl rfl) (fun b u hb hu => ?_) ⟨_, he'⟩ ⟨?_, out, ep', vals_back h3, he'⟩
        · rw [PyProof.Rows.sortedHeap_old hb (Heap.lt_size hu)]
          exact hu
        · rw [hp.length_eq, List.length_map]
          omega
      rw [upd_upd] at I3
      exact ⟨.ref _, _, I3, rfl, q bs _ _ hik hp nD⟩
  exact wpAny_bind (wpAny_holding (wpAny_mono srt (fun _ s' x => wpAny_pure ⟨_, rfl, x⟩) fun _ _ e => e))
end SD

/-! own rules: sorted of tuples of ints of any lengths, any number of them, and of a dict with such keys: in their order -/
namespace SO
open PySem PySem.Spec PyProof.Rows L2 PySem.W Srt TS SrtO SD
section
variable {prog : Program} {w : World} {A : Around} {E : Value → Shared → Prop} {s : Shared}
/-- two rows of ints, place by place -/
theorem lex_goO {b : Bool} : ∀ {us vs : List Value} {ns ms : List Int} (i : Nat), IntsAre us ns → IntsAre vs ms → ∀ fin : Bool, fin = decide (ns.length < ms.length) → KatLex prog w A b fin (fun x s' => s' = s ∧ x = HT.lexLt ns ms) (us.zip vs) i s
  | [], [], _, _, i, .nil, .nil, fin, hf => kat_nil ⟨rfl, by rw [hf]; rfl⟩
  | [], _ :: _, _, _, i, .nil, .cons y u k, fin, hf => kat_nil ⟨rfl, by rw [hf]; rfl⟩
  | _ :: _, [], _, _, i, .cons x t h, .nil, fin, hf => kat_nil ⟨rfl, by rw [hf]; rfl⟩
  | _ :: us, _ :: vs, _, _, i, .cons x t h, .cons y u k, fin, hf => by
    by_cases e : x = y
    · have hr := lex_goO (b := b) (i + 1) h k fin (by rw [hf]; simp)
      refine kat_cons (SeqAt.EqAt.int_int x t y u prog w _ _ ?_)
      refine kat_go (fun z => kat_yes ?_) (fun z => ?_)
      · rw [HT.lexLt_cons, if_pos e]
        exact hr
      · exact absurd e (by simpa using z)
    · refine kat_cons (SeqAt.EqAt.int_int x t y u prog w _ _ ?_)
      refine kat_go (fun z => ?_) (fun _ => kat_no ?_)
      · exact absurd (by simpa using z) e
      · exact oneLt_ints _ ⟨rfl, by rw [HT.lexLt_cons, if_neg e]⟩
theorem tups_sortableO {a : Addr} {vs : List Value} {kk : Value → List Int} (h0 : 0 < vs.length) (hpp : ∀ v ∈ vs, TupInts s.heap v (kk v)) (ha : ∀ o, s.heap.get? a = some o → o.cls ≠ .type "tuple") (room : A.units < cLine) : SortableO prog w A s a vs (fun v u => HT.lexLt (kk v) (kk u)) := by
  intro h' keep
  have hq' : ∀ v ∈ vs, TupInts h' v (kk v) := fun v hm => (hpp v hm).keeps fun b o e c => keep b o (fun z => by subst z; exact ha o e c) e
  have hp' : ∀ v ∈ vs, ∃ ns, TupInts h' v ns := fun v hm => ⟨_, hq' v hm⟩
  obtain ⟨fs, l1, l2, l3⟩ := firsts_any (prog := prog) (w := w) (A := A) (s := { s with heap := h' }) hp'
  have lt : ∀ v ∈ vs, Looks (model prog w) h' (typeOf v) (.type "tuple") := fun v hv => by
    obtain ⟨ns, b, xs, rfl, ⟨o, ho, hc, n, hd⟩, hi⟩ := hp' v hv
    rw [← hc]
    exact (Looks.ld ho).andThen .now
  by_cases hall : (fs.toArray.all fun x => x.isSome) = true
  · refine ⟨tuples' true, fun Q E hq => ?_, fun p q hm hm' => ?_⟩
    · rw [kat_kind_eq, List.mapM_toArray, map_eq_pure_bind]
      refine wpAny_bind (wpAny_bind (l3 _ _ (wpAny_pure ?_)))
      rw [if_pos hall]
      refine wpAny_bind (wpAny_rule ?_)
      have hfm : (fs.toArray.filterMap id) = (fs.filterMap id).toArray := by simp
      rw [hfm]
      have len : (fs.filterMap id).length = fs.length := by
        simp only [List.all_toArray, List.all_eq_true] at hall
        clear l1 l2 l3 hfm
        induction fs with
        | nil => rfl
        | cons f r ih =>
          have := hall f (List.mem_cons_self ..)
          cases f with
          | none => cases this
          | some x =>
            rw [List.filterMap_cons]
            show (x :: r.filterMap id).length = _
            rw [List.length_cons, List.length_cons, ih fun g hg => hall g (List.mem_cons_of_mem _ hg)]
      refine wpAny_bind (one_type (T := .type "int") (by omega) (fun v hv => ?_) (by rfl) ?_)
      · obtain ⟨f, hf, e⟩ := List.mem_filterMap.mp hv
        obtain ⟨x, t, rfl⟩ := l2 f hf v e
        exact Looks.now
      · exact wpAny_pure hq
    · show wpAny (model prog w) A (keyLt' (tuples' true) p.1 q.1) (fun r s' => s' = _ ∧ r = HT.lexLt (kk p.1) (kk q.1)) _ _
      obtain ⟨x, xs, e1, ⟨o, ho, hc, n, hd⟩, hi⟩ := hq' _ hm
      obtain ⟨y, ys, e2, ⟨o', ho', hc', n', hd'⟩, hi'⟩ := hq' _ hm'
      have hr := lex_goO (prog := prog) (w := w) (A := A) (s := { s with heap := h' }) (b := true) 0 hi hi' (decide (xs.size < ys.size)) (by rw [← hi.length, ← hi'.length, Array.length_toList, Array.length_toList])
      generalize kk p.1 = ns at hr hi ⊢
      generalize kk q.1 = ms at hr hi' ⊢
      rw [e1, e2]
      exact kat_lt ho hd ho' hd' hr
  · have pre : ∀ (κ : SortKind), ((fs[0]?.bind id).isSome = true ∧ κ = general' ∨ ¬ (fs[0]?.bind id).isSome = true ∧ κ = oneType') → ∀ (Q : SortKind → Shared → Prop) (E : Value → Shared → Prop), Q κ { s with heap := h' } → wpAny (model prog w) A (keyKind' vs.toArray) Q E { s with heap := h' } := fun κ hk Q E hq => by
      rw [kat_kind_eq, List.mapM_toArray, map_eq_pure_bind]
      refine wpAny_bind (wpAny_bind (l3 _ _ (wpAny_pure ?_)))
      rw [if_neg hall]
      have e0 : fs.toArray[0]? = fs[0]? := by simp
      rw [e0]
      rcases hk with ⟨h1, rfl⟩ | ⟨h1, rfl⟩
      · rw [if_pos h1]
        exact wpAny_pure hq
      · rw [if_neg h1]
        refine wpAny_bind (one_type (T := .type "tuple") h0 lt (by rfl) ?_)
        exact wpAny_pure hq
    by_cases h1 : (fs[0]?.bind id).isSome = true
    · refine ⟨general', pre _ (.inl ⟨h1, rfl⟩), fun p q hm hm' => ?_⟩
      exact gen_lt (s := { s with heap := h' }) (hq' _ hm) (hq' _ hm') room
    · refine ⟨oneType', pre _ (.inr ⟨h1, rfl⟩), fun p q hm hm' => ?_⟩
      show wpAny (model prog w) A (keyLt' oneType' p.1 q.1) (fun r s' => s' = _ ∧ r = HT.lexLt (kk p.1) (kk q.1)) _ _
      rw [keyLt'_oneType]
      exact one_lt (s := { s with heap := h' }) (hq' _ hm) (hq' _ hm') room
end

/-- the ints of a tuple on the heap -/
def intV : V → Int
  | .int i => i
  | _ => 0
def adV : V → Addr
  | .ref a => a
  | _ => 0
def kH (H : Hp) : V → List Int
  | .ref a => (match H a with
    | some (.tup vs) => vs.map intV
    | _ => [])
  | _ => []
theorem kH_at {H : Hp} {a : Addr} {ns : List Int} (h : H a = some (.tup (ns.map V.int))) : kH H (.ref a) = ns := by
  show (match H a with | some (.tup vs) => vs.map intV | _ => []) = ns
  rw [h]
  show (ns.map V.int).map intV = ns
  rw [List.map_map]
  exact List.map_id' ns
abbrev Row := Addr × List Int
def refR (L : List Row) : List V := L.map fun x => V.ref x.1
def RowsAt (H : Hp) (L : List Row) : Prop := ∀ x ∈ L, H x.1 = some (.tup (x.2.map V.int))
def SrtR (L : List Row) : Prop := L.Pairwise fun x y => HT.lexLt y.2 x.2 = false
/-- sorted(xs), a list of tuples of ints -/
def rSortedTO (K : PySem.W.Frag) : List V → Hp → VK → Prop := fun vs H Q => ∃ (a : Addr) (L : List Row), vs = [V.ref a] ∧ SqL K H a (refR L) ∧ RowsAt H L ∧
  ∀ (L' : List Row) (p : Addr), L'.Perm L → SrtR L' → H p = none → Q (.ref p) (upd H p (.lst (refR L')))
/-- what came out -/
theorem rows_out {H : Hp} {L : List Row} (hL : RowsAt H L) {ys : List V} (hp : ys.Perm (refR L)) (hs : Srtd (fun x y => HT.lexLt (kH H x) (kH H y)) ys) : ∃ L' : List Row, L'.Perm L ∧ SrtR L' ∧ ys = refR L' := by
  refine ⟨ys.map fun y => (adV y, kH H y), ?_, ?_, ?_⟩
  · refine (hp.map _).trans ?_
    unfold refR
    rw [List.map_map]
    refine List.Perm.of_eq ?_
    conv => rhs; rw [← List.map_id L]
    refine List.map_congr_left fun x hx => ?_
    show (x.1, kH H (.ref x.1)) = x
    rw [kH_at (hL x hx)]
  · exact List.pairwise_map.mpr hs
  · unfold refR
    rw [List.map_map]
    conv => lhs; rw [← List.map_id ys]
    refine List.map_congr_left fun y hy => ?_
    obtain ⟨x, _, rfl⟩ := List.mem_map.mp (hp.mem_iff.mp hy)
    rfl
theorem swoH (H : Hp) : Swo (fun x y => HT.lexLt (kH H x) (kH H y)) := NtL.swo_lexL (kH H)
theorem cr_sortedTO {X : Cx} (hu : X.A.units + 2 < cLine) : CallR X (.builtin "sorted") (rSortedTO X.K) := by
  intro pins s σ H vs us Q I r h
  obtain ⟨a, L, rfl, hs, hL, q⟩ := h
  obtain ⟨its, rv, hl, hz⟩ := I.list hs
  obtain ⟨u, rfl, ru⟩ := vals1 r
  obtain rfl : u = Value.ref a := ru
  obtain ⟨e1, e2⟩ := refs_back rv fun x m => by
    obtain ⟨t, _, e⟩ := List.mem_map.mp m
    exact ⟨t.1, e.symm⟩
  have isp : ∀ v ∈ its, TupInts s.heap v (kH H (backV v)) := fun v hv => by
    obtain ⟨t, rfl⟩ := e2 v hv
    have hm : V.ref t ∈ refR L := by rw [e1]; exact List.mem_map.mpr ⟨_, hv, rfl⟩
    obtain ⟨x, hx, ex⟩ := List.mem_map.mp hm
    have ht := hL x hx
    cases ex
    show TupInts s.heap (.ref x.1) (kH H (.ref x.1))
    rw [kH_at ht]
    obtain ⟨_, its2, r2, o2, ho2, hc2, n2, hd2⟩ := I.hok _ _ ht
    exact ⟨x.1, its2.toArray, rfl, ⟨o2, ho2, hc2, n2, hd2⟩, by rw [List.toList_toArray]; exact intsAre_of r2⟩
  refine sorted_ord (ltv := fun v u => HT.lexLt (kH H (backV v)) (kH H (backV u))) (NtL.swo_lexL fun v => kH H (backV v)) hl.isList (by rw [← rv.length]; exact hz) (fun h2 h₁ a' ho' hk => ?_) fun out h1 h2 => ?_
  · refine tups_sortableO (kk := fun v => kH H (backV v)) (by omega) (fun v hv => (isp v hv).keeps fun b o e _ => (hk b o e).2) (fun o' e => ?_) (show X.A.units + 1 + 1 < cLine by omega)
    have e' : some o' = some (seqObj "list" its.toArray 0) := e.symm.trans ho'
    cases e'
    intro c
    exact absurd (Value.type.inj c) (by decide)
  · obtain ⟨ep, he'⟩ := PyProof.Rows.sortedAll_at s.heap its out.toArray
    have h3 : ∀ u ∈ out, ∃ a, u = Value.ref a := fun u hu => e2 u (h2.perm.mem_iff.mp hu)
    have hp : (out.map backV).Perm (refR L) := by
      rw [e1]
      exact h2.perm.map backV
    obtain ⟨L', p1, p2, p3⟩ := rows_out hL hp (srtd_map (lt := fun x y => HT.lexLt (kH H x) (kH H y)) h1)
    have := q L' (s.heap.objs.size + 1) p1 p2 (I.hok.fresh (Nat.le_succ _))
    rw [← p3] at this
    exact ⟨.ref _, upd H (s.heap.objs.size + 1) (.lst (out.map backV)), I.laid (t' := s.toks) (fun _ _ => PyProof.Rows.sortedAll_old) (Nat.le_succ _) ⟨by rw [hp.length_eq]; exact hz, out, ep, vals_back h3, he'⟩, rfl, this⟩
/-- sorted(d), the keys tuples of ints -/
def rSortedDO : List V → Hp → VK → Prop := fun vs H Q => ∃ (d : Addr) (kvs : List (List Key × V)), vs = [V.ref d] ∧ Rd H d (.dT kvs) ∧ (∀ p ∈ kvs, ∃ ns : List Int, p.1 = ns.map Sum.inl) ∧
  ∀ (L : List Row) (p : Addr), RowsAt H L → (L.map fun x => x.2.map (Sum.inl (β := Str))).Perm (kvs.map (·.1)) → SrtR L → H p = none → Q (.ref p) (upd H p (.lst (refR L)))
theorem rows_of {H : Hp} : ∀ {kvs : List (List Key × V)} {bs : List Addr}, (∀ p ∈ kvs, ∃ ns : List Int, p.1 = ns.map Sum.inl) → IsKeys H kvs bs → ∃ L0 : List Row, bs.map V.ref = refR L0 ∧ (L0.map fun x => x.2.map (Sum.inl (β := Str))) = kvs.map (·.1) ∧ RowsAt H L0
  | [], [], _, _ => ⟨[], rfl, rfl, fun x hx => absurd hx (by simp)⟩
  | p :: kvs, b :: bs, hk, .cons h hi => by
    obtain ⟨L0, a1, a2, a3⟩ := rows_of (fun q hq => hk q (List.mem_cons_of_mem _ hq)) hi
    obtain ⟨ns, e⟩ := hk p (List.mem_cons_self ..)
    refine ⟨(b, ns) :: L0, by rw [List.map_cons, a1]; rfl, by rw [List.map_cons, List.map_cons, a2, e], fun x hx => ?_⟩
    rcases List.mem_cons.mp hx with rfl | hx
    · rw [e, keyInts] at h
      exact h
    · exact a3 x hx
theorem cr_sortedDO {X : Cx} (hc : X.calm = true) (hu : X.A.units + 2 < cLine) : CallR X (.builtin "sorted") rSortedDO := by
  intro pins s σ H vs us Q I r h
  obtain ⟨d, kvs, rfl, hd, hkv, q⟩ := h
  obtain ⟨u, rfl, rx⟩ := r.one
  cases rx
  obtain ⟨z, hs, ks, pr, o, es, ep, ho, hx, hdt, he, hn⟩ := (show ObjOk X.prog X.w H s.heap d (.dT kvs) from hd.ok I.hok)
  have l1 : es.size = ks.length := size_of_entries he
  have l2 : kvs.length = ks.length := Paired.length pr
  refine Calls.call_function_entry kind_sorted plain_sorted entry_sorted (args_sorted1 _) ?_
  unfold Builtin.«sorted»
  refine wpAny_bind (m := checkCount "sorted" 1 1 _) (wpAny_pure ?_)
  refine wpAny_bind (kdu_collect (A := X.A.in1) (kdl_raw hs hx hdt) (I.ok.hd hc) ho (by omega) fun h' tk acc hk it => ?_)
  have ea : acc.toList = (ks.map fun x => x.2.1).map Value.ref := by
    rw [List.map_map]
    refine List.ext_getElem? fun j => ?_
    have hl : acc.toList.length = ks.length := by rw [Array.length_toList, it.1]; exact l1
    by_cases hj : j < ks.length
    · have gj : acc[j]? = some (acc[j]'(by rw [← Array.length_toList]; omega)) := Array.getElem?_eq_getElem _
      obtain ⟨en, hen, hv⟩ := it.2 j _ gj
      have qe := entry_at he j
      rw [hen, List.getElem?_eq_getElem hj] at qe
      have e2 : en = entryOfKey (tupleKind (mixKind X.prog X.w)) ks[j] := Option.some.inj qe
      rw [Array.getElem?_toList, gj, hv, e2, List.getElem?_map, List.getElem?_eq_getElem hj]
      rfl
    · rw [List.getElem?_eq_none (by omega), List.getElem?_eq_none (by rw [List.length_map]; omega)]
  have hik := isKeys_of pr
  generalize ks.map (fun x => x.2.1) = bs at ea hik
  have lb : bs.length = ks.length := by
    have := Paired.length hik
    omega
  rw [ea]
  refine wpAny_bind (wpAny_newList ?_ (by rw [List.length_map]; omega))
  have I1 : Inv X pins σ H { s with heap := h', toks := tk } := I.kept hk
  have I2 := I1.laid (t' := tk) (o := .lst (bs.map V.ref)) (h' := h'.push { cls := .type "list", data := .seq (bs.map Value.ref).toArray }) (a := h'.objs.size) (fun b u e => Heap.get?_push_of_some _ e) (Nat.le_refl _)
    ⟨by rw [List.length_map]; omega, bs.map Value.ref, 0, vals_refs bs, Heap.get?_push_size _ rfl⟩
  have nD : H h'.objs.size = none := I1.hok.fresh (Nat.le_refl _)
  have hob : (h'.push { cls := .type "list", data := .seq (bs.map Value.ref).toArray }).get? h'.objs.size = some (seqObj "list" (bs.map Value.ref).toArray 0) := Heap.get?_push_size _ rfl
  have isp : ∀ v ∈ bs.map Value.ref, TupInts (h'.push { cls := .type "list", data := .seq (bs.map Value.ref).toArray }) v (kH H (backV v)) := fun v hv => by
    obtain ⟨b, hb, rfl⟩ := List.mem_map.mp hv
    obtain ⟨p, hp, e⟩ := DR.isKeys_mem hik b hb
    obtain ⟨ns, e2⟩ := hkv p hp
    rw [e2, keyInts] at e
    obtain ⟨_, its2, r2, o2, ho2, hc2, n2, hd2⟩ := I2.hok b _ (by rw [upd_ne (ne_of_none e nD)]; exact e)
    show TupInts _ (.ref b) (kH H (.ref b))
    rw [kH_at e]
    exact ⟨b, its2.toArray, rfl, ⟨o2, ho2, hc2, n2, hd2⟩, by rw [List.toList_toArray]; exact intsAre_of r2⟩
  have srt : wpAny (model X.prog X.w) X.A.in1 (call (.builtin "list.sort") [.ref h'.objs.size]) (fun _ s' => EP X pins σ Q (.ref h'.objs.size) s') X.xe { s with heap := h'.push { cls := .type "list", data := .seq (bs.map Value.ref).toArray }, toks := tk } := by
    refine wpAny_call_entry PyProof.Rows.slot_list_sort ⟨_, hob, rfl⟩ PyProof.Rows.entry_list_sort
      (list_sort_ord (ltv := fun v u => HT.lexLt (kH H (backV v)) (kH H (backV u))) (NtL.swo_lexL fun v => kH H (backV v)) hob (by rw [List.length_map]; omega) (fun h2 => tups_sortableO (kk := fun v => kH H (backV v)) (by omega) isp (fun o' e => ?_) (show X.A.units + 1 + 1 < cLine by omega)) fun out h1 hst => ⟨.none, rfl, ?_⟩) (PyProof.Rows.args_list_sort _)
    · have e' : some o' = some (seqObj "list" (bs.map Value.ref).toArray 0) := e.symm.trans hob
      cases e'
      intro c
      exact absurd (Value.type.inj c) (by decide)
    · have h2 := hst.perm
      have h3 : ∀ u ∈ out, ∃ a, u = Value.ref a := fun u hu => by
        obtain ⟨b, _, e⟩ := List.mem_map.mp (h2.mem_iff.mp hu)
        exact ⟨b, e.symm⟩
      obtain ⟨ep', he'⟩ := PyProof.Rows.sortedHeap_at (vs := bs.map Value.ref) (out := out.toArray) hob
      have hp : (out.map backV).Perm (bs.map V.ref) := by
        have := h2.map backV
        rw [List.map_map] at this
        exact this
      have I3 : Inv X pins σ (upd (upd H h'.objs.size (.lst (bs.map V.ref))) h'.objs.size (.lst (out.map backV))) { s with heap := PyProof.Rows.sortedHeap (h'.push { cls := .type "list", data := .seq (bs.map Value.ref).toArray }) h'.objs.size (bs.map Value.ref) out.toArray, toks := tk } := by
        refine I2.write (e := h'.objs.size) (t' := tk) (by rw [upd_same]; trivial) (.inl rfl) (fun b u hb hu => ?_) ⟨_, he'⟩ ⟨?_, out, ep', vals_back h3, he'⟩
        · rw [PyProof.Rows.sortedHeap_old hb (Heap.lt_size hu)]
          exact hu
        · rw [hp.length_eq, List.length_map]
          omega
      rw [upd_upd] at I3
      obtain ⟨L0, hr, hk0, hrow⟩ : ∃ L0 : List Row, bs.map V.ref = refR L0 ∧ (L0.map fun x => x.2.map (Sum.inl (β := Str))) = kvs.map (·.1) ∧ RowsAt H L0 := rows_of hkv hik
      rw [hr] at hp
      obtain ⟨L', p1, p2, p3⟩ := rows_out hrow hp (srtd_map (lt := fun x y => HT.lexLt (kH H x) (kH H y)) h1)
      have := q L' h'.objs.size (fun x hx => hrow x (p1.mem_iff.mp hx)) (hk0 ▸ p1.map _) p2 nD
      rw [← p3] at this
      exact ⟨.ref _, _, I3, rfl, this⟩
  exact wpAny_bind (wpAny_holding (wpAny_mono srt (fun _ s' x => wpAny_pure ⟨_, rfl, x⟩) fun _ _ e => e))

theorem lex_tot : ∀ {a b : List Int}, HT.lexLt a b = false → HT.lexLt b a = false → a = b
  | [], [], _, _ => rfl
  | [], _ :: _, h, _ => by cases h
  | _ :: _, [], _, h => by cases h
  | x :: a, y :: b, h1, h2 => by
    rw [HT.lexLt_cons] at h1 h2
    by_cases e : x = y
    · rw [if_pos e] at h1
      rw [if_pos e.symm] at h2
      rw [e, lex_tot h1 h2]
    · rw [if_neg e] at h1
      rw [if_neg (fun z => e z.symm)] at h2
      have := of_decide_eq_false h1
      have := of_decide_eq_false h2
      omega
/-- sorted lists of the same rows are one -/
theorem srt_uniq : ∀ {l m : List (List Int)}, l.Pairwise (fun x y => HT.lexLt y x = false) → m.Pairwise (fun x y => HT.lexLt y x = false) → l.Perm m → l = m
  | [], m, _, _, p => (List.nil_perm.mp p).symm
  | x :: l, [], _, _, p => absurd (List.perm_nil.mp p) (by simp)
  | x :: l, y :: m, h1, h2, p => by
    rw [List.pairwise_cons] at h1 h2
    have e : x = y := by
      rcases List.mem_cons.mp (p.mem_iff.mp (List.mem_cons_self (a := x))) with e | e
      · exact e
      · rcases List.mem_cons.mp (p.mem_iff.mpr (List.mem_cons_self (a := y))) with g | g
        · exact g.symm
        · exact lex_tot (h2.1 x e) (h1.1 y g)
    subst e
    rw [srt_uniq h1.2 h2.2 ((List.perm_cons x).mp p)]
end SO

/-! own rule: {k: v}, one pair, the key a tuple -/
namespace DR
open PySem PySem.Spec PyProof.Rows L2
def tDisp1T (tk tv : TE) : TE := fun σ H Q => ∀ p, H p = none → tk σ (upd H p (.dT [])) fun x H1 => tv σ H1 fun y H2 => ∃ b ky, x = .ref b ∧ H2 b = some (.tup (ky.map kV)) ∧ H2 p = some (.dT []) ∧ Q (.ref p) (upd H2 p (.dT [(ky, y)]))
theorem pe_disp1T {X : Cx} {pos : Pos} {k v : Expr} {tk tv : TE} (hu : X.A.units < cLine) (hk : PE X k tk) (hv : PE X v tv) : PE X (.Dict [some k] [v] pos) (tDisp1T tk tv) := by
  refine ⟨fun pins s σ H Q I q => ?_⟩
  have hn := I.hok.fresh (Nat.le_refl s.heap.objs.size)
  have I1 := I.laid (a := s.heap.objs.size) (o := .dT []) (h' := s.heap.push { cls := .type "dict", data := .dict #[] }) (t' := s.toks) (fun _ _ q => Heap.get?_push_of_some _ q) (Nat.le_refl _) (dt_empty s.heap I.big)
  have sh : (evalEachOpt [some k] X.env).zip ((evalEach [v] X.env).map fun u => do let x ← u; standAt pos; pure x) = [(eval k X.env, do let x ← eval v X.env; standAt pos; pure x)].map fun p => (some p.1, p.2) := rfl
  rw [arm_eval_Dict, sh, dictDisplay_pairs _ (by simp) (by show (1 : Nat) < 17; decide)]
  refine wpAny_bind (wpAny_standAt (wpAny_bind (wpAny_subDictH (knd := tupleKind (mixKind X.prog X.w)) (Q := fun d s' => wpAny (model X.prog X.w) X.A (pure (Value.ref d)) (EP X pins σ Q) X.xe s') hu (by show (1 : Nat) ≤ 15; decide) ?_)))
  have run := (pps_cons (pos := pos) hk hv pps_nil).run pins { s with heap := s.heap.push { cls := .type "dict", data := .dict #[] } } σ (upd H s.heap.objs.size (.dT [])) (fun ps H2 => match ps with
    | [(x, y)] => ∃ b ky, x = .ref b ∧ H2 b = some (.tup (ky.map kV)) ∧ H2 s.heap.objs.size = some (.dT []) ∧ Q (.ref s.heap.objs.size) (upd H2 s.heap.objs.size (.dT [(ky, y)]))
    | _ => False) I1 (q s.heap.objs.size hn)
  refine thn run fun ws s2 ⟨ps, H2, I2, rel, z⟩ => ?_
  cases rel with
  | nil => exact z.elim
  | @cons a w0 as ws' h t =>
    obtain ⟨x, y⟩ := a
    cases t with
    | cons h' t' => exact z.elim
    | nil =>
      obtain ⟨b, ky, ex, hb, hD, q2⟩ := z
      subst ex
      obtain ⟨w1, w2⟩ := w0
      obtain ⟨h1, h2⟩ := h
      cases (show w1 = Value.ref b from h1)
      obtain ⟨_, lo, xs, rel0, dd⟩ := dt_of I2.hok hD
      cases rel0
      refine ⟨[(ky, b, w2)], ⟨rfl, rfl, key_of I2.hok hb, trivial⟩, dd, fun h' tk dd' hs => wpAny_pure ?_⟩
      obtain ⟨qo, es, ep, hq, g2, g3, g4, _, g5⟩ := dd'
      have kt : KT (upd H2 s.heap.objs.size (.dT [(ky, y)])) [(ky, y)] (storedAllH [] [(ky, b, w2)]) := by
        refine .cons ⟨rfl, ?_, h2⟩ .nil
        rw [upd_ne (ne_of hb hD (fun z => nomatch z))]
        exact hb
      have ok : ObjOk X.prog X.w (upd H2 s.heap.objs.size (.dT [(ky, y)])) h' s.heap.objs.size (.dT [(ky, y)]) := ⟨by show 1 ≤ sizeLine; decide, lo, _, kt, qo, es, ep, hq, g2, g3, g4, g5⟩
      exact ⟨.ref s.heap.objs.size, _, d_write I2 (by rw [hD]; exact True.intro) hs ⟨qo, hq⟩ ok, rfl, q2⟩
end DR

/-! own rules: slices of a tuple and sums of tuples, whole or empty ones too, by what stands afterwards -/
namespace TE
open PySem PySem.Spec PyProof.Rows L2 Evl
section
variable {X : Cx}
def rSlE : V → Option Int → Option Int → Hp → VK → Prop := fun x lo hi H Q => ∃ a xs, x = .ref a ∧ H a = some (.tup xs) ∧ ∀ p H', Ex H H' → H' p = some (.tup (cutV xs lo hi)) → Q (.ref p) H'
theorem sl_tupE : SlR X rSlE := by
  intro pins s σ H x v vl vu lo hi sl Q I rx hs pl pu h
  obtain ⟨a, xs, rfl, hx, q⟩ := h
  refine sl_tupA pins s σ H _ v vl vu lo hi sl Q I rx hs pl pu ⟨a, xs, rfl, SqT.of hx, fun w => q a H (Ex.refl _) ?_, fun _ p hp => q p _ (Ex.new hp) upd_same⟩
  obtain ⟨w1, w2⟩ := w
  have e : cutV xs lo hi = xs := by
    unfold cutV
    rw [w1, w2, List.drop_zero, Nat.sub_zero, List.take_length]
  rw [e]
  exact hx
def rCatE : R2 := fun x y H Q => ∃ a b xs ys, x = .ref a ∧ y = .ref b ∧ H a = some (.tup xs) ∧ H b = some (.tup ys) ∧ xs.length + ys.length ≤ sizeLine ∧ ∀ p H', Ex H H' → H' p = some (.tup (xs ++ ys)) → Q (.ref p) H'
theorem op_catE : OpR X (binaryOp .Add) rCatE := by
  intro pins s σ H x y v u Q I rx ry h
  obtain ⟨a, b, xs, ys, rfl, rfl, ha, hb, hz, q⟩ := h
  refine op_catA pins s σ H _ _ v u Q I rx ry ⟨a, b, xs, ys, rfl, rfl, SqT.of ha, SqT.of hb, hz, fun e => q b H (Ex.refl _) ?_, fun _ e => q a H (Ex.refl _) ?_, fun _ _ p hp => q p _ (Ex.new hp) upd_same⟩
  · rw [e, List.nil_append]
    exact hb
  · rw [e, List.append_nil]
    exact ha
end
end TE

set_option exponentiation.threshold 400
namespace K1
open PySem PySem.Spec PyProof.Rows L2 Evl HM LX
section
variable {P : Program} {w : World} {K : PySem.W.Frag} {mg : Str → Option Value} {base : Heap}
def sumL {α : Type} (l : List α) (f : α → Int) : Int := (l.map f).sum
theorem sumL_nil {α : Type} (f : α → Int) : sumL [] f = 0 := rfl
theorem sumL_cons {α : Type} (x : α) (l : List α) (f : α → Int) : sumL (x :: l) f = f x + sumL l f := by
  unfold sumL
  rw [List.map_cons, List.sum_cons]
theorem sumL_app {α : Type} : ∀ (l m : List α) (f : α → Int), sumL (l ++ m) f = sumL l f + sumL m f
  | [], m, f => by rw [List.nil_append, sumL_nil, Int.zero_add]
  | x :: l, m, f => by rw [List.cons_append, sumL_cons, sumL_cons, sumL_app l m f, Int.add_assoc]
theorem sumL_congr {α : Type} {f g : α → Int} : ∀ {l : List α}, (∀ x ∈ l, f x = g x) → sumL l f = sumL l g
  | [], _ => rfl
  | x :: l, h => by rw [sumL_cons, sumL_cons, h x (List.mem_cons_self ..), sumL_congr fun y hy => h y (List.mem_cons_of_mem _ hy)]
theorem sumL_perm {α : Type} {l m : List α} (f : α → Int) (h : l.Perm m) : sumL l f = sumL m f := by
  induction h with
  | nil => rfl
  | cons x _ ih => rw [sumL_cons, sumL_cons, ih]
  | swap x y l => rw [sumL_cons, sumL_cons, sumL_cons, sumL_cons]; omega
  | trans _ _ i1 i2 => exact i1.trans i2
theorem sumL_add {α : Type} (f g : α → Int) : ∀ l : List α, sumL l (fun x => f x + g x) = sumL l f + sumL l g
  | [] => rfl
  | x :: l => by rw [sumL_cons, sumL_cons, sumL_cons, sumL_add f g l]; omega
theorem sumL_zero {α : Type} : ∀ l : List α, sumL l (fun _ => 0) = 0
  | [] => rfl
  | x :: l => by rw [sumL_cons, sumL_zero l]; rfl
theorem sumL_mul {α : Type} (c : Int) (f : α → Int) : ∀ l : List α, sumL l (fun x => c * f x) = c * sumL l f
  | [] => by rw [sumL_nil, sumL_nil, Int.mul_zero]
  | x :: l => by rw [sumL_cons, sumL_cons, sumL_mul c f l, Int.mul_add]
theorem sumL_swap {α β : Type} (f : α → β → Int) (m : List β) : ∀ l : List α, sumL l (fun x => sumL m fun y => f x y) = sumL m fun y => sumL l fun x => f x y
  | [] => by
    rw [sumL_nil]
    exact (sumL_zero m).symm
  | x :: l => by
    rw [sumL_cons, sumL_swap f m l, ← sumL_add]
    exact sumL_congr fun y _ => (sumL_cons x l (fun x => f x y)).symm
theorem sumL_map {α β : Type} (f : β → Int) (g : α → β) (l : List α) : sumL (l.map g) f = sumL l fun x => f (g x) := by
  unfold sumL
  rw [List.map_map]
  rfl
theorem sumL_if {α : Type} (p : α → Bool) (c : Int) : ∀ l : List α, sumL l (fun x => if p x = true then c else 0) = ((l.filter p).length : Int) * c
  | [] => by simp [sumL_nil]
  | x :: l => by
    rw [sumL_cons, sumL_if p c l, List.filter_cons]
    split
    · rw [List.length_cons, Int.natCast_succ, Int.add_mul]
      omega
    · omega
theorem nodup_perm {α : Type} [DecidableEq α] {l m : List α} (hl : l.Nodup) (hm : m.Nodup) (h : ∀ x, x ∈ l ↔ x ∈ m) : l.Perm m := (List.perm_ext_iff_of_nodup hl hm).mpr h
theorem sumL_same {α : Type} [DecidableEq α] {l m : List α} (hl : l.Nodup) (hm : m.Nodup) {p q : α → Bool} (h : ∀ x, (x ∈ l ∧ p x = true) ↔ (x ∈ m ∧ q x = true)) (c : Int) : sumL l (fun x => if p x = true then c else 0) = sumL m (fun x => if q x = true then c else 0) := by
  rw [sumL_if, sumL_if]
  have := (nodup_perm (hl.filter _) (hm.filter _) (fun x => by rw [List.mem_filter, List.mem_filter]; exact h x) : (l.filter p).Perm (m.filter q)).length_eq
  rw [this]
def keyW (h : List Nat) : List Key := h.map fun (n : Nat) => Sum.inl (n : Int)
theorem keyW_hv (h : List Nat) : (keyW h).map kV = hv h := by
  unfold keyW hv
  rw [List.map_map]
  rfl
theorem keyW_inj : ∀ {a b : List Nat}, keyW a = keyW b → a = b
  | [], [], _ => rfl
  | [], _ :: _, e => by simp [keyW] at e
  | _ :: _, [], e => by simp [keyW] at e
  | x :: a, y :: b, e => by
    simp only [keyW, List.map_cons, List.cons.injEq, Sum.inl.injEq] at e
    rw [keyW_inj (a := a) (b := b) e.2, show x = y by omega]
theorem keyW_ints (h : List Nat) : ∃ ns : List Int, keyW h = ns.map Sum.inl := ⟨h.map fun (n : Nat) => (n : Int), by unfold keyW; rw [List.map_map]; rfl⟩
theorem V_ints_inj : ∀ {a b : List Int}, a.map V.int = b.map V.int → a = b
  | [], [], _ => rfl
  | [], _ :: _, e => by simp at e
  | _ :: _, [], e => by simp at e
  | x :: a, y :: b, e => by
    simp only [List.map_cons, List.cons.injEq, V.int.injEq] at e
    rw [V_ints_inj e.2, e.1]
def kvC (L : List (List Nat × Int)) : List (List Key × V) := L.map fun x => (keyW x.1, V.int x.2)
def getC (L : List (List Nat × Int)) (h : List Nat) : Option Int := (L.find? fun x => decide (x.1 = h)).map (·.2)
theorem getC_nil (h : List Nat) : getC [] h = none := rfl
theorem getC_cons (x : List Nat × Int) (L : List (List Nat × Int)) (h : List Nat) : getC (x :: L) h = if x.1 = h then some x.2 else getC L h := by
  unfold getC
  rw [List.find?_cons]
  by_cases e : x.1 = h
  · rw [if_pos e, decide_eq_true e]
    rfl
  · rw [if_neg e, decide_eq_false e]
theorem valC (h : List Nat) : ∀ L : List (List Nat × Int), valV (kvC L) (keyW h) = (getC L h).map V.int
  | [] => rfl
  | x :: L => by
    show valV ((keyW x.1, V.int x.2) :: kvC L) (keyW h) = _
    rw [getC_cons]
    by_cases e : x.1 = h
    · rw [if_pos e, valV_pos (by rw [e])]
      rfl
    · rw [if_neg e, valV_neg (fun z => e (keyW_inj z)), valC h L]
theorem getC_some {h : List Nat} {v : Int} : ∀ {L : List (List Nat × Int)}, getC L h = some v → (h, v) ∈ L
  | [], e => by cases e
  | x :: L, e => by
    rw [getC_cons] at e
    by_cases z : x.1 = h
    · rw [if_pos z] at e
      have := Option.some.inj e
      rw [← z, ← this]
      exact List.mem_cons_self ..
    · rw [if_neg z] at e
      exact List.mem_cons_of_mem _ (getC_some e)
theorem getC_none {h : List Nat} : ∀ {L : List (List Nat × Int)}, getC L h = none ↔ h ∉ L.map (·.1)
  | [] => ⟨fun _ z => absurd z (by simp), fun _ => rfl⟩
  | x :: L => by
    rw [getC_cons, List.map_cons, List.mem_cons]
    by_cases z : x.1 = h
    · rw [if_pos z]
      exact ⟨fun e => absurd e (by simp), fun e => absurd (Or.inl z.symm) e⟩
    · rw [if_neg z, getC_none]
      exact ⟨fun e y => y.elim (fun y => z y.symm) e, fun e y => e (.inr y)⟩
theorem getC_at {x : List Nat × Int} : ∀ {L : List (List Nat × Int)}, (L.map (·.1)).Nodup → x ∈ L → getC L x.1 = some x.2
  | [], _, h => absurd h (by simp)
  | y :: L, nd, h => by
    rw [List.map_cons, List.nodup_cons] at nd
    rw [getC_cons]
    rcases List.mem_cons.mp h with e | e
    · rw [if_pos (by rw [e]), e]
    · rw [if_neg (fun z => nd.1 (by rw [z]; exact List.mem_map.mpr ⟨x, e, rfl⟩))]
      exact getC_at nd.2 e
def addC (L : List (List Nat × Int)) (h : List Nat) (v : Int) : List (List Nat × Int) := if h ∈ L.map (·.1) then L.map (fun x => if x.1 = h then (x.1, x.2 + v) else x) else L ++ [(h, v)]
theorem addC_keys (L : List (List Nat × Int)) (h : List Nat) (v : Int) : (addC L h v).map (·.1) = if h ∈ L.map (·.1) then L.map (·.1) else L.map (·.1) ++ [h] := by
  unfold addC
  split
  · rw [List.map_map]
    refine List.map_congr_left fun x _ => ?_
    show (if x.1 = h then (x.1, x.2 + v) else x).1 = x.1
    split <;> rfl
  · rw [List.map_append]
    rfl
theorem addC_nodup {L : List (List Nat × Int)} (nd : (L.map (·.1)).Nodup) (h : List Nat) (v : Int) : ((addC L h v).map (·.1)).Nodup := by
  rw [addC_keys]
  split
  · exact nd
  · rename_i z
    refine List.nodup_append.mpr ⟨nd, by simp, fun a ha b hb e => z ?_⟩
    rw [← List.mem_singleton.mp hb, ← e]
    exact ha
theorem addC_mem (L : List (List Nat × Int)) (h : List Nat) (v : Int) (A : List Nat) : A ∈ (addC L h v).map (·.1) ↔ (A ∈ L.map (·.1) ∨ A = h) := by
  rw [addC_keys]
  split
  · rename_i z
    exact ⟨.inl, fun e => e.elim id fun e => by rw [e]; exact z⟩
  · rw [List.mem_append, List.mem_singleton]
theorem addC_len (L : List (List Nat × Int)) (h : List Nat) (v : Int) : (addC L h v).length ≤ L.length + 1 := by
  have := congrArg List.length (addC_keys L h v)
  rw [List.length_map] at this
  split at this
  · rw [List.length_map] at this
    omega
  · rw [List.length_append, List.length_map] at this
    have h1 : [h].length = 1 := rfl
    omega
theorem putC {L : List (List Nat × Int)} (nd : (L.map (·.1)).Nodup) (h : List Nat) (v : Int) : putK (kvC L) (keyW h) (V.int ((getC L h).getD 0 + v)) = kvC (addC L h v) := by
  by_cases z : h ∈ L.map (·.1)
  · have e : addC L h v = L.map (fun x => if x.1 = h then (x.1, x.2 + v) else x) := if_pos z
    have any : ((kvC L).any fun kv => decide (kv.1 = keyW h)) = true := by
      rw [valV_any, valC]
      cases g : getC L h with
      | none => exact absurd z (getC_none.mp g)
      | some y => rfl
    unfold putK
    rw [if_pos any, e]
    unfold kvC
    rw [List.map_map, List.map_map]
    refine List.map_congr_left fun x hx => ?_
    show (if (keyW x.1, V.int x.2).1 = keyW h then ((keyW x.1, V.int x.2).1, _) else (keyW x.1, V.int x.2)) = (keyW (if x.1 = h then (x.1, x.2 + v) else x).1, V.int (if x.1 = h then (x.1, x.2 + v) else x).2)
    by_cases c : x.1 = h
    · rw [if_pos c, if_pos (by show keyW x.1 = keyW h; rw [c]), ← c, getC_at nd hx]
      rfl
    · rw [if_neg c, if_neg (fun y => c (keyW_inj y))]
  · have g : getC L h = none := getC_none.mpr z
    have e : addC L h v = L ++ [(h, v)] := if_neg z
    rw [putK_new _ (by rw [valC, g]; rfl), e, g]
    unfold kvC
    rw [List.map_append]
    show _ = _ ++ [(keyW h, V.int v)]
    rw [show (Option.getD (none : Option Int) 0) + v = v from Int.zero_add v]
def wsum (L : List (List Nat × Int)) (g : List Nat → Int) : Int := sumL L fun x => x.2 * g x.1
theorem wsum_add (g : List Nat → Int) (h : List Nat) (v : Int) : ∀ {L : List (List Nat × Int)}, (L.map (·.1)).Nodup → wsum (addC L h v) g = wsum L g + v * g h := by
  intro L nd
  by_cases z : h ∈ L.map (·.1)
  · have e : addC L h v = L.map (fun x => if x.1 = h then (x.1, x.2 + v) else x) := if_pos z
    rw [e]
    unfold wsum
    rw [sumL_map]
    have go : ∀ M : List (List Nat × Int), (M.map (·.1)).Nodup → sumL M (fun x => (if x.1 = h then (x.1, x.2 + v) else x).2 * g (if x.1 = h then (x.1, x.2 + v) else x).1) = sumL M (fun x => x.2 * g x.1) + (if h ∈ M.map (·.1) then v * g h else 0) := fun M => by
      induction M with
      | nil => intro _; rfl
      | cons y r ih =>
        intro nd
        rw [List.map_cons, List.nodup_cons] at nd
        rw [sumL_cons, sumL_cons, ih nd.2, List.map_cons]
        by_cases e : y.1 = h
        · have no : h ∉ r.map (·.1) := by rw [← e]; exact nd.1
          rw [if_pos e, if_neg no, if_pos (by rw [e]; exact List.mem_cons_self ..)]
          show (y.2 + v) * g y.1 + _ = _
          rw [Int.add_mul, e]
          omega
        · rw [if_neg e]
          by_cases m : h ∈ r.map (·.1)
          · rw [if_pos m, if_pos (List.mem_cons_of_mem _ m)]
            omega
          · rw [if_neg m, if_neg (fun q => (List.mem_cons.mp q).elim (fun q => e q.symm) m)]
            omega
    rw [go L nd, if_pos z]
  · have e : addC L h v = L ++ [(h, v)] := if_neg z
    rw [e]
    unfold wsum
    rw [sumL_app, sumL_cons, sumL_nil, Int.add_zero]
def ind (A h : List Nat) : Int := if h = A then 1 else 0
theorem wsum_ind (A : List Nat) : ∀ {L : List (List Nat × Int)}, (L.map (·.1)).Nodup → wsum L (ind A) = (getC L A).getD 0
  | [], _ => rfl
  | x :: L, nd => by
    rw [List.map_cons, List.nodup_cons] at nd
    unfold wsum
    rw [sumL_cons, getC_cons]
    have ih := wsum_ind A nd.2
    unfold wsum at ih
    rw [ih]
    unfold ind
    by_cases e : x.1 = A
    · rw [if_pos e, if_pos e, getC_none.mpr (by rw [← e]; exact nd.1)]
      show x.2 * 1 + 0 = x.2
      omega
    · rw [if_neg e, if_neg e]
      omega
theorem mul_ite (v : Int) (p : Prop) [Decidable p] : v * (if p then 1 else 0) = if p then v else 0 := by
  split
  · omega
  · omega
theorem nodup_le {α : Type} [DecidableEq α] : ∀ {l m : List α}, l.Nodup → (∀ x ∈ l, x ∈ m) → l.length ≤ m.length
  | [], _, _, _ => Nat.zero_le _
  | x :: l, m, nd, h => by
    obtain ⟨n1, n2⟩ := List.nodup_cons.mp nd
    have hx := h x (List.mem_cons_self ..)
    have := nodup_le (m := m.erase x) n2 fun y hy => (List.mem_erase_of_ne (fun e => n1 (by rw [← e]; exact hy))).mpr (h y (List.mem_cons_of_mem _ hy))
    rw [List.length_erase_of_mem hx] at this
    have := List.length_pos_of_mem hx
    rw [List.length_cons]
    omega
theorem big6 {n : Nat} (h : n ≤ 12000000) : n < sizeLine := by
  rw [sizeLine_eq]
  omega
theorem keep_lock {d : Addr} {H : Hp} {u : HO} : Keep d H (upd H d u) := fun b _ n q => (upd_ne n).trans q
theorem paired_perm {α β : Type} {R : α → β → Prop} {m m' : List β} (h : m'.Perm m) : ∀ {l : List α}, Paired R l m → ∃ l', l'.Perm l ∧ Paired R l' m' := by
  induction h with
  | nil => exact fun {l} p => ⟨l, List.Perm.refl _, p⟩
  | @cons x a b hab ih =>
    intro l p
    cases p with
    | @cons y _ l2 _ r t =>
      obtain ⟨l', h1, h2⟩ := ih t
      exact ⟨y :: l', h1.cons y, .cons r h2⟩
  | swap x y a =>
    intro l p
    cases p with
    | @cons u _ l2 _ r t =>
      cases t with
      | @cons v _ l3 _ r2 t2 => exact ⟨v :: u :: l3, List.Perm.swap _ _ _, .cons r2 (.cons r t2)⟩
  | trans _ _ i1 i2 =>
    intro l p
    obtain ⟨l1, h1, p1⟩ := i2 p
    obtain ⟨l2, h2, p2⟩ := i1 p1
    exact ⟨l2, h2.trans h1, p2⟩
theorem gl_ord {n s q : Int} {k : Nat} (hn : 2 ≤ n) (hs : 1 ≤ s) (ho : K1M.ord n.toNat s.natAbs = k) (hk : 2 ≤ k) : (∀ z : Int, ¬ (z * s - q) % n = 0) ∨ ∃ q', 0 ≤ q' ∧ q' < (k : Int) ∧ ∀ z : Int, (z * s - q) % n = 0 ↔ (z - q') % (k : Int) = 0 := by
  have dv : ∀ w : Int, n ∣ w * s ↔ (k : Int) ∣ w := fun w => by
    have h := K1M.dvd_iff (n := n.toNat) (s := s.natAbs) (i := w.natAbs) (by omega)
    have e : n.toNat / Nat.gcd n.toNat s.natAbs = k := ho
    rw [e] at h
    rw [← Int.natAbs_dvd_natAbs, Int.natAbs_mul, show n.natAbs = n.toNat by omega, ← Int.natAbs_dvd_natAbs, Int.natAbs_natCast, ← h]
    exact ⟨Nat.mod_eq_zero_of_dvd, Nat.dvd_of_mod_eq_zero⟩
  by_cases ex : ∃ z : Int, (z * s - q) % n = 0
  · obtain ⟨z0, h0⟩ := ex
    refine .inr ⟨z0 % (k : Int), Int.emod_nonneg _ (by omega), Int.emod_lt_of_pos _ (by omega), fun z => ?_⟩
    have d0 := Int.dvd_of_emod_eq_zero h0
    have e1 : (z * s - q) % n = 0 ↔ n ∣ (z - z0) * s := by
      constructor
      · intro h
        have := Int.dvd_sub (Int.dvd_of_emod_eq_zero h) d0
        rw [show z * s - q - (z0 * s - q) = (z - z0) * s by rw [Int.sub_mul]; omega] at this
        exact this
      · intro h
        have := Int.dvd_add h d0
        rw [show (z - z0) * s + (z0 * s - q) = z * s - q by rw [Int.sub_mul]; omega] at this
        exact Int.emod_eq_zero_of_dvd this
    rw [e1, dv]
    have e2 : z - z0 % (k : Int) = (z - z0) + (k : Int) * (z0 / k) := by
      have := Int.emod_add_mul_ediv z0 (k : Int)
      omega
    rw [e2, Int.add_mul_emod_self_left]
    exact ⟨Int.emod_eq_zero_of_dvd, Int.dvd_of_emod_eq_zero⟩
  · exact .inl fun z h => ex ⟨z, h⟩
theorem grow_none {h : List Nat} {g : Nat → Bool} (n : ∀ c, g c = false) : grow h g = h := by
  have e : g = fun _ => false := funext n
  subst e
  unfold grow
  rw [if_neg (show ¬ false = true by decide), List.append_nil]
  exact range_hAt h
theorem take_snoc1 {α : Type} {l : List α} {i : Nat} {x : α} (h : l[i]? = some x) : l.take (i + 1) = l.take i ++ [x] := by
  rw [List.take_add_one, h]
  rfl
theorem int_inv {ns : List Int} {i : Nat} {x : V} (h : (ns.map V.int)[i]? = some x) : i < ns.length ∧ ∃ n, ns[i]? = some n ∧ x = V.int n := by
  rw [List.getElem?_map] at h
  obtain ⟨n, hn, rfl⟩ := Option.map_eq_some_iff.mp h
  exact ⟨(List.getElem?_eq_some_iff.mp hn).1, n, hn, rfl⟩
end
end K1

set_option exponentiation.threshold 400
namespace K1
open PySem PySem.Spec PyProof.Rows L2 Evl HM LX ZW TE
/-! heaps cut to a box, counted over all places -/
def cutH (c r : Nat) (h : List Nat) : List Nat := ((h.take c).filter fun x => decide (0 < min x r)).map fun x => min x r
theorem cut_zero (c : Nat) (h : List Nat) : cutH c 0 h = [] := by
  unfold cutH
  rw [List.filter_eq_nil_iff.mpr fun x _ => by simp]
  rfl
theorem cut_pos {c r : Nat} (hr : 0 < r) {h : List Nat} (IH : IsHeap h) : cutH c r h = (h.take c).map fun x => min x r := by
  unfold cutH
  rw [List.filter_eq_self.mpr fun x hx => ?_]
  have hm := List.mem_of_mem_take hx
  obtain ⟨j, hj, e⟩ := List.getElem_of_mem hm
  have := IH.pos j hj
  unfold hAt at this
  rw [List.getD_eq_getElem?_getD, List.getElem?_eq_getElem hj, Option.getD_some, e] at this
  exact decide_eq_true (by omega)
theorem cut_len (c r : Nat) (h : List Nat) : (cutH c r h).length ≤ c := by
  unfold cutH
  rw [List.length_map]
  refine Nat.le_trans (List.length_filter_le _ _) ?_
  rw [List.length_take]
  omega
theorem hAt_cut {c r : Nat} {h : List Nat} (IH : IsHeap h) (j : Nat) : hAt (cutH c r h) j = if j < c then min (hAt h j) r else 0 := by
  by_cases hr : 0 < r
  · rw [cut_pos hr IH]
    unfold hAt
    rw [List.getD_eq_getElem?_getD, List.getElem?_map, List.getElem?_take, List.getD_eq_getElem?_getD]
    by_cases hj : j < c
    · rw [if_pos hj, if_pos hj]
      cases h[j]? with
      | none => simp
      | some x => rfl
    · rw [if_neg hj, if_neg hj]
      rfl
  · have : r = 0 := by omega
    subst this
    rw [cut_zero, hAt_ge (Nat.zero_le _)]
    split <;> omega
theorem cut_heap {c r : Nat} {h : List Nat} (IH : IsHeap h) : IsHeap (cutH c r h) := by
  refine ⟨fun j hj => ?_, fun j => ?_⟩
  · have hm : (cutH c r h)[j] ∈ cutH c r h := List.getElem_mem hj
    have e : hAt (cutH c r h) j = (cutH c r h)[j] := by
      unfold hAt
      rw [List.getD_eq_getElem?_getD, List.getElem?_eq_getElem hj, Option.getD_some]
    rw [e]
    generalize (cutH c r h)[j] = y at hm
    unfold cutH at hm
    obtain ⟨x, hx, rfl⟩ := List.mem_map.mp hm
    exact of_decide_eq_true (List.mem_filter.mp hx).2
  · rw [hAt_cut IH, hAt_cut IH]
    have := IH.fall j
    split <;> split <;> omega
structure Bx (c r : Nat) (h : List Nat) : Prop where
  heap : IsHeap h
  len : h.length ≤ c
  top : hAt h 0 ≤ r
theorem Bx.le {c r : Nat} {h : List Nat} (B : Bx c r h) (j : Nat) : hAt h j ≤ r := Nat.le_trans (B.heap.le (Nat.zero_le j)) B.top
theorem cut_bx {c r : Nat} {h : List Nat} (IH : IsHeap h) : Bx c r (cutH c r h) := ⟨cut_heap IH, cut_len _ _ _, by rw [hAt_cut IH]; split <;> omega⟩
theorem cut_id {c r : Nat} {h : List Nat} (B : Bx c r h) : cutH c r h = h := by
  refine heap_ext (cut_heap B.heap) B.heap fun j => ?_
  rw [hAt_cut B.heap]
  have := B.le j
  by_cases hj : j < c
  · rw [if_pos hj]
    omega
  · rw [if_neg hj, hAt_ge (by have := B.len; omega)]
/-- growing behind the cut -/
theorem gl_cut {c r : Nat} {h : List Nat} (IH : IsHeap h) (n s q : Int) {j : Nat} (hj : j < c) (hr : hAt h j < r) : gl (cutH c r h) n s q j = gl h n s q j := by
  have e : hAt (cutH c r h) j = hAt h j := by
    rw [hAt_cut IH, if_pos hj]
    omega
  unfold gl
  have d : dg (cutH c r h) j = dg h j := by
    unfold dg
    rw [e]
  rw [d]
  congr 1
  unfold opn
  congr 1
  refine decide_eq_decide.mpr ?_
  rw [e, hAt_cut IH, if_pos (by omega)]
  omega
theorem cut_grow {c r : Nat} {h : List Nat} (IH : IsHeap h) (n s q : Int) : cutH c r (grow h (gl h n s q)) = cutH c r (grow (cutH c r h) (gl (cutH c r h) n s q)) := by
  have IC := cut_heap (c := c) (r := r) IH
  have I1 := grow_heap IH (gl_opn (h := h) (n := n) (s := s) (q := q))
  have I2 := grow_heap IC (gl_opn (h := cutH c r h) (n := n) (s := s) (q := q))
  refine heap_ext (cut_heap I1) (cut_heap I2) fun j => ?_
  rw [hAt_cut I1, hAt_cut I2, hAt_grow gl_opn, hAt_grow gl_opn]
  by_cases hj : j < c
  · rw [if_pos hj, if_pos hj]
    by_cases hr : hAt h j < r
    · rw [gl_cut IH n s q hj hr, hAt_cut IH, if_pos hj]
      congr 1
      omega
    · rw [hAt_cut IH, if_pos hj]
      omega
  · rw [if_neg hj, if_neg hj]
/-- growing within a box, by a rest -/
def gb (c r : Nat) (h : List Nat) (n s q : Int) (j : Nat) : Bool := gl h n s q j && (decide (j < c) && decide (hAt h j < r))
def gbq (c r : Nat) (h : List Nat) (k q : Int) (j : Nat) : Bool := opn h j && decide (dg h j % k = q) && (decide (j < c) && decide (hAt h j < r))
theorem gb_opn {c r : Nat} {h : List Nat} {n s q : Int} (j : Nat) (z : gb c r h n s q j = true) : opn h j = true := gl_opn j (Bool.and_eq_true_iff.mp z).1
theorem gbq_opn {c r : Nat} {h : List Nat} {k q : Int} (j : Nat) (z : gbq c r h k q j = true) : opn h j = true := (Bool.and_eq_true_iff.mp (Bool.and_eq_true_iff.mp z).1).1
theorem cut_gb {c r : Nat} {h : List Nat} (B : Bx c r h) (n s q : Int) : cutH c r (grow h (gl h n s q)) = grow h (gb c r h n s q) := by
  have I1 := grow_heap B.heap (gl_opn (h := h) (n := n) (s := s) (q := q))
  have I2 := grow_heap B.heap (gb_opn (c := c) (r := r) (h := h) (n := n) (s := s) (q := q))
  refine heap_ext (cut_heap I1) I2 fun j => ?_
  rw [hAt_cut I1, hAt_grow gl_opn, hAt_grow gb_opn]
  have l := B.le j
  by_cases hj : j < c
  · rw [if_pos hj]
    unfold gb
    rw [decide_eq_true hj, Bool.true_and]
    by_cases hr : hAt h j < r
    · rw [decide_eq_true hr, Bool.and_true]
      have := b2n_le (gl h n s q j)
      omega
    · rw [decide_eq_false hr, Bool.and_false]
      show min _ r = hAt h j + 0
      omega
  · rw [if_neg hj, hAt_ge (show h.length ≤ j by have := B.len; omega)]
    unfold gb
    rw [decide_eq_false hj, Bool.false_and, Bool.and_false]
    rfl
theorem sumL_split {α : Type} (p : α → Bool) (f : α → Int) (c : Int) : ∀ l : List α, (∀ x ∈ l, p x = false → f x = c) → sumL l f = sumL (l.filter p) f + ((l.length : Int) - ((l.filter p).length : Int)) * c
  | [], _ => by simp [sumL_nil]
  | x :: l, h => by
    have ih := sumL_split p f c l fun y hy => h y (List.mem_cons_of_mem _ hy)
    rw [sumL_cons, ih, List.filter_cons]
    cases e : p x with
    | true =>
      rw [if_pos rfl, sumL_cons, List.length_cons, List.length_cons]
      rw [show ((l.length + 1 : Nat) : Int) - (((l.filter p).length + 1 : Nat) : Int) = (l.length : Int) - ((l.filter p).length : Int) by omega]
      omega
    | false =>
      rw [if_neg (by decide), h x (List.mem_cons_self ..) e, List.length_cons]
      rw [show ((l.length + 1 : Nat) : Int) - ((l.filter p).length : Int) = (l.length : Int) - ((l.filter p).length : Int) + 1 by omega, Int.add_mul, Int.one_mul]
      omega
theorem emod_sub_iff {a b k : Int} (hk : 0 < k) (b0 : 0 ≤ b) (b1 : b < k) : (a - b) % k = 0 ↔ a % k = b := by
  have := Int.emod_emod_of_dvd a (Int.dvd_refl k)
  constructor
  · intro h
    have := Int.emod_eq_emod_iff_emod_sub_eq_zero.mpr h
    rw [this, Int.emod_eq_of_lt b0 b1]
  · intro h
    refine Int.emod_eq_emod_iff_emod_sub_eq_zero.mp ?_
    rw [h, Int.emod_eq_of_lt b0 b1]
/-- THE COUNT: all places of a ring, told by the rests -/
theorem sum_places {c r : Nat} {h : List Nat} (B : Bx c r h) {n s : Int} {k : Nat} (hn : 2 ≤ n) (hs : 1 ≤ s) (ho : K1M.ord n.toNat s.natAbs = k) (hk : 2 ≤ k) {L : List Int} (nd : L.Nodup) (mem : ∀ q, q ∈ L ↔ ∃ j, gbq c r h (k : Int) q j = true) (F : List Nat → Int) :
    sumL (List.range n.toNat) (fun p => F (grow h (gb c r h n s (p : Int)))) = sumL L (fun q => F (grow h (gbq c r h (k : Int) q))) + (n - (L.length : Int)) * F h := by
  let pr : Nat → Bool := fun p => (List.range c).any fun j => gb c r h n s (p : Int) j
  have pr_iff : ∀ p, pr p = true ↔ ∃ j, gb c r h n s (p : Int) j = true := fun p => by
    show (List.range c).any _ = true ↔ _
    rw [List.any_eq_true]
    constructor
    · rintro ⟨j, _, z⟩
      exact ⟨j, z⟩
    · rintro ⟨j, z⟩
      refine ⟨j, List.mem_range.mpr ?_, z⟩
      exact of_decide_eq_true (Bool.and_eq_true_iff.mp (Bool.and_eq_true_iff.mp z).2).1
  -- a place with some growth: its rest
  have one : ∀ p : Nat, pr p = true → ∃ q : Int, (∀ j, gb c r h n s (p : Int) j = gbq c r h (k : Int) q j) ∧ (∃ j, gbq c r h (k : Int) q j = true) ∧ ∀ z : Int, (z * s - (p : Int)) % n = 0 ↔ z % (k : Int) = q := fun p hp => by
    obtain ⟨j, hj⟩ := (pr_iff p).mp hp
    have hl := of_decide_eq_true (Bool.and_eq_true_iff.mp (Bool.and_eq_true_iff.mp hj).1).2
    rcases gl_ord (q := (p : Int)) hn hs ho hk with m | ⟨q', h0, h1, m⟩
    · exact absurd hl (m _)
    · have m2 : ∀ z : Int, (z * s - (p : Int)) % n = 0 ↔ z % (k : Int) = q' := fun z => (m z).trans (emod_sub_iff (by omega) h0 h1)
      have e : ∀ j, gb c r h n s (p : Int) j = gbq c r h (k : Int) q' j := fun j => by
        unfold gb gbq gl
        rw [decide_eq_decide.mpr (m2 (dg h j))]
      exact ⟨q', e, ⟨j, by rw [← e]; exact hj⟩, m2⟩
  let f : Nat → Int := fun p => if hp : pr p = true then (one p hp).choose else 0
  have fs : ∀ p, pr p = true → (∀ j, gb c r h n s (p : Int) j = gbq c r h (k : Int) (f p) j) ∧ (∃ j, gbq c r h (k : Int) (f p) j = true) ∧ ∀ z : Int, (z * s - (p : Int)) % n = 0 ↔ z % (k : Int) = f p := fun p hp => by
    show (∀ j, gb c r h n s (p : Int) j = gbq c r h (k : Int) (if hp : pr p = true then (one p hp).choose else 0) j) ∧ (∃ j, gbq c r h (k : Int) (if hp : pr p = true then (one p hp).choose else 0) j = true) ∧ ∀ z : Int, (z * s - (p : Int)) % n = 0 ↔ z % (k : Int) = (if hp : pr p = true then (one p hp).choose else 0)
    rw [dif_pos hp]
    exact (one p hp).choose_spec
  have perm : (((List.range n.toNat).filter pr).map f).Perm L := by
    refine nodup_perm ?_ nd fun q => ?_
    · refine List.pairwise_map.mpr (List.Pairwise.imp_of_mem (fun {a b} ha hb ne e => ne ?_) (List.nodup_range.filter pr))
      obtain ⟨a1, a2⟩ := List.mem_filter.mp ha
      obtain ⟨b1, b2⟩ := List.mem_filter.mp hb
      have a1 := List.mem_range.mp a1
      have b1 := List.mem_range.mp b1
      obtain ⟨_, ⟨j, hj⟩, ma⟩ := fs a a2
      obtain ⟨_, _, mb⟩ := fs b b2
      have dj : dg h j % (k : Int) = f a := of_decide_eq_true (Bool.and_eq_true_iff.mp (Bool.and_eq_true_iff.mp hj).1).2
      have z1 := (ma _).mpr dj
      have z2 := (mb _).mpr (dj.trans e)
      have d1 := Int.dvd_of_emod_eq_zero z1
      have d2 := Int.dvd_of_emod_eq_zero z2
      have d3 := Int.dvd_sub d2 d1
      rw [show dg h j * s - (b : Int) - (dg h j * s - (a : Int)) = (a : Int) - (b : Int) by omega] at d3
      have d4 := Int.emod_eq_emod_iff_emod_sub_eq_zero.mpr (Int.emod_eq_zero_of_dvd d3)
      rw [Int.emod_eq_of_lt (by omega) (by omega), Int.emod_eq_of_lt (by omega) (by omega)] at d4
      omega
    · rw [mem, List.mem_map]
      constructor
      · rintro ⟨p, hp, rfl⟩
        exact (fs p (List.mem_filter.mp hp).2).2.1
      · rintro ⟨j, hj⟩
        have dj : dg h j % (k : Int) = q := of_decide_eq_true (Bool.and_eq_true_iff.mp (Bool.and_eq_true_iff.mp hj).1).2
        have p0 := Int.emod_nonneg (dg h j * s) (show n ≠ 0 by omega)
        have p1 := Int.emod_lt_of_pos (dg h j * s) (show 0 < n by omega)
        have pe : (((dg h j * s) % n).toNat : Int) = (dg h j * s) % n := Int.toNat_of_nonneg p0
        have hl : (dg h j * s - (((dg h j * s) % n).toNat : Int)) % n = 0 := by
          rw [pe]
          refine (emod_sub_iff (by omega) p0 p1).mpr rfl
        have hg : gb c r h n s (((dg h j * s) % n).toNat : Int) j = true := by
          have hj' := hj
          unfold gbq at hj'
          unfold gb gl
          rw [decide_eq_true hl]
          rw [decide_eq_true dj] at hj'
          exact hj'
        have hp := (pr_iff _).mpr ⟨j, hg⟩
        refine ⟨_, List.mem_filter.mpr ⟨List.mem_range.mpr (by omega), hp⟩, ?_⟩
        rw [← dj]
        exact (((fs _ hp).2.2 _).mp hl).symm
  have len := perm.length_eq
  rw [List.length_map] at len
  rw [sumL_split pr _ (F h) (List.range n.toNat) fun p _ hp => ?_, List.length_range, len, ← sumL_perm _ perm, sumL_map, Int.toNat_of_nonneg (show 0 ≤ n by omega)]
  · congr 1
    refine sumL_congr fun p hp => ?_
    have := (fs p (List.mem_filter.mp hp).2).1
    rw [show gb c r h n s (p : Int) = gbq c r h (k : Int) (f p) from funext this]
  · rw [grow_none fun j => ?_]
    cases z : gb c r h n s (p : Int) j with
    | false => rfl
    | true => rw [(pr_iff p).mpr ⟨j, z⟩] at hp; cases hp
end K1

namespace K1
open PySem PySem.Spec PyProof.Rows L2 Evl K1N
/-! ### written names -/
theorem eqv_pair (a b c d : Int) : PyData.eqv (.tuple [.int a, .int b]) (.tuple [.int c, .int d]) = (a == c && b == d) := by
  simp [PyData.eqv, PyData.eqvAll]
def PlaceAt (H : Hp) (x : V) (p : Int × Int) : Prop := ∃ t, x = .ref t ∧ H t = some (.tup [.int p.1, .int p.2])
theorem PlaceAt.ex {H H' : Hp} {x : V} {p : Int × Int} (e : Ex H H') (h : PlaceAt H x p) : PlaceAt H' x p := by
  obtain ⟨t, rfl, ht⟩ := h
  exact ⟨t, rfl, e _ _ ht⟩
theorem PlaceAt.updL {H : Hp} {x : V} {p : Int × Int} {D : Addr} {ys zs : List V} (hD : H D = some (.lst ys)) (h : PlaceAt H x p) : PlaceAt (upd H D (.lst zs)) x p := by
  obtain ⟨t, rfl, ht⟩ := h
  exact ⟨t, rfl, by rw [upd_ne (ne_of ht hD (by intro z; cases z))]; exact ht⟩
abbrev Places (H : Hp) (xs : List V) (ps : List (Int × Int)) : Prop := Paired (PlaceAt H) xs ps
theorem Places.ex {H H' : Hp} {xs : List V} {ps : List (Int × Int)} (e : Ex H H') (h : Places H xs ps) : Places H' xs ps := paired_imp (fun _ _ q => PlaceAt.ex e q) h
theorem Places.updL {H : Hp} {xs : List V} {ps : List (Int × Int)} {D : Addr} {ys zs : List V} (hD : H D = some (.lst ys)) (h : Places H xs ps) : Places (upd H D (.lst zs)) xs ps := paired_imp (fun _ _ q => PlaceAt.updL hD q) h
/-- what the rings of a chain are, by number -/
theorem rings_nth {H : Hp} {most : Int} {xs : List V} {rs : List (Int × Int)} (h : RingsAt H most xs rs) {j : Nat} (hj : j < rs.length) : ∃ x, xs[j]? = some x ∧ RingAt H most x (nAt rs j : Int) (sAt rs j) := by
  have hl := paired_len h
  have hx : xs[j]? = some (xs[j]'(by omega)) := List.getElem?_eq_getElem _
  obtain ⟨r, hr, q⟩ := paired_get h hx
  have e : rs.getD j (0, 0) = r := by rw [List.getD_eq_getElem?_getD, hr]; rfl
  obtain ⟨t, e1, e2, e3, e4, e5, e6⟩ := id q
  refine ⟨_, hx, ?_⟩
  unfold nAt sAt
  rw [e, show ((r.1.toNat : Nat) : Int) = r.1 by omega]
  exact q
theorem rings_ok {H : Hp} {most : Int} {xs : List V} {rs : List (Int × Int)} (h : RingsAt H most xs rs) (j : Nat) (hj : j < rs.length) : 1 ≤ sAt rs j ∧ sAt rs j < (nAt rs j : Int) := by
  obtain ⟨x, _, t, _, _, _, _, e5, e6⟩ := rings_nth h hj
  exact ⟨e5, e6⟩
theorem rings_n {H : Hp} {xs : List V} {rs : List (Int × Int)} (h : RingsAt H 60 xs rs) (j : Nat) : nAt rs j ≤ 60 := by
  by_cases hj : j < rs.length
  · obtain ⟨x, _, t, _, _, _, e4, _⟩ := rings_nth h hj
    omega
  · unfold nAt
    rw [List.getD_eq_getElem?_getD, List.getElem?_eq_none (by omega)]
    decide
theorem rings_chain {K : PySem.W.Frag} {H : Hp} {a : Addr} {xs : List V} {rs : List (Int × Int)} (h : RingsAt H 60 xs rs) (ha : H a = some (.tup xs)) (h1 : 1 ≤ xs.length) (h2 : xs.length ≤ 12) : ChainB K H (.ref a) true := by
  have p : ∀ {xs : List V} {rs : List (Int × Int)}, RingsAt H 60 xs rs → Paired (RingB K H) xs (List.replicate xs.length true) := by
    intro xs rs h
    induction h with
    | nil => exact .nil
    | cons r _ ih => exact .cons (RingAt.ring r (Int.le_refl _)) ih
  have q := ChainB.tup (K := K) ha ⟨h1, h2⟩ (p h)
  have e : (List.replicate xs.length true).all id = true := by simp
  rw [e] at q
  exact q
theorem pre_in (rs : List (Int × Int)) : ∀ (i : Nat) {p : Int × Int}, p ∈ pre rs i → 0 ≤ p.1 ∧ p.1 < (i : Int)
  | 0, p, h => by cases h
  | i + 1, p, h => by
    rcases List.mem_append.mp h with h | h
    · have := pre_in rs i h
      omega
    · unfold row at h
      obtain ⟨q, _, rfl⟩ := List.mem_map.mp h
      show 0 ≤ (i : Int) ∧ (i : Int) < ((i + 1 : Nat) : Int)
      omega
/-- the written name of a place -/
def wn (rs : List (Int × Int)) (p : Int × Int) : Int × Int := if own rs p then p else (p.1 - 1, 0)
section
variable {P : Program} {w : World} {K : PySem.W.Frag} {mg : Str → Option Value} {base : Heap}
def spWrittenName : Sp := fun vs H Q _ => ∃ (c : Addr) (xs : List V) (rs : List (Int × Int)) (x : V) (p : Int × Int), vs = [.ref c, x] ∧ H c = some (.tup xs) ∧ RingsAt H 60 xs rs ∧ PlaceAt H x p ∧ 0 ≤ p.1 ∧ p.1 < (rs.length : Int) ∧
  ∀ y H', Ex H H' → PlaceAt H' y (wn rs p) → Q y H'
def spNamesOf : Sp := fun vs H Q _ => ∃ (c : Addr) (xs : List V) (rs : List (Int × Int)), vs = [.ref c] ∧ H c = some (.tup xs) ∧ RingsAt H 60 xs rs ∧ xs.length ≤ 12 ∧ ∀ p ys H', Ex H H' → H p = none → H' p = some (.lst ys) → Places H' ys (names rs) → Q (.ref p) H'
def spPlacesOf : Sp := fun vs H Q _ => ∃ (c : Addr) (xs : List V) (rs : List (Int × Int)), vs = [.ref c] ∧ H c = some (.tup xs) ∧ RingsAt H 60 xs rs ∧ 1 ≤ xs.length ∧ xs.length ≤ 12 ∧ ∀ p ys H', Ex H H' → H' p = some (.tup ys) → Places H' ys (names rs) → Q (.ref p) H'
end
end K1

set_option exponentiation.threshold 400
namespace K1
open PySem PySem.Spec PyProof.Rows L2 Evl HM LX TE
section
variable {P : Program} {w : World} {K : PySem.W.Frag} {mg : Str → Option Value} {base : Heap}
def tupsL (rs : List (Int × Int)) : Nat → List (List Int)
  | 0 => [[]]
  | i + 1 => (tupsL rs i).flatMap fun one => (List.range (K1N.nAt rs i)).map fun (p : Nat) => one ++ [(p : Int)]
def prodL (rs : List (Int × Int)) : Nat → Nat
  | 0 => 1
  | i + 1 => prodL rs i * K1N.nAt rs i
theorem tups_mem (rs : List (Int × Int)) : ∀ (g : Nat) (ps : List Int), ps ∈ tupsL rs g ↔ ps.length = g ∧ PlOk rs ps
  | 0, ps => by
    show ps ∈ [[]] ↔ _
    rw [List.mem_singleton]
    constructor
    · rintro rfl
      exact ⟨rfl, fun j hj => absurd hj (Nat.not_lt_zero j)⟩
    · rintro ⟨h, _⟩
      exact List.length_eq_zero_iff.mp h
  | g + 1, ps => by
    show ps ∈ (tupsL rs g).flatMap _ ↔ _
    rw [List.mem_flatMap]
    constructor
    · rintro ⟨one, h1, h2⟩
      obtain ⟨p, hp, rfl⟩ := List.mem_map.mp h2
      have hp := List.mem_range.mp hp
      obtain ⟨a, b⟩ := (tups_mem rs g one).mp h1
      exact ⟨by rw [List.length_append, a]; rfl, b.snoc (by omega) (by rw [a]; omega)⟩
    · rintro ⟨a, b⟩
      have hn : ps ≠ [] := fun z => by subst z; cases a
      obtain ⟨u, v, rfl⟩ : ∃ u v, ps = u ++ [v] := ⟨ps.dropLast, ps.getLast hn, (List.dropLast_concat_getLast hn).symm⟩
      rw [List.length_append] at a
      have a' : u.length = g := by
        have : ([v] : List Int).length = 1 := rfl
        omega
      have bv := b u.length (by rw [List.length_append]; exact Nat.lt_succ_self _)
      rw [getD_snoc_eq] at bv
      refine ⟨u, (tups_mem rs g u).mpr ⟨a', fun j hj => ?_⟩, List.mem_map.mpr ⟨v.toNat, List.mem_range.mpr (by rw [a'] at bv; omega), by rw [show ((v.toNat : Nat) : Int) = v by omega]⟩⟩
      have := b j (by rw [List.length_append]; omega)
      rw [getD_snoc_lt hj] at this
      exact this
theorem flat_len {α β : Type} {f : α → List β} {n : Nat} : ∀ {l : List α}, (∀ x ∈ l, (f x).length = n) → (l.flatMap f).length = l.length * n
  | [], _ => by simp
  | x :: l, h => by
    rw [List.flatMap_cons, List.length_append, h x (List.mem_cons_self ..), flat_len fun y hy => h y (List.mem_cons_of_mem _ hy), List.length_cons, Nat.add_mul]
    omega
theorem tups_len (rs : List (Int × Int)) : ∀ g : Nat, (tupsL rs g).length = prodL rs g
  | 0 => rfl
  | g + 1 => by
    show ((tupsL rs g).flatMap _).length = _
    rw [flat_len (n := K1N.nAt rs g) (fun x _ => by rw [List.length_map, List.length_range]), tups_len rs g]
    rfl
theorem prod_mono {rs : List (Int × Int)} {g : Nat} (h : ∀ j, j < g → 1 ≤ K1N.nAt rs j) : ∀ d i, i + d = g → prodL rs i ≤ prodL rs g
  | 0, i, e => by rw [show i = g by omega]; exact Nat.le_refl _
  | d + 1, i, e => by
    refine Nat.le_trans ?_ (prod_mono h d (i + 1) (by omega))
    exact Nat.le_mul_of_pos_right _ (h i (by omega))
def spAllTups : Sp := fun vs H Q _ => ∃ (c : Addr) (xs : List V) (rs : List (Int × Int)), vs = [.ref c] ∧ H c = some (.tup xs) ∧ RingsAt H 60 xs rs ∧ xs.length ≤ 12 ∧ prodL rs xs.length ≤ 300 ∧
  ∀ (p : Addr) (M : List SO.Row) H', Ex H H' → H' p = some (.lst (SO.refR M)) → SO.RowsAt H' M → M.map (·.2) = tupsL rs xs.length → Q (.ref p) H'
def rowD (l : List Int) : PyData := .tuple (l.map PyData.int)
theorem dp_rows {K : PySem.W.Frag} {H : Hp} : ∀ {L : List SO.Row}, SO.RowsAt H L → DpAll K H (SO.refR L) ((L.map (·.2)).map rowD)
  | [], _ => .nil
  | x :: r, h => by
    have hx := h x (List.mem_cons_self ..)
    exact .cons (.tup (SqT.of hx) (dp_ints _)) (dp_rows fun u hu => h u (List.mem_cons_of_mem _ hu))
theorem rowD_all : ∀ l : List (List Int), PyData.canLayAll0 (l.map rowD) = true ∧ PyData.depthAll (l.map rowD) ≤ 61
  | [] => ⟨rfl, by decide⟩
  | h :: l => by
    obtain ⟨a, b⟩ := rowD_all l
    have := depth_ints h
    refine ⟨?_, ?_⟩
    · simp [PyData.canLayAll0, rowD, PyData.canLay0, can_ints, a]
    · simp only [List.map_cons, PyData.depthAll, rowD, PyData.depth]
      omega
theorem rowD_canL (l : List (List Int)) : (PyData.list (l.map rowD)).canLay0 = true := by simp [PyData.canLay0, (rowD_all l).1]
theorem rowD_shapedL (l : List (List Int)) : SeqAt.shaped (.list (l.map rowD)) = true := by
  unfold SeqAt.shaped
  have h2 : (PyData.list (l.map rowD)).depth ≤ 64 := by
    have := (rowD_all l).2
    simp only [PyData.depth]
    omega
  rw [rowD_canL, decide_eq_true h2]
  rfl
theorem eqRR {K : PySem.W.Frag} {H : Hp} {p q : Addr} {L M : List SO.Row} {Q : VK} (h1 : H p = some (.lst (SO.refR L))) (h2 : H q = some (.lst (SO.refR M))) (hL : SO.RowsAt H L) (hM : SO.RowsAt H M) (e : L.map (·.2) = M.map (·.2)) (k : Q (.bl true) H) : rEqD K (.ref p) (.ref q) H Q := by
  refine ⟨_, _, .lst (SqL.of h1) (dp_rows hL), .lst (SqL.of h2) (dp_rows hM), rowD_shapedL _, rowD_shapedL _, ?_⟩
  rw [e, SeqAt.eqv_refl _ (rowD_canL _)]
  exact k
theorem nAt_take {rs : List (Int × Int)} {i j : Nat} (h : j < i) : K1N.nAt (rs.take i) j = K1N.nAt rs j ∧ K1N.sAt (rs.take i) j = K1N.sAt rs j := by
  unfold K1N.nAt K1N.sAt
  rw [List.getD_eq_getElem?_getD, List.getD_eq_getElem?_getD, List.getElem?_take, if_pos h]
  exact ⟨rfl, rfl⟩
theorem prod_take {rs : List (Int × Int)} {i : Nat} : ∀ j, j ≤ i → prodL (rs.take i) j = prodL rs j
  | 0, _ => rfl
  | j + 1, h => by
    show prodL (rs.take i) j * K1N.nAt (rs.take i) j = _
    rw [prod_take j (by omega), (nAt_take (by omega)).1]
    rfl
theorem paired_take {α β : Type} {R : α → β → Prop} : ∀ {xs : List α} {ys : List β}, Paired R xs ys → ∀ i, Paired R (xs.take i) (ys.take i)
  | _, _, .nil, i => by rw [List.take_nil, List.take_nil]; exact .nil
  | _, _, .cons h r, 0 => .nil
  | _, _, .cons h r, i + 1 => .cons h (paired_take r i)
theorem cut_neg1V {xs : List V} (h : 1 ≤ xs.length) : cutV xs none (some (-1)) = xs.take (xs.length - 1) := by
  unfold cutV
  have e2 : HT.sIx xs.length xs.length (some (-1)) = xs.length - 1 := by
    show (if (-1 : Int) < 0 then ((-1 : Int) + (xs.length : Int)).toNat else min (-1 : Int).toNat xs.length) = _
    rw [if_pos (by decide)]
    omega
  rw [e2, HT.sIx_none, List.drop_zero, Nat.sub_zero]
theorem prod_bound {rs : List (Int × Int)} (h : ∀ j, K1N.nAt rs j ≤ 60) : ∀ i, prodL rs i ≤ 60 ^ i
  | 0 => Nat.le_refl _
  | i + 1 => Nat.mul_le_mul (prod_bound h i) (h i)
theorem pe_cut9 {X : Cx} {e : Expr} {t : TE} (h : PE X e t) : PE X e (fun σ H Q => ∃ Mid : VK, t σ H Mid ∧ ∀ v H', Mid v H' → Q v H') :=
  ⟨fun pins s σ H Q I ⟨Mid, h1, h2⟩ => wpAny_mono (h.run pins s σ H Mid I h1) (fun u s' ⟨v, H', a, b, c⟩ => ⟨v, H', a, b, h2 v H' c⟩) (fun _ _ e => e)⟩
end
end K1

/-! own rules: dict(d), dict(pairs), d == e of dicts whose keys are tuples -/
namespace DR
open PySem PySem.Spec PyProof.Rows L2
section
variable {prog : Program} {w : World} {K : Type} [DecidableEq K] {knd : HeapKind prog w K} {A : Around} {E : Value → Shared → Prop} {s : Shared}
/-- dict(d): keys that are tuples, told apart by their hashes -/
theorem call_dictH {o : Addr} {more : List (K × Addr × Value)} {Q : Value → Shared → Prop} (hu : knd.room A.in1.in1) (hoS : (o == sysModules) = false) (ho : s.heap.DictOfH knd o more) (hsz : more.length ≤ sizeLine)
    (hty : ∀ x ∈ more, s.TypeIs (.ref x.2.1) "tuple") (hap : (more.map fun x => knd.hash x.1).Nodup)
    (hst : ∀ h' : Heap, (∀ b u, s.heap.get? b = some u → h'.get? b = some u) → ∀ x ∈ more, knd.is h' x.1 x.2.1)
    (h : ∀ h', h'.DictOfH knd s.heap.objs.size more → (∀ b u, s.heap.get? b = some u → h'.get? b = some u) → Q (.ref s.heap.objs.size) { s with heap := h' }) :
    wpAny (model prog w) A (call (.type "dict") [.ref o]) Q E s := by
  refine callType_codes (Q₁ := fun obj s₁ => obj = .ref s.heap.objs.size ∧ s₁ = { s with heap := s.heap.push { cls := .type "dict", data := .dict #[] } }) F.kt_called_dict (F.kt_typeCall_dict_1 _) F.entry_dict_init (kt_code_dict_new _ ⟨rfl, rfl⟩) ?_
  rintro obj s₁ ⟨rfl, rfl⟩
  have hnew : (s.heap.push { cls := .type "dict", data := .dict #[] }).DictOfH knd s.heap.objs.size [] := Heap.DictOfH.new s.heap
  have kp : ∀ b u, s.heap.get? b = some u → (s.heap.push { cls := .type "dict", data := .dict #[] }).get? b = some u := fun b u e => Heap.get?_push_of_some _ e
  have ho' : (s.heap.push { cls := .type "dict", data := .dict #[] }).DictOfH knd o more := ho.at' (fun u e => kp o u e) (hst _ kp)
  have hn := ho.nodup
  have hdo : s.heap.objs.size ≠ o := fun e => absurd ho.lt_size (by rw [e]; exact Nat.lt_irrefl _)
  refine ⟨hnew.typeIs, F.args_dict_init_2 _ _, ?_⟩
  unfold Builtin.«dict.__init__»
  refine wpAny_bind ?_
  unfold Builtin.Dict.selfAndRest
  refine wpAny_bind (wpAny_notOrdered_dict hnew.typeIs ?_)
  show wpAny _ _ (pure (s.heap.objs.size, [Value.ref o])) _ _ _
  refine wpAny_pure ?_
  show wpAny _ _ (Builtin.Dict.updateFrom "dict.__init__" s.heap.objs.size (.ref o) [] .none) _ _ _
  refine updateFrom_dictH (A := A.in1) .none hu hdo hoS hnew ho' (.inr ⟨fun x hx => ?_, hap⟩) (by simpa using hsz) fun h' hd' _ hs' => ?_
  · obtain ⟨u, hu', hc⟩ := hty x hx
    exact ⟨u, kp _ _ hu', hc⟩
  · rw [storedAllH_nil_of_nodup more hn] at hd'
    exact ⟨rfl, h h' hd' fun b u e => (hs'.2 b (Nat.ne_of_lt (Heap.lt_size e))).trans (kp b u e)⟩
/-- the entries of one dict, all ints, beside the other's -/
def sameB (ka kb : List (K × Addr × Value)) : Bool := ka.all fun x => match atKey kb x.1 with
  | some p => (match x.2.2, p.2 with
    | .int i _, .int j _ => decide (i = j)
    | _, _ => false)
  | none => false
theorem sameB_cons (x : K × Addr × Value) (ka kb : List (K × Addr × Value)) : sameB (x :: ka) kb = (sameB [x] kb && sameB ka kb) := by
  unfold sameB
  rw [List.all_cons, List.all_cons, List.all_nil, Bool.and_true]
theorem sameB_nil (kb : List (K × Addr × Value)) : sameB [] kb = true := rfl
theorem samePairsH {nm : String} {a b : Addr} {ka kb : List (K × Addr × Value)} {Q : Bool → Shared → Prop} (hu : knd.room A) (ha : (a == sysModules) = false) (hb : (b == sysModules) = false)
    (da : s.heap.DictOfH knd a ka) (db : s.heap.DictOfH knd b kb) (ia : ∀ x ∈ ka, ∃ i t, x.2.2 = .int i t) (ib : ∀ x ∈ kb, ∃ i t, x.2.2 = .int i t) (h : Q (decide (ka.length = kb.length) && sameB ka kb) s) :
    wpAny (model prog w) A (Builtin.Dict.samePairs nm a b) Q E s := by
  obtain ⟨oa, es, ep, hoa, _, hda, hea, hisa, hna⟩ := da
  obtain ⟨ob, es', ep', hob, _, hdb, heb, hisb, hnb⟩ := db
  have hla : es.size = ka.length := size_of_entries hea
  have hlb : es'.size = kb.length := size_of_entries heb
  unfold Builtin.Dict.samePairs Builtin.Dict.showsAll
  rw [if_neg (show ¬ (a == sysModules) = true by rw [ha]; exact Bool.false_ne_true), if_neg (show ¬ (b == sysModules) = true by rw [hb]; exact Bool.false_ne_true)]
  refine wpAny_bind (wpAny_pure (wpAny_bind (wpAny_pure ?_)))
  refine wpAny_bind (wpAny_dictEntries hoa hda ?_)
  dsimp only
  refine wpAny_bind (wpAny_dictEntries hob hdb ?_)
  by_cases hsz : es.size = es'.size
  case neg =>
    rw [if_pos (by simpa using hsz)]
    rw [decide_eq_false (show ¬ ka.length = kb.length by omega), Bool.false_and] at h
    exact wpAny_bind (wpAny_rule (wpAny_pure h))
  case pos =>
    rw [decide_eq_true (show ka.length = kb.length by omega), Bool.true_and] at h
    rw [if_neg (by rw [hsz]; simp)]
    refine wpAny_bind (wpAny_dictEpoch hoa hda ?_)
    refine wpAny_bind ?_
    rw [Std.Legacy.Range.forIn_eq_forIn_range']
    simp only [Std.Legacy.Range.size, Nat.sub_zero, Nat.add_sub_cancel, Nat.div_one]
    refine wpAny_forIn_list _
      (fun rest q s' => s' = s ∧ q = (none, ()) ∧ ∃ i, rest = List.range' i (es.size - i) ∧ i ≤ es.size ∧ sameB ka kb = sameB (ka.drop i) kb)
      _ ?_ ?_ _ _ ⟨rfl, rfl, 0, by simp, Nat.zero_le _, rfl⟩
    · rintro x rest q s' ⟨rfl, rfl, i, hr, hi, hpre⟩
      have hlt : i < es.size := by
        rcases Nat.lt_or_ge i es.size with h | h
        · exact h
        · rw [Nat.sub_eq_zero_of_le h] at hr; simp at hr
      obtain ⟨rfl, hrest⟩ : x = i ∧ rest = List.range' (i + 1) (es.size - (i + 1)) := by
        have e : es.size - i = (es.size - (i + 1)) + 1 := by omega
        rw [e, List.range'_succ] at hr
        injection hr with h1 h2
        exact ⟨h1, h2⟩
      refine wpAny_bind (wpAny_dictEntries hoa hda ?_)
      have hlt' : x < ka.length := by omega
      obtain ⟨⟨k, c, v⟩, hkv⟩ : ∃ kv, ka[x]? = some kv := ⟨ka[x], List.getElem?_eq_getElem _⟩
      have hdrop : ka.drop x = (k, c, v) :: ka.drop (x + 1) := by
        rw [List.drop_eq_getElem_cons hlt']
        rw [List.getElem?_eq_getElem hlt'] at hkv
        rw [Option.some.inj hkv]
      have hmem := List.mem_of_getElem? hkv
      obtain ⟨i1, t1, hv1⟩ := ia _ hmem
      have hv1' : v = .int i1 t1 := hv1
      rw [hdrop, sameB_cons] at hpre
      rw [entry_at hea x, hkv]
      show wpAny _ _ (holding [.ref c, v] _ >>= _) _ _ _
      refine wpAny_bind (wpAny_holding (wpAny_bind (wpAny_dictFind_heap hu (hisa _ hmem) hob hdb heb hisb hnb (fun hno => ?_) (fun j p hj => ?_))))
      · have hn : sameB [(k, c, v)] kb = false := by
          unfold sameB
          rw [List.all_cons, atKey_none_of_get hno]
          rfl
        rw [hn, Bool.false_and] at hpre
        rw [hpre] at h
        refine wpAny_pure ?_
        show wpAny _ _ (if (!false) = true then _ else _) _ _ _
        rw [if_pos (by decide)]
        exact wpAny_pure (wpAny_pure h)
      · obtain ⟨i2, t2, hv2⟩ := ib _ (List.mem_of_getElem? hj)
        obtain ⟨pa, pv⟩ := p
        have hv2' : pv = .int i2 t2 := hv2
        refine wpAny_bind (wpAny_dictEntries hob hdb ?_)
        rw [entry_at heb j, hj]
        have hs1 : sameB [(k, c, v)] kb = (i1 == i2) := by
          unfold sameB
          rw [List.all_cons, List.all_nil, Bool.and_true, atKey_of_get hnb hj]
          subst hv1' hv2'
          rfl
        subst hv1' hv2'
        refine wpAny_holding (SeqAt.EqAt.int_int i1 t1 i2 t2 prog w _ _ ?_)
        rw [hs1] at hpre
        generalize (i1 == i2) = bb at hpre ⊢
        cases bb with
        | false =>
          rw [Bool.false_and] at hpre
          rw [hpre] at h
          show wpAny _ _ (if (!false) = true then _ else _) _ _ _
          rw [if_pos (by decide)]
          exact wpAny_pure (wpAny_pure h)
        | true =>
          rw [Bool.true_and] at hpre
          show wpAny _ _ (if (!true) = true then _ else _) _ _ _
          rw [if_neg (by decide)]
          refine wpAny_bind (wpAny_dictEpoch hoa hda ?_)
          rw [if_neg (by simp)]
          exact wpAny_pure ⟨rfl, rfl, x + 1, hrest, hlt, hpre⟩
    · rintro q s' ⟨rfl, rfl, i, hr, hi, hpre⟩
      have hin : i = es.size := by
        rcases Nat.lt_or_ge i es.size with h | h
        · have e : es.size - i = (es.size - (i + 1)) + 1 := by omega
          rw [e, List.range'_succ] at hr; exact nomatch hr
        · exact Nat.le_antisymm hi h
      refine wpAny_pure ?_
      rw [hin, hla, List.drop_length, sameB_nil] at hpre
      rw [hpre] at h
      exact h
end
end DR

namespace DR
open PySem PySem.Spec PyProof.Rows L2
/-! ### pairs of small ints have unlike hashes -/
def hh (i j : Int) : Int := reduceHash (Builtin.Tuple.tupleHashOf [hashInt i, hashInt j])
theorem hh_is (w : World) (P : Program) (i j : Int) : (tupleKind (mixKind P w)).hash [.inl i, .inl j] = hh i j := rfl
def rr (n : Nat) : Nat := (hh ((n / 60 : Nat) : Int) ((n % 60 : Nat) : Int) % 4187).toNat
def chk : List Nat → Nat → Bool
  | [], _ => true
  | x :: r, acc => !(acc.testBit x) && chk r (acc ||| (1 <<< x))
theorem chk_mem : ∀ (l : List Nat) (acc : Nat), chk l acc = true → l.Nodup ∧ ∀ x ∈ l, acc.testBit x = false
  | [], _, _ => ⟨List.nodup_nil, fun x h => absurd h (by simp)⟩
  | x :: r, acc, h => by
    unfold chk at h
    obtain ⟨h1, h2⟩ := Bool.and_eq_true_iff.mp h
    have h1' : acc.testBit x = false := by
      cases hb : acc.testBit x
      · rfl
      · rw [hb] at h1
        cases h1
    obtain ⟨n, hm⟩ := chk_mem r _ h2
    have bit : ∀ y ∈ r, acc.testBit y = false ∧ y ≠ x := fun y hy => by
      have t := hm y hy
      rw [Nat.testBit_or, Bool.or_eq_false_iff] at t
      refine ⟨t.1, fun e => ?_⟩
      have t2 := t.2
      rw [e, Nat.testBit_shiftLeft] at t2
      simp at t2
    refine ⟨List.nodup_cons.mpr ⟨fun hx => (bit x hx).2 rfl, n⟩, fun y hy => ?_⟩
    rcases List.mem_cons.mp hy with e | hy
    · rw [e]
      exact h1'
    · exact (bit y hy).1
theorem rr_chk : chk ((List.range 780).map rr) 0 = true := by decide +kernel
theorem rr_inj {a b : Nat} (ha : a < 780) (hb : b < 780) (h : rr a = rr b) : a = b := by
  have n := (chk_mem _ _ rr_chk).1
  have p := List.pairwise_iff_getElem.mp n
  rcases Nat.lt_trichotomy a b with l | e | l
  · exact absurd h (by
      have := p a b (by rw [List.length_map, List.length_range]; exact ha) (by rw [List.length_map, List.length_range]; exact hb) l
      simpa using this)
  · exact e
  · exact absurd h.symm (by
      have := p b a (by rw [List.length_map, List.length_range]; exact hb) (by rw [List.length_map, List.length_range]; exact ha) l
      simpa using this)
theorem hh_inj {i j i' j' : Nat} (h1 : i < 13) (h2 : j < 60) (h3 : i' < 13) (h4 : j' < 60) (h : hh i j = hh i' j') : i = i' ∧ j = j' := by
  have e : rr (60 * i + j) = rr (60 * i' + j') := by
    unfold rr
    rw [show (60 * i + j) / 60 = i by omega, show (60 * i + j) % 60 = j by omega, show (60 * i' + j') / 60 = i' by omega, show (60 * i' + j') % 60 = j' by omega, h]
  have := rr_inj (by omega) (by omega) e
  omega
/-- keys that are places -/
def SmallK (kvs : List (List Key × V)) : Prop := ∀ p ∈ kvs, ∃ i j : Nat, p.1 = [.inl (i : Int), .inl (j : Int)] ∧ i < 13 ∧ j < 60
theorem kt_keys {H : Hp} : ∀ {kvs : List (List Key × V)} {xs : List (List Key × Addr × Value)}, KT H kvs xs → xs.map (·.1) = kvs.map (·.1)
  | _, _, .nil => rfl
  | _ :: _, _ :: _, .cons r t => by rw [List.map_cons, List.map_cons, kt_keys t, r.1]
theorem kt_mem {H : Hp} : ∀ {kvs : List (List Key × V)} {xs : List (List Key × Addr × Value)}, KT H kvs xs → ∀ x ∈ xs, ∃ p ∈ kvs, p.1 = x.1 ∧ H x.2.1 = some (.tup (p.1.map kV)) ∧ RelV p.2 x.2.2
  | _, _, .nil, x, hx => absurd hx (by simp)
  | p :: _, y :: _, .cons r t, x, hx => by
    rcases List.mem_cons.mp hx with e | hx
    · subst e
      exact ⟨p, List.mem_cons_self, r⟩
    · obtain ⟨q, h1, h2⟩ := kt_mem t x hx
      exact ⟨q, List.mem_cons_of_mem _ h1, h2⟩
theorem hash_nodup {P : Program} {w : World} {H : Hp} {kvs : List (List Key × V)} {xs : List (List Key × Addr × Value)} (r : KT H kvs xs) (sm : SmallK kvs) (n : (xs.map (·.1)).Nodup) : (xs.map fun x => (tupleKind (mixKind P w)).hash x.1).Nodup := by
  have n' : xs.Pairwise fun a b => a.1 ≠ b.1 := List.pairwise_map.mp n
  refine List.pairwise_map.mpr (List.Pairwise.imp_of_mem (fun {a b} ha hb hne => ?_) n')
  obtain ⟨p, hp, ep, _⟩ := kt_mem r a ha
  obtain ⟨q, hq, eq, _⟩ := kt_mem r b hb
  obtain ⟨i, j, e1, i1, j1⟩ := sm p hp
  obtain ⟨i', j', e2, i2, j2⟩ := sm q hq
  intro e
  rw [← ep, ← eq, e1, e2, hh_is, hh_is] at e
  obtain ⟨z1, z2⟩ := hh_inj i1 j1 i2 j2 e
  apply hne
  rw [← ep, ← eq, e1, e2, z1, z2]
theorem is_keeps {P : Program} {w : World} {h h' : Heap} {k : List Key} {a : Addr} (x : (tupleKind (mixKind P w)).is h k a) (e : ∀ b u, h.get? b = some u → h'.get? b = some u) : (tupleKind (mixKind P w)).is h' k a := by
  obtain ⟨o, items, n, ho, r⟩ := (show IsTupleKey (mixKind P w) h k a from x)
  exact ⟨o, items, n, e _ _ ho, r⟩
section
variable {X : Cx}
/-- dict(d), a new dict with d's entries -/
def rDictCopyT : List V → Hp → VK → Prop := fun vs H Q => ∃ (d : Addr) (kvs : List (List Key × V)), vs = [V.ref d] ∧ Rd H d (.dT kvs) ∧ SmallK kvs ∧ ∀ p, H p = none → Q (.ref p) (upd H p (.dT kvs))
theorem kt_new {H : Hp} {p : Addr} {o : HO} {kvs : List (List Key × V)} {xs : List (List Key × Addr × Value)} (r : KT H kvs xs) (hn : H p = none) : KT (upd H p o) kvs xs := r.keeps fun c ys ec => by
  rw [upd_ne (ne_of_none ec hn)]
  exact ec
theorem cr_dictCopyT (hu : X.A.units + 64 < cLine) : CallR X (.type "dict") rDictCopyT := by
  intro pins s σ H vs us Q I r h
  obtain ⟨d, kvs, rfl, hd, sm, q⟩ := h
  obtain ⟨u, rfl, rx⟩ := r.one
  cases rx
  obtain ⟨z, lo, xs, rel, dd⟩ := dt_rd I.hok hd
  have l2 : kvs.length = xs.length := Paired.length rel
  have his := (id dd : s.heap.DictOfH (tupleKind (mixKind X.prog X.w)) d xs)
  obtain ⟨_, _, _, _, _, _, _, his, _⟩ := his
  have fr := I.hok.fresh (Nat.le_refl s.heap.objs.size)
  refine call_dictH (knd := tupleKind (mixKind X.prog X.w)) (show X.A.in1.in1.units < cLine by show X.A.units + 1 + 1 < cLine; omega) lo dd (by omega) (fun x hx => (show IsTupleKey (mixKind X.prog X.w) s.heap x.1 x.2.1 from his x hx).typeIs) (hash_nodup rel sm dd.nodup) (fun h' e x hx => is_keeps (his x hx) e) fun h' d' k => ?_
  obtain ⟨o', es', ep', ho', hc', hdt', he', _, hn'⟩ := d'
  refine ⟨.ref s.heap.objs.size, upd H s.heap.objs.size (.dT kvs), I.laid (t' := s.toks) k (Nat.le_refl _) ?_, rfl, q _ fr⟩
  exact ⟨z, beq_eq_false_iff_ne.mpr (Nat.ne_of_gt I.big), xs, kt_new rel fr, o', es', ep', ho', hc', hdt', he', hn'⟩
/-- what a dict's entries, all ints, say beside another's -/
def sameT (ks ls : List (List Key × V)) : Bool := decide (ks.length = ls.length) && ks.all fun p => decide (valV ls p.1 = some p.2)
def IntsT (ks : List (List Key × V)) : Prop := ∀ p ∈ ks, ∃ i : Int, p.2 = .int i
theorem sameB_is {H : Hp} {ks ls : List (List Key × V)} {xs ys : List (List Key × Addr × Value)} (ra : KT H ks xs) (rb : KT H ls ys) (ia : IntsT ks) (ib : IntsT ls) : sameB xs ys = ks.all fun p => decide (valV ls p.1 = some p.2) := by
  induction ra with
  | nil => rfl
  | @cons p x ks xs h t ih =>
    rw [sameB_cons, List.all_cons, ih fun q hq => ia q (List.mem_cons_of_mem _ hq)]
    congr 1
    obtain ⟨h1, h2, h3⟩ := h
    obtain ⟨i, hi⟩ := ia p List.mem_cons_self
    rw [hi] at h3
    obtain ⟨t1, h3⟩ := h3
    have rel := rb.val p.1
    unfold sameB
    rw [List.all_cons, List.all_nil, Bool.and_true, ← h1]
    cases hv : valV ls p.1 with
    | none =>
      rw [hv] at rel
      have hn := Option.map_eq_none_iff.mp (RelO.none_of rel)
      rw [hn]
      exact (decide_eq_false (fun z => nomatch z)).symm
    | some v =>
      rw [hv] at rel
      have hm : ∃ q ∈ ls, q.2 = v := by
        unfold valV at hv
        obtain ⟨q, hq, e⟩ := Option.map_eq_some_iff.mp hv
        exact ⟨q, List.mem_of_find?_eq_some hq, e⟩
      obtain ⟨q, hq, rfl⟩ := hm
      obtain ⟨j, hj⟩ := ib q hq
      rw [hj] at rel ⊢
      cases ha : atKey ys p.1 with
      | none =>
        rw [ha] at rel
        exact rel.elim
      | some y =>
        rw [ha] at rel
        obtain ⟨t2, e2⟩ := (show RelV (.int j) y.2 from rel)
        rw [hi]
        simp only [h3, e2]
        refine decide_eq_decide.mpr ⟨fun e => by rw [e], fun e => (V.int.inj (Option.some.inj e)).symm⟩
def rEqDT : R2 := fun x y H Q => ∃ a b ks ls, x = .ref a ∧ y = .ref b ∧ H a = some (.dT ks) ∧ H b = some (.dT ls) ∧ IntsT ks ∧ IntsT ls ∧ Q (.bl (sameT ks ls)) H
def rNeDT : R2 := fun x y H Q => ∃ a b ks ls, x = .ref a ∧ y = .ref b ∧ H a = some (.dT ks) ∧ H b = some (.dT ls) ∧ IntsT ks ∧ IntsT ls ∧ Q (.bl (!sameT ks ls)) H
theorem ints_kt {H : Hp} {ks : List (List Key × V)} {xs : List (List Key × Addr × Value)} (r : KT H ks xs) (i : IntsT ks) : ∀ x ∈ xs, ∃ i t, x.2.2 = Value.int i t := fun x hx => by
  obtain ⟨p, hp, _, _, h⟩ := kt_mem r x hx
  obtain ⟨j, hj⟩ := i p hp
  rw [hj] at h
  obtain ⟨t, e⟩ := h
  exact ⟨j, t, e⟩
theorem op_eqDT (hu : X.A.units + 64 < cLine) : OpR X (compareOp .Eq) rEqDT := by
  intro pins s σ H x y v u Q I rx ry h
  obtain ⟨a, b, ks, ls, rfl, rfl, ea, eb, ia, ib, q⟩ := h
  obtain rfl : v = Value.ref a := rx
  obtain rfl : u = Value.ref b := ry
  obtain ⟨_, la, xs, ra, da⟩ := dt_of I.hok ea
  obtain ⟨_, lb, ys, rb, db⟩ := dt_of I.hok eb
  have ta : s.TypeIs (.ref a) "dict" := by
    obtain ⟨o, _, _, ho, hc, _⟩ := da
    exact ⟨o, ho, hc.1⟩
  have tb : s.TypeIs (.ref b) "dict" := by
    obtain ⟨o, _, _, ho, hc, _⟩ := db
    exact ⟨o, ho, hc.1⟩
  refine wpAny_richCompare_same_room (op := .Eq) ta tb PySem.F.slot_dict_eq (wpAny_call_entry PySem.F.slot_dict_eq ta PySem.F.entry_dict_eq ?_ (PySem.F.args_dict_eq_2 _ _)) (by omega)
  show wpAny _ _ (Builtin.Dict.dictSlotArgs "__eq__" ⟨[.ref a, .ref b], []⟩ >>= _) _ _ s
  refine wpAny_bind ?_
  unfold Builtin.Dict.dictSlotArgs
  refine wpAny_bind (wpAny_notOrdered_dict ta ?_)
  show wpAny _ _ (pure (Value.ref a, Value.ref b)) _ _ s
  refine wpAny_pure ?_
  refine wpAny_bind (wpAny_isInstance (T := "dict") tb PySem.F.sub_dict_dict ?_)
  simp only [Bool.not_true, Bool.false_eq_true, if_false]
  refine wpAny_bind (wpAny_pure (wpAny_bind (wpAny_pure ?_)))
  refine wpAny_bind (samePairsH (knd := tupleKind (mixKind X.prog X.w)) (show X.A.in1.units < cLine by show X.A.units + 1 < cLine; omega) la lb da db (ints_kt ra ia) (ints_kt rb ib) ?_)
  refine wpAny_pure ⟨_, rfl, ?_, ?_⟩
  · exact fun x => nomatch x
  · refine fin_bl I q ?_
    unfold sameT
    rw [sameB_is ra rb ia ib, Paired.length ra, Paired.length rb]
    simp
theorem op_neDT (hu : X.A.units + 64 < cLine) : OpR X (compareOp .NotEq) rNeDT := by
  intro pins s σ H x y v u Q I rx ry h
  obtain ⟨a, b, ks, ls, rfl, rfl, ea, eb, ia, ib, q⟩ := h
  obtain rfl : v = Value.ref a := rx
  obtain rfl : u = Value.ref b := ry
  obtain ⟨_, la, xs, ra, da⟩ := dt_of I.hok ea
  obtain ⟨_, lb, ys, rb, db⟩ := dt_of I.hok eb
  have ta : s.TypeIs (.ref a) "dict" := by
    obtain ⟨o, _, _, ho, hc, _⟩ := da
    exact ⟨o, ho, hc.1⟩
  have tb : s.TypeIs (.ref b) "dict" := by
    obtain ⟨o, _, _, ho, hc, _⟩ := db
    exact ⟨o, ho, hc.1⟩
  refine wpAny_richCompare_same_room (op := .NotEq) ta tb PySem.F.slot_dict_ne (wpAny_call_entry PySem.F.slot_dict_ne ta PySem.F.entry_dict_ne ?_ (PySem.F.args_dict_ne_2 _ _)) (by omega)
  show wpAny _ _ (Builtin.Dict.dictSlotArgs "__ne__" ⟨[.ref a, .ref b], []⟩ >>= _) _ _ s
  refine wpAny_bind ?_
  unfold Builtin.Dict.dictSlotArgs
  refine wpAny_bind (wpAny_notOrdered_dict ta ?_)
  show wpAny _ _ (pure (Value.ref a, Value.ref b)) _ _ s
  refine wpAny_pure ?_
  refine wpAny_bind (wpAny_isInstance (T := "dict") tb PySem.F.sub_dict_dict ?_)
  simp only [Bool.not_true, Bool.false_eq_true, if_false]
  refine wpAny_bind (wpAny_pure (wpAny_bind (wpAny_pure ?_)))
  refine wpAny_bind (samePairsH (knd := tupleKind (mixKind X.prog X.w)) (show X.A.in1.units < cLine by show X.A.units + 1 < cLine; omega) la lb da db (ints_kt ra ia) (ints_kt rb ib) ?_)
  refine wpAny_pure ⟨_, rfl, ?_, ?_⟩
  · exact fun x => nomatch x
  · refine fin_bl I q ?_
    unfold sameT
    rw [sameB_is ra rb ia ib, Paired.length ra, Paired.length rb]
    simp
end
end DR

set_option exponentiation.threshold 400
namespace K1
open PySem PySem.Spec PyProof.Rows L2 Evl HM LX ZW TE DR
theorem hseq_pre (rs : List (Int × Int)) (one more : List Int) : ∀ i, i ≤ one.length → hseq rs (one ++ more) i = hseq rs one i
  | 0, _ => rfl
  | i + 1, h => by
    show grow _ _ = grow _ _
    rw [hseq_pre rs one more i (by omega)]
    have e : (one ++ more).getD i 0 = one.getD i 0 := by
      rw [List.getD_eq_getElem?_getD, List.getD_eq_getElem?_getD, List.getElem?_append_left (by omega)]
    rw [e]
theorem hseq_next (rs : List (Int × Int)) (one : List Int) (p : Int) {i : Nat} (h : one.length = i) : hseq rs (one ++ [p]) (i + 1) = grow (hseq rs one i) (gl (hseq rs one i) (K1N.nAt rs i) (K1N.sAt rs i) p) := by
  show grow _ _ = _
  rw [hseq_pre rs one [p] i (by omega)]
  subst h
  rw [getD_snoc_eq]
def Wt (rs : List (Int × Int)) (c r i : Nat) (F : List Nat → Int) : Int := sumL (tupsL rs i) fun x => F (cutH c r (hseq rs x i))
theorem cut_nil (c r : Nat) : cutH c r [] = [] := by
  unfold cutH
  rw [List.take_nil]
  rfl
theorem Wt_zero (rs : List (Int × Int)) (c r : Nat) (F : List Nat → Int) : Wt rs c r 0 F = F [] := by
  unfold Wt
  show sumL [[]] _ = _
  rw [sumL_cons, sumL_nil, Int.add_zero]
  show F (cutH c r []) = _
  rw [cut_nil]
theorem sumL_flat {α β : Type} (g : α → List β) (f : β → Int) : ∀ l : List α, sumL (l.flatMap g) f = sumL l fun x => sumL (g x) f
  | [] => rfl
  | x :: l => by rw [List.flatMap_cons, sumL_app, sumL_cons, sumL_flat g f l]
def plc (rs : List (Int × Int)) (c r i : Nat) (F : List Nat → Int) (h : List Nat) : Int := sumL (List.range (K1N.nAt rs i)) fun p => F (cutH c r (grow h (gl h (K1N.nAt rs i) (K1N.sAt rs i) (p : Int))))
theorem Wt_next (rs : List (Int × Int)) (c r i : Nat) (F : List Nat → Int) : Wt rs c r (i + 1) F = Wt rs c r i (plc rs c r i F) := by
  unfold Wt
  show sumL ((tupsL rs i).flatMap _) _ = _
  rw [sumL_flat]
  refine sumL_congr fun one h1 => ?_
  obtain ⟨l1, _⟩ := (tups_mem rs i one).mp h1
  rw [sumL_map]
  unfold plc
  refine sumL_congr fun p _ => ?_
  rw [hseq_next rs one (p : Int) l1, cut_grow (hseq_ok rs one i).1]
structure Cn (rs : List (Int × Int)) (c r i : Nat) (L : List (List Nat × Int)) : Prop where
  nd : (L.map (·.1)).Nodup
  pos : ∀ x ∈ L, 0 < x.2
  bx : ∀ x ∈ L, Bx c r x.1
  ws : ∀ F, wsum L F = Wt rs c r i F
theorem bx_nil (c r : Nat) : Bx c r [] := ⟨IsHeap.nil, Nat.zero_le _, Nat.zero_le _⟩
theorem Cn.zero (rs : List (Int × Int)) (c r : Nat) : Cn rs c r 0 [([], 1)] := by
  refine ⟨by simp, fun x hx => ?_, fun x hx => ?_, fun F => ?_⟩
  · rw [List.mem_singleton.mp hx]
    decide
  · rw [List.mem_singleton.mp hx]
    exact bx_nil c r
  · rw [Wt_zero]
    unfold wsum
    rw [sumL_cons, sumL_nil]
    show (1 : Int) * F [] + 0 = _
    omega
theorem Cn.next {rs : List (Int × Int)} {c r i : Nat} {L M : List (List Nat × Int)} (C : Cn rs c r i L) (nd : (M.map (·.1)).Nodup) (pos : ∀ x ∈ M, 0 < x.2) (bx : ∀ x ∈ M, Bx c r x.1) (ws : ∀ F, wsum M F = sumL L fun x => x.2 * plc rs c r i F x.1) : Cn rs c r (i + 1) M :=
  ⟨nd, pos, bx, fun F => by rw [ws, Wt_next, ← C.ws]; rfl⟩
theorem Cn.val {rs : List (Int × Int)} {c r i : Nat} {L : List (List Nat × Int)} (C : Cn rs c r i L) (A : List Nat) : getC L A = if 0 < Wt rs c r i (ind A) then some (Wt rs c r i (ind A)) else none := by
  have e := wsum_ind A C.nd
  rw [C.ws] at e
  cases g : getC L A with
  | none =>
    rw [g] at e
    have e2 : Wt rs c r i (ind A) = 0 := e
    rw [e2]
    rfl
  | some v =>
    rw [g] at e
    have e2 : Wt rs c r i (ind A) = v := e
    have := C.pos _ (getC_some g)
    have hv : 0 < v := this
    rw [e2, if_pos hv]
theorem Cn.keys {rs : List (Int × Int)} {c r i : Nat} {L M : List (List Nat × Int)} (C : Cn rs c r i L) (D : Cn rs c r i M) : (L.map (·.1)).Perm (M.map (·.1)) := by
  refine nodup_perm C.nd D.nd fun A => ?_
  have e := (C.val A).trans (D.val A).symm
  have a := getC_none (h := A) (L := L)
  have b := getC_none (h := A) (L := M)
  rw [e] at a
  exact Decidable.not_iff_not.mp (a.symm.trans b)
theorem Cn.same {rs : List (Int × Int)} {c r i : Nat} {L M : List (List Nat × Int)} (C : Cn rs c r i L) (D : Cn rs c r i M) : sameT (kvC L) (kvC M) = true := by
  have p := (C.keys D).length_eq
  rw [List.length_map, List.length_map] at p
  unfold sameT
  rw [Bool.and_eq_true_iff, decide_eq_true_eq, List.all_eq_true]
  refine ⟨by unfold kvC; rw [List.length_map, List.length_map]; exact p, fun y hy => ?_⟩
  obtain ⟨x, hx, rfl⟩ := List.mem_map.mp hy
  rw [decide_eq_true_eq]
  show valV (kvC M) (keyW x.1) = some (V.int x.2)
  rw [valC, D.val, ← C.val, getC_at C.nd hx]
  rfl
theorem kvC_ints (L : List (List Nat × Int)) : IntsT (kvC L) := fun p hp => by
  obtain ⟨x, _, rfl⟩ := List.mem_map.mp hp
  exact ⟨x.2, rfl⟩
theorem sumL_one {α : Type} : ∀ l : List α, sumL l (fun _ => 1) = (l.length : Int)
  | [] => rfl
  | x :: l => by rw [sumL_cons, sumL_one l, List.length_cons]; omega
theorem Cn.sum {rs : List (Int × Int)} {c r i : Nat} {L : List (List Nat × Int)} (C : Cn rs c r i L) : sumL L (fun x => x.2) = (prodL rs i : Int) := by
  have e := C.ws fun _ => 1
  unfold Wt at e
  rw [sumL_one, tups_len] at e
  rw [← e]
  unfold wsum
  exact sumL_congr fun x _ => (Int.mul_one _).symm
theorem sumL_nn {α : Type} {f : α → Int} : ∀ {l : List α}, (∀ x ∈ l, 0 ≤ f x) → 0 ≤ sumL l f
  | [], _ => Int.le_refl _
  | x :: l, h => by
    rw [sumL_cons]
    have := h x (List.mem_cons_self ..)
    have := sumL_nn (l := l) fun y hy => h y (List.mem_cons_of_mem _ hy)
    omega
theorem sumL_ge {α : Type} {f : α → Int} {x : α} : ∀ {l : List α}, (∀ x ∈ l, 0 ≤ f x) → x ∈ l → f x ≤ sumL l f
  | [], _, h => absurd h (by simp)
  | y :: l, h, hx => by
    rw [sumL_cons]
    have h0 := h y (List.mem_cons_self ..)
    have hl := sumL_nn (l := l) fun y hy => h y (List.mem_cons_of_mem _ hy)
    rcases List.mem_cons.mp hx with e | e
    · rw [e]
      omega
    · have := sumL_ge (fun y hy => h y (List.mem_cons_of_mem _ hy)) e
      omega
theorem Cn.mem {rs : List (Int × Int)} {c r i : Nat} {L : List (List Nat × Int)} (C : Cn rs c r i L) {x : List Int} (hx : x ∈ tupsL rs i) : cutH c r (hseq rs x i) ∈ L.map (·.1) := by
  refine Decidable.byContradiction fun no => ?_
  have g := getC_none.mpr no
  rw [C.val] at g
  have : ind (cutH c r (hseq rs x i)) (cutH c r (hseq rs x i)) ≤ Wt rs c r i (ind (cutH c r (hseq rs x i))) := by
    unfold Wt
    refine sumL_ge (f := fun y => ind (cutH c r (hseq rs x i)) (cutH c r (hseq rs y i))) (fun y _ => ?_) hx
    unfold ind
    split <;> decide
  have e1 : ind (cutH c r (hseq rs x i)) (cutH c r (hseq rs x i)) = 1 := if_pos rfl
  rw [if_pos (by omega)] at g
  cases g
/-- how many heaps a box has -/
def lls (r : Nat) : Nat → List (List Nat)
  | 0 => [[]]
  | c + 1 => (lls r c).flatMap fun l => (List.range (r + 1)).map fun x => l ++ [x]
theorem lls_len (r : Nat) : ∀ c, (lls r c).length = (r + 1) ^ c
  | 0 => rfl
  | c + 1 => by
    show ((lls r c).flatMap _).length = _
    rw [flat_len (n := r + 1) (fun x _ => by rw [List.length_map, List.length_range]), lls_len r c, Nat.pow_succ]
theorem lls_mem {r : Nat} {f : Nat → Nat} (h : ∀ j, f j ≤ r) : ∀ c, (List.range c).map f ∈ lls r c
  | 0 => List.mem_singleton.mpr rfl
  | c + 1 => by
    show _ ∈ (lls r c).flatMap _
    rw [List.range_succ (n := c), List.map_append]
    exact List.mem_flatMap.mpr ⟨_, lls_mem h c, List.mem_map.mpr ⟨f c, List.mem_range.mpr (by have := h c; omega), rfl⟩⟩
theorem bx_few {c r : Nat} {ks : List (List Nat)} (nd : ks.Nodup) (bx : ∀ h ∈ ks, Bx c r h) : ks.length ≤ (r + 1) ^ c := by
  have n2 : (ks.map fun h => (List.range c).map (hAt h)).Nodup := by
    refine List.pairwise_map.mpr (List.Pairwise.imp_of_mem (fun {a b} ha hb ne e => ne ?_) nd)
    have A := bx a ha
    have B := bx b hb
    refine heap_ext A.heap B.heap fun j => ?_
    by_cases hj : j < c
    · have := congrArg (fun l : List Nat => l[j]?) e
      rw [List.getElem?_map, List.getElem?_map, List.getElem?_range hj] at this
      exact Option.some.inj this
    · rw [hAt_ge (by have := A.len; omega), hAt_ge (by have := B.len; omega)]
  have := nodup_le n2 (m := lls r c) fun y hy => by
    obtain ⟨h, hh, rfl⟩ := List.mem_map.mp hy
    exact lls_mem (bx h hh).le c
  rw [List.length_map, lls_len] at this
  exact this
theorem Cn.few {rs : List (Int × Int)} {c r i : Nat} {L : List (List Nat × Int)} (C : Cn rs c r i L) : L.length ≤ (r + 1) ^ c := by
  have := bx_few C.nd fun h hh => by
    obtain ⟨x, hx, rfl⟩ := List.mem_map.mp hh
    exact C.bx x hx
  rw [List.length_map] at this
  exact this
/-- addC keeps what is positive and in the box -/
theorem addC_all {L : List (List Nat × Int)} {h : List Nat} {v : Int} {p : List Nat × Int → Prop} (hp : ∀ x ∈ L, p x) (h1 : ∀ u, (h, u) ∈ L → p (h, u + v)) (h2 : p (h, v)) : ∀ x ∈ addC L h v, p x := fun x hx => by
  unfold addC at hx
  split at hx
  · obtain ⟨y, hy, rfl⟩ := List.mem_map.mp hx
    split
    · rename_i e
      have : (h, y.2) ∈ L := by rw [← e]; exact hy
      have := h1 _ this
      rw [← e] at this
      exact this
    · exact hp y hy
  · rcases List.mem_append.mp hx with e | e
    · exact hp x e
    · rw [List.mem_singleton.mp e]
      exact h2
/-- dicts in the making: positive counts of heaps in a box -/
structure Mk (c r : Nat) (M : List (List Nat × Int)) : Prop where
  nd : (M.map (·.1)).Nodup
  pos : ∀ x ∈ M, 0 < x.2
  bx : ∀ x ∈ M, Bx c r x.1
theorem Mk.nil (c r : Nat) : Mk c r [] := ⟨List.nodup_nil, fun x hx => absurd hx (by simp), fun x hx => absurd hx (by simp)⟩
theorem Mk.add {c r : Nat} {M : List (List Nat × Int)} (m : Mk c r M) {h : List Nat} (B : Bx c r h) {v : Int} (hv : 0 < v) : Mk c r (addC M h v) :=
  ⟨addC_nodup m.nd _ _, addC_all m.pos (fun u hu => by have := m.pos _ hu; show 0 < u + v; have h2 : 0 < u := this; omega) hv, addC_all m.bx (fun _ _ => B) B⟩
theorem Mk.few {c r : Nat} {M : List (List Nat × Int)} (m : Mk c r M) : M.length ≤ (r + 1) ^ c := by
  have := bx_few m.nd fun h hh => by
    obtain ⟨x, hx, rfl⟩ := List.mem_map.mp hh
    exact m.bx x hx
  rw [List.length_map] at this
  exact this
theorem Cn.toMk {rs : List (Int × Int)} {c r i : Nat} {L : List (List Nat × Int)} (C : Cn rs c r i L) : Mk c r L := ⟨C.nd, C.pos, C.bx⟩
end K1

set_option exponentiation.threshold 400
namespace K1
open PySem PySem.Spec PyProof.Rows L2 Evl HM LX
section
variable {P : Program} {w : World} {K : PySem.W.Frag} {mg : Str → Option Value} {base : Heap}
theorem mapr_get {n i : Nat} (f : Nat → Int) (h : i < n) : ((List.range n).map f).getD i 0 = f i := by
  rw [List.getD_eq_getElem?_getD, List.getElem?_map, List.getElem?_range h]
  rfl
theorem emod_as (x n : Int) : x % n = x - n * (x / n) := by
  have := Int.mul_ediv_add_emod x n
  omega
/-- richness and 1, by columns -/
noncomputable def rich1 (rs : List (Int × Int)) (ps : List Int) (tot : Int) : Nat := F (hseq rs ps ps.length) (tot - ps.length)
theorem rich_neg (rs : List (Int × Int)) (ps : List Int) {tot : Int} (h : tot < 0) : rich1 rs ps tot = 0 := by
  have q := (hseq_ok rs ps ps.length)
  exact F_zero q.1 (by have := q.2.2; omega)
theorem rich_up (rs : List (Int × Int)) (ps : List Int) {tot : Int} (h : 0 ≤ tot) : (rich1 rs ps tot : Int) ≤ tot + 1 := by
  have q := (hseq_ok rs ps ps.length)
  have := F_up q.1 (t := tot - ps.length) (d := (tot + 1).toNat) (by have := q.2.2; omega)
  unfold rich1
  omega
theorem rich_great (rs : List (Int × Int)) (ps : List Int) {tot : Int} (h : 2 * (ps.length : Int) - 2 < tot) : rich1 rs ps tot = (tot - ps.length + 1).toNat := by
  have q := (hseq_ok rs ps ps.length)
  exact F_high q.1 (by have := q.2.1; omega)
def ng (rs : List (Int × Int)) (ps : List Int) : List Int := (List.range ps.length).map fun j => (0 - ps.getD j 0) % (K1N.nAt rs j : Int)
theorem ng_len (rs : List (Int × Int)) (ps : List Int) : (ng rs ps).length = ps.length := by
  unfold ng
  rw [List.length_map, List.length_range]
theorem ng_get (rs : List (Int × Int)) {ps : List Int} {j : Nat} (h : j < ps.length) : (ng rs ps).getD j 0 = (0 - ps.getD j 0) % (K1N.nAt rs j : Int) := mapr_get _ h
def lp (n s q : Int) : Int → Bool := fun z => decide ((z * s - q) % n = 0)
theorem lp_neg (n s q z : Int) : lp n s ((0 - q) % n) (-z) = lp n s q z := by
  unfold lp
  rw [decide_eq_decide, emod_as (0 - q), show -z * s - (0 - q - n * ((0 - q) / n)) = -(z * s - q) + n * ((0 - q) / n) by rw [Int.neg_mul]; omega, Int.add_mul_emod_self_left]
  constructor
  · intro y
    exact Int.emod_eq_zero_of_dvd (Int.dvd_neg.mp (Int.dvd_of_emod_eq_zero y))
  · intro y
    exact Int.emod_eq_zero_of_dvd (Int.dvd_neg.mpr (Int.dvd_of_emod_eq_zero y))
theorem heap_ng (rs : List (Int × Int)) {ps : List Int} : ∀ i, i ≤ ps.length → conj (hseq rs ps i) = hseq rs (ng rs ps) i
  | 0, _ => rfl
  | i + 1, hi => by
    have ih := heap_ng rs (ps := ps) i (by omega)
    have hh := (hseq_ok rs ps i).1
    have e := conj_grow (p := lp (K1N.nAt rs i) (K1N.sAt rs i) (ps.getD i 0)) (p' := lp (K1N.nAt rs i) (K1N.sAt rs i) ((0 - ps.getD i 0) % (K1N.nAt rs i : Int))) (fun z => lp_neg _ _ _ z) hh
    have g := ng_get rs (ps := ps) (j := i) (by omega)
    show conj (grow (hseq rs ps i) (gp (lp (K1N.nAt rs i) (K1N.sAt rs i) (ps.getD i 0)) (hseq rs ps i))) = grow (hseq rs (ng rs ps) i) (gp (lp (K1N.nAt rs i) (K1N.sAt rs i) ((ng rs ps).getD i 0)) (hseq rs (ng rs ps) i))
    rw [g, ← ih]
    exact e
theorem F_next {h : List Nat} (H : IsHeap h) {t : Int} {m : Nat} (hm : m ≤ F h t) (q : dg h m ≤ t) : m + 1 ≤ F h t := by
  have := (F_spec H t).2
  rcases Nat.lt_or_ge m (F h t) with z | z
  · exact z
  · have e : m = F h t := by omega
    rw [← e] at this
    omega
theorem F_stop {h : List Nat} (H : IsHeap h) {t : Int} {m : Nat} (hm : m ≤ F h t) (q : t < dg h m) : F h t = m := by
  rcases Nat.lt_or_ge m (F h t) with z | z
  · have := (F_spec H t).1 m z
    omega
  · omega
def spHasBox : Sp := fun vs H Q _ => ∃ p h, ∃ (k : Nat) (r : Int), vs = [.ref p, .int ((k : Int) + 1), .int r] ∧ HeapAt H p h ∧ 1 ≤ r ∧ ∀ H', Ex H H' → Q (.bl (decide (r ≤ (hAt h k : Int)))) H'
theorem ok_has_box (T : Txt K mg) {f : Addr} {fd : FuncData} (D : DefAt K mg "has_box" sHasBox ["heap", "columns", "rows"] f fd) : FnOk P w K mg base CX0 2 f fd ["heap", "columns", "rows"] spHasBox := by
  refine D.F.ok scHasBox (fun vs H Q E h => ?_) (fun cdv A outer s₀ H vs Q E hr h => ?_)
  · obtain ⟨p, h, k, r, rfl, _⟩ := h
    rfl
  · obtain ⟨p, h, k, r, rfl, hp, h1, q⟩ := h
    obtain ⟨f1, fd1, D1⟩ := T.d_height_at
    have hr1 : Room 1 _ := hr.mono (by decide)
    refine ⟨_, pss_one (ps_ret (pe_or (pe_cmpR op_lt (pv 1) pe_int (nomark _)) (pe_or (pe_cmpR op_lt (pv 2) pe_int (nomark _)) (pe_one (pe_cmpR op_ge (pe_call (ok_height_at T D1) hr1 (by rfl) D1.g D1.F.kp D1.b .nil pass0 (pa_cons (pv 0) (pa_cons (pe_op op_sub (pv 1) pe_int) pa_nil))) (pv 2) (nomark _)))))), ?_⟩
    refine ⟨_, rfl, _, _, rfl, rfl, _, rfl, ?_⟩
    rw [decide_eq_false (show ¬ ((k : Int) + 1 < 1) by omega)]
    refine iteF ⟨_, rfl, _, _, rfl, rfl, _, rfl, ?_⟩
    rw [decide_eq_false (show ¬ (r < 1) by omega)]
    refine iteF ⟨_, rfl, _, rfl, _, _, rfl, rfl, p, h, k, ?_, hp, fun H1 e1 => ⟨_, rfl, _, _, rfl, rfl, q _ e1⟩⟩
    dsimp only
    rw [show (k : Int) + 1 - 1 = (k : Int) by omega]
    rfl
theorem iteT9 {b : Bool} {A B : Prop} (h : b = true) (a : A) : if b = true then A else B := by
  rw [if_pos h]
  exact a
def spRich : Sp := fun vs H Q _ => ∃ p rs ps, ∃ tot : Int, vs = [.ref p, .int (ps.length : Int), .int tot] ∧ ps.length ≤ 12 ∧ HeapAt H p (hseq rs ps ps.length) ∧ ∀ H', Ex H H' → Q (.int ((rich1 rs ps tot : Int) - 1)) H'
theorem ok_rich (T : Txt K mg) {f : Addr} {fd : FuncData} (D : DefAt K mg "_law_rich" sLRich ["_law_heap_here", "_law_rings", "_law_total"] f fd) : FnOk P w K mg base CX0 1 f fd ["_law_heap_here", "_law_rings", "_law_total"] spRich := by
  refine D.F.ok scLRich (fun vs H Q E h => ?_) (fun cdv A outer s₀ H vs Q E hr h => ?_)
  · obtain ⟨p, rs, ps, tot, rfl, _⟩ := h
    rfl
  · obtain ⟨p, rs, ps, tot, rfl, hl, hp, q⟩ := h
    refine ⟨_, pss_cons (ps_if (PW.pt (pw_or (pt_cmpR op_gt (pv 2) (pe_op op_sub (pe_op op_mul pe_int (pv 1)) pe_int) (nomark _))
          (pw_or1 (pt_cmpR op_lt (pv 2) pe_int (nomark _))))) (pss_one (ps_ret (pe_callB (call_max2 rfl) (by rfl) T.z_max (by decide +kernel) (pa_cons (pe_un un_neg pe_int) (pa_cons (pe_op op_sub (pv 2) (pv 1)) pa_nil))))) pss_nil)
      (pss_cons (ps_set (i := 3) scLRich.nd rfl (.inl rfl) (pe_un un_neg pe_int))
      (pss_one (ps_while PassesOwn.never (pt_val pe_bl) (pss_cons (ps_set (i := 4) scLRich.nd rfl (.inl rfl) (pe_op op_add (pe_op op_add (pe_op op_sub (pv 1) (pv 2)) (pv 3)) pe_int))
      (pss_cons (ps_if (PW.pt (pw_and (pt_cmpR op_gt (pv 4) pe_int (nomark _))
          (pw_and1 (PW.pt (pw_or (pt_cmpR op_lt (pe_callB call_len_seq (by rfl) T.z_len PySem.boot_len (pa_cons (pv 0) pa_nil)) (pe_op op_add (pv 3) pe_int) (nomark _))
          (pw_or1 (pt_cmpR op_lt (pe_ix ix_tup (pv 0) (pe_op op_add (pv 3) pe_int) (fun _ _ => rfl)) (pv 4) (nomark _)))))))) (pss_one (ps_ret (pv 3))) pss_nil)
      (pss_cons (ps_if (PW.pt (pw_and (pt_cmpR op_le (pv 4) pe_int (nomark _))
          (pw_and1 (pt_cmpR op_gt (pe_op op_add (pv 3) pe_int) (pv 2) (nomark _))))) (pss_one (ps_ret (pv 3))) pss_nil)
      (pss_one (ps_set (i := 3) scLRich.nd rfl (.inl rfl) (pe_op op_add (pv 3) pe_int))))))))), ?_⟩
    have great : 2 * (ps.length : Int) - 2 < tot → rich1 rs ps tot = (tot - ps.length + 1).toNat := rich_great rs ps
    have neg : tot < 0 → rich1 rs ps tot = 0 := rich_neg rs ps
    have vg : ∀ m : Nat, rich1 rs ps tot = m → m = (tot - (ps.length : Int) + 1).toNat → Q (.int (if tot - (ps.length : Int) > -1 then tot - (ps.length : Int) else -1)) H := fun m e1 e2 => by
      have := q _ (Ex.refl _)
      rw [e1, e2] at this
      rw [show (if tot - (ps.length : Int) > -1 then tot - (ps.length : Int) else -1) = ((tot - (ps.length : Int) + 1).toNat : Int) - 1 by split <;> omega]
      exact this
    have IH := (hseq_ok rs ps ps.length)
    have hlen : (hseq rs ps ps.length).length ≤ ps.length := IH.2.1
    replace IH := IH.1
    have er : rich1 rs ps tot = F (hseq rs ps ps.length) (tot - ps.length) := rfl
    generalize hseq rs ps ps.length = h at hp IH er hlen
    generalize htt : tot - (ps.length : Int) = t at er vg
    refine ⟨_, rfl, _, rfl, _, _, rfl, rfl, .inr (by constructor <;> omega), _, _, rfl, rfl, _, _, rfl, rfl, _, rfl, ite2 (fun c => ?_) (fun c => ?_)⟩
    · have c1 := of_decide_eq_true c
      have e := great (by omega)
      refine iteT ⟨1, rfl, _, rfl, _, rfl, _, _, rfl, rfl, _, _, rfl, ?_⟩
      dsimp only
      rw [htt]
      exact vg _ e (by omega)
    · have c1 : ¬ (tot > 2 * (ps.length : Int) - 2) := fun z => c (decide_eq_true z)
      refine ⟨_, rfl, _, _, rfl, rfl, _, rfl, ite2 (fun c2 => ?_) (fun c2 => ?_)⟩
      · have c3 := of_decide_eq_true c2
        have e := neg (by omega)
        refine ⟨1, rfl, _, rfl, _, rfl, _, _, rfl, rfl, _, _, rfl, ?_⟩
        dsimp only
        rw [htt]
        exact vg _ e (by omega)
      · have c3 : ¬ (tot < 0) := fun z => c2 (decide_eq_true z)
        refine ⟨1, rfl, fun n σ' H' => ∃ (m : Nat) (y4 : Option V), n = F h t - m ∧ m ≤ F h t ∧ σ' = [some (.ref p), some (.int (ps.length : Int)), some (.int tot), some (.int ((m : Int) - 1)), y4] ∧ Ex H H', ⟨_, 0, none, rfl, Nat.zero_le _, rfl, Ex.refl _⟩, fun n σ' H' hW => ?_⟩
        obtain ⟨m, y4, rfl, w1, rfl, e⟩ := hW
        have hp1 := e _ _ hp
        have hd : dg h m = (m : Int) - (hAt h m : Int) := rfl
        have gr : (ps.length : Int) - tot + ((m : Int) - 1) + 1 = (m : Int) - t := by omega
        have fin : F h t = m → Q (.int ((m : Int) - 1)) H' := fun z => by
          have := q _ e
          rw [er, z] at this
          exact this
        refine ⟨true, rfl, iteT ⟨fun σ2 H2 => σ2 = [some (.ref p), some (.int (ps.length : Int)), some (.int tot), some (.int (((m + 1 : Nat) : Int) - 1)), some (.int ((m : Int) - t))] ∧ H2 = H' ∧ m + 1 ≤ F h t, fun σ2 H2 hN => ?_, ?_⟩⟩
        · obtain ⟨rfl, rfl, nx⟩ := hN
          exact ⟨F h t - (m + 1), by omega, m + 1, _, rfl, nx, rfl, e⟩
        refine ⟨_, rfl, _, rfl, _, _, rfl, rfl, _, rfl, _, _, rfl, rfl, _, _, rfl, rfl, ?_⟩
        dsimp only
        rw [gr]
        have stq : (m : Int) - 1 + 1 = ((m + 1 : Nat) : Int) - 1 := by omega
        have hz : (hv h).length = h.length := hv_len h
        refine ⟨_, rfl, _, _, rfl, rfl, _, rfl, ite2 (fun d1 => ?_) (fun d1 => ?_)⟩
        · have d2 := of_decide_eq_true d1
          refine ⟨_, rfl, p, _, rfl, .inr (SqT.of hp1), _, rfl, _, _, rfl, rfl, _, _, rfl, rfl, _, rfl, ite2 (fun f1 => ?_) (fun f1 => ?_)⟩
          · have f2 := of_decide_eq_true f1
            have z0 : hAt h m = 0 := hAt_ge (by omega)
            exact iteT ⟨_, rfl, fin (F_stop IH w1 (by omega))⟩
          · have f2 : ¬ (((hv h).length : Int) < (m : Int) - 1 + 2) := fun z => f1 (decide_eq_true z)
            refine ⟨_, rfl, _, rfl, _, _, rfl, rfl, p, _, _, _, rfl, rfl, SqT.of hp1, at_of (show (m : Int) - 1 + 1 = (m : Int) by omega) (hv_get (by omega)), _, rfl, _, _, rfl, rfl, _, rfl, ite2 (fun f3 => ?_) (fun f3 => ?_)⟩
            · have f4 := of_decide_eq_true f3
              exact ⟨_, rfl, fin (F_stop IH w1 (by omega))⟩
            · have f4 : ¬ ((hAt h m : Int) < (m : Int) - t) := fun z => f3 (decide_eq_true z)
              refine ⟨_, rfl, _, _, rfl, rfl, _, rfl, ite2 (fun f5 => ?_) (fun _ => iteF ⟨_, rfl, _, _, rfl, rfl, ?_, rfl, F_next IH w1 (by omega)⟩)⟩
              · have := of_decide_eq_true f5
                omega
              · simp only [List.set]
                rw [stq]
        · have d2 : ¬ (0 < (m : Int) - t) := fun z => d1 (decide_eq_true z)
          refine iteF ⟨_, rfl, _, _, rfl, rfl, _, rfl, iteT9 (decide_eq_true (by omega)) ⟨_, rfl, _, _, rfl, rfl, _, rfl, _, _, rfl, rfl, _, rfl, ite2 (fun f5 => ?_) (fun _ => ⟨_, rfl, _, _, rfl, rfl, ?_, rfl, F_next IH w1 (by omega)⟩)⟩⟩
          · have := of_decide_eq_true f5
            omega
          · simp only [List.set]
            rw [stq]
end
end K1

set_option exponentiation.threshold 400
namespace K1
open PySem PySem.Spec PyProof.Rows L2 Evl HM LX ZW TE DR
theorem hseq_corner (rs : List (Int × Int)) (ps : List Int) : ∀ (i j : Nat), 0 < hAt (hseq rs ps i) j → j + hAt (hseq rs ps i) j ≤ i
  | 0, j, h => by
    have : hAt (hseq rs ps 0) j = 0 := hAt_ge (Nat.zero_le _)
    omega
  | i + 1, j, h => by
    obtain ⟨a, b, c⟩ := hseq_ok rs ps i
    have e : hAt (hseq rs ps (i + 1)) j = hAt (hseq rs ps i) j + b2n (gl (hseq rs ps i) (K1N.nAt rs i) (K1N.sAt rs i) (ps.getD i 0) j) := hAt_grow gl_opn j
    have hb := b2n_le (gl (hseq rs ps i) (K1N.nAt rs i) (K1N.sAt rs i) (ps.getD i 0) j)
    by_cases z : 0 < hAt (hseq rs ps i) j
    · have := hseq_corner rs ps i j z
      omega
    · have g1 : b2n (gl (hseq rs ps i) (K1N.nAt rs i) (K1N.sAt rs i) (ps.getD i 0) j) = 1 := by omega
      have g2 : gl (hseq rs ps i) (K1N.nAt rs i) (K1N.sAt rs i) (ps.getD i 0) j = true := by
        cases y : gl (hseq rs ps i) (K1N.nAt rs i) (K1N.sAt rs i) (ps.getD i 0) j with
        | true => rfl
        | false => rw [y] at g1; cases g1
      have := opn_le (gl_opn j g2)
      omega
theorem F_ge {h : List Nat} (H : IsHeap h) (t : Int) (k : Nat) : k + 1 ≤ F h t ↔ dg h k ≤ t := by
  obtain ⟨f1, f2⟩ := F_spec H t
  constructor
  · intro z
    exact f1 k z
  · intro z
    rcases Nat.lt_or_ge k (F h t) with y | y
    · exact y
    · exfalso
      rcases Nat.lt_or_ge (F h t) k with u | u
      · have := dg_lt H u
        omega
      · have e : F h t = k := by omega
        rw [e] at f2
        omega
theorem F_ext {h h' : List Nat} (H : IsHeap h) (H' : IsHeap h') {t t' : Int} (e : ∀ k, dg h k ≤ t ↔ dg h' k ≤ t') : F h t = F h' t' := by
  have a := fun k => (F_ge H t k).trans ((e k).trans (F_ge H' t' k).symm)
  have a1 := a (F h t - 1)
  have a2 := a (F h' t' - 1)
  omega
/-- richness of a class is that of its cut heap -/
theorem rich_cut (rs : List (Int × Int)) (ps : List Int) {g : Nat} {d : Int} (h0 : 0 ≤ d) (h1 : d ≤ 2 * (g : Int) - 2) {c r : Nat} (hc : (c : Int) = d / 2 + 1) (hr : (r : Int) = (g : Int) - d + d / 2) :
    F (cutH c r (hseq rs ps g)) (d - g) = F (hseq rs ps g) (d - g) := by
  have IH := (hseq_ok rs ps g).1
  refine F_ext (cut_heap IH) IH fun k => ?_
  unfold dg
  rw [hAt_cut IH]
  have co := hseq_corner rs ps g k
  by_cases hk : k < c
  · rw [if_pos hk]
    omega
  · rw [if_neg hk]
    constructor
    · intro z
      omega
    · intro z
      have := co (by omega)
      omega
/-- k or richer: a column's height -/
theorem rich_ge (rs : List (Int × Int)) (ps : List Int) (g : Nat) (d : Int) (k : Nat) : k + 1 ≤ F (hseq rs ps g) (d - g) ↔ (g : Int) - d + k ≤ (hAt (hseq rs ps g) k : Int) := by
  rw [F_ge (hseq_ok rs ps g).1]
  unfold dg
  omega
theorem rich_all (rs : List (Int × Int)) (ps : List Int) (g : Nat) (d : Int) (k : Nat) (h : (g : Int) - d + k < 1) : k + 1 ≤ F (hseq rs ps g) (d - g) := (rich_ge rs ps g d k).mpr (by omega)
theorem rich_no (rs : List (Int × Int)) (ps : List Int) (g : Nat) (d : Int) (k : Nat) (h : ¬ (g : Int) - d + k < 1) (h2 : (k : Int) + 1 + ((g : Int) - d + k) > (g : Int) + 1) : ¬ k + 1 ≤ F (hseq rs ps g) (d - g) := fun z => by
  have z := (rich_ge rs ps g d k).mp z
  have := hseq_corner rs ps g k (by omega)
  omega
theorem hAt_rep (c r j : Nat) : hAt (List.replicate c r) j = if j < c then r else 0 := by
  unfold hAt
  rw [List.getD_eq_getElem?_getD, List.getElem?_replicate]
  split <;> rfl
theorem rep_heap (c : Nat) {r : Nat} (h : 0 < r) : IsHeap (List.replicate c r) := ⟨fun j hj => by rw [List.length_replicate] at hj; rw [hAt_rep, if_pos hj]; exact h, fun j => by rw [hAt_rep, hAt_rep]; split <;> split <;> omega⟩
theorem rich_box {h : List Nat} (IH : IsHeap h) (k : Nat) {r : Nat} (r0 : 0 < r) : cutH (k + 1) r h = List.replicate (k + 1) r ↔ r ≤ hAt h k := by
  constructor
  · intro e
    have := congrArg (fun l => hAt l k) e
    have this : hAt (cutH (k + 1) r h) k = hAt (List.replicate (k + 1) r) k := this
    rw [hAt_cut IH, if_pos (Nat.lt_succ_self k), hAt_rep, if_pos (Nat.lt_succ_self k)] at this
    omega
  · intro z
    refine heap_ext (cut_heap IH) (rep_heap _ r0) fun j => ?_
    rw [hAt_cut IH, hAt_rep]
    by_cases hj : j < k + 1
    · rw [if_pos hj, if_pos hj]
      have := IH.le (show j ≤ k by omega)
      omega
    · rw [if_neg hj, if_neg hj]
/-- all tuples, counted the other way -/
theorem sumL_tups (rs : List (Int × Int)) (i : Nat) (f : List Int → Int) : sumL (tupsL rs (i + 1)) f = sumL (tupsL rs i) fun one => sumL (List.range (K1N.nAt rs i)) fun p => f (one ++ [(p : Int)]) := by
  show sumL ((tupsL rs i).flatMap _) _ = _
  rw [sumL_flat]
  exact sumL_congr fun one _ => sumL_map ..
theorem neg_inv {p n : Nat} (hp : p < n) : (0 - (0 - (p : Int)) % (n : Int)) % (n : Int) = p := by
  rw [emod_as (0 - (p : Int)), show 0 - (0 - (p : Int) - (n : Int) * ((0 - (p : Int)) / (n : Int))) = (p : Int) + (n : Int) * ((0 - (p : Int)) / (n : Int)) by omega, Int.add_mul_emod_self_left, Int.emod_eq_of_lt (by omega) (by omega)]
theorem range_neg (n : Nat) : ((List.range n).map fun (p : Nat) => ((0 - (p : Int)) % (n : Int)).toNat).Perm (List.range n) := by
  have m0 : ∀ p : Nat, p < n → 0 ≤ (0 - (p : Int)) % (n : Int) ∧ (0 - (p : Int)) % (n : Int) < n := fun p hp => ⟨Int.emod_nonneg _ (by omega), Int.emod_lt_of_pos _ (by omega)⟩
  have inv : ∀ p : Nat, p < n → (0 - (((0 - (p : Int)) % (n : Int)).toNat : Int)) % (n : Int) = p := fun p hp => by
    obtain ⟨a, b⟩ := m0 p hp
    rw [Int.toNat_of_nonneg a, emod_as (0 - (p : Int)), show 0 - (0 - (p : Int) - (n : Int) * ((0 - (p : Int)) / (n : Int))) = (p : Int) + (n : Int) * ((0 - (p : Int)) / (n : Int)) by omega, Int.add_mul_emod_self_left, Int.emod_eq_of_lt (by omega) (by omega)]
  refine nodup_perm ?_ List.nodup_range fun q => ?_
  · refine List.pairwise_map.mpr (List.Pairwise.imp_of_mem (fun {a b} ha hb ne e => ne ?_) List.nodup_range)
    have ha := inv a (List.mem_range.mp ha)
    have hb := inv b (List.mem_range.mp hb)
    rw [e] at ha
    omega
  · rw [List.mem_map, List.mem_range]
    constructor
    · rintro ⟨p, hp, rfl⟩
      obtain ⟨a, b⟩ := m0 p (List.mem_range.mp hp)
      omega
    · intro hq
      obtain ⟨a, b⟩ := m0 q hq
      refine ⟨((0 - (q : Int)) % (n : Int)).toNat, List.mem_range.mpr (by omega), ?_⟩
      have := inv q hq
      omega
theorem ng_snoc (rs : List (Int × Int)) (one : List Int) (p : Int) : ng rs (one ++ [p]) = ng rs one ++ [(0 - p) % (K1N.nAt rs one.length : Int)] := by
  unfold ng
  rw [List.length_append, List.length_singleton, List.range_succ, List.map_append, List.map_cons, List.map_nil, getD_snoc_eq]
  congr 1
  refine List.map_congr_left fun j hj => ?_
  rw [getD_snoc_lt (List.mem_range.mp hj)]
theorem tups_ng (rs : List (Int × Int)) : ∀ (i : Nat) (f : List Int → Int), sumL (tupsL rs i) (fun x => f (ng rs x)) = sumL (tupsL rs i) f
  | 0, f => rfl
  | i + 1, f => by
    have ih := tups_ng rs i fun one => sumL (List.range (K1N.nAt rs i)) fun (p : Nat) => f (one ++ [(p : Int)])
    rw [sumL_tups, sumL_tups, ← ih]
    refine sumL_congr fun one h1 => ?_
    obtain ⟨l1, _⟩ := (tups_mem rs i one).mp h1
    rw [← sumL_perm _ (range_neg (K1N.nAt rs i)), sumL_map]
    refine sumL_congr fun p hp => ?_
    have hp := List.mem_range.mp hp
    rw [ng_snoc, l1, Int.toNat_of_nonneg (Int.emod_nonneg _ (by omega)), neg_inv hp]
/-- how many classes are as rich as k -/
noncomputable def Nk (rs : List (Int × Int)) (g : Nat) (d : Int) (k : Nat) : Int := sumL (tupsL rs g) fun x => if k + 1 ≤ F (hseq rs x g) (d - g) then 1 else 0
theorem Nk_rr (rs : List (Int × Int)) (g : Nat) (d : Int) (k o : Nat) (e : (o : Int) = (k : Int) - d - 1 + g) : Nk rs g (2 * (g : Int) - 2 - d) o = Nk rs g d k := by
  unfold Nk
  rw [← tups_ng rs g]
  refine sumL_congr fun x hx => ?_
  obtain ⟨l1, _⟩ := (tups_mem rs g x).mp hx
  have IH := (hseq_ok rs x g).1
  have hn := heap_ng rs (ps := x) g (by omega)
  have c1 := rich_ge rs x g d k
  have c2 := rich_ge rs (ng rs x) g (2 * (g : Int) - 2 - d) o
  rw [← hn] at c2 ⊢
  have c3 := conj_iff IH k o
  have iff : o + 1 ≤ F (conj (hseq rs x g)) (2 * (g : Int) - 2 - d - g) ↔ k + 1 ≤ F (hseq rs x g) (d - g) := by
    rw [c1, c2]
    constructor
    · intro z
      have := c3.mp (by omega)
      omega
    · intro z
      have := c3.mpr (by omega)
      omega
  by_cases z : k + 1 ≤ F (hseq rs x g) (d - g)
  · rw [if_pos z, if_pos (iff.mpr z)]
  · rw [if_neg z, if_neg (fun y => z (iff.mp y))]
end K1

/-! own rules: a comprehension of two clauses, by two walks -/
namespace L2
open PySem PySem.Spec PyProof.Rows
section
variable {J : It} {n : Nat} {G : Hp → Prop} {Y : Nat → Hp → V → Hp → Prop}
/-- the outer clause: Pv by the turn and the heap (the new list at D within) -/
theorem lc2_out (w : Walk J n G Y) {g g1 : TG} {tt tt1 : TT} {wi1 : TI} {te : TE} {vs vs1 : List Nat} {σ : St} {H1 : Hp} {D : Addr} {Qd : Hp → Prop} (Pv : Nat → Hp → Prop) (h0 : Pv 0 (upd H1 D (.lst []))) (hG : ∀ i H, i ≤ n → Pv i H → G H)
    (hs : ∀ i x H H', i < n → Pv i H → Y i H x H' → g x (wipe σ vs) H' fun σ2 H2 => wipe σ2 vs = wipe σ vs ∧ tt σ2 H2 fun b H3 =>
      if b = true then wi1 σ2 H3 fun J1 H4 => ∃ W1 : Nat → Nat → Hp → Prop, (∃ m, W1 0 m H4) ∧ ∀ j k H, W1 j k H →
      (J1.stop j H ∧ Pv (i + 1) H) ∨ (J1.go j H ∧ ∃ Nx1 : Hp → Prop, (∀ H', Nx1 H' → ∃ k', k' < k ∧ W1 (j + 1) k' H') ∧ ∀ x H', J1.yld j H x H' → g1 x (wipe σ2 vs1) H' fun σ3 H5 => wipe σ3 vs1 = wipe σ2 vs1 ∧ tt1 σ3 H5 fun b H6 =>
        if b = true then te σ3 H6 fun y H7 => ∃ acc, H7 D = some (.lst acc) ∧ acc.length < sizeLine ∧ Nx1 (upd H7 D (.lst (acc ++ [y]))) else Nx1 H6)
      else Pv (i + 1) H3) (hd : ∀ H, Pv n H → Qd H) :
    ∃ W : Nat → Nat → Hp → Prop, (∃ m, W 0 m (upd H1 D (.lst []))) ∧ ∀ i m H, W i m H →
      (J.stop i H ∧ Qd H) ∨ (J.go i H ∧ ∃ Nx : Hp → Prop, (∀ H', Nx H' → ∃ m', m' < m ∧ W (i + 1) m' H') ∧ ∀ x H', J.yld i H x H' → g x (wipe σ vs) H' fun σ2 H2 => wipe σ2 vs = wipe σ vs ∧ tt σ2 H2 fun b H3 =>
        if b = true then wi1 σ2 H3 fun J1 H4 => ∃ W1 : Nat → Nat → Hp → Prop, (∃ m, W1 0 m H4) ∧ ∀ j k H, W1 j k H →
      (J1.stop j H ∧ Nx H) ∨ (J1.go j H ∧ ∃ Nx1 : Hp → Prop, (∀ H', Nx1 H' → ∃ k', k' < k ∧ W1 (j + 1) k' H') ∧ ∀ x H', J1.yld j H x H' → g1 x (wipe σ2 vs1) H' fun σ3 H5 => wipe σ3 vs1 = wipe σ2 vs1 ∧ tt1 σ3 H5 fun b H6 =>
        if b = true then te σ3 H6 fun y H7 => ∃ acc, H7 D = some (.lst acc) ∧ acc.length < sizeLine ∧ Nx1 (upd H7 D (.lst (acc ++ [y]))) else Nx1 H6)
        else Nx H3) := by
  refine ⟨fun i m H => m = n - i ∧ i ≤ n ∧ Pv i H, ⟨n, by simp, Nat.zero_le _, h0⟩, ?_⟩
  rintro i m H ⟨rfl, hi, p⟩
  have q := hG i H hi p
  by_cases hlt : i < n
  · refine .inr ⟨w.goes i H hlt q, Pv (i + 1), fun H' p' => ⟨n - (i + 1), by omega, rfl, hlt, p'⟩, fun x H' y => hs i x H H' hlt p (w.yields i H x H' hlt q y)⟩
  · have e : i = n := by omega
    subst e
    exact .inl ⟨w.stops H q, hd H p⟩
/-- the inner clause -/
theorem lc2_in {J1 : It} {n1 : Nat} {G1 : Hp → Prop} {Y1 : Nat → Hp → V → Hp → Prop} (w : Walk J1 n1 G1 Y1) {g1 : TG} {tt1 : TT} {te : TE} {vs1 : List Nat} {σ2 : St} {H4 : Hp} {D : Addr} {Nx : Hp → Prop} (Pv : Nat → Hp → Prop) (h0 : Pv 0 H4) (hG : ∀ i H, i ≤ n1 → Pv i H → G1 H)
    (hs : ∀ j x H H', j < n1 → Pv j H → Y1 j H x H' → g1 x (wipe σ2 vs1) H' fun σ3 H5 => wipe σ3 vs1 = wipe σ2 vs1 ∧ tt1 σ3 H5 fun b H6 =>
        if b = true then te σ3 H6 fun y H7 => ∃ acc, H7 D = some (.lst acc) ∧ acc.length < sizeLine ∧ Pv (j + 1) (upd H7 D (.lst (acc ++ [y]))) else Pv (j + 1) H6) (hd : ∀ H, Pv n1 H → Nx H) :
    ∃ W1 : Nat → Nat → Hp → Prop, (∃ m, W1 0 m H4) ∧ ∀ j k H, W1 j k H →
      (J1.stop j H ∧ Nx H) ∨ (J1.go j H ∧ ∃ Nx1 : Hp → Prop, (∀ H', Nx1 H' → ∃ k', k' < k ∧ W1 (j + 1) k' H') ∧ ∀ x H', J1.yld j H x H' → g1 x (wipe σ2 vs1) H' fun σ3 H5 => wipe σ3 vs1 = wipe σ2 vs1 ∧ tt1 σ3 H5 fun b H6 =>
        if b = true then te σ3 H6 fun y H7 => ∃ acc, H7 D = some (.lst acc) ∧ acc.length < sizeLine ∧ Nx1 (upd H7 D (.lst (acc ++ [y]))) else Nx1 H6) := by
  refine ⟨fun i m H => m = n1 - i ∧ i ≤ n1 ∧ Pv i H, ⟨n1, by simp, Nat.zero_le _, h0⟩, ?_⟩
  rintro i m H ⟨rfl, hi, p⟩
  have q := hG i H hi p
  by_cases hlt : i < n1
  · refine .inr ⟨w.goes i H hlt q, Pv (i + 1), fun H' p' => ⟨n1 - (i + 1), by omega, rfl, hlt, p'⟩, fun x H' y => hs i x H H' hlt p (w.yields i H x H' hlt q y)⟩
  · have e : i = n1 := by omega
    subst e
    exact .inl ⟨w.stops H q, hd H p⟩
/-- both clauses without tests -/
theorem lc2_outY (w : Walk J n G Y) {g g1 : TG} {tt1 : TT} {wi1 : TI} {te : TE} {vs vs1 : List Nat} {σ : St} {H1 : Hp} {D : Addr} {Qd : Hp → Prop} (Pv : Nat → Hp → Prop) (h0 : Pv 0 (upd H1 D (.lst []))) (hG : ∀ i H, i ≤ n → Pv i H → G H)
    (hs : ∀ i x H H', i < n → Pv i H → Y i H x H' → g x (wipe σ vs) H' fun σ2 H2 => wipe σ2 vs = wipe σ vs ∧ wi1 σ2 H2 fun J1 H4 => ∃ W1 : Nat → Nat → Hp → Prop, (∃ m, W1 0 m H4) ∧ ∀ j k H, W1 j k H →
      (J1.stop j H ∧ Pv (i + 1) H) ∨ (J1.go j H ∧ ∃ Nx1 : Hp → Prop, (∀ H', Nx1 H' → ∃ k', k' < k ∧ W1 (j + 1) k' H') ∧ ∀ x H', J1.yld j H x H' → g1 x (wipe σ2 vs1) H' fun σ3 H5 => wipe σ3 vs1 = wipe σ2 vs1 ∧ tt1 σ3 H5 fun b H6 =>
        if b = true then te σ3 H6 fun y H7 => ∃ acc, H7 D = some (.lst acc) ∧ acc.length < sizeLine ∧ Nx1 (upd H7 D (.lst (acc ++ [y]))) else Nx1 H6)) (hd : ∀ H, Pv n H → Qd H) :
    ∃ W : Nat → Nat → Hp → Prop, (∃ m, W 0 m (upd H1 D (.lst []))) ∧ ∀ i m H, W i m H →
      (J.stop i H ∧ Qd H) ∨ (J.go i H ∧ ∃ Nx : Hp → Prop, (∀ H', Nx H' → ∃ m', m' < m ∧ W (i + 1) m' H') ∧ ∀ x H', J.yld i H x H' → g x (wipe σ vs) H' fun σ2 H2 => wipe σ2 vs = wipe σ vs ∧ tYes σ2 H2 fun b H3 =>
        if b = true then wi1 σ2 H3 fun J1 H4 => ∃ W1 : Nat → Nat → Hp → Prop, (∃ m, W1 0 m H4) ∧ ∀ j k H, W1 j k H →
      (J1.stop j H ∧ Nx H) ∨ (J1.go j H ∧ ∃ Nx1 : Hp → Prop, (∀ H', Nx1 H' → ∃ k', k' < k ∧ W1 (j + 1) k' H') ∧ ∀ x H', J1.yld j H x H' → g1 x (wipe σ2 vs1) H' fun σ3 H5 => wipe σ3 vs1 = wipe σ2 vs1 ∧ tt1 σ3 H5 fun b H6 =>
        if b = true then te σ3 H6 fun y H7 => ∃ acc, H7 D = some (.lst acc) ∧ acc.length < sizeLine ∧ Nx1 (upd H7 D (.lst (acc ++ [y]))) else Nx1 H6)
        else Nx H3) := lc2_out (tt := tYes) w Pv h0 hG hs hd
theorem lc2_inY {J1 : It} {n1 : Nat} {G1 : Hp → Prop} {Y1 : Nat → Hp → V → Hp → Prop} (w : Walk J1 n1 G1 Y1) {g1 : TG} {te : TE} {vs1 : List Nat} {σ2 : St} {H4 : Hp} {D : Addr} {Nx : Hp → Prop} (Pv : Nat → Hp → Prop) (h0 : Pv 0 H4) (hG : ∀ i H, i ≤ n1 → Pv i H → G1 H)
    (hs : ∀ j x H H', j < n1 → Pv j H → Y1 j H x H' → g1 x (wipe σ2 vs1) H' fun σ3 H5 => wipe σ3 vs1 = wipe σ2 vs1 ∧ te σ3 H5 fun y H7 => ∃ acc, H7 D = some (.lst acc) ∧ acc.length < sizeLine ∧ Pv (j + 1) (upd H7 D (.lst (acc ++ [y])))) (hd : ∀ H, Pv n1 H → Nx H) :
    ∃ W1 : Nat → Nat → Hp → Prop, (∃ m, W1 0 m H4) ∧ ∀ j k H, W1 j k H →
      (J1.stop j H ∧ Nx H) ∨ (J1.go j H ∧ ∃ Nx1 : Hp → Prop, (∀ H', Nx1 H' → ∃ k', k' < k ∧ W1 (j + 1) k' H') ∧ ∀ x H', J1.yld j H x H' → g1 x (wipe σ2 vs1) H' fun σ3 H5 => wipe σ3 vs1 = wipe σ2 vs1 ∧ tYes σ3 H5 fun b H6 =>
        if b = true then te σ3 H6 fun y H7 => ∃ acc, H7 D = some (.lst acc) ∧ acc.length < sizeLine ∧ Nx1 (upd H7 D (.lst (acc ++ [y]))) else Nx1 H6) := lc2_in (tt1 := tYes) w Pv h0 hG hs hd
/-- one clause without a test -/
theorem lc_itY (w : Walk J n G Y) {g : TG} {te : TE} {vs : List Nat} {σ : St} {H1 : Hp} {D : Addr} {Qd : Hp → Prop} (Pv : Nat → Hp → Prop) (h0 : Pv 0 (upd H1 D (.lst []))) (hG : ∀ i H, i ≤ n → Pv i H → G H)
    (hs : ∀ i x H H', i < n → Pv i H → Y i H x H' → g x (wipe σ vs) H' fun σ2 H2 => wipe σ2 vs = wipe σ vs ∧ te σ2 H2 fun y H4 => ∃ acc, H4 D = some (.lst acc) ∧ acc.length < sizeLine ∧ Pv (i + 1) (upd H4 D (.lst (acc ++ [y])))) (hd : ∀ H, Pv n H → Qd H) :
    ∃ W : Nat → Nat → Hp → Prop, (∃ m, W 0 m (upd H1 D (.lst []))) ∧ ∀ i m H, W i m H →
      (J.stop i H ∧ Qd H) ∨ (J.go i H ∧ ∃ Nx : Hp → Prop, (∀ H', Nx H' → ∃ m', m' < m ∧ W (i + 1) m' H') ∧ ∀ x H', J.yld i H x H' → g x (wipe σ vs) H' fun σ2 H2 => wipe σ2 vs = wipe σ vs ∧ tYes σ2 H2 fun b H3 =>
        if b = true then te σ2 H3 fun y H4 => ∃ acc, H4 D = some (.lst acc) ∧ acc.length < sizeLine ∧ Nx (upd H4 D (.lst (acc ++ [y]))) else Nx H3) := lc_it (tt := tYes) w Pv h0 hG hs hd
end
end L2

set_option exponentiation.threshold 400
namespace K1
open PySem PySem.Spec PyProof.Rows L2 Evl HM LX ZW TE DR
def kvU (L : List (Int × Addr)) : List (Key × V) := L.map fun x => ((Sum.inl x.1 : Key), V.ref x.2)
theorem valU_out {r : Int} : ∀ {L : List (Int × Addr)}, r ∉ L.map (·.1) → valV (kvU L) (Sum.inl r : Key) = none
  | [], _ => rfl
  | x :: t, h => by
    have h1 : ¬ (Sum.inl x.1 : Key) = Sum.inl r := fun e => h (by rw [← Sum.inl.inj e]; exact List.mem_cons_self ..)
    show valV ((Sum.inl x.1, V.ref x.2) :: kvU t) _ = none
    rw [valV_neg h1]
    exact valU_out fun y => h (List.mem_cons_of_mem _ y)
theorem valU_in {r : Int} {b : Addr} : ∀ {L : List (Int × Addr)}, (L.map (·.1)).Nodup → (r, b) ∈ L → valV (kvU L) (Sum.inl r : Key) = some (.ref b)
  | [], _, h => absurd h (by simp)
  | x :: t, nd, h => by
    show valV ((Sum.inl x.1, V.ref x.2) :: kvU t) _ = _
    rw [List.map_cons, List.nodup_cons] at nd
    rcases List.mem_cons.mp h with e | e
    · subst e
      exact valV_pos rfl
    · have h1 : ¬ (Sum.inl x.1 : Key) = Sum.inl r := fun y => nd.1 (by rw [Sum.inl.inj y]; exact List.mem_map.mpr ⟨(r, b), e, rfl⟩)
      rw [valV_neg h1]
      exact valU_in nd.2 e
def putU (L : List (Int × Addr)) (q : Int) (b : Addr) : List (Int × Addr) := if q ∈ L.map (·.1) then L.map (fun x => if x.1 = q then (x.1, b) else x) else L ++ [(q, b)]
theorem putU_keys (L : List (Int × Addr)) (q : Int) (b : Addr) : (putU L q b).map (·.1) = if q ∈ L.map (·.1) then L.map (·.1) else L.map (·.1) ++ [q] := by
  unfold putU
  split
  · rw [List.map_map]
    refine List.map_congr_left fun x _ => ?_
    show (if x.1 = q then (x.1, b) else x).1 = x.1
    split <;> rfl
  · rw [List.map_append]
    rfl
theorem putU_is (L : List (Int × Addr)) (nd : (L.map (·.1)).Nodup) (q : Int) (b : Addr) : putK (kvU L) (.inl q) (.ref b) = kvU (putU L q b) := by
  by_cases z : q ∈ L.map (·.1)
  · have any : ((kvU L).any fun kv => decide (kv.1 = (Sum.inl q : Key))) = true := by
      rw [valV_any]
      obtain ⟨⟨r0, c⟩, hc, e⟩ := List.mem_map.mp z
      have e2 : r0 = q := e
      subst e2
      rw [valU_in nd hc]
      rfl
    unfold putK
    rw [if_pos any]
    unfold putU
    rw [if_pos z]
    unfold kvU
    rw [List.map_map, List.map_map]
    refine List.map_congr_left fun x _ => ?_
    show (if ((Sum.inl x.1 : Key), V.ref x.2).1 = Sum.inl q then (((Sum.inl x.1 : Key), V.ref x.2).1, V.ref b) else _) = ((Sum.inl (if x.1 = q then (x.1, b) else x).1 : Key), V.ref (if x.1 = q then (x.1, b) else x).2)
    by_cases c : x.1 = q
    · rw [if_pos c, if_pos (by show (Sum.inl x.1 : Key) = _; rw [c])]
    · rw [if_neg c, if_neg (fun y => c (Sum.inl.inj y))]
  · rw [putK_new _ (valU_out z)]
    unfold putU
    rw [if_neg z]
    unfold kvU
    rw [List.map_append]
    rfl
/-- a dict of rests over told columns -/
structure UpB (H : Hp) (p : Int → Nat → Bool) (t : List Nat) (L : List (Int × Addr)) : Prop where
  nd : (L.map (·.1)).Nodup
  at_ : ∀ x ∈ L, H x.2 = some (.lst (hv (t.filter (p x.1)))) ∧ t.filter (p x.1) ≠ []
  out : ∀ q, q ∉ L.map (·.1) → t.filter (p q) = []
  len : L.length ≤ t.length
theorem UpB.ex {H H' : Hp} {p : Int → Nat → Bool} {t : List Nat} {L : List (Int × Addr)} (e : Ex H H') (u : UpB H p t L) : UpB H' p t L := ⟨u.nd, fun x hx => ⟨e _ _ (u.at_ x hx).1, (u.at_ x hx).2⟩, u.out, u.len⟩
theorem filter_snoc {α : Type} (p : α → Bool) (t : List α) (j : α) : (t ++ [j]).filter p = t.filter p ++ (if p j = true then [j] else []) := by
  rw [List.filter_append, List.filter_cons]
  rfl
theorem UpB.skip {H : Hp} {p : Int → Nat → Bool} {t : List Nat} {L : List (Int × Addr)} (u : UpB H p t L) {j : Nat} (no : ∀ q, p q j = false) : UpB H p (t ++ [j]) L := by
  have e : ∀ q, (t ++ [j]).filter (p q) = t.filter (p q) := fun q => by rw [filter_snoc, no q, if_neg (by decide), List.append_nil]
  exact ⟨u.nd, fun x hx => by rw [e]; exact u.at_ x hx, fun q hq => by rw [e]; exact u.out q hq, by rw [List.length_append]; exact Nat.le_succ_of_le u.len⟩
theorem UpB.put {H : Hp} {p : Int → Nat → Bool} {t : List Nat} {L : List (Int × Addr)} (u : UpB H p t L) {j : Nat} {q0 : Int} (yes : ∀ q, p q j = true ↔ q = q0) {b : Addr} (hb : H b = some (.lst (hv (t.filter (p q0) ++ [j])))) : UpB H p (t ++ [j]) (putU L q0 b) := by
  have e1 : (t ++ [j]).filter (p q0) = t.filter (p q0) ++ [j] := by rw [filter_snoc, if_pos ((yes q0).mpr rfl)]
  have e2 : ∀ q, q ≠ q0 → (t ++ [j]).filter (p q) = t.filter (p q) := fun q hq => by rw [filter_snoc, if_neg (fun z => hq ((yes q).mp z)), List.append_nil]
  refine ⟨?_, fun x hx => ?_, fun q hq => ?_, ?_⟩
  · rw [putU_keys]
    split
    · exact u.nd
    · rename_i z
      refine List.nodup_append.mpr ⟨u.nd, by simp, fun a ha b hb e => z ?_⟩
      rw [← List.mem_singleton.mp hb, ← e]
      exact ha
  · unfold putU at hx
    split at hx
    · obtain ⟨y, hy, rfl⟩ := List.mem_map.mp hx
      by_cases c : y.1 = q0
      · rw [if_pos c]
        show H b = some (.lst (hv ((t ++ [j]).filter (p y.1)))) ∧ _ ≠ []
        rw [c, e1]
        exact ⟨hb, by simp⟩
      · rw [if_neg c, e2 _ c]
        exact u.at_ y hy
    · rename_i z
      rcases List.mem_append.mp hx with m | m
      · have c : x.1 ≠ q0 := fun e => z (by rw [← e]; exact List.mem_map.mpr ⟨x, m, rfl⟩)
        rw [e2 _ c]
        exact u.at_ x m
      · rw [List.mem_singleton.mp m]
        show H b = some (.lst (hv ((t ++ [j]).filter (p q0)))) ∧ _ ≠ []
        rw [e1]
        exact ⟨hb, by simp⟩
  · rw [putU_keys] at hq
    have hq1 : q ∉ L.map (·.1) := fun z => hq (by split; exact z; exact List.mem_append_left _ z)
    have hq2 : q ≠ q0 := fun e => hq (by
      subst e
      split
      · assumption
      · exact List.mem_append_right _ (List.mem_singleton.mpr rfl))
    rw [e2 q hq2]
    exact u.out q hq1
  · have := congrArg List.length (putU_keys L q0 b)
    rw [List.length_map] at this
    have l := u.len
    rw [List.length_append]
    show _ ≤ t.length + 1
    split at this
    · rw [List.length_map] at this
      omega
    · rw [List.length_append, List.length_map] at this
      have : [q0].length = 1 := rfl
      omega
def pB (c r : Nat) (h : List Nat) (k q : Int) (j : Nat) : Bool := decide (dg h j % k = q) && (decide (j < c) && decide (hAt h j < r))
theorem gbq_pB (c r : Nat) (h : List Nat) (k q : Int) (j : Nat) : gbq c r h k q j = (opn h j && pB c r h k q j) := by
  unfold gbq pB
  rw [Bool.and_assoc]
/-- a heap that tells a box -/
def Whole (wh : List Nat) (c r : Nat) : Prop := ∀ j, hAt wh j = if j < c then r else 0
section
variable {P : Program} {w : World} {K : PySem.W.Frag} {mg : Str → Option Value} {base : Heap}
def spRests : Sp := fun vs H Q _ => ∃ (c r : Nat) (k : Int) (u p : Addr) (wh h : List Nat), vs = [.ref u, .ref p, .int k] ∧ HeapAt H u wh ∧ Whole wh c r ∧ HeapAt H p h ∧ IsHeap h ∧ h.length ≤ 60 ∧ 1 ≤ k ∧ ∀ (a : Addr) L H', Ex H H' → H' a = some (.dK (kvU L)) → UpB H' (pB c r h k) (oc h) L → Q (.ref a) H'
theorem ok_rests_within (T : Txt K mg) {f : Addr} {fd : FuncData} (D : DefAt K mg "rests_within" sRestsWithin ["whole", "heap", "order"] f fd) : FnOk P w K mg base CX0 3 f fd ["whole", "heap", "order"] spRests := by
  refine D.F.ok scRestsWithin (fun vs H Q E h => ?_) (fun cdv A outer s₀ H vs Q E hr h => ?_)
  · obtain ⟨c, r, k, u, p, wh, h, rfl, _⟩ := h
    rfl
  · obtain ⟨c, r, k, u, p, wh, h, rfl, hu, hw, hp, IH, hl, k1, kQ⟩ := h
    obtain ⟨f1, fd1, D1⟩ := T.d_open_columns
    obtain ⟨f2, fd2, D2⟩ := T.d_height_at
    have hr1 : Room 1 _ := hr.mono (by decide)
    have hr2 : Room 2 _ := hr.mono (by decide)
    have hu1 := Nat.lt_of_le_of_lt (Nat.add_le_add_left (show 1 ≤ 64 by decide) _) hr.units
    refine ⟨_, pss_cons (ps_set (i := 3) scRestsWithin.nd rfl (.inl rfl) pe_dnewK)
      (pss_cons (ps_for PassesOwn.never rfl (pi_list (pe_call (ok_open_columns T D1) hr2 (by rfl) D1.g D1.F.kp D1.b .nil pass0 (pa_cons (pv 1) pa_nil))) (pg_name (i := 4) scRestsWithin.nd rfl (.inl rfl))
        (pss_cons (ps_set (i := 5) scRestsWithin.nd rfl (.inl rfl) (pe_call (ok_height_at T D2) hr1 (by rfl) D2.g D2.F.kp D2.b .nil pass0 (pa_cons (pv 1) (pa_cons (pv 4) pa_nil))))
      (pss_one (ps_if (pt_cmpR op_lt (pv 5) (pe_call (ok_height_at T D2) hr1 (by rfl) D2.g D2.F.kp D2.b .nil pass0 (pa_cons (pv 0) (pa_cons (pv 4) pa_nil))) (nomark _)) (pss_cons (ps_set (i := 6) scRestsWithin.nd rfl (.inl rfl) (pe_op op_mod (pe_op op_sub (pv 4) (pv 5)) (pv 2)))
      (pss_one (ps_dput hu1 (pv 3) (pv 6) (pe_op op_cat (pe_dget2 hu1 (pv 3) (pv 6) (pe_lst pa_nil) ⟨rfl, rfl, rfl, rfl⟩) (pe_lst (pa_cons (pv 4) pa_nil))) rfl))) pss_nil))))
      (pss_one (ps_ret (pv 3)))), ?_⟩
    intro a ha
    have x0 := Ex.new (o := .dK []) ha
    have g0 : (upd H a (.dK [])) a = some (.dK (kvU [])) := upd_same
    generalize upd H a (.dK []) = H0 at *
    refine ⟨_, rfl, p, h, rfl, x0 _ _ hp, by omega, fun o H1 e1 _ ho => ⟨o, rfl, ⟨_, SqL.of ho⟩, ?_⟩⟩
    have ol : (oc h).length ≤ 61 := by
      unfold oc
      have := List.length_filter_le (opn h) (List.range (h.length + 1))
      rw [List.length_range] at this
      omega
    refine for_list (K := K) (a := o) (xs := hv (oc h)) (fun i σ' H' => ∃ (L : List (Int × Addr)) (y4 y5 y6 : Option V), σ' = [some (.ref u), some (.ref p), some (.int k), some (.ref a), y4, y5, y6] ∧ H' a = some (.dK (kvU L)) ∧ UpB H' (pB c r h k) ((oc h).take i) L ∧ Ex H H' ∧ H' o = some (.lst (hv (oc h))))
      ⟨[], none, none, none, rfl, e1 _ _ g0, ⟨List.nodup_nil, fun x hx => absurd hx (by simp), fun _ _ => rfl, Nat.zero_le _⟩, x0.trans e1, ho⟩ (fun i σ' H' _ hW => ?_) (fun i x σ' H' hx hW => ?_) (fun σ' H' hW => ?_)
    · obtain ⟨_, _, _, _, _, _, _, _, z⟩ := hW
      exact SqL.of z
    · obtain ⟨L, y4, y5, y6, rfl, w1, w2, w3, w4⟩ := hW
      obtain ⟨j, hj, rfl⟩ := hv_inv hx
      have tk := take_snoc1 hj
      have Ll := w2.len
      have tl : ((oc h).take i).length ≤ 61 := by rw [List.length_take]; omega
      refine ⟨_, rfl, _, rfl, p, h, j, rfl, w3 _ _ hp, fun H3 e3 => ⟨_, rfl, _, rfl, _, rfl, u, wh, j, rfl, (w3.trans e3) _ _ hu, fun H4 e4 => ⟨_, _, rfl, rfl, _, rfl, ite2 (fun cc => ?_) (fun cc => ?_)⟩⟩⟩
      · have cd := of_decide_eq_true cc
        rw [hw j] at cd
        have jc : j < c := by
          by_cases z : j < c
          · exact z
          · rw [if_neg z] at cd
            omega
        rw [if_pos jc] at cd
        have e34 := e3.trans e4
        have w1' := e34 _ _ w1
        have w2' := w2.ex e34
        have w4' := e34 _ _ w4
        have w3' := w3.trans e34
        have dgj : (j : Int) - (hAt h j : Int) = dg h j := rfl
        refine ⟨_, rfl, _, rfl, _, _, rfl, rfl, _, rfl, _, _, rfl, rfl, by omega, ?_⟩
        rw [dgj]
        refine ⟨_, rfl, a, rfl, .inl ⟨_, .inl w1'⟩, _, rfl, by show 0 ≤ sizeLine; decide, fun n hn => ?_⟩
        have xn := Ex.new (o := .lst []) hn
        have gn : (upd H4 n (.lst [])) n = some (.lst []) := upd_same
        have w1n := xn _ _ w1'
        have w2n := w2'.ex xn
        have w4n := xn _ _ w4'
        have w3n := w3'.trans xn
        have ha0 : H a = none := ha
        generalize upd H4 n (.lst []) = H5 at *
        obtain ⟨l, hlv, hll⟩ : ∃ l : Addr, (valV (kvU L) (Sum.inl (dg h j % k) : Key)).getD (.ref n) = .ref l ∧ H5 l = some (.lst (hv (((oc h).take i).filter (pB c r h k (dg h j % k))))) := by
          by_cases m : dg h j % k ∈ L.map (·.1)
          · obtain ⟨⟨r0, b⟩, hb, e5⟩ := List.mem_map.mp m
            have e6 : r0 = dg h j % k := e5
            subst e6
            rw [valU_in w2n.nd hb]
            exact ⟨b, rfl, (w2n.at_ _ hb).1⟩
          · rw [valU_out m, w2n.out _ m]
            exact ⟨n, rfl, gn⟩
        refine ⟨_, DGet.k (k := .inl (dg h j % k)) w1n, ?_⟩
        rw [hlv]
        refine ⟨_, rfl, by show 1 ≤ sizeLine; decide, fun n2 hn2 => ?_⟩
        have xn2 := Ex.new (o := .lst [V.int (j : Int)]) hn2
        have gn2 : (upd H5 n2 (.lst [V.int (j : Int)])) n2 = some (.lst [V.int (j : Int)]) := upd_same
        have hll2 := xn2 _ _ hll
        have w1m := xn2 _ _ w1n
        have w2m := w2n.ex xn2
        have w4m := xn2 _ _ w4n
        have w3m := w3n.trans xn2
        generalize upd H5 n2 (.lst [V.int (j : Int)]) = H6 at *
        have fl : (((oc h).take i).filter (pB c r h k (dg h j % k))).length ≤ 61 := Nat.le_trans (List.length_filter_le _ _) tl
        refine ⟨l, n2, _, _, rfl, rfl, hll2, gn2, ?_, fun n3 hn3 => ?_⟩
        · rw [hv_len]
          exact sz_of (by show _ + 1 ≤ _; omega)
        have xn3 := Ex.new (o := .lst (hv (((oc h).take i).filter (pB c r h k (dg h j % k))) ++ [V.int (j : Int)])) hn3
        have gn3 : (upd H6 n3 (.lst (hv (((oc h).take i).filter (pB c r h k (dg h j % k))) ++ [V.int (j : Int)]))) n3 = some (.lst (hv (((oc h).take i).filter (pB c r h k (dg h j % k)) ++ [j]))) := by
          rw [upd_same, hv_snoc]
        have w1k := xn3 _ _ w1m
        have w2k := w2m.ex xn3
        have w4k := xn3 _ _ w4m
        have w3k := w3m.trans xn3
        generalize upd H6 n3 (.lst (hv (((oc h).take i).filter (pB c r h k (dg h j % k))) ++ [V.int (j : Int)])) = H7 at *
        refine ⟨_, rfl, _, rfl, a, _, rfl, DPut.k (k := .inl (dg h j % k)) w1k ?_, ?_⟩
        · unfold kvU
          rw [List.length_map]
          exact small1000 (by omega)
        have noa : ∀ {b : Addr} {xs : List V}, H7 b = some (.lst xs) → b ≠ a := fun hb => ne_of hb w1k (by intro z; cases z)
        refine ⟨putU L (dg h j % k) n3, _, _, _, rfl, ?_, ?_, Ex.mut w3k ha0, ?_⟩
        · rw [upd_same, putU_is _ w2k.nd]
        · rw [tk]
          refine UpB.put (q0 := dg h j % k) ⟨w2k.nd, fun x hx => ?_, w2k.out, w2k.len⟩ (fun q => ?_) ?_
          · obtain ⟨h1, h2⟩ := w2k.at_ x hx
            exact ⟨by rw [upd_ne (noa h1)]; exact h1, h2⟩
          · unfold pB
            rw [decide_eq_true jc, decide_eq_true (show hAt h j < r by omega), Bool.and_true, Bool.and_true, decide_eq_true_eq]
            exact ⟨fun e => e.symm, fun e => e.symm⟩
          · rw [upd_ne (noa gn3)]
            exact gn3
        · rw [upd_ne (noa w4k)]
          exact w4k
      · have no : ∀ q, pB c r h k q j = false := fun q => by
          have cd : ¬ (hAt h j : Int) < (hAt wh j : Int) := fun z => cc (decide_eq_true z)
          rw [hw j] at cd
          unfold pB
          by_cases z : j < c
          · rw [if_pos z] at cd
            rw [decide_eq_false (show ¬ hAt h j < r by omega), Bool.and_false, Bool.and_false]
          · rw [decide_eq_false z, Bool.false_and, Bool.and_false]
        exact ⟨L, _, _, _, rfl, (e3.trans e4) _ _ w1, by rw [tk]; exact (w2.ex (e3.trans e4)).skip no, w3.trans (e3.trans e4), (e3.trans e4) _ _ w4⟩
    · obtain ⟨L, y4, y5, y6, rfl, w1, w2, w3, w4⟩ := hW
      rw [hv_len, List.take_length] at w2
      exact ⟨_, rfl, kQ a L _ w3 w1 w2⟩
end
end K1

set_option exponentiation.threshold 400
namespace K1
open PySem PySem.Spec PyProof.Rows L2 Evl HM LX ZW TE DR
theorem oc_pB (c r : Nat) (h : List Nat) (k q : Int) : (oc h).filter (pB c r h k q) = (List.range (h.length + 1)).filter (gbq c r h k q) := by
  unfold oc
  rw [List.filter_filter]
  refine List.filter_congr fun j _ => ?_
  rw [gbq_pB, Bool.and_comm]
def StepAt (c r : Nat) (h : List Nat) (k : Int) (H : Hp) (y : V) (q : Int) : Prop := ∃ a, y = V.ref a ∧ HeapAt H a (grow h (gbq c r h k q))
theorem restore {H H1 H2 : Hp} {a : Addr} {u : HO} (h1 : H1 a = some u) (k : Keep a H1 H2) : Ex H1 (upd H2 a u) := fun b o hb => by
  by_cases z : b = a
  · rw [z, upd_same]
    rw [z, h1] at hb
    exact hb
  · exact (upd_ne z).trans (k _ _ z hb)
section
variable {P : Program} {w : World} {K : PySem.W.Frag} {mg : Str → Option Value} {base : Heap}
def spSteps : Sp := fun vs H Q _ => ∃ (c r : Nat) (k : Int) (u p : Addr) (wh h : List Nat), vs = [.ref u, .ref p, .int k] ∧ HeapAt H u wh ∧ Whole wh c r ∧ HeapAt H p h ∧ IsHeap h ∧ h.length ≤ 60 ∧ 1 ≤ k ∧
  ∀ (a : Addr) (ys : List V) (qs : List Int) H', Ex H H' → H' a = some (.lst ys) → Paired (StepAt c r h k H') ys qs → qs.Nodup → (∀ q, q ∈ qs ↔ ∃ j, gbq c r h k q j = true) → qs.length ≤ 61 → Q (.ref a) H'
theorem ok_steps_within (T : Txt K mg) {f : Addr} {fd : FuncData} (D : DefAt K mg "steps_within" sStepsWithin ["whole", "heap", "order"] f fd) : FnOk P w K mg base CX0 4 f fd ["whole", "heap", "order"] spSteps := by
  refine D.F.ok scStepsWithin (fun vs H Q E h => ?_) (fun cdv A outer s₀ H vs Q E hr h => ?_)
  · obtain ⟨c, r, k, u, p, wh, h, rfl, _⟩ := h
    rfl
  · obtain ⟨c, r, k, u, p, wh, h, rfl, hu, hw, hp, IH, hl, k1, kQ⟩ := h
    obtain ⟨f1, fd1, D1⟩ := T.d_heaped
    obtain ⟨f2, fd2, D2⟩ := T.d_rests_within
    have hr1 : Room 1 _ := hr.mono (by decide)
    have hr3 : Room 3 _ := hr.mono (by decide)
    have hu1 := Nat.lt_of_le_of_lt (Nat.add_le_add_left (show 1 ≤ 64 by decide) _) hr.units
    refine ⟨_, pss_cons (ps_set (i := 3) scStepsWithin.nd rfl (.inr rfl) (pe_call (ok_rests_within T D2) hr3 (by rfl) D2.g D2.F.kp D2.b .nil pass0 (pa_cons (pv 0) (pa_cons (pv 1) (pa_cons (pv 2) pa_nil)))))
      (pss_one (ps_ret (pe_lock (pe_lc (own := [("rest", 4)]) (g := gName 4) (tt := tYes) rfl scStepsWithin.nd (pi_keys (pv 3))
        (blkOk_by (N := nStepsWithin) (sc := defScope sStepsWithin) (by decide +kernel)) (fun _ _ _ _ _ => (pg_name (i := 4) scStepsWithin.nd rfl (.inl rfl))) (fun _ _ _ _ _ => pts_nil)
        (fun _ _ _ _ _ => (pe_call (ok_heaped T D1) hr1 (by rfl) D1.g D1.F.kp D1.b .nil pass0 (pa_cons (pv 1) (pa_cons (pe_dget hu1 (pv 3) (pv 4) (fun _ _ => rfl)) pa_nil)))))))), ?_⟩
    refine ⟨_, rfl, _, rfl, _, rfl, c, r, k, u, p, wh, h, rfl, hu, hw, hp, IH, hl, k1, fun a L H1 e1 ha up => ?_⟩
    have ol : (oc h).length ≤ 61 := by
      unfold oc
      have := List.length_filter_le (opn h) (List.range (h.length + 1))
      rw [List.length_range] at this
      omega
    have Ll : L.length ≤ 61 := Nat.le_trans up.len ol
    refine ⟨a, _, ha, trivial, fun od => ?_⟩
    have k0 : Keep a H1 (upd H1 a (.frz od (.dK (kvU L)))) := keep_lock
    have fz0 : (upd H1 a (.frz od (.dK (kvU L)))) a = some (.frz od (.dK (kvU L))) := upd_same
    generalize upd H1 a (.frz od (.dK (kvU L))) = H2 at *
    have na : ∀ {b : Addr} {xs : List V}, H1 b = some (.lst xs) → b ≠ a := fun hb => ne_of hb ha (by intro z; cases z)
    have npa : p ≠ a := ne_of (e1 _ _ hp) ha (by intro z; cases z)
    refine ⟨_, rfl, a, od, rfl, .inl ⟨_, fz0, fun Dl hD => ?_⟩⟩
    have nda : a ≠ Dl := ne_of_none fz0 hD
    have hD1 : H1 Dl = none := by
      cases z : H1 Dl with
      | none => rfl
      | some o => rw [k0 _ _ nda.symm z] at hD; cases hD
    have kl : (kvU L).length = L.length := List.length_map ..
    refine lc_itY (L2.walk_keys (d := a) (o := od) (kvs := kvU L)) (fun i H' => ∃ ys, H' Dl = some (.lst ys) ∧ Paired (StepAt c r h k H') ys ((L.map (·.1)).take i) ∧ H' a = some (.frz od (.dK (kvU L))) ∧ Keep a H1 H') ⟨[], upd_same, .nil, (upd_ne nda).trans fz0, k0.trans (Keep.new hD)⟩ (fun i H' _ hp2 => ?_) (fun i x H' H3 hi hp2 hy => ?_) (fun H' hp2 => ?_)
    · obtain ⟨_, _, _, z, _⟩ := hp2
      exact z
    · obtain ⟨ys, w1, w2, w3, w4⟩ := hp2
      obtain ⟨rfl, kk, v, hkv, rfl⟩ := hy
      have iL : i < L.length := by rw [kl] at hi; exact hi
      obtain ⟨x, hx, hxe⟩ : ∃ x, L[i]? = some x ∧ ((Sum.inl x.1 : Key), V.ref x.2) = (kk, v) := by
        unfold kvU at hkv
        rw [List.getElem?_map] at hkv
        obtain ⟨x, h1, h2⟩ := Option.map_eq_some_iff.mp hkv
        exact ⟨x, h1, h2⟩
      obtain ⟨rfl, rfl⟩ := Prod.mk.inj hxe
      have hxm := List.mem_of_getElem? hx
      obtain ⟨hb1, hb2⟩ := up.at_ x hxm
      have hb3 := w4 _ _ (na hb1) hb1
      rw [oc_pB] at hb3
      refine ⟨rfl, _, rfl, _, rfl, _, rfl, a, .ref x.2, rfl, .inl ⟨kvU L, .inl x.1, .inr ⟨od, w3⟩, rfl, (valU_in up.nd hxm).symm⟩, ?_⟩
      refine ⟨p, x.2, h, _, rfl, w4 _ _ npa (e1 _ _ hp), hb3, by omega, fun j hj => ?_, fun t H4 e4 ht => ?_⟩
      · have := List.mem_range.mp (List.mem_filter.mp hj).1
        omega
      · rw [hts_filter IH.pos (g := gbq c r h k x.1) (fun j hj => by rw [range_filter_cnt, decide_eq_true (show j < h.length + 1 by omega), Bool.true_and])] at ht
        have w1' := e4 _ _ w1
        have yl := Paired.length w2
        rw [List.length_take, List.length_map] at yl
        refine ⟨ys, w1', small1000 (by omega), ys ++ [V.ref t], upd_same, ?_, ?_, ?_⟩
        · have tk : (L.map (·.1)).take (i + 1) = (L.map (·.1)).take i ++ [x.1] := take_snoc1 (by rw [List.getElem?_map, hx]; rfl)
          rw [tk]
          refine paired_snoc ⟨t, rfl, ?_⟩ (paired_imp (fun y q ⟨b, h1, h2⟩ => ⟨b, h1, ?_⟩) w2)
          · exact (upd_ne (ne_of ht w1' (by intro z; cases z))).trans ht
          · have h3 : H4 b = _ := e4 _ _ h2
            exact (upd_ne (ne_of h3 w1' (by intro z; cases z))).trans h3
        · exact (upd_ne nda).trans (e4 _ _ w3)
        · exact ((w4.trans (Keep.ex e4)).mut hD1)
    · obtain ⟨ys, w1, w2, w3, w4⟩ := hp2
      rw [kl] at w2
      rw [List.take_of_length_le (by rw [List.length_map]; exact Nat.le_refl _)] at w2
      refine ⟨w3, ?_⟩
      have nd2 : Dl ≠ a := nda.symm
      refine kQ Dl ys (L.map (·.1)) _ (e1.trans (restore (H := H) ha w4)) ((upd_ne nd2).trans w1) (paired_imp (fun y q ⟨b, h1, h2⟩ => ⟨b, h1, ?_⟩) w2) up.nd (fun q => ?_) (by rw [List.length_map]; exact Ll)
      · have mem : (∃ j, gbq c r h k q j = true) ↔ (oc h).filter (pB c r h k q) ≠ [] := by
          rw [oc_pB]
          constructor
          · rintro ⟨j, hj⟩ e
            have : j ∈ (List.range (h.length + 1)).filter (gbq c r h k q) := List.mem_filter.mpr ⟨List.mem_range.mpr (by have := opn_le (gbq_opn j hj); omega), hj⟩
            rw [e] at this
            cases this
          · intro ne
            obtain ⟨j, hj⟩ := List.exists_mem_of_ne_nil _ ne
            exact ⟨j, (List.mem_filter.mp hj).2⟩
        rw [mem]
        constructor
        · intro hq
          obtain ⟨x, hx, rfl⟩ := List.mem_map.mp hq
          exact (up.at_ x hx).2
        · intro ne
          exact Decidable.byContradiction fun z => ne (up.out q z)
      · have h3 : H' b = _ := h2
        exact (upd_ne (ne_of h3 w3 (by intro z; cases z))).trans h3
/-- the law's own cut -/
def spCut : Sp := fun vs H Q _ => ∃ (p : Addr) (h : List Nat) (c r : Nat), vs = [.ref p, .int (c : Int), .int (r : Int)] ∧ HeapAt H p h ∧ h.length ≤ 100 ∧ ∀ (a : Addr) H', Ex H H' → HeapAt H' a (cutH c r h) → Q (.ref a) H'
end
end K1

/-! own rule: a tuple times an int from 1 on, by what stands afterwards -/
namespace RT
open PySem PySem.Spec PyProof.Rows L2 Evl
theorem tuple_mul1 (l : Addr) (items : Array Value) (n : Nat) (dd : Option Addr) (sl : Array (Option Value)) (u : Tok) :
    Meets (Builtin.«tuple.__mul__» ⟨[.ref l, .int 1 u], []⟩) (fun _ R s => s.heap.get? l = some { cls := .type "tuple", dict := dd, data := .seq items n, slots := sl } ∧ R (.ok (.ret (Value.ref l))) s) :=
  .of_wp fun prog w A R s h => by
    obtain ⟨hp, g, d, tk, os⟩ := s
    obtain ⟨hl, h⟩ := h
    have f1 := AutoSeq1.idx_int
    have c0 : (decide ((1 : Int) < -(2 ^ 63)) || decide ((1 : Int) ≥ 2 ^ 63)) = false := by decide
    have c1 : (items.isEmpty || (1 : Int) == 1) = true := by simp
    wp_walk using wpAny_loadPart' hl
    repeat (first
      | (refine wpAny_ite_false (decide_eq_false (by rw [c0]; exact Bool.false_ne_true)) ?_; wp_walk using wpAny_loadPart' hl)
      | (refine wpAny_ite_true (decide_eq_true (by rw [c1])) ?_; wp_walk using wpAny_loadPart' hl))
    exact ⟨_, rfl, h⟩
section
variable {X : Cx}
def rRepE : R2 := fun x y H Q => ∃ l k xs, x = .ref l ∧ y = .int k ∧ H l = some (.tup xs) ∧ xs ≠ [] ∧ 1 ≤ k ∧ k ≤ 1000 ∧ xs.length ≤ 1000 ∧ ∀ p H', Ex H H' → H' p = some (.tup (List.replicate k.toNat xs).flatten) → Q (.ref p) H'
theorem op_repE : OpR X (binaryOp .Mult) rRepE := by
  intro pins s σ H x y v u Q I rx ry h
  obtain ⟨l, k, xs, rfl, rfl, hT, hne, h1, h2, hz, q⟩ := h
  by_cases hk : k = 1
  · subst hk
    cases rx
    obtain ⟨t, rfl⟩ := ry
    obtain ⟨its, r, ⟨⟨cls, dd, data, sl⟩, ho, hc, n, hd⟩, hs⟩ := I.tuple (SqT.of hT)
    simp only at hc hd
    subst hc hd
    refine wpAny_binaryOp_repeat_ref (T := "tuple") (U := "int") (by decide) ⟨_, ho, rfl⟩ (fun s' => typeIs_int s' 1 t) noFill_tuple_mul F.fills_int_mul F.slot_int_rmul repeat_tuple F.slot_int_index.lookup
      (call_meets F.slot_int_rmul (typeIs_int s 1 t) F.entry_int_rmul (F.args_int_rmul_2 _ _) (int_rmul_tuple 1 t l its.toArray n dd sl)
        ⟨ho, rfl, ⟨_, ho, rfl⟩, call_meets F.slot_tuple_mul ⟨_, ho, rfl⟩ F.entry_tuple_mul (F.args_tuple_mul_2 _ _) (tuple_mul1 l its.toArray n dd sl t) ⟨ho, ?_⟩⟩)
    refine ⟨.ref l, H, I, rfl, q l H (Ex.refl _) ?_⟩
    rw [hT]
    simp
  · exact op_repT pins s σ H _ _ v u Q I rx ry ⟨l, k, xs, rfl, rfl, SqT.of hT, hne, by omega, h2, hz, fun p hp => q p _ (Ex.new hp) upd_same⟩
end
end RT

/-! own rule: a tuple times an int that may be 0 or below -/
namespace RT
open PySem PySem.Spec PyProof.Rows L2 Evl
theorem tuple_mul0 (l : Addr) (items : Array Value) (n : Nat) (dd : Option Addr) (sl : Array (Option Value)) (x : Int) (u : Tok) (c0 : (decide (x < -(2 ^ 63)) || decide (x ≥ 2 ^ 63)) = false) (c1 : (items.isEmpty || x == 1) = false) (c2 : (decide (x ≤ 0) || items.isEmpty) = true) :
    Meets (Builtin.«tuple.__mul__» ⟨[.ref l, .int x u], []⟩) (fun _ R s => s.heap.get? l = some { cls := .type "tuple", dict := dd, data := .seq items n, slots := sl } ∧
      R (.ok (.ret (Value.ref s.heap.objs.size))) { s with heap := s.heap.push { cls := Value.type "tuple", data := Data.seq #[] }, toks := s.toks }) :=
  .of_wp fun prog w A R s h => by
    obtain ⟨hp, g, d, tk, os⟩ := s
    obtain ⟨hl, h⟩ := h
    have f1 := AutoSeq1.idx_int
    wp_walk using wpAny_loadPart' hl
    repeat (first
      | (refine wpAny_ite_false (decide_eq_false (by rw [c0]; exact Bool.false_ne_true)) ?_; wp_walk using wpAny_loadPart' hl)
      | (refine wpAny_ite_false (decide_eq_false (by rw [c1]; exact Bool.false_ne_true)) ?_; wp_walk using wpAny_loadPart' hl)
      | (refine wpAny_ite_true (decide_eq_true (by rw [c2])) ?_; wp_walk using wpAny_loadPart' hl))
    exact ⟨_, rfl, h⟩
section
variable {X : Cx}
/-- any count: none for 0 and below -/
def rRepZ : R2 := fun x y H Q => ∃ l k xs, x = .ref l ∧ y = .int k ∧ H l = some (.tup xs) ∧ xs ≠ [] ∧ -1000000 ≤ k ∧ k ≤ 1000 ∧ xs.length ≤ 1000 ∧ ∀ p H', Ex H H' → H' p = some (.tup (List.replicate k.toNat xs).flatten) → Q (.ref p) H'
theorem op_repZ : OpR X (binaryOp .Mult) rRepZ := by
  intro pins s σ H x y v u Q I rx ry h
  obtain ⟨l, k, xs, rfl, rfl, hT, hne, h1, h2, hz, q⟩ := h
  by_cases hk : 1 ≤ k
  · exact op_repE pins s σ H _ _ v u Q I rx ry ⟨l, k, xs, rfl, rfl, hT, hne, hk, h2, hz, q⟩
  · cases rx
    obtain ⟨t, rfl⟩ := ry
    obtain ⟨its, r, ⟨⟨cls, dd, data, sl⟩, ho, hc, n, hd⟩, hs⟩ := I.tuple (SqT.of hT)
    simp only at hc hd
    subst hc hd
    have hle : its.length = xs.length := r.length.symm
    have hn : its ≠ [] := fun e => hne (by
      rw [e] at hle
      exact List.eq_nil_of_length_eq_zero hle.symm)
    have hi : its.toArray.isEmpty = false := by
      cases its with
      | nil => exact absurd rfl hn
      | cons a b => rfl
    have c0 : (decide (k < -(2 ^ 63)) || decide (k ≥ 2 ^ 63)) = false := by
      rw [decide_eq_false (by omega), decide_eq_false (by omega)] <;> rfl
    have c1 : (its.toArray.isEmpty || k == 1) = false := by
      rw [hi, Bool.false_or]
      exact beq_eq_false_iff_ne.mpr (by omega)
    have c2 : (decide (k ≤ 0) || its.toArray.isEmpty) = true := by
      rw [decide_eq_true (by omega), Bool.true_or]
    refine wpAny_binaryOp_repeat_ref (T := "tuple") (U := "int") (by decide) ⟨_, ho, rfl⟩ (fun s' => typeIs_int s' k t) noFill_tuple_mul F.fills_int_mul F.slot_int_rmul repeat_tuple F.slot_int_index.lookup
      (call_meets F.slot_int_rmul (typeIs_int s k t) F.entry_int_rmul (F.args_int_rmul_2 _ _) (int_rmul_tuple k t l its.toArray n dd sl)
        ⟨ho, rfl, ⟨_, ho, rfl⟩, call_meets F.slot_tuple_mul ⟨_, ho, rfl⟩ F.entry_tuple_mul (F.args_tuple_mul_2 _ _) (tuple_mul0 l its.toArray n dd sl k t c0 c1 c2) ⟨ho, ?_⟩⟩)
    have e : (List.replicate k.toNat xs).flatten = [] := by
      rw [show k.toNat = 0 by omega]
      rfl
    rw [e] at q
    have hf := I.hok.fresh (Nat.le_refl s.heap.objs.size)
    refine ⟨.ref s.heap.objs.size, _, I.laid (t' := s.toks) (o := .tup []) (fun b ob q => Heap.get?_push_of_some _ q) (Nat.le_refl _) ?_, rfl, q _ _ (Ex.new hf) upd_same⟩
    exact ⟨by rw [sizeLine_eq]; show 0 ≤ _; omega, [], .nil, IsTup.new _ _⟩
end
end RT

set_option exponentiation.threshold 400
namespace K1
open PySem PySem.Spec PyProof.Rows L2 Evl HM LX ZW TE DR
theorem bx_gbq {c r : Nat} {h : List Nat} (B : Bx c r h) (k q : Int) : Bx c r (grow h (gbq c r h k q)) := by
  refine ⟨grow_heap B.heap gbq_opn, ?_, ?_⟩
  · rw [grow_len]
    have l := B.len
    cases z : gbq c r h k q h.length with
    | false => exact l
    | true =>
      have := of_decide_eq_true (Bool.and_eq_true_iff.mp (Bool.and_eq_true_iff.mp z).2).1
      show h.length + 1 ≤ c
      omega
  · rw [hAt_grow gbq_opn]
    have l := B.top
    cases z : gbq c r h k q 0 with
    | false => exact l
    | true =>
      have := of_decide_eq_true (Bool.and_eq_true_iff.mp (Bool.and_eq_true_iff.mp z).2).2
      show hAt h 0 + 1 ≤ r
      omega
theorem places_le {c r : Nat} {h : List Nat} (B : Bx c r h) {n s : Int} {k : Nat} (hn : 2 ≤ n) (hs : 1 ≤ s) (ho : K1M.ord n.toNat s.natAbs = k) (hk : 2 ≤ k) {L : List Int} (nd : L.Nodup) (mem : ∀ q, q ∈ L ↔ ∃ j, gbq c r h (k : Int) q j = true) : (L.length : Int) ≤ n := by
  have e := sum_places B hn hs ho hk nd mem (ind h)
  have z : sumL L (fun q => ind h (grow h (gbq c r h (k : Int) q))) = 0 := by
    rw [show sumL L (fun q => ind h (grow h (gbq c r h (k : Int) q))) = sumL L fun _ => 0 from sumL_congr fun q hq => ?_, sumL_zero]
    obtain ⟨j, hj⟩ := (mem q).mp hq
    unfold ind
    refine if_neg fun e => ?_
    have := congrArg (fun l => hAt l j) e
    have this : hAt (grow h (gbq c r h (k : Int) q)) j = hAt h j := this
    rw [hAt_grow gbq_opn, hj] at this
    have b : b2n true = 1 := rfl
    omega
  have p : 0 ≤ sumL (List.range n.toNat) (fun p => ind h (grow h (gb c r h n s (p : Int)))) := sumL_nn fun p _ => by unfold ind; split <;> decide
  have o : ind h h = 1 := if_pos rfl
  rw [z, o] at e
  omega
theorem plc_is {rs : List (Int × Int)} {c r i : Nat} {h : List Nat} (B : Bx c r h) {s : Int} {k : Nat} (hn : 2 ≤ (K1N.nAt rs i : Int)) (es : K1N.sAt rs i = s) (hs : 1 ≤ s) (ho : K1M.ord (K1N.nAt rs i) s.natAbs = k) (hk : 2 ≤ k) {L : List Int} (nd : L.Nodup) (mem : ∀ q, q ∈ L ↔ ∃ j, gbq c r h (k : Int) q j = true) (F : List Nat → Int) :
    plc rs c r i F h = sumL L (fun q => F (grow h (gbq c r h (k : Int) q))) + ((K1N.nAt rs i : Int) - (L.length : Int)) * F h := by
  have e := sum_places B hn hs (by rw [Int.toNat_natCast]; exact ho) hk nd mem F
  rw [← e, Int.toNat_natCast]
  unfold plc
  rw [es]
  exact sumL_congr fun p _ => by rw [cut_gb B]
theorem whole_rep (c r : Nat) : Whole (List.replicate c r) c r := fun j => by
  unfold hAt
  rw [List.getD_eq_getElem?_getD, List.getElem?_replicate]
  split <;> rfl
theorem whole_nil (c : Nat) : Whole [] c 0 := fun j => by
  rw [hAt_ge (Nat.zero_le _)]
  split <;> rfl
theorem pow_few {c r : Nat} (h1 : c ≤ 6) (h2 : r ≤ 6) : (r + 1) ^ c ≤ 117649 := by
  refine Nat.le_trans (Nat.pow_le_pow_left (show r + 1 ≤ 7 by omega) c) ?_
  exact Nat.le_trans (Nat.pow_le_pow_right (by decide) h1) (by decide)
theorem flat_rep1 {α : Type} : ∀ (n : Nat) (x : α), (List.replicate n [x]).flatten = List.replicate n x
  | 0, _ => rfl
  | n + 1, x => by
    rw [List.replicate_succ, List.flatten_cons, flat_rep1 n x]
    rfl
section
variable {P : Program} {w : World} {K : PySem.W.Frag} {mg : Str → Option Value} {base : Heap}
def spCutHeaps : Sp := fun vs H Q _ => ∃ (ch : Addr) (xs : List V) (rs : List (Int × Int)) (c r : Nat), vs = [.ref ch, .int (c : Int), .int (r : Int)] ∧ H ch = some (.tup xs) ∧ RingsAt H 60 xs rs ∧ xs.length ≤ 12 ∧ c ≤ 6 ∧ r ≤ 6 ∧
  ∀ (d : Addr) L H', Ex H H' → H' d = some (.dT (kvC L)) → Cn rs c r xs.length L → Q (.ref d) H'
theorem ok_cut_heaps (T : Txt K mg) {f : Addr} {fd : FuncData} (D : DefAt K mg "cut_heaps" sCutHeaps ["chain", "columns", "rows"] f fd) : FnOk P w K mg base CX0 6 f fd ["chain", "columns", "rows"] spCutHeaps := by
  refine D.F.ok scCutHeaps (fun vs H Q E h => ?_) (fun cdv A outer s₀ H vs Q E hr h => ?_)
  · obtain ⟨ch, xs, rs, c, r, rfl, _⟩ := h
    rfl
  · obtain ⟨ch, xs, rs, c, r, rfl, hch, hR, l12, c6, r6, kQ⟩ := h
    obtain ⟨f1, fd1, D1⟩ := T.d_steps_within
    obtain ⟨f2, fd2, D2⟩ := T.d_order_of
    have hr4 : Room 4 _ := hr.mono (by decide)
    have hr5 : Room 5 _ := hr.mono (by decide)
    have hu1 := Nat.lt_of_le_of_lt (Nat.add_le_add_left (show 1 ≤ 64 by decide) _) hr.units
    refine ⟨_, pss_cons (ps_set (i := 3) scCutHeaps.nd rfl (.inl rfl) (pe_cut9 (pe_ifExp (pt_cmpR op_gt (pv 2) pe_int (nomark _)) (pe_op RT.op_repZ (pe_tup (pa_cons (pv 2) pa_nil)) (pv 1)) (pe_tup pa_nil))))
      (pss_cons (ps_set (i := 4) scCutHeaps.nd rfl (.inl rfl) (pe_disp1T hr.units0 (pe_tup pa_nil) pe_int))
      (pss_cons (ps_for PassesOwn.never rfl (pi_tup (pv 0)) (pg_name (i := 5) scCutHeaps.nd rfl (.inl rfl))
        (pss_cons (ps_set (i := 6) scCutHeaps.nd rfl (.inl rfl) pe_dnewT)
      (pss_cons (ps_lock (ps_for PassesOwn.never rfl (pi_keys (pv 4)) (pg_name (i := 7) scCutHeaps.nd rfl (.inl rfl))
        (pss_cons (ps_set (i := 8) scCutHeaps.nd rfl (.inl rfl) (pe_call (ok_steps_within T D1) hr4 (by rfl) D1.g D1.F.kp D1.b .nil pass0 (pa_cons (pv 3) (pa_cons (pv 7) (pa_cons (pe_call (ok_order_of T D2) hr5 (by rfl) D2.g D2.F.kp D2.b .nil pass0 (pa_cons (pv 5) pa_nil)) pa_nil)))))
      (pss_cons (ps_for PassesOwn.never rfl (pi_list (pv 8)) (pg_name (i := 9) scCutHeaps.nd rfl (.inl rfl))
        (pss_one (ps_dput hu1 (pv 6) (pv 9) (pe_op op_add (pe_dget2 hu1 (pv 6) (pv 9) pe_int ⟨rfl, rfl, rfl, rfl⟩) (pe_dget hu1 (pv 4) (pv 7) (fun _ _ => rfl))) rfl)))
      (pss_one (ps_if (pt_cmpR op_lt (pe_callB call_len_seq (by rfl) T.z_len PySem.boot_len (pa_cons (pv 8) pa_nil)) (pe_ix ix_tup (pv 5) pe_int (fun _ _ => rfl)) (nomark _)) (pss_one (ps_dput hu1 (pv 6) (pv 7) (pe_op op_add (pe_dget2 hu1 (pv 6) (pv 7) pe_int ⟨rfl, rfl, rfl, rfl⟩) (pe_op op_mul (pe_dget hu1 (pv 4) (pv 7) (fun _ _ => rfl)) (pe_op op_sub (pe_ix ix_tup (pv 5) pe_int (fun _ _ => rfl)) (pe_callB call_len_seq (by rfl) T.z_len PySem.boot_len (pa_cons (pv 8) pa_nil))))) rfl)) pss_nil))))))
      (pss_one (ps_set (i := 4) scCutHeaps.nd rfl (.inl rfl) (pv 6))))))
      (pss_one (ps_ret (pv 4))))), ?_⟩
    have pw := pow_few c6 r6
    have hlen : xs.length = rs.length := paired_len hR
    refine ⟨fun v H' => ∃ (u : Addr) (wh : List Nat), v = .ref u ∧ HeapAt H' u wh ∧ Whole wh c r ∧ Ex H H', ?_, ?_⟩
    · refine ⟨_, rfl, _, _, rfl, rfl, _, rfl, ite2 (fun cc => ?_) (fun cc => ?_)⟩
      · refine ⟨_, rfl, by show 1 ≤ sizeLine; decide, fun t ht => ⟨_, rfl, t, (c : Int), [.int (r : Int)], rfl, rfl, upd_same, (fun z => by cases z), by omega, by omega, by show 1 ≤ 1000; decide, fun u H1 e1 hu => ?_⟩⟩
        refine ⟨u, List.replicate c r, rfl, ?_, whole_rep c r, (Ex.new ht).trans e1⟩
        unfold HeapAt hv
        rw [hu, List.map_replicate, Int.toNat_natCast]
        congr 2
        exact flat_rep1 c _
      · have r0 : r = 0 := by
          have : ¬ (r : Int) > 0 := fun z => cc (decide_eq_true z)
          omega
        subst r0
        exact ⟨by show 0 ≤ sizeLine; decide, fun t ht => ⟨t, [], rfl, upd_same, whole_nil c, Ex.new ht⟩⟩
    rintro v H0 ⟨u, wh, rfl, hu, hw, e0⟩
    intro d hd
    refine ⟨by show 0 ≤ sizeLine; decide, fun t0 ht0 => ?_⟩
    have xd := Ex.new (o := .dT []) hd
    have xt := Ex.new (o := .tup []) ht0
    have dt : d ≠ t0 := ne_of_none upd_same ht0
    refine ⟨t0, [], rfl, upd_same, (upd_ne dt).trans upd_same, ?_⟩
    have g0 : (upd (upd (upd H0 d (.dT [])) t0 (.tup [])) d (.dT [([], V.int 1)])) d = some (.dT (kvC [([], 1)])) := upd_same
    have e01 : Ex H0 (upd (upd (upd H0 d (.dT [])) t0 (.tup [])) d (.dT [([], V.int 1)])) := Ex.mut (xd.trans xt) hd
    generalize upd (upd (upd H0 d (.dT [])) t0 (.tup [])) d (.dT [([], V.int 1)]) = H1 at *
    have eA := e0.trans e01
    refine ⟨_, rfl, ch, rfl, ⟨_, SqT.of (eA _ _ hch)⟩, for_tup (K := K) (a := ch) (xs := xs) (fun i σ' H' => ∃ (d : Addr) (L : List (List Nat × Int)) (y5 y6 y7 y8 y9 : Option V), σ' = [some (.ref ch), some (.int (c : Int)), some (.int (r : Int)), some (.ref u), some (.ref d), y5, y6, y7, y8, y9] ∧ H' d = some (.dT (kvC L)) ∧ Cn rs c r i L ∧ Ex H1 H')
      ⟨d, _, none, none, none, none, none, rfl, g0, Cn.zero rs c r, Ex.refl _⟩ (fun i σ' H' _ hW => ?_) (fun i x σ' H' hx hW => ?_) (fun σ' H' hW => ?_)⟩
    · obtain ⟨_, _, _, _, _, _, _, _, _, _, ee⟩ := hW
      exact SqT.of ((eA.trans ee) _ _ hch)
    · obtain ⟨d, L, y5, y6, y7, y8, y9, rfl, hd', C, e2⟩ := hW
      have eB := eA.trans e2
      have hi : i < xs.length := (List.getElem?_eq_some_iff.mp hx).1
      have hRx := rings_nth4 (rings_ex4 eB hR) hx
      obtain ⟨t, rfl, ht, m1, m2, m3, m4⟩ := id hRx
      have hu' := (e01.trans e2) _ _ hu
      intro m hm
      have nmd : d ≠ m := ne_of_none hd' hm
      have e3 := Ex.new (o := .dT []) hm
      refine ⟨d, _, e3 _ _ hd', trivial, fun od => ?_⟩
      have k0 : Keep d H' (upd (upd H' m (.dT [])) d (.frz od (.dT (kvC L)))) := (Keep.ex e3).trans keep_lock
      have s0 : (upd (upd H' m (.dT [])) d (.frz od (.dT (kvC L)))) m = some (.dT (kvC [])) := (upd_ne nmd.symm).trans upd_same
      have fz0 : (upd (upd H' m (.dT [])) d (.frz od (.dT (kvC L)))) d = some (.frz od (.dT (kvC L))) := upd_same
      generalize upd (upd H' m (.dT [])) d (.frz od (.dT (kvC L))) = H2 at *
      have kl : (kvC L).length = L.length := List.length_map ..
      have nd' : ∀ {b : Addr} {zs : List V}, H' b = some (.tup zs) → b ≠ d := fun hb => ne_of hb hd' (by intro z; cases z)
      refine ⟨_, rfl, d, od, rfl, .inr ⟨_, fz0, for_it walk_keysT (fun v σ2 H2 => ∃ (y7 y8 y9 : Option V) (M : List (List Nat × Int)), σ2 = [some (.ref ch), some (.int (c : Int)), some (.int (r : Int)), some (.ref u), some (.ref d), some (.ref t), some (.ref m), y7, y8, y9] ∧ H2 m = some (.dT (kvC M)) ∧ Mk c r M ∧ (∀ F, wsum M F = sumL (L.take v) fun x => x.2 * plc rs c r i F x.1) ∧ H2 d = some (.frz od (.dT (kvC L))) ∧ Keep d H' H2)
        ⟨_, _, _, [], rfl, s0, Mk.nil c r, fun F => rfl, fz0, k0⟩ (fun v σ2 H2 _ hW => ?_) (fun v x σ2 H2 H3 hv1 hW hy => ?_) (fun σ2 H2 hW => ?_)⟩⟩
      · obtain ⟨_, _, _, _, _, _, _, _, fz, _⟩ := hW
        exact fz
      · obtain ⟨y7, y8, y9, M, rfl, w1, w2, w3, w4, w5⟩ := hW
        obtain ⟨rfl, ky, v', b, hkv, rfl, hb⟩ := hy
        have iL : v < L.length := by rw [kl] at hv1; exact hv1
        obtain ⟨x, hx2, hxe⟩ : ∃ x, L[v]? = some x ∧ (keyW x.1, V.int x.2) = (ky, v') := by
          unfold kvC at hkv
          rw [List.getElem?_map] at hkv
          obtain ⟨x, h1, h2⟩ := Option.map_eq_some_iff.mp hkv
          exact ⟨x, h1, h2⟩
        obtain ⟨rfl, rfl⟩ := Prod.mk.inj hxe
        have hxm := List.mem_of_getElem? hx2
        have Bx' := C.bx x hxm
        have px := C.pos x hxm
        have xl := Bx'.len
        have hb0 : HeapAt H3 b x.1 := by
          unfold HeapAt
          rw [← keyW_hv]
          exact hb
        have w5t : ∀ {b : Addr} {zs : List V}, H' b = some (.tup zs) → H3 b = some (.tup zs) := fun hb => w5 _ _ (nd' hb) hb
        have ht3 : RingAt H3 60 (.ref t) (K1N.nAt rs i : Int) (K1N.sAt rs i) := ⟨t, rfl, w5t ht, m1, m2, m3, m4⟩
        refine ⟨_, rfl, _, rfl, _, rfl, _, _, _, rfl, ht3, fun H4 e4 => ?_⟩
        have ok2 : 2 ≤ K1M.ord (K1N.nAt rs i : Int).natAbs (K1N.sAt rs i).natAbs := K1M.ord_ge2 (by omega) (by omega)
        obtain ⟨k, hk⟩ : ∃ k, k = K1M.ord (K1N.nAt rs i : Int).natAbs (K1N.sAt rs i).natAbs := ⟨_, rfl⟩
        rw [← hk] at ok2 ⊢
        refine ⟨c, r, (k : Int), u, b, wh, x.1, rfl, e4 _ _ (w5t hu'), hw, e4 _ _ hb0, Bx'.heap, by omega, by omega, fun a ys qs H5 e5 ha pq nq mq lq => ?_⟩
        have e45 := e4.trans e5
        have w1' := e45 _ _ w1
        have w4' := e45 _ _ w4
        have hb5 := e45 _ _ hb0
        have ht5 := e45 _ _ (w5t ht)
        have nbm : b ≠ m := ne_of hb5 w1' (by intro z; cases z)
        have nbd : b ≠ d := ne_of hb5 w4' (by intro z; cases z)
        have ntm : t ≠ m := ne_of ht5 w1' (by intro z; cases z)
        have nam : a ≠ m := ne_of ha w1' (by intro z; cases z)
        have w5' := w5.trans (Keep.ex e45)
        have yl : ys.length = qs.length := Paired.length pq
        have pl := fun F => plc_is (F := F) Bx' m1 rfl m3 (by rw [hk, Int.natAbs_natCast]) ok2 nq mq
        have ple := places_le Bx' m1 m3 (show K1M.ord (K1N.nAt rs i : Int).toNat (K1N.sAt rs i).natAbs = k by rw [hk, Int.toNat_natCast, Int.natAbs_natCast]) ok2 nq mq
        refine ⟨_, rfl, a, rfl, ⟨_, SqL.of ha⟩, for_list (K := K) (a := a) (xs := ys) (fun z σ3 H6 => ∃ (y9 : Option V) (M2 : List (List Nat × Int)), σ3 = [some (.ref ch), some (.int (c : Int)), some (.int (r : Int)), some (.ref u), some (.ref d), some (.ref t), some (.ref m), some (.ref b), some (.ref a), y9] ∧ H6 m = some (.dT (kvC M2)) ∧ Mk c r M2 ∧ (∀ F, wsum M2 F = sumL (L.take v) (fun x => x.2 * plc rs c r i F x.1) + sumL (qs.take z) fun q => x.2 * F (grow x.1 (gbq c r x.1 (k : Int) q))) ∧ Keep m H5 H6)
          ⟨_, M, rfl, w1', w2, fun F => by rw [w3]; exact (Int.add_zero _).symm, Keep.refl _ _⟩ (fun z σ3 H6 _ hW => ?_) (fun z y σ3 H6 hy hW => ?_) (fun σ3 H6 hW => ?_)⟩
        · obtain ⟨_, _, _, _, _, _, kp⟩ := hW
          exact SqL.of (kp _ _ nam ha)
        · obtain ⟨y9, M2, rfl, u1, u2, u3, u4⟩ := hW
          obtain ⟨q, hq, g, rfl, hg⟩ := paired_get pq hy
          obtain ⟨S, hS⟩ : ∃ S, S = grow x.1 (gbq c r x.1 (k : Int) q) := ⟨_, rfl⟩
          rw [← hS] at hg
          have ngm : g ≠ m := ne_of hg w1' (by intro z; cases z)
          have hk6 : H6 g = some (.tup ((keyW S).map kV)) := by rw [keyW_hv]; exact u4 _ _ ngm hg
          have hkb : H6 b = some (.tup ((keyW x.1).map kV)) := by rw [keyW_hv]; exact u4 _ _ nbm hb5
          have fz6 := u4 _ _ nmd w4'
          have mf := u2.few
          refine ⟨_, rfl, m, rfl, .inr ⟨_, .inl u1⟩, _, rfl, _, DGet.t u1 hk6, _, rfl, _, rfl, d, .int x.2, rfl, .inr ⟨kvC L, keyW x.1, b, .inr ⟨od, fz6⟩, rfl, hkb, by rw [valC, getC_at C.nd hxm]; rfl⟩, (getC M2 S).getD 0, x.2, ?_, rfl, _, rfl, _, rfl, m, _, rfl, DPut.t (k := keyW S) u1 hk6 (by unfold kvC; rw [List.length_map]; exact big6 (by omega)), _, addC M2 S x.2, rfl, ?_, u2.add (by rw [hS]; exact bx_gbq Bx' _ _) px, fun F => ?_, u4.trans Keep.dice⟩
          · rw [valC]
            cases getC M2 S <;> rfl
          · rw [upd_same]
            dsimp only
            rw [putC u2.nd]
          · rw [wsum_add F S x.2 u2.nd, u3, take_snoc1 hq, sumL_app, sumL_cons, sumL_nil, hS]
            omega
        · obtain ⟨y9, M2, rfl, u1, u2, u3, u4⟩ := hW
          rw [yl, List.take_length] at u3
          have mf := u2.few
          have hkb : H6 b = some (.tup ((keyW x.1).map kV)) := by rw [keyW_hv]; exact u4 _ _ nbm hb5
          have fz6 := u4 _ _ nmd w4'
          have ht6 := SqT.of (K := K) (u4 _ _ ntm ht5)
          refine ⟨_, rfl, a, _, rfl, .inl (SqL.of (u4 _ _ nam ha)), _, rfl, t, _, 0, .int (K1N.nAt rs i : Int), rfl, rfl, ht6, rfl, _, _, rfl, rfl, _, rfl, ite2 (fun cc => ?_) (fun cc => ?_)⟩
          · have cc := of_decide_eq_true cc
            rw [yl] at cc
            have hmul : 0 < x.2 * ((K1N.nAt rs i : Int) - (qs.length : Int)) := Int.mul_pos px (by omega)
            refine ⟨_, rfl, m, rfl, .inr ⟨_, .inl u1⟩, _, rfl, _, DGet.t u1 hkb, _, rfl, _, rfl, d, .int x.2, rfl, .inr ⟨kvC L, keyW x.1, b, .inr ⟨od, fz6⟩, rfl, hkb, by rw [valC, getC_at C.nd hxm]; rfl⟩, _, rfl, t, _, 0, .int (K1N.nAt rs i : Int), rfl, rfl, ht6, rfl, _, rfl, a, _, rfl, .inl (SqL.of (u4 _ _ nam ha)), _, _, rfl, rfl, _, _, rfl, rfl, .inr ⟨by omega, by omega⟩, (getC M2 x.1).getD 0, _, ?_, rfl, _, rfl, _, rfl, m, _, rfl, DPut.t (k := keyW x.1) u1 hkb (by unfold kvC; rw [List.length_map]; exact big6 (by omega)), _, _, _, addC M2 x.1 (x.2 * ((K1N.nAt rs i : Int) - (qs.length : Int))), rfl, ?_, u2.add Bx' hmul, fun F => ?_, ?_, ?_⟩
            · rw [valC]
              cases getC M2 x.1 <;> rfl
            · rw [upd_same, yl]
              dsimp only
              rw [putC u2.nd]
            · rw [wsum_add F x.1 _ u2.nd, u3, take_snoc1 hx2, sumL_app, sumL_cons, sumL_nil, pl F, sumL_mul, Int.mul_add, Int.mul_assoc]
              omega
            · exact (upd_ne nmd).trans fz6
            · exact fun a o na ha2 => (upd_ne (ne_of_none ha2 hm)).trans (u4 _ _ (ne_of_none ha2 hm) (w5' _ _ na ha2))
          · have cc : ¬ (ys.length : Int) < (K1N.nAt rs i : Int) := fun z => cc (decide_eq_true z)
            rw [yl] at cc
            refine ⟨_, _, _, M2, rfl, u1, u2, fun F => ?_, fz6, fun a o na ha2 => u4 _ _ (ne_of_none ha2 hm) (w5' _ _ na ha2)⟩
            rw [u3, take_snoc1 hx2, sumL_app, sumL_cons, sumL_nil, pl F, sumL_mul, Int.mul_add, show (K1N.nAt rs i : Int) - (qs.length : Int) = 0 by omega, Int.zero_mul, Int.mul_zero]
            omega
      · obtain ⟨y7, y8, y9, M, rfl, w1, w2, w3, w4, w5⟩ := hW
        rw [kl, List.take_length] at w3
        refine ⟨w4, ?_⟩
        have w1' : (upd H2 d (.dT (kvC L))) m = some (.dT (kvC M)) := (upd_ne nmd.symm).trans w1
        exact ⟨_, rfl, m, M, _, _, _, _, _, rfl, w1', C.next w2.nd w2.pos w2.bx w3, e2.trans (restore (H := H) hd' w5)⟩
    · obtain ⟨d, L, y5, y6, y7, y8, y9, rfl, hd', C, e2⟩ := hW
      exact ⟨_, rfl, kQ d L _ (eA.trans e2) hd' C⟩
end
end K1

/-! own walk: a dict comprehension with tuple keys over anything that is walked -/
namespace DR
open PySem PySem.Spec PyProof.Rows L2
theorem dcT_it {J : It} {n : Nat} {G : Hp → Prop} {Y : Nat → Hp → V → Hp → Prop} (w : Walk J n G Y) {g : TG} {tt : TT} {tk tv : TE} {vs : List Nat} {σ : L2.St} {H1 : Hp} {D : Addr} {Qd : Hp → Prop} (Pv : Nat → Hp → Prop) (h0 : Pv 0 (upd H1 D (.dT []))) (hG : ∀ i H, i ≤ n → Pv i H → G H)
    (hs : ∀ i x H H', i < n → Pv i H → Y i H x H' → g x (wipe σ vs) H' fun σ2 H2 => wipe σ2 vs = wipe σ vs ∧ tt σ2 H2 fun b H3 =>
      if b = true then tk σ2 H3 fun y H4 => tv σ2 H4 fun z H5 => ∃ kvs k c, y = .ref c ∧ H5 c = some (.tup (k.map kV)) ∧ H5 D = some (.dT kvs) ∧ kvs.length < sizeLine ∧ Pv (i + 1) (upd H5 D (.dT (putK kvs k z))) else Pv (i + 1) H3) (hd : ∀ H, Pv n H → Qd H) :
    ∃ W : Nat → Nat → Hp → Prop, (∃ m, W 0 m (upd H1 D (.dT []))) ∧ ∀ i m H, W i m H →
      (J.stop i H ∧ Qd H) ∨ (J.go i H ∧ ∃ Nx : Hp → Prop, (∀ H', Nx H' → ∃ m', m' < m ∧ W (i + 1) m' H') ∧ ∀ x H', J.yld i H x H' → g x (wipe σ vs) H' fun σ2 H2 => wipe σ2 vs = wipe σ vs ∧ tt σ2 H2 fun b H3 =>
        if b = true then tk σ2 H3 fun y H4 => tv σ2 H4 fun z H5 => ∃ kvs k c, y = .ref c ∧ H5 c = some (.tup (k.map kV)) ∧ H5 D = some (.dT kvs) ∧ kvs.length < sizeLine ∧ Nx (upd H5 D (.dT (putK kvs k z))) else Nx H3) := by
  refine ⟨fun i m H => m = n - i ∧ i ≤ n ∧ Pv i H, ⟨n, (Nat.sub_zero n).symm, Nat.zero_le _, h0⟩, ?_⟩
  rintro i m H ⟨rfl, hi, p⟩
  by_cases c : i < n
  · exact .inr ⟨w.goes i H c (hG i H hi p), Pv (i + 1), fun H' p' => ⟨n - (i + 1), by omega, rfl, c, p'⟩, fun x H' y => hs i x H H' c p (w.yields i H x H' c (hG i H hi p) y)⟩
  · have e : i = n := by omega
    subst e
    exact .inl ⟨w.stops H (hG i H hi p), hd H p⟩
end DR

set_option exponentiation.threshold 400
namespace K1
open PySem PySem.Spec PyProof.Rows L2 Evl HM LX ZW TE DR
def natI (h : List Nat) : List Int := h.map fun (n : Nat) => (n : Int)
theorem natI_inj : ∀ {a b : List Nat}, natI a = natI b → a = b
  | [], [], _ => rfl
  | [], _ :: _, e => by simp [natI] at e
  | _ :: _, [], e => by simp [natI] at e
  | x :: a, y :: b, e => by
    simp only [natI, List.map_cons, List.cons.injEq] at e
    rw [natI_inj (a := a) (b := b) e.2, show x = y by omega]
theorem natI_hv (h : List Nat) : (natI h).map V.int = hv h := by
  unfold natI hv
  rw [List.map_map]
  rfl
theorem keyW_natI (h : List Nat) : keyW h = (natI h).map (Sum.inl (β := Str)) := by
  unfold keyW natI
  rw [List.map_map]
  rfl
/-- heaps in the order of tuples -/
def SrtC (M : List (List Nat × Int)) : Prop := (M.map fun x => natI x.1).Pairwise fun a b => HT.lexLt b a = false
theorem inl_back (l : List Int) : (l.map (Sum.inl (β := Str))).map (fun z : Key => match z with | .inl i => i | .inr _ => 0) = l := by
  rw [List.map_map]
  exact List.map_id' l
theorem perm_lift {α β : Type} {f : α → β} {m : List β} {L : List α} (h : m.Perm (L.map f)) : ∃ M : List α, M.Perm L ∧ M.map f = m := by
  have go : ∀ L : List α, Paired (fun (x : α) (y : β) => f x = y) L (L.map f) := fun L => by
    induction L with
    | nil => exact .nil
    | cons x t ih => exact .cons rfl ih
  obtain ⟨M, h1, h2⟩ := paired_perm h (go L)
  refine ⟨M, h1, ?_⟩
  have back : ∀ {a : List α} {b : List β}, Paired (fun (x : α) (y : β) => f x = y) a b → a.map f = b := fun {a b} p => by
    induction p with
    | nil => rfl
    | cons h _ ih => rw [List.map_cons, h, ih]
  exact back h2
def RefAt (H : Hp) (y : V) (x : List Nat × Int) : Prop := ∃ b, y = V.ref b ∧ HeapAt H b x.1
theorem sortDC {H : Hp} {d : Addr} {L : List (List Nat × Int)} {Q : VK} (hd : H d = some (.dT (kvC L))) (q : ∀ (M : List (List Nat × Int)) (R : List SO.Row) (p : Addr), M.Perm L → SrtC M → SO.RowsAt H R → R.map (·.2) = M.map (fun x => natI x.1) → Paired (RefAt H) (SO.refR R) M → H p = none → Q (.ref p) (upd H p (.lst (SO.refR R)))) : SO.rSortedDO [.ref d] H Q := by
  refine ⟨d, kvC L, rfl, Rd.of hd, fun p hp => ?_, fun R p hR pm st hp => ?_⟩
  · obtain ⟨x, _, rfl⟩ := List.mem_map.mp hp
    exact keyW_ints x.1
  · have p2 : (R.map fun x => x.2.map (Sum.inl (β := Str))).Perm (L.map fun x => keyW x.1) := by
      unfold kvC at pm
      rw [List.map_map] at pm
      exact pm
    have := p2.map (List.map fun z : Key => match z with | .inl i => i | .inr _ => 0)
    rw [List.map_map, List.map_map] at this
    rw [show ((List.map fun z : Key => match z with | .inl i => i | .inr _ => 0) ∘ fun x : SO.Row => x.2.map (Sum.inl (β := Str))) = fun x => x.2 from funext fun x => inl_back x.2,
      show ((List.map fun z : Key => match z with | .inl i => i | .inr _ => 0) ∘ fun x : List Nat × Int => keyW x.1) = fun x => natI x.1 from funext fun x => by show List.map _ (keyW x.1) = _; rw [keyW_natI]; exact inl_back _] at this
    obtain ⟨M, m1, m2⟩ := perm_lift this
    refine q M R p m1 ?_ hR m2.symm ?_ hp
    · unfold SrtC
      rw [m2]
      exact List.pairwise_map.mpr st
    · have go : ∀ {R : List SO.Row} {M : List (List Nat × Int)}, SO.RowsAt H R → R.map (·.2) = M.map (fun x => natI x.1) → Paired (RefAt H) (SO.refR R) M := fun {R} => by
        induction R with
        | nil =>
          intro M _ e
          cases M with
          | nil => exact .nil
          | cons _ _ => simp at e
        | cons x t ih =>
          intro M hr e
          cases M with
          | nil => simp at e
          | cons y s =>
            rw [List.map_cons, List.map_cons, List.cons.injEq] at e
            refine .cons ⟨x.1, rfl, ?_⟩ (ih (fun u hu => hr u (List.mem_cons_of_mem _ hu)) e.2)
            have h1 := hr x (List.mem_cons_self ..)
            unfold HeapAt
            rw [h1, e.1, natI_hv]
      exact go hR m2.symm
theorem Cn.perm {rs : List (Int × Int)} {c r i : Nat} {L M : List (List Nat × Int)} (C : Cn rs c r i L) (p : M.Perm L) : Cn rs c r i M :=
  ⟨((p.map _).nodup_iff).mpr C.nd, fun x hx => C.pos x ((p.mem_iff).mp hx), fun x hx => C.bx x ((p.mem_iff).mp hx), fun F => by rw [← C.ws]; exact sumL_perm _ p⟩
theorem putC_new {L : List (List Nat × Int)} {h : List Nat} (n : h ∉ L.map (·.1)) (v : Int) : putK (kvC L) (keyW h) (V.int v) = kvC (L ++ [(h, v)]) := by
  rw [putK_new _ (by rw [valC, getC_none.mpr n]; rfl)]
  unfold kvC
  rw [List.map_append]
  rfl
section
variable {P : Program} {w : World} {K : PySem.W.Frag} {mg : Str → Option Value} {base : Heap}
def spByHeap : Sp := fun vs H Q _ => ∃ (ch : Addr) (xs : List V) (rs : List (Int × Int)) (c r : Nat), vs = [.ref ch, .int (c : Int), .int (r : Int)] ∧ H ch = some (.tup xs) ∧ RingsAt H 60 xs rs ∧ 1 ≤ xs.length ∧ xs.length ≤ 12 ∧ c ≤ 6 ∧ r ≤ 6 ∧
  ∀ (d : Addr) L H', Ex H H' → H' d = some (.dT (kvC L)) → Cn rs c r xs.length L → SrtC L → Q (.ref d) H'
end
end K1

set_option exponentiation.threshold 400
namespace K1
open PySem PySem.Spec PyProof.Rows L2 Evl HM LX ZW TE DR
/-! dicts of counts whose keys are ints -/
/-- a dict of counts -/
def kvZ (L : List (Int × Int)) : List (Key × V) := L.map fun x => ((Sum.inl x.1 : Key), V.int x.2)
def getZ (L : List (Int × Int)) (h : Int) : Option Int := (L.find? fun x => decide (x.1 = h)).map (·.2)
theorem getZ_nil (h : Int) : getZ [] h = none := rfl
theorem getZ_cons (x : Int × Int) (L : List (Int × Int)) (h : Int) : getZ (x :: L) h = if x.1 = h then some x.2 else getZ L h := by
  unfold getZ
  rw [List.find?_cons]
  by_cases e : x.1 = h
  · rw [if_pos e, decide_eq_true e]
    rfl
  · rw [if_neg e, decide_eq_false e]
theorem valZ (h : Int) : ∀ L : List (Int × Int), valV (kvZ L) (Sum.inl h : Key) = (getZ L h).map V.int
  | [] => rfl
  | x :: L => by
    show valV (((Sum.inl x.1 : Key), V.int x.2) :: kvZ L) (Sum.inl h : Key) = _
    rw [getZ_cons]
    by_cases e : x.1 = h
    · rw [if_pos e, valV_pos (by rw [e])]
      rfl
    · rw [if_neg e, valV_neg (fun z => e (Sum.inl.inj z)), valZ h L]
theorem getZ_some {h : Int} {v : Int} : ∀ {L : List (Int × Int)}, getZ L h = some v → (h, v) ∈ L
  | [], e => by cases e
  | x :: L, e => by
    rw [getZ_cons] at e
    by_cases z : x.1 = h
    · rw [if_pos z] at e
      have := Option.some.inj e
      rw [← z, ← this]
      exact List.mem_cons_self ..
    · rw [if_neg z] at e
      exact List.mem_cons_of_mem _ (getZ_some e)
theorem getZ_none {h : Int} : ∀ {L : List (Int × Int)}, getZ L h = none ↔ h ∉ L.map (·.1)
  | [] => ⟨fun _ z => absurd z (by simp), fun _ => rfl⟩
  | x :: L => by
    rw [getZ_cons, List.map_cons, List.mem_cons]
    by_cases z : x.1 = h
    · rw [if_pos z]
      exact ⟨fun e => absurd e (by simp), fun e => absurd (Or.inl z.symm) e⟩
    · rw [if_neg z, getZ_none]
      exact ⟨fun e y => y.elim (fun y => z y.symm) e, fun e y => e (.inr y)⟩
theorem getZ_at {x : Int × Int} : ∀ {L : List (Int × Int)}, (L.map (·.1)).Nodup → x ∈ L → getZ L x.1 = some x.2
  | [], _, h => absurd h (by simp)
  | y :: L, nd, h => by
    rw [List.map_cons, List.nodup_cons] at nd
    rw [getZ_cons]
    rcases List.mem_cons.mp h with e | e
    · rw [if_pos (by rw [e]), e]
    · rw [if_neg (fun z => nd.1 (by rw [z]; exact List.mem_map.mpr ⟨x, e, rfl⟩))]
      exact getZ_at nd.2 e
/-- one more, put in -/
def addZ (L : List (Int × Int)) (h : Int) (v : Int) : List (Int × Int) := if h ∈ L.map (·.1) then L.map (fun x => if x.1 = h then (x.1, x.2 + v) else x) else L ++ [(h, v)]
theorem addZ_keys (L : List (Int × Int)) (h : Int) (v : Int) : (addZ L h v).map (·.1) = if h ∈ L.map (·.1) then L.map (·.1) else L.map (·.1) ++ [h] := by
  unfold addZ
  split
  · rw [List.map_map]
    refine List.map_congr_left fun x _ => ?_
    show (if x.1 = h then (x.1, x.2 + v) else x).1 = x.1
    split <;> rfl
  · rw [List.map_append]
    rfl
theorem addZ_nodup {L : List (Int × Int)} (nd : (L.map (·.1)).Nodup) (h : Int) (v : Int) : ((addZ L h v).map (·.1)).Nodup := by
  rw [addZ_keys]
  split
  · exact nd
  · rename_i z
    refine List.nodup_append.mpr ⟨nd, by simp, fun a ha b hb e => z ?_⟩
    rw [← List.mem_singleton.mp hb, ← e]
    exact ha
theorem addZ_mem (L : List (Int × Int)) (h : Int) (v : Int) (A : Int) : A ∈ (addZ L h v).map (·.1) ↔ (A ∈ L.map (·.1) ∨ A = h) := by
  rw [addZ_keys]
  split
  · rename_i z
    exact ⟨.inl, fun e => e.elim id fun e => by rw [e]; exact z⟩
  · rw [List.mem_append, List.mem_singleton]
theorem addZ_len (L : List (Int × Int)) (h : Int) (v : Int) : (addZ L h v).length ≤ L.length + 1 := by
  have := congrArg List.length (addZ_keys L h v)
  rw [List.length_map] at this
  split at this
  · rw [List.length_map] at this
    omega
  · rw [List.length_append, List.length_map] at this
    have h1 : [h].length = 1 := rfl
    omega
theorem putZ {L : List (Int × Int)} (nd : (L.map (·.1)).Nodup) (h : Int) (v : Int) : putK (kvZ L) (Sum.inl h : Key) (V.int ((getZ L h).getD 0 + v)) = kvZ (addZ L h v) := by
  by_cases z : h ∈ L.map (·.1)
  · have e : addZ L h v = L.map (fun x => if x.1 = h then (x.1, x.2 + v) else x) := if_pos z
    have any : ((kvZ L).any fun kv => decide (kv.1 = (Sum.inl h : Key))) = true := by
      rw [valV_any, valZ]
      cases g : getZ L h with
      | none => exact absurd z (getZ_none.mp g)
      | some y => rfl
    unfold putK
    rw [if_pos any, e]
    unfold kvZ
    rw [List.map_map, List.map_map]
    refine List.map_congr_left fun x hx => ?_
    show (if ((Sum.inl x.1 : Key), V.int x.2).1 = (Sum.inl h : Key) then (((Sum.inl x.1 : Key), V.int x.2).1, _) else ((Sum.inl x.1 : Key), V.int x.2)) = (Sum.inl (if x.1 = h then (x.1, x.2 + v) else x).1, V.int (if x.1 = h then (x.1, x.2 + v) else x).2)
    by_cases c : x.1 = h
    · rw [if_pos c, if_pos (by show (Sum.inl x.1 : Key) = (Sum.inl h : Key); rw [c]), ← c, getZ_at nd hx]
      rfl
    · rw [if_neg c, if_neg (fun y => c (Sum.inl.inj y))]
  · have g : getZ L h = none := getZ_none.mpr z
    have e : addZ L h v = L ++ [(h, v)] := if_neg z
    rw [putK_new _ (by rw [valZ, g]; rfl), e, g]
    unfold kvZ
    rw [List.map_append]
    show _ = _ ++ [((Sum.inl h : Key), V.int v)]
    rw [show (Option.getD (none : Option Int) 0) + v = v from Int.zero_add v]
def wsumZ (L : List (Int × Int)) (g : Int → Int) : Int := sumL L fun x => x.2 * g x.1
theorem wsumZ_add (g : Int → Int) (h : Int) (v : Int) : ∀ {L : List (Int × Int)}, (L.map (·.1)).Nodup → wsumZ (addZ L h v) g = wsumZ L g + v * g h := by
  intro L nd
  by_cases z : h ∈ L.map (·.1)
  · have e : addZ L h v = L.map (fun x => if x.1 = h then (x.1, x.2 + v) else x) := if_pos z
    rw [e]
    unfold wsumZ
    rw [sumL_map]
    have go : ∀ M : List (Int × Int), (M.map (·.1)).Nodup → sumL M (fun x => (if x.1 = h then (x.1, x.2 + v) else x).2 * g (if x.1 = h then (x.1, x.2 + v) else x).1) = sumL M (fun x => x.2 * g x.1) + (if h ∈ M.map (·.1) then v * g h else 0) := fun M => by
      induction M with
      | nil => intro _; rfl
      | cons y r ih =>
        intro nd
        rw [List.map_cons, List.nodup_cons] at nd
        rw [sumL_cons, sumL_cons, ih nd.2, List.map_cons]
        by_cases e : y.1 = h
        · have no : h ∉ r.map (·.1) := by rw [← e]; exact nd.1
          rw [if_pos e, if_neg no, if_pos (by rw [e]; exact List.mem_cons_self ..)]
          show (y.2 + v) * g y.1 + _ = _
          rw [Int.add_mul, e]
          omega
        · rw [if_neg e]
          by_cases m : h ∈ r.map (·.1)
          · rw [if_pos m, if_pos (List.mem_cons_of_mem _ m)]
            omega
          · rw [if_neg m, if_neg (fun q => (List.mem_cons.mp q).elim (fun q => e q.symm) m)]
            omega
    rw [go L nd, if_pos z]
  · have e : addZ L h v = L ++ [(h, v)] := if_neg z
    rw [e]
    unfold wsumZ
    rw [sumL_app, sumL_cons, sumL_nil, Int.add_zero]
def indZ (A h : Int) : Int := if h = A then 1 else 0
theorem wsumZ_ind (A : Int) : ∀ {L : List (Int × Int)}, (L.map (·.1)).Nodup → wsumZ L (indZ A) = (getZ L A).getD 0
  | [], _ => rfl
  | x :: L, nd => by
    rw [List.map_cons, List.nodup_cons] at nd
    unfold wsumZ
    rw [sumL_cons, getZ_cons]
    have ih := wsumZ_ind A nd.2
    unfold wsumZ at ih
    rw [ih]
    unfold indZ
    by_cases e : x.1 = A
    · rw [if_pos e, if_pos e, getZ_none.mpr (by rw [← e]; exact nd.1)]
      show x.2 * 1 + 0 = x.2
      omega
    · rw [if_neg e, if_neg e]
      omega

/-- positive counts -/
structure MkZ (M : List (Int × Int)) : Prop where
  nd : (M.map (·.1)).Nodup
  pos : ∀ x ∈ M, 0 < x.2
theorem MkZ.nil : MkZ [] := ⟨List.nodup_nil, fun x hx => absurd hx (by simp)⟩
theorem addZ_all {L : List (Int × Int)} {h : Int} {v : Int} {p : Int × Int → Prop} (hp : ∀ x ∈ L, p x) (h1 : ∀ u, (h, u) ∈ L → p (h, u + v)) (h2 : p (h, v)) : ∀ x ∈ addZ L h v, p x := fun x hx => by
  unfold addZ at hx
  split at hx
  · obtain ⟨y, hy, rfl⟩ := List.mem_map.mp hx
    split
    · rename_i e
      have : (h, y.2) ∈ L := by rw [← e]; exact hy
      have := h1 _ this
      rw [← e] at this
      exact this
    · exact hp y hy
  · rcases List.mem_append.mp hx with e | e
    · exact hp x e
    · rw [List.mem_singleton.mp e]
      exact h2
theorem MkZ.add {M : List (Int × Int)} (m : MkZ M) (h : Int) {v : Int} (hv : 0 < v) : MkZ (addZ M h v) :=
  ⟨addZ_nodup m.nd _ _, addZ_all m.pos (fun u hu => by have := m.pos _ hu; show 0 < u + v; have h2 : 0 < u := this; omega) hv⟩
theorem indZ_nn (A h : Int) : 0 ≤ indZ A h := by
  unfold indZ
  split <;> decide
/-- two that tell the same are one, whatever the order -/
theorem MkZ.val {L : List (Int × Int)} (m : MkZ L) (A : Int) : getZ L A = if 0 < wsumZ L (indZ A) then some (wsumZ L (indZ A)) else none := by
  have e := wsumZ_ind A m.nd
  cases g : getZ L A with
  | none =>
    rw [g] at e
    have e2 : wsumZ L (indZ A) = 0 := e
    rw [e2]
    rfl
  | some v =>
    rw [g] at e
    have e2 : wsumZ L (indZ A) = v := e
    have := m.pos _ (getZ_some g)
    have hv : 0 < v := this
    rw [e2, if_pos hv]
theorem MkZ.eqv {L M : List (Int × Int)} (a : MkZ L) (b : MkZ M) (w : ∀ G, wsumZ L G = wsumZ M G) (A : Int) : getZ L A = getZ M A := by
  rw [a.val, b.val, w]
theorem MkZ.keys {L M : List (Int × Int)} (a : MkZ L) (b : MkZ M) (w : ∀ G, wsumZ L G = wsumZ M G) : (L.map (·.1)).Perm (M.map (·.1)) := by
  refine nodup_perm a.nd b.nd fun A => ?_
  have e := a.eqv b w A
  have u := getZ_none (h := A) (L := L)
  have v := getZ_none (h := A) (L := M)
  rw [e] at u
  exact Decidable.not_iff_not.mp (u.symm.trans v)
theorem MkZ.same {L M : List (Int × Int)} (a : MkZ L) (b : MkZ M) (w : ∀ G, wsumZ L G = wsumZ M G) : (kvZ L).length = (kvZ M).length ∧ ∀ p ∈ kvZ L, valV (kvZ M) p.1 = some p.2 ∧ flatB p.2 = true := by
  have p := (a.keys b w).length_eq
  rw [List.length_map, List.length_map] at p
  refine ⟨by unfold kvZ; rw [List.length_map, List.length_map]; exact p, fun y hy => ?_⟩
  obtain ⟨x, hx, rfl⟩ := List.mem_map.mp hy
  refine ⟨?_, rfl⟩
  show valV (kvZ M) (Sum.inl x.1) = some (V.int x.2)
  rw [valZ, ← a.eqv b w, getZ_at a.nd hx]
  rfl
theorem putZ_new {L : List (Int × Int)} {h : Int} (n : h ∉ L.map (·.1)) (v : Int) : putK (kvZ L) (Sum.inl h : Key) (V.int v) = kvZ (L ++ [(h, v)]) := by
  rw [putK_new _ (by rw [valZ, getZ_none.mpr n]; rfl)]
  unfold kvZ
  rw [List.map_append]
  rfl
theorem wsumZ_perm {L M : List (Int × Int)} (p : L.Perm M) (G : Int → Int) : wsumZ L G = wsumZ M G := sumL_perm _ p
theorem MkZ.perm {L M : List (Int × Int)} (a : MkZ M) (p : L.Perm M) : MkZ L := ⟨((p.map _).nodup_iff).mpr a.nd, fun x hx => a.pos x ((p.mem_iff).mp hx)⟩
end K1

set_option exponentiation.threshold 400
namespace K1
open PySem PySem.Spec PyProof.Rows L2 Evl HM LX ZW TE DR
/-- counts of classes by richness -/
structure CnZ (rs : List (Int × Int)) (g : Nat) (d : Int) (M : List (Int × Int)) : Prop where
  zk : MkZ M
  ws : ∀ G, wsumZ M G = sumL (tupsL rs g) fun x => G ((F (hseq rs x g) (d - g) : Int) - 1)
theorem CnZ.eqs {rs : List (Int × Int)} {g : Nat} {d : Int} {L M : List (Int × Int)} (a : CnZ rs g d L) (b : CnZ rs g d M) (G : Int → Int) : wsumZ L G = wsumZ M G := by rw [a.ws, b.ws]
theorem CnZ.num {rs : List (Int × Int)} {g : Nat} {d : Int} {L : List (Int × Int)} (a : CnZ rs g d L) (k : Nat) : wsumZ L (fun z => if (k : Int) ≤ z then 1 else 0) = Nk rs g d k := by
  rw [a.ws]
  unfold Nk
  refine sumL_congr fun x _ => ?_
  by_cases z : k + 1 ≤ F (hseq rs x g) (d - g)
  · rw [if_pos z, if_pos (by omega)]
  · rw [if_neg z, if_neg (by omega)]
theorem CnZ.sum {rs : List (Int × Int)} {g : Nat} {d : Int} {L : List (Int × Int)} (a : CnZ rs g d L) : sumL L (fun x => x.2) = (prodL rs g : Int) := by
  have e := a.ws fun _ => 1
  rw [sumL_one, tups_len] at e
  rw [← e]
  unfold wsumZ
  exact sumL_congr fun x _ => (Int.mul_one _).symm
/-- heaps of classes, not cut -/
theorem cut_all (rs : List (Int × Int)) (x : List Int) (g : Nat) : cutH g g (hseq rs x g) = hseq rs x g := by
  obtain ⟨a, b, c⟩ := hseq_ok rs x g
  exact cut_id ⟨a, b, c⟩
theorem Cn.whole {rs : List (Int × Int)} {g : Nat} {L : List (List Nat × Int)} (C : Cn rs g g g L) (G : List Nat → Int) : sumL L (fun x => x.2 * G x.1) = sumL (tupsL rs g) fun x => G (hseq rs x g) := by
  have := C.ws G
  unfold wsum Wt at this
  rw [this]
  exact sumL_congr fun x _ => by rw [cut_all]
theorem Cn.src {rs : List (Int × Int)} {c r i : Nat} {L : List (List Nat × Int)} (C : Cn rs c r i L) {x : List Nat × Int} (hx : x ∈ L) : ∃ ps ∈ tupsL rs i, cutH c r (hseq rs ps i) = x.1 := by
  refine Classical.byContradiction fun no => ?_
  have e := C.ws (ind x.1)
  rw [wsum_ind _ C.nd, getC_at C.nd hx] at e
  have p := C.pos x hx
  have z : Wt rs c r i (ind x.1) = 0 := by
    unfold Wt
    rw [show sumL (tupsL rs i) (fun y => ind x.1 (cutH c r (hseq rs y i))) = sumL (tupsL rs i) fun _ => 0 from sumL_congr fun y hy => ?_, sumL_zero]
    unfold ind
    exact if_neg fun z => no ⟨y, hy, z⟩
  rw [z] at e
  have e2 : x.2 = 0 := e
  omega
section
variable {P : Program} {w : World} {K : PySem.W.Frag} {mg : Str → Option Value} {base : Heap}
def spTuplesOf : Sp := fun vs H Q _ => ∃ (ch : Addr) (xs : List V) (rs : List (Int × Int)), vs = [.ref ch] ∧ H ch = some (.tup xs) ∧ RingsAt H 60 xs rs ∧ xs.length ≤ 5 ∧ ∀ H', Ex H H' → Q (.int (prodL rs xs.length : Int)) H'
theorem ok_tuples_of (T : Txt K mg) {f : Addr} {fd : FuncData} (D : DefAt K mg "tuples_of" sTuplesOf ["chain"] f fd) : FnOk P w K mg base CX0 1 f fd ["chain"] spTuplesOf := by
  refine D.F.ok scTuplesOf (fun vs H Q E h => ?_) (fun cdv A outer s₀ H vs Q E hr h => ?_)
  · obtain ⟨ch, xs, rs, rfl, _⟩ := h
    rfl
  · obtain ⟨ch, xs, rs, rfl, hch, hR, l5, kQ⟩ := h
    refine ⟨_, pss_cons (ps_set (i := 1) scTuplesOf.nd rfl (.inl rfl) pe_int)
      (pss_cons (ps_for PassesOwn.never rfl (pi_tup (pv 0)) (pg_name (i := 2) scTuplesOf.nd rfl (.inl rfl))
        (pss_one (ps_set (i := 1) scTuplesOf.nd rfl (.inl rfl) (pe_op op_mul (pv 1) (pe_ix ix_tup (pv 2) pe_int (fun _ _ => rfl))))))
      (pss_one (ps_ret (pv 1)))), ?_⟩
    have pb := prod_bound (rings_n hR)
    have pb4 : ∀ i, i ≤ 5 → prodL rs i ≤ 777600000 := fun i hi => Nat.le_trans (pb i) (Nat.le_trans (Nat.pow_le_pow_right (by decide) hi) (by decide))
    refine ⟨_, rfl, ch, rfl, ⟨_, SqT.of hch⟩, for_tup (K := K) (a := ch) (xs := xs) (fun i σ' H' => ∃ (y2 : Option V), σ' = [some (.ref ch), some (.int (prodL rs i : Int)), y2] ∧ Ex H H') ⟨none, rfl, Ex.refl _⟩ (fun i σ' H' _ hW => ?_) (fun i x σ' H' hx hW => ?_) (fun σ' H' hW => ?_)⟩
    · obtain ⟨_, _, ee⟩ := hW
      exact SqT.of (ee _ _ hch)
    · obtain ⟨y2, rfl, ee⟩ := hW
      have hi : i < xs.length := (List.getElem?_eq_some_iff.mp hx).1
      obtain ⟨t, rfl, ht, m1, m2, m3, m4⟩ := rings_nth4 (rings_ex4 ee hR) hx
      have p4 := pb4 i (by omega)
      refine ⟨_, rfl, _, rfl, t, _, 0, _, rfl, rfl, SqT.of ht, rfl, _, _, rfl, rfl, .inl ⟨by omega, by omega⟩, some (.ref t), ?_, ee⟩
      show _ = [some (V.ref ch), some (V.int ((prodL rs i * K1N.nAt rs i : Nat) : Int)), some (V.ref t)]
      rw [Int.natCast_mul]
      rfl
    · obtain ⟨y2, rfl, ee⟩ := hW
      exact ⟨_, rfl, kQ _ ee⟩
def spLeast : Sp := fun vs H Q _ => ∃ (ch : Addr) (xs : List V) (d : Int), vs = [.ref ch, .int d] ∧ H ch = some (.tup xs) ∧ Q (.int (max (-1) (d - (xs.length : Int)))) H
theorem ok_least_richness (T : Txt K mg) {f : Addr} {fd : FuncData} (D : DefAt K mg "least_richness" sLeastRichness ["chain", "degree"] f fd) : FnOk P w K mg base CX0 1 f fd ["chain", "degree"] spLeast := by
  refine D.F.ok scLeastRichness (fun vs H Q E h => ?_) (fun cdv A outer s₀ H vs Q E hr h => ?_)
  · obtain ⟨ch, xs, d, rfl, _⟩ := h
    rfl
  · obtain ⟨ch, xs, d, rfl, hch, kQ⟩ := h
    refine ⟨_, pss_one (ps_ret (pe_callB (call_max2 rfl) (by rfl) T.z_max (by decide +kernel) (pa_cons (pe_un un_neg pe_int) (pa_cons (pe_op op_sub (pv 1) (pe_callB call_len_seq (by rfl) T.z_len PySem.boot_len (pa_cons (pv 0) pa_nil))) pa_nil)))), ?_⟩
    refine ⟨1, rfl, _, rfl, _, rfl, ch, _, rfl, .inr (SqT.of hch), _, _, rfl, rfl, _, _, rfl, ?_⟩
    rw [show (if d - (xs.length : Int) > -1 then d - (xs.length : Int) else -1) = max (-1) (d - (xs.length : Int)) by split <;> omega]
    exact kQ
def spRichIn : Sp := fun vs H Q _ => ∃ (p : Addr) (h : List Nat) (t : Int), vs = [.ref p, .int (0 - t), .int (max (-1) t)] ∧ HeapAt H p h ∧ IsHeap h ∧ ∀ H', Ex H H' → Q (.int ((F h t : Int) - 1)) H'
theorem ok_richness_in (T : Txt K mg) {f : Addr} {fd : FuncData} (D : DefAt K mg "richness_in" sRichnessIn ["heap", "short", "least"] f fd) : FnOk P w K mg base CX0 3 f fd ["heap", "short", "least"] spRichIn := by
  refine D.F.ok scRichnessIn (fun vs H Q E h => ?_) (fun cdv A outer s₀ H vs Q E hr h => ?_)
  · obtain ⟨p, h, t, rfl, _⟩ := h
    rfl
  · obtain ⟨p, h, t, rfl, hp, IH, kQ⟩ := h
    obtain ⟨f1, fd1, D1⟩ := T.d_has_box
    have hr2 : Room 2 _ := hr.mono (by decide)
    refine ⟨_, pss_cons (ps_set (i := 3) scRichnessIn.nd rfl (.inl rfl) (pe_op op_add (pv 2) pe_int))
      (pss_cons (ps_while PassesOwn.never (pt_val (pe_call (ok_has_box T D1) hr2 (by rfl) D1.g D1.F.kp D1.b .nil pass0 (pa_cons (pv 0) (pa_cons (pe_op op_add (pv 3) pe_int) (pa_cons (pe_op op_add (pv 1) (pv 3)) pa_nil))))) (pss_one (ps_aug (i := 3) scRichnessIn.nd rfl (.inl rfl) pe_int ip_add)))
      (pss_one (ps_ret (pe_op op_sub (pv 3) pe_int)))), ?_⟩
    have low : t + 1 ≤ (F h t : Int) := by
      have := F_low IH t
      omega
    obtain ⟨m0, hm0⟩ : ∃ m0 : Nat, (m0 : Int) = max (-1) t + 1 := ⟨(max (-1) t + 1).toNat, by omega⟩
    refine ⟨_, rfl, _, _, rfl, rfl, ?_⟩
    show gName 3 (V.int (max (-1) t + 1)) _ _ _
    rw [← hm0]
    refine ⟨fun n σ' H' => ∃ (m : Nat), n = F h t - m ∧ m ≤ F h t ∧ t + 1 ≤ (m : Int) ∧ σ' = [some (.ref p), some (.int (0 - t)), some (.int (max (-1) t)), some (.int (m : Int))] ∧ Ex H H', ⟨_, m0, rfl, by omega, by omega, rfl, Ex.refl _⟩, fun n σ' H' hW => ?_⟩
    obtain ⟨m, rfl, w1, w2, rfl, e⟩ := hW
    refine ⟨_, rfl, _, rfl, _, _, rfl, rfl, _, rfl, _, rfl, _, _, rfl, rfl, p, h, m, (m : Int) - t, ?_, e _ _ hp, by omega, fun H1 e1 => ⟨_, rfl, ite2 (fun cc => ?_) (fun cc => ?_)⟩⟩
    · show [V.ref p, V.int ((m : Int) + 1), V.int (0 - t + (m : Int))] = _
      rw [show 0 - t + (m : Int) = (m : Int) - t by omega]
    · have cc := of_decide_eq_true cc
      have dgm : dg h m = (m : Int) - (hAt h m : Int) := rfl
      have nx := F_next IH w1 (by omega)
      refine ⟨fun σ2 H2 => σ2 = [some (.ref p), some (.int (0 - t)), some (.int (max (-1) t)), some (.int ((m : Int) + 1))] ∧ H2 = H1, fun σ2 H2 hN => ?_, ?_⟩
      · obtain ⟨rfl, rfl⟩ := hN
        exact ⟨F h t - (m + 1), by omega, m + 1, rfl, nx, by omega, rfl, e.trans e1⟩
      · exact ⟨_, rfl, _, _, rfl, rfl, rfl, rfl⟩
    · have cc : ¬ (m : Int) - t ≤ (hAt h m : Int) := fun z => cc (decide_eq_true z)
      have dgm : dg h m = (m : Int) - (hAt h m : Int) := rfl
      have st := F_stop IH w1 (by omega)
      refine ⟨_, rfl, _, _, rfl, rfl, ?_⟩
      rw [← st]
      exact kQ _ (e.trans e1)
end
end K1

/-! own rule: name = {k: v for ..}, keys ints or texts -/
namespace DI
open PySem PySem.Spec PyProof.Rows L2
theorem ps_setDcK {X : Cx} {i : Nat} {y : Str} {py : Pos} {kx vx tg iter : Expr} {ifs : List Expr} {scope : Scope} {own : List (Str × Nat)} {pos spos : Pos} {wi : TI} {g : TG} {tt : TT} {tk tv : TE} (hc : X.calm = true) (hN : X.N.Nodup) (hy : X.N[i]? = some y) (hyl : X.env.scope.names.lookup y = some .local)
    (hsw : swapsWith (.DictComp kx vx [⟨tg, iter, ifs, 0⟩] scope pos) (some (.Name y py)) spos.line X.env = pure true) (hi : PI X tg iter wi) (ok : BlkOk X.N X.env.scope scope own)
    (hg : ∀ (s : Shared) (H : Hp) (C : Addr) (cl : List (Str × Addr)) (fp : List Addr), PG (X.blk s H scope (compEnvC scope cl C X.env) fp) tg g) (ht : ∀ (s : Shared) (H : Hp) (C : Addr) (cl : List (Str × Addr)) (fp : List Addr), PTs (X.blk s H scope (compEnvC scope cl C X.env) fp) ifs tt)
    (hk : ∀ (s : Shared) (H : Hp) (C : Addr) (cl : List (Str × Addr)) (fp : List Addr), PE (X.blk s H scope (compEnvC scope cl C X.env) fp) kx tk)
    (he : ∀ (s : Shared) (H : Hp) (C : Addr) (cl : List (Str × Addr)) (fp : List Addr), PE (X.blk s H scope (compEnvC scope cl C X.env) fp) vx tv) (hs : ∀ x, foldedSetIterable iter X.env x = pure x := by intro _; rfl) :
    PS X (.Assign [.Name y py] (.DictComp kx vx [⟨tg, iter, ifs, 0⟩] scope pos) spos) (tAsg (tDc wi g tt tk tv (own.map (·.2))) (gName i)) := by
  refine ⟨fun pins s σ H D I h => ?_⟩
  rw [exec_Assign_Name_used _ _ _ _ hsw]
  refine wpAny_bind (wpAny_standAt (wpAny_bind ?_))
  show wpAny _ X.A (do let _ ← comprehension (.DictComp kx vx [⟨tg, iter, ifs, 0⟩] scope pos) scope X.env (firstIterPos [⟨tg, iter, ifs, 0⟩] pos) newDict false (eval iter X.env) (some (assign (.Name y py) X.env))) _ _ s
  have h : tDc wi g tt tk tv (own.map (·.2)) σ H (fun x H1 => gName i x σ H1 D.nx) := h
  refine wpAny_bind (thn (dc_core (Qf := fun _ s' => SP X pins D .next s') hc hN I hi ok hg ht hk he hs h fun L C s' m H' I' q hn f => ?_) fun _ s' hq => wpAny_pure (wpAny_pure hq))
  show wpAny _ _ (assign (.Name y py) X.env (.ref L)) _ _ _
  refine wpAny_assign_Name (store_ok2 (v := V.ref L) I' hN hy (.inl hyl) rfl (fun s2 I2 ⟨a, sb, ha⟩ => ?_) (.inr hyl))
  obtain ⟨f0, f1, f2, f3, f4, f5⟩ := f
  have haC : C ≠ a := by
    rcases ha with z | z
    · rw [z]; exact f1
    · exact fun e => f4 y a z e.symm
  refine ⟨m, hn.sameBut sb haC, fun h3 sb3 => ?_⟩
  exact ⟨_, H', I2.turned (t' := s2.toks) (fun b o hb e => (sb3.2 b hb).trans e) f0 f1 f3 f4 f5, q⟩
theorem swd_true {kx vx : Expr} {gs : List Comprehension} {scope : Scope} {pos py : Pos} {y : Str} {l : Nat} {env : Env} (hk : env.scope.kind = .function) (hy : env.scope.names.lookup y = some .local) (hl : (py.line == pos.line) = true)
    (ha : (scope.names.any fun (n, k) => n == y && (k == .local || k == .cell)) = false) : swapsWith (.DictComp kx vx gs scope pos) (some (.Name y py)) l env = pure true := by
  have ky : env.kindOf y = some .local := hy
  have hb : env.blockKind = .function := by unfold Env.blockKind; rw [hk]; rfl
  unfold swapsWith
  simp only [hb, ky, ha, Expr.pos, hl]
  rfl
end DI
namespace DI
open PySem PySem.Spec PyProof.Rows L2
theorem dcK_it {J : It} {n : Nat} {G : Hp → Prop} {Y : Nat → Hp → V → Hp → Prop} (w : Walk J n G Y) {g : TG} {tt : TT} {tk tv : TE} {vs : List Nat} {σ : L2.St} {H1 : Hp} {D : Addr} {Qd : Hp → Prop} (Pv : Nat → Hp → Prop) (h0 : Pv 0 (upd H1 D (.dK []))) (hG : ∀ i H, i ≤ n → Pv i H → G H)
    (hs : ∀ i x H H', i < n → Pv i H → Y i H x H' → g x (wipe σ vs) H' fun σ2 H2 => wipe σ2 vs = wipe σ vs ∧ tt σ2 H2 fun b H3 =>
      if b = true then tk σ2 H3 fun y H4 => tv σ2 H4 fun z H5 => ∃ kvs k, y = kV k ∧ H5 D = some (.dK kvs) ∧ kvs.length < sizeLine ∧ Pv (i + 1) (upd H5 D (.dK (putK kvs k z))) else Pv (i + 1) H3) (hd : ∀ H, Pv n H → Qd H) :
    ∃ W : Nat → Nat → Hp → Prop, (∃ m, W 0 m (upd H1 D (.dK []))) ∧ ∀ i m H, W i m H →
      (J.stop i H ∧ Qd H) ∨ (J.go i H ∧ ∃ Nx : Hp → Prop, (∀ H', Nx H' → ∃ m', m' < m ∧ W (i + 1) m' H') ∧ ∀ x H', J.yld i H x H' → g x (wipe σ vs) H' fun σ2 H2 => wipe σ2 vs = wipe σ vs ∧ tt σ2 H2 fun b H3 =>
        if b = true then tk σ2 H3 fun y H4 => tv σ2 H4 fun z H5 => ∃ kvs k, y = kV k ∧ H5 D = some (.dK kvs) ∧ kvs.length < sizeLine ∧ Nx (upd H5 D (.dK (putK kvs k z))) else Nx H3) := by
  refine ⟨fun i m H => m = n - i ∧ i ≤ n ∧ Pv i H, ⟨n, (Nat.sub_zero n).symm, Nat.zero_le _, h0⟩, ?_⟩
  rintro i m H ⟨rfl, hi, p⟩
  by_cases c : i < n
  · exact .inr ⟨w.goes i H c (hG i H hi p), Pv (i + 1), fun H' p' => ⟨n - (i + 1), by omega, rfl, c, p'⟩, fun x H' y => hs i x H H' c p (w.yields i H x H' c (hG i H hi p) y)⟩
  · have e : i = n := by omega
    subst e
    exact .inl ⟨w.stops H (hG i H hi p), hd H p⟩
end DI

set_option exponentiation.threshold 400
namespace K1
open PySem PySem.Spec PyProof.Rows L2 Evl HM LX ZW TE DR
theorem kvC_at {L : List (List Nat × Int)} {i : Nat} {ky : List Key} {v : V} (h : (kvC L)[i]? = some (ky, v)) : ∃ x, L[i]? = some x ∧ ky = keyW x.1 ∧ v = V.int x.2 := by
  unfold kvC at h
  rw [List.getElem?_map] at h
  obtain ⟨x, h1, h2⟩ := Option.map_eq_some_iff.mp h
  obtain ⟨e1, e2⟩ := Prod.mk.inj h2
  exact ⟨x, h1, e1.symm, e2.symm⟩
theorem addZ_few {L : List (Int × Int)} (h v : Int) {n : Nat} (l : L.length ≤ n) : (addZ L h v).length ≤ n + 1 := Nat.le_trans (addZ_len L h v) (by omega)
theorem kvZ_len (L : List (Int × Int)) : (kvZ L).length = L.length := List.length_map ..
section
variable {P : Program} {w : World} {K : PySem.W.Frag} {mg : Str → Option Value} {base : Heap}
/-- the law's own table by richness -/
def spByRich : Sp := fun vs H Q _ => ∃ (dd : Addr) (L : List (List Nat × Int)) (rs : List (Int × Int)) (g : Nat) (d : Int), vs = [.ref dd, .int (g : Int), .int d] ∧ H dd = some (.dT (kvC L)) ∧ Cn rs g g g L ∧ L.length ≤ 300 ∧ g ≤ 12 ∧
  ∀ (a : Addr) M H', Ex H H' → H' a = some (.dK (kvZ M)) → CnZ rs g d M → M.length ≤ 300 → Q (.ref a) H'
def spClRich : Sp := fun vs H Q _ => ∃ (ch : Addr) (xs : List V) (rs : List (Int × Int)) (d : Int), vs = [.ref ch, .int d] ∧ H ch = some (.tup xs) ∧ RingsAt H 60 xs rs ∧ 1 ≤ xs.length ∧ xs.length ≤ 5 ∧ prodL rs xs.length ≤ 300 ∧ 1 ≤ prodL rs xs.length ∧ -(10 ^ 60) < d ∧ d < 10 ^ 60 ∧
  ∀ (a : Addr) M H', Ex H H' → H' a = some (.dK (kvZ M)) → CnZ rs xs.length d M → (M.map (·.1)).Pairwise (· ≤ ·) → M.length ≤ 10 → Q (.ref a) H'
theorem ok_classes_by_richness (T : Txt K mg) {f : Addr} {fd : FuncData} (D : DefAt K mg "classes_by_richness" sClassesByRichness ["chain", "degree"] f fd) : FnOk P w K mg base CX0 7 f fd ["chain", "degree"] spClRich := by
  refine D.F.ok scClassesByRichness (fun vs H Q E h => ?_) (fun cdv A outer s₀ H vs Q E hr h => ?_)
  · obtain ⟨ch, xs, rs, d, rfl, _⟩ := h
    rfl
  · obtain ⟨ch, xs, rs, d, rfl, hch, hR, l1, l5, small, p1, d0, d1, kQ⟩ := h
    obtain ⟨f1, fd1, D1⟩ := T.d_richness_in
    obtain ⟨f2, fd2, D2⟩ := T.d_cut_heaps
    obtain ⟨f3, fd3, D3⟩ := T.d_tuples_of
    obtain ⟨f4, fd4, D4⟩ := T.d_least_richness
    obtain ⟨f5, fd5, D5⟩ := T.d_check_integer
    obtain ⟨f6, fd6, D6⟩ := T.d_check_chain
    have hr1 : Room 1 _ := hr.mono (by decide)
    have hr2 : Room 2 _ := hr.mono (by decide)
    have hr3 : Room 3 _ := hr.mono (by decide)
    have hr5 : Room 5 _ := hr.mono (by decide)
    have hr6 : Room 6 _ := hr.mono (by decide)
    have hu1 := Nat.lt_of_le_of_lt (Nat.add_le_add_left (show 1 ≤ 64 by decide) _) hr.units
    refine ⟨_, pss_cons (ps_expr (pe_call (ok_check_chain T D6) hr5 (by rfl) D6.g D6.F.kp D6.b .nil pass0 (pa_cons (pv 0) pa_nil)))
      (pss_cons (ps_expr (pe_call (ok_check_integer T D5) hr2 (by rfl) D5.g D5.F.kp D5.b .nil pass0 (pa_cons (pv 1) pa_nil)))
      (pss_cons (ps_set (i := 2) scClassesByRichness.nd rfl (.inl rfl) (pe_call (ok_least_richness T D4) hr1 (by rfl) D4.g D4.F.kp D4.b .nil pass0 (pa_cons (pv 0) (pa_cons (pv 1) pa_nil))))
      (pss_cons (ps_if (PW.pt (pw_or (pt_cmpR op_lt (pv 1) pe_int (nomark _))
          (pw_or1 (pt_cmpR op_gt (pv 1) (pe_op op_sub (pe_op op_mul pe_int (pe_callB call_len_seq (by rfl) T.z_len PySem.boot_len (pa_cons (pv 0) pa_nil))) pe_int) (nomark _))))) (pss_one (ps_ret (pe_disp (pps_cons (pv 2) (pe_call (ok_tuples_of T D3) hr1 (by rfl) D3.g D3.F.kp D3.b .nil pass0 (pa_cons (pv 0) pa_nil)) pps_nil) (by rfl) (by rfl) (fun z => by cases z) (by decide)))) pss_nil)
      (pss_cons (ps_set (i := 3) scClassesByRichness.nd rfl (.inl rfl) (pe_op op_sub (pe_callB call_len_seq (by rfl) T.z_len PySem.boot_len (pa_cons (pv 0) pa_nil)) (pv 1)))
      (pss_cons (ps_set (i := 4) scClassesByRichness.nd rfl (.inl rfl) (pe_call (ok_cut_heaps T D2) hr6 (by rfl) D2.g D2.F.kp D2.b .nil pass0 (pa_cons (pv 0) (pa_cons (pe_op op_add (pe_op op_fdiv (pv 1) pe_int) pe_int) (pa_cons (pe_op op_add (pv 3) (pe_op op_fdiv (pv 1) pe_int)) pa_nil)))))
      (pss_cons (ps_set (i := 5) scClassesByRichness.nd rfl (.inr rfl) pe_dnewK)
      (pss_cons (ps_lock (ps_for PassesOwn.never rfl (pi_keys (pv 4)) (pg_name (i := 6) scClassesByRichness.nd rfl (.inl rfl))
        (pss_cons (ps_set (i := 7) scClassesByRichness.nd rfl (.inl rfl) (pe_call (ok_richness_in T D1) hr3 (by rfl) D1.g D1.F.kp D1.b .nil pass0 (pa_cons (pv 6) (pa_cons (pv 3) (pa_cons (pv 2) pa_nil)))))
      (pss_one (ps_dput hu1 (pv 5) (pv 7) (pe_op op_add (pe_dget2 hu1 (pv 5) (pv 7) pe_int ⟨rfl, rfl, rfl, rfl⟩) (pe_dget hu1 (pv 4) (pv 6) (fun _ _ => rfl))) rfl)))))
      (pss_one (ps_ret (pe_dc (own := [("k", 7)]) (g := gName 7) (tt := tYes) rfl scClassesByRichness.nd (pi_list (pe_callB (call_sortedDI rfl) (by rfl) T.z_sorted (by decide +kernel) (pa_cons (pv 5) pa_nil)))
        (blkOk_by (N := nClassesByRichness) (sc := defScope sClassesByRichness) (by decide +kernel)) (fun _ _ _ _ _ => (pg_name (i := 7) scClassesByRichness.nd rfl (.inl rfl))) (fun _ _ _ _ _ => pts_nil)
        (fun _ _ _ _ _ => (pv 7)) (fun _ _ _ _ _ => (pe_dget hu1 (pv 5) (pv 7) (fun _ _ => rfl))))))))))))), ?_⟩
    refine ⟨_, rfl, .ref ch, rfl, rings_chain4 hR hch l1 (by omega), fun H1 e1 => ?_⟩
    refine ⟨_, rfl, d, rfl, d0, d1, fun H2 e2 => ?_⟩
    have e12 := e1.trans e2
    have hc2 := e12 _ _ hch
    have hR2 := rings_ex4 e12 hR
    refine ⟨_, rfl, _, rfl, ch, xs, d, rfl, hc2, ?_⟩
    have least : ∀ L : List (Int × Int), (d < 0 ∨ d > 2 * (xs.length : Int) - 2) → CnZ rs xs.length d [(max (-1) (d - (xs.length : Int)), (prodL rs xs.length : Int))] := fun _ ho => by
      refine ⟨⟨by simp, fun x hx => by rw [List.mem_singleton.mp hx]; show (0 : Int) < _; omega⟩, fun G => ?_⟩
      unfold wsumZ
      rw [sumL_cons, sumL_nil]
      show (prodL rs xs.length : Int) * G _ + 0 = _
      have e : ∀ x ∈ tupsL rs xs.length, G ((F (hseq rs x xs.length) (d - xs.length) : Int) - 1) = G (max (-1) (d - (xs.length : Int))) := fun x hx => by
        obtain ⟨pl, _⟩ := (tups_mem rs xs.length x).mp hx
        congr 1
        rcases ho with z | z
        · have := rich_neg rs x z
          unfold rich1 at this
          rw [pl] at this
          omega
        · have := rich_great rs x (tot := d) (by rw [pl]; exact z)
          unfold rich1 at this
          rw [pl] at this
          omega
      rw [sumL_congr e, ← tups_len, Int.add_zero, ← sumL_one (tupsL rs xs.length), Int.mul_comm, ← sumL_mul]
      exact sumL_congr fun _ _ => Int.mul_one _
    have stop : (d < 0 ∨ d > 2 * (xs.length : Int) - 2) → ∀ Q' : VK, (∀ v H', Q' v H' = Q v H') → tDisp [(tVar 2, tCall spTuplesOf [] E0 (tCons (tVar 0) tNil))] [some (.ref ch), some (.int d), some (.int (max (-1) (d - (xs.length : Int)))), none, none, none, none, none] H2 Q' := fun ho Q' eQ => by
      intro p hp
      have xp := Ex.new (o := .dK []) hp
      have gp : (upd H2 p (.dK [])) p = some (.dK []) := upd_same
      have hc3 := xp _ _ hc2
      have hR3 := rings_ex4 xp hR2
      have e3 := e12.trans xp
      have hp0 : H2 p = none := hp
      generalize upd H2 p (.dK []) = H3 at *
      refine ⟨_, rfl, _, rfl, ch, xs, rs, rfl, hc3, hR3, l5, fun H4 e4 => ?_⟩
      refine ⟨e4 _ _ gp, [(.inl (max (-1) (d - (xs.length : Int))), .int (prodL rs xs.length : Int))], rfl, by show 1 ≤ 15; decide, ?_⟩
      rw [eQ]
      refine kQ p [(max (-1) (d - (xs.length : Int)), (prodL rs xs.length : Int))] _ (e12.trans (Ex.mut (xp.trans e4) hp0)) upd_same (least [] ho) (by simp) (by show 1 ≤ 10; decide)
    refine ⟨_, rfl, _, _, rfl, rfl, _, rfl, ite2 (fun cc => ?_) (fun cc => ?_)⟩
    · exact iteT (stop (.inl (of_decide_eq_true cc)) _ fun _ _ => rfl)
    refine ⟨_, rfl, _, rfl, ch, _, rfl, .inr (SqT.of hc2), _, _, rfl, rfl, .inl ⟨by omega, by omega⟩, _, _, rfl, rfl, _, _, rfl, rfl, _, rfl, ite2 (fun c2 => ?_) (fun c2 => ?_)⟩
    · exact stop (.inr (of_decide_eq_true c2)) _ fun _ _ => rfl
    have dge : 0 ≤ d := by
      have : ¬ d < 0 := fun z => cc (decide_eq_true z)
      omega
    have dle : d ≤ 2 * (xs.length : Int) - 2 := by
      have : ¬ d > 2 * (xs.length : Int) - 2 := fun z => c2 (decide_eq_true z)
      omega
    obtain ⟨g, hg⟩ : ∃ g, g = xs.length := ⟨_, rfl⟩
    obtain ⟨c, hc⟩ : ∃ c : Nat, (c : Int) = d / 2 + 1 := ⟨(d / 2 + 1).toNat, by omega⟩
    obtain ⟨r, hr⟩ : ∃ r : Nat, (r : Int) = (xs.length : Int) - d + d / 2 := ⟨((xs.length : Int) - d + d / 2).toNat, by omega⟩
    obtain ⟨t, ht⟩ : ∃ t : Int, t = d - (xs.length : Int) := ⟨_, rfl⟩
    have t2 : (xs.length : Int) - d = 0 - t := by omega
    refine ⟨_, rfl, ch, _, rfl, .inr (SqT.of hc2), _, rfl, _, _, rfl, rfl, ?_⟩
    refine ⟨_, rfl, _, rfl, _, _, rfl, rfl, ⟨by decide, by decide⟩, _, _, rfl, rfl, _, rfl, _, rfl, _, _, rfl, rfl, ⟨by decide, by decide⟩, _, _, rfl, rfl, ch, xs, rs, c, r, ?_, hc2, hR2, by omega, by omega, by omega, fun dd L H3 e3 hd C => ?_⟩
    · rw [hc, hr]
      rfl
    have e13 := e12.trans e3
    intro m hm
    have nmd : dd ≠ m := ne_of_none hd hm
    have e4 := Ex.new (o := .dK []) hm
    refine ⟨dd, _, e4 _ _ hd, trivial, fun od => ?_⟩
    have k0 : Keep dd H3 (upd (upd H3 m (.dK [])) dd (.frz od (.dT (kvC L)))) := (Keep.ex e4).trans keep_lock
    have s0 : (upd (upd H3 m (.dK [])) dd (.frz od (.dT (kvC L)))) m = some (.dK (kvZ [])) := (upd_ne nmd.symm).trans upd_same
    have fz0 : (upd (upd H3 m (.dK [])) dd (.frz od (.dT (kvC L)))) dd = some (.frz od (.dT (kvC L))) := upd_same
    generalize upd (upd H3 m (.dK [])) dd (.frz od (.dT (kvC L))) = H5 at *
    have kl : (kvC L).length = L.length := List.length_map ..
    have pw := pow_few (show c ≤ 6 by omega) (show r ≤ 6 by omega)
    have src : ∀ x ∈ L, F x.1 t = F x.1 t ∧ (F x.1 t : Int) ≤ 9 := fun x hx => by
      refine ⟨rfl, ?_⟩
      obtain ⟨ps, hps, sr⟩ := C.src hx
      obtain ⟨pl, _⟩ := (tups_mem rs xs.length ps).mp hps
      have e := rich_cut rs ps dge dle hc hr
      rw [sr, ← ht] at e
      have up := rich_up rs ps dge
      unfold rich1 at up
      rw [pl, ← ht] at up
      omega
    have few : ∀ M : List (Int × Int), MkZ M → (∀ x ∈ M, -1 ≤ x.1 ∧ x.1 ≤ 8) → M.length ≤ 10 := fun M mk hM => by
      have := nodup_le mk.nd (m := (List.range 10).map fun (i : Nat) => (i : Int) - 1) fun y hy => by
        obtain ⟨x, hx, rfl⟩ := List.mem_map.mp hy
        obtain ⟨a, b⟩ := hM x hx
        exact List.mem_map.mpr ⟨(x.1 + 1).toNat, List.mem_range.mpr (by omega), by omega⟩
      rw [List.length_map, List.length_map, List.length_range] at this
      exact this
    refine ⟨_, rfl, dd, od, rfl, .inr ⟨_, fz0, for_it walk_keysT (fun v σ2 H2 => ∃ (y6 y7 : Option V) (M : List (Int × Int)), σ2 = [some (.ref ch), some (.int d), some (.int (max (-1) (d - (xs.length : Int)))), some (.int ((xs.length : Int) - d)), some (.ref dd), some (.ref m), y6, y7] ∧ H2 m = some (.dK (kvZ M)) ∧ MkZ M ∧ (∀ x ∈ M, -1 ≤ x.1 ∧ x.1 ≤ 8) ∧ (∀ G, wsumZ M G = sumL (L.take v) fun x => x.2 * G ((F x.1 t : Int) - 1)) ∧ H2 dd = some (.frz od (.dT (kvC L))) ∧ Keep dd H3 H2)
      ⟨_, _, [], rfl, s0, MkZ.nil, fun x hx => absurd hx (by simp), fun G => rfl, fz0, k0⟩ (fun v σ2 H2 _ hW => ?_) (fun v x σ2 H2 H6 hv1 hW hy => ?_) (fun σ2 H2 hW => ?_)⟩⟩
    · obtain ⟨_, _, _, _, _, _, _, _, fz, _⟩ := hW
      exact fz
    · obtain ⟨y6, y7, M, rfl, w1, w2, wl, w3, w4, w5⟩ := hW
      obtain ⟨rfl, ky, v', b, hkv, rfl, hb⟩ := hy
      have iL : v < L.length := by rw [kl] at hv1; exact hv1
      obtain ⟨x, hx2, rfl, rfl⟩ := kvC_at hkv
      have hxm := List.mem_of_getElem? hx2
      have px := C.pos x hxm
      have Bx' := C.bx x hxm
      have f9 := (src x hxm).2
      have hb0 : HeapAt H6 b x.1 := by
        unfold HeapAt
        rw [← keyW_hv]
        exact hb
      refine ⟨_, rfl, _, rfl, _, rfl, b, x.1, t, by rw [t2, ← ht]; rfl, hb0, Bx'.heap, fun H7 e7 => ?_⟩
      have w1' := e7 _ _ w1
      have w4' := e7 _ _ w4
      have hkb : H7 b = some (.tup ((keyW x.1).map kV)) := e7 _ _ hb
      have ml := few M w2 wl
      refine ⟨_, rfl, m, rfl, .inl ⟨_, .inl w1'⟩, _, rfl, _, DGet.k (k := .inl ((F x.1 t : Int) - 1)) w1', _, rfl, _, rfl, dd, .int x.2, rfl, .inr ⟨kvC L, keyW x.1, b, .inr ⟨od, w4'⟩, rfl, hkb, by rw [valC, getC_at C.nd hxm]; rfl⟩, (getZ M ((F x.1 t : Int) - 1)).getD 0, x.2, ?_, rfl, _, rfl, _, rfl, m, _, rfl, DPut.k (k := .inl ((F x.1 t : Int) - 1)) w1' (by rw [kvZ_len]; exact small1000 (by omega)), _, _, addZ M ((F x.1 t : Int) - 1) x.2, rfl, ?_, w2.add _ px, addZ_all wl (fun _ _ => ⟨by show (-1 : Int) ≤ _; omega, by show _ ≤ (8 : Int); omega⟩) ⟨by show (-1 : Int) ≤ _; omega, by show _ ≤ (8 : Int); omega⟩, fun G => ?_, (upd_ne nmd).trans w4', ?_⟩
      · rw [valZ]
        cases getZ M ((F x.1 t : Int) - 1) <;> rfl
      · rw [upd_same, putZ w2.nd]
      · rw [wsumZ_add G _ x.2 w2.nd, w3, take_snoc1 hx2, sumL_app, sumL_cons, sumL_nil]
        omega
      · exact fun a o na ha2 => (upd_ne (ne_of_none ha2 hm)).trans (e7 _ _ (w5 _ _ na ha2))
    · obtain ⟨y6, y7, M, rfl, w1, w2, wl, w3, w4, w5⟩ := hW
      rw [kl, List.take_length] at w3
      refine ⟨w4, ?_⟩
      have w1' : (upd H2 dd (.dT (kvC L))) m = some (.dK (kvZ M)) := (upd_ne nmd.symm).trans w1
      have e5 : Ex H3 (upd H2 dd (.dT (kvC L))) := restore (H := H) hd w5
      have ml := few M w2 wl
      have CM : CnZ rs xs.length d M := ⟨w2, fun G => by
        rw [w3]
        have cw := C.ws fun h => G ((F h t : Int) - 1)
        unfold wsum Wt at cw
        rw [cw]
        refine sumL_congr fun x hx => ?_
        show G ((F (cutH c r (hseq rs x xs.length)) t : Int) - 1) = _
        rw [ht, rich_cut rs x dge dle hc hr]⟩
      generalize upd H2 dd (.dT (kvC L)) = H8 at *
      refine ⟨_, rfl, m, kvZ M, M.map (·.1), rfl, Rd.of w1', ?_, by rw [List.length_map]; omega, fun ys p pm pwr hp => ?_⟩
      · unfold kvZ
        rw [List.map_map, List.map_map]
        rfl
      obtain ⟨N, nm, rfl⟩ := perm_lift pm
      have nl : N.length = M.length := nm.length_eq
      have CN := CM.zk.perm nm
      have xp := Ex.new (o := .lst ((N.map (·.1)).map V.int)) hp
      have gp : (upd H8 p (.lst ((N.map (·.1)).map V.int))) p = some (.lst ((N.map (·.1)).map V.int)) := upd_same
      have w1'' := xp _ _ w1'
      have e58 := e5.trans xp
      generalize upd H8 p (.lst ((N.map (·.1)).map V.int)) = H9 at *
      refine ⟨p, rfl, ⟨_, SqL.of gp⟩, fun Dq hD => ?_⟩
      refine DI.dcK_it (walk_list (K := K) (a := p) (xs := (N.map (·.1)).map V.int)) (fun i H' => H' Dq = some (.dK (kvZ (N.take i))) ∧ Ex H9 H') ⟨upd_same, Ex.new hD⟩ (fun i H' _ hp2 => SqL.of (hp2.2 _ _ gp)) (fun i x H' H10 hi hp2 hy => ?_) (fun H' hp2 => ?_)
      · obtain ⟨u1, u2⟩ := hp2
        obtain ⟨rfl, hx⟩ := hy
        obtain ⟨y, hy2, rfl⟩ : ∃ y, N[i]? = some y ∧ x = V.int y.1 := by
          rw [List.getElem?_map, List.getElem?_map] at hx
          cases z : N[i]? with
          | none => rw [z] at hx; cases hx
          | some y => rw [z] at hx; exact ⟨y, rfl, (Option.some.inj hx).symm⟩
        have hym := List.mem_of_getElem? hy2
        have tk := take_snoc1 hy2
        refine ⟨rfl, ?_⟩
        dsimp only [tYes]
        rw [if_pos rfl]
        refine ⟨_, rfl, _, rfl, _, rfl, m, .int y.2, rfl, .inl ⟨kvZ M, .inl y.1, .inl (u2 _ _ w1''), rfl, by rw [valZ, getZ_at CM.zk.nd ((nm.mem_iff).mp hym)]; rfl⟩, _, .inl y.1, rfl, u1, ?_, ?_, Ex.mut u2 hD⟩
        · rw [kvZ_len, List.length_take]
          exact small1000 (by omega)
        · rw [upd_same, tk]
          have nn : y.1 ∉ (N.take i).map (·.1) := fun z => by
            have nd := CN.nd
            rw [show N = N.take i ++ y :: N.drop (i + 1) from ?_] at nd
            · rw [List.map_append, List.map_cons] at nd
              exact (List.nodup_append.mp nd).2.2 _ z _ (List.mem_cons_self ..) rfl
            · obtain ⟨h1, h2⟩ := List.getElem?_eq_some_iff.mp hy2
              rw [← h2, ← List.drop_eq_getElem_cons h1, List.take_append_drop]
          rw [putZ_new nn]
      · obtain ⟨u1, u2⟩ := hp2
        rw [List.length_map, List.length_map, List.take_length] at u1
        exact kQ Dq N _ ((e13.trans e58).trans u2) u1 ⟨CN, fun G => by rw [wsumZ_perm nm]; exact CM.ws G⟩ pwr (by omega)
end
end K1

set_option exponentiation.threshold 400
namespace K1
open PySem PySem.Spec PyProof.Rows L2 Evl HM LX ZW TE DR
theorem Nk_all {rs : List (Int × Int)} {g : Nat} {d : Int} {k : Nat} (h : (g : Int) - d + k < 1) : Nk rs g d k = (prodL rs g : Int) := by
  unfold Nk
  rw [show sumL (tupsL rs g) (fun x => if k + 1 ≤ F (hseq rs x g) (d - g) then 1 else 0) = sumL (tupsL rs g) fun _ => 1 from sumL_congr fun x _ => if_pos (rich_all rs x g d k h), sumL_one, tups_len]
theorem Nk_no {rs : List (Int × Int)} {g : Nat} {d : Int} {k : Nat} (h : ¬ (g : Int) - d + k < 1) (h2 : (k : Int) + 1 + ((g : Int) - d + k) > (g : Int) + 1) : Nk rs g d k = 0 := by
  unfold Nk
  rw [show sumL (tupsL rs g) (fun x => if k + 1 ≤ F (hseq rs x g) (d - g) then (1 : Int) else 0) = sumL (tupsL rs g) fun _ => 0 from sumL_congr fun x _ => if_neg (rich_no rs x g d k h h2), sumL_zero]
theorem Nk_box {rs : List (Int × Int)} {g : Nat} {d : Int} {k r : Nat} (hr : (r : Int) = (g : Int) - d + k) (r0 : 0 < r) {L : List (List Nat × Int)} (C : Cn rs (k + 1) r g L) : (getC L (List.replicate (k + 1) r)).getD 0 = Nk rs g d k := by
  rw [← wsum_ind _ C.nd, C.ws]
  unfold Wt Nk ind
  refine sumL_congr fun x _ => ?_
  have a := rich_box (hseq_ok rs x g).1 k r0
  have b := rich_ge rs x g d k
  by_cases z : k + 1 ≤ F (hseq rs x g) (d - g)
  · rw [if_pos z, if_pos (a.mpr (by have := b.mp z; omega))]
  · rw [if_neg z, if_neg (fun y => z (b.mpr (by have := a.mp y; omega)))]
section
variable {P : Program} {w : World} {K : PySem.W.Frag} {mg : Str → Option Value} {base : Heap}
def spAtLeast : Sp := fun vs H Q _ => ∃ (ch : Addr) (xs : List V) (rs : List (Int × Int)) (d : Int) (k : Nat), vs = [.ref ch, .int d, .int (k : Int)] ∧ H ch = some (.tup xs) ∧ RingsAt H 60 xs rs ∧ 1 ≤ xs.length ∧ (xs.length ≤ 12 ∧ (xs.length ≤ 5 ∨ (k ≤ 5 ∧ 1 ≤ (xs.length : Int) - d + k ∧ (xs.length : Int) - d + k ≤ 6))) ∧ -(10 ^ 60) < d ∧ d < 10 ^ 60 ∧ k ≤ 40 ∧
  ∀ H', Ex H H' → Q (.int (Nk rs xs.length d k)) H'
theorem ok_classes_at_least (T : Txt K mg) {f : Addr} {fd : FuncData} (D : DefAt K mg "classes_at_least" sClassesAtLeast ["chain", "degree", "k"] f fd) : FnOk P w K mg base CX0 7 f fd ["chain", "degree", "k"] spAtLeast := by
  refine D.F.ok scClassesAtLeast (fun vs H Q E h => ?_) (fun cdv A outer s₀ H vs Q E hr h => ?_)
  · obtain ⟨ch, xs, rs, d, k, rfl, _⟩ := h
    rfl
  · obtain ⟨ch, xs, rs, d, k, rfl, hch, hR, l1, ⟨l12, l5'⟩, d0, d1, k40, kQ⟩ := h
    obtain ⟨f1, fd1, D1⟩ := T.d_cut_heaps
    obtain ⟨f2, fd2, D2⟩ := T.d_tuples_of
    obtain ⟨f3, fd3, D3⟩ := T.d_check_between
    obtain ⟨f4, fd4, D4⟩ := T.d_check_integer
    obtain ⟨f5, fd5, D5⟩ := T.d_check_chain
    obtain ⟨tMOST_K, vMOST_K⟩ := T.v_MOST_K
    have hr1 : Room 1 _ := hr.mono (by decide)
    have hr2 : Room 2 _ := hr.mono (by decide)
    have hr3 : Room 3 _ := hr.mono (by decide)
    have hr5 : Room 5 _ := hr.mono (by decide)
    have hr6 : Room 6 _ := hr.mono (by decide)
    have hu1 := Nat.lt_of_le_of_lt (Nat.add_le_add_left (show 1 ≤ 64 by decide) _) hr.units
    refine ⟨_, pss_cons (ps_expr (pe_call (ok_check_chain T D5) hr5 (by rfl) D5.g D5.F.kp D5.b .nil pass0 (pa_cons (pv 0) pa_nil)))
      (pss_cons (ps_expr (pe_call (ok_check_integer T D4) hr2 (by rfl) D4.g D4.F.kp D4.b .nil pass0 (pa_cons (pv 1) pa_nil)))
      (pss_cons (ps_expr (pe_call (ok_check_between T D3) hr3 (by rfl) D3.g D3.F.kp D3.b .nil pass0 (pa_cons (pv 2) (pa_cons pe_int (pa_cons (pe_glob (v := .int 40) rfl vMOST_K ⟨_, rfl⟩) pa_nil)))))
      (pss_cons (ps_set (i := 3) scClassesAtLeast.nd rfl (.inl rfl) (pe_op op_add (pv 2) pe_int))
      (pss_cons (ps_set (i := 4) scClassesAtLeast.nd rfl (.inl rfl) (pe_op op_add (pe_op op_sub (pe_callB call_len_seq (by rfl) T.z_len PySem.boot_len (pa_cons (pv 0) pa_nil)) (pv 1)) (pv 2)))
      (pss_cons (ps_if (pt_cmpR op_lt (pv 4) pe_int (nomark _)) (pss_one (ps_ret (pe_call (ok_tuples_of T D2) hr1 (by rfl) D2.g D2.F.kp D2.b .nil pass0 (pa_cons (pv 0) pa_nil)))) pss_nil)
      (pss_cons (ps_if (pt_cmpR op_gt (pe_op op_add (pv 3) (pv 4)) (pe_op op_add (pe_callB call_len_seq (by rfl) T.z_len PySem.boot_len (pa_cons (pv 0) pa_nil)) pe_int) (nomark _)) (pss_one (ps_ret pe_int)) pss_nil)
      (pss_one (ps_ret (pe_dget2 hu1 (pe_call (ok_cut_heaps T D1) hr6 (by rfl) D1.g D1.F.kp D1.b .nil pass0 (pa_cons (pv 0) (pa_cons (pv 3) (pa_cons (pv 4) pa_nil)))) (pe_op RT.op_repZ (pe_tup (pa_cons (pv 4) pa_nil)) (pv 3)) pe_int ⟨rfl, rfl, rfl, rfl⟩))))))))), ?_⟩
    refine ⟨_, rfl, .ref ch, rfl, rings_chain4 hR hch l1 (by omega), fun H1 e1 => ?_⟩
    refine ⟨_, rfl, d, rfl, d0, d1, fun H2 e2 => ?_⟩
    refine ⟨_, rfl, (k : Int), 0, 40, rfl, by omega, by omega, by omega, by omega, fun H3 e3 => ?_⟩
    have e13 := (e1.trans e2).trans e3
    have hc3 := e13 _ _ hch
    have hR3 := rings_ex4 e13 hR
    refine ⟨_, rfl, _, _, rfl, rfl, _, rfl, ch, _, rfl, .inr (SqT.of hc3), _, rfl, _, _, rfl, rfl, _, rfl, _, _, rfl, rfl, ?_⟩
    refine ⟨_, rfl, _, _, rfl, rfl, _, rfl, ite2 (fun cc => ?_) (fun cc => ?_)⟩
    · have cc := of_decide_eq_true cc
      refine ⟨_, rfl, ch, xs, rs, rfl, hc3, hR3, by omega, fun H4 e4 => ?_⟩
      rw [← Nk_all (rs := rs) cc]
      exact kQ _ (e13.trans e4)
    have nc : ¬ (xs.length : Int) - d + k < 1 := fun z => cc (decide_eq_true z)
    refine ⟨_, rfl, _, rfl, _, _, rfl, rfl, _, rfl, ch, _, rfl, .inr (SqT.of hc3), _, _, rfl, rfl, _, _, rfl, rfl, _, rfl, ite2 (fun c2 => ?_) (fun c2 => ?_)⟩
    · have c2 := of_decide_eq_true c2
      show Q (.int 0) H3
      rw [← Nk_no (rs := rs) nc (by omega)]
      exact kQ _ e13
    have n2 : ¬ (k : Int) + 1 + ((xs.length : Int) - d + k) > (xs.length : Int) + 1 := fun z => c2 (decide_eq_true z)
    obtain ⟨r, hrr⟩ : ∃ r : Nat, (r : Int) = (xs.length : Int) - d + k := ⟨((xs.length : Int) - d + k).toNat, by omega⟩
    refine ⟨_, rfl, _, rfl, _, rfl, ch, xs, rs, k + 1, r, ?_, hc3, hR3, by omega, by omega, by omega, fun dd L H4 e4 hd C => ?_⟩
    · rw [hrr]
      rfl
    refine ⟨dd, rfl, .inr ⟨_, .inl hd⟩, ?_⟩
    refine ⟨_, rfl, by show 1 ≤ sizeLine; decide, fun t ht => ⟨_, rfl, t, _, [_], rfl, rfl, upd_same, (fun z => by cases z), by omega, by omega, by show 1 ≤ 1000; decide, fun u H5 e5 hu => ?_⟩⟩
    have xt := (Ex.new (o := .tup [V.int ((xs.length : Int) - d + (k : Int))]) ht).trans e5
    have hk5 : H5 u = some (.tup ((keyW (List.replicate (k + 1) r)).map kV)) := by
      rw [hu, keyW_hv]
      unfold hv
      rw [List.map_replicate, hrr, show ((k : Int) + 1).toNat = k + 1 by omega]
      congr 2
      exact flat_rep1 (k + 1) _
    refine ⟨_, DGet.t (xt _ _ hd) hk5, ?_⟩
    have key : (valV (kvC L) (keyW (List.replicate (k + 1) r))).getD (.int 0) = .int (Nk rs xs.length d k) := by
      rw [valC, ← Nk_box (d := d) hrr (by omega) C]
      cases getC L (List.replicate (k + 1) r) <;> rfl
    rw [key]
    exact kQ _ ((e13.trans e4).trans xt)
end
end K1

set_option exponentiation.threshold 400
namespace K1
open PySem PySem.Spec PyProof.Rows L2 Evl HM LX
section
variable {P : Program} {w : World} {K : PySem.W.Frag} {mg : Str → Option Value} {base : Heap}
theorem filt_hAt : ∀ (t : List Nat), t.Pairwise (fun a b => b ≤ a) → ∀ c, hAt (t.filter fun x => decide (0 < x)) c = t.getD c 0
  | [], _, c => by
    unfold hAt
    simp
  | x :: r, h, c => by
    rw [List.pairwise_cons] at h
    by_cases z : 0 < x
    · rw [List.filter_cons_of_pos (by simpa using z)]
      cases c with
      | zero => rfl
      | succ c =>
        unfold hAt
        rw [List.getD_cons_succ, List.getD_cons_succ]
        exact filt_hAt r h.2 c
    · rw [List.filter_cons_of_neg (by simpa using z)]
      have all0 : ∀ y ∈ r, y = 0 := fun y hy => by
        have := h.1 y hy
        omega
      have e : (r.filter fun x => decide (0 < x)) = [] := by
        rw [List.filter_eq_nil_iff]
        intro y hy
        rw [all0 y hy]
        decide
      rw [e]
      cases c with
      | zero =>
        rw [List.getD_cons_zero]
        show (0 : Nat) = x
        omega
      | succ c =>
        rw [List.getD_cons_succ]
        show (0 : Nat) = _
        rw [List.getD_eq_getElem?_getD]
        cases q : r[c]? with
        | none => rfl
        | some y => exact (all0 y (List.mem_of_getElem? q)).symm
theorem filt_heap {t : List Nat} (h : t.Pairwise (fun a b => b ≤ a)) : IsHeap (t.filter fun x => decide (0 < x)) := by
  refine ⟨fun c hc => ?_, fun c => ?_⟩
  · have := List.getElem_mem hc
    have e : hAt (t.filter fun x => decide (0 < x)) c = (t.filter fun x => decide (0 < x))[c] := by
      unfold hAt
      rw [List.getD_eq_getElem?_getD, List.getElem?_eq_getElem hc]
      rfl
    rw [e]
    exact of_decide_eq_true (List.mem_filter.mp this).2
  · rw [filt_hAt t h, filt_hAt t h, List.getD_eq_getElem?_getD, List.getD_eq_getElem?_getD]
    by_cases q : c + 1 < t.length
    · rw [List.getElem?_eq_getElem q, List.getElem?_eq_getElem (show c < t.length by omega)]
      exact List.pairwise_iff_getElem.mp h c (c + 1) (by omega) q (by omega)
    · rw [List.getElem?_eq_none (by omega)]
      exact Nat.zero_le _
def rmv (h : List Nat) (c : Nat) : Bool := decide (hAt h (c + 1) < hAt h c)
def shr (h : List Nat) (g : Nat → Bool) : List Nat := ((List.range h.length).map fun c => hAt h c - b2n (g c)).filter fun x => decide (0 < x)
theorem rmv_lt {h : List Nat} {c : Nat} (r : rmv h c = true) : c < h.length := by
  have := of_decide_eq_true r
  rcases Nat.lt_or_ge c h.length with q | q
  · exact q
  · rw [hAt_ge q] at this
    omega
theorem shr_pw {h : List Nat} (IH : IsHeap h) {g : Nat → Bool} (hg : ∀ c, g c = true → rmv h c = true) : ((List.range h.length).map fun c => hAt h c - b2n (g c)).Pairwise (fun a b => b ≤ a) := by
  refine List.pairwise_map.mpr (List.pairwise_lt_range.imp fun {c d} hcd => ?_)
  by_cases gc : g c = true
  · have r := of_decide_eq_true (hg c gc)
    have := IH.le (show c + 1 ≤ d by omega)
    have := b2n_le (g c)
    omega
  · have gf : g c = false := by simpa using gc
    rw [gf]
    have := IH.le (Nat.le_of_lt hcd)
    show hAt h d - b2n (g d) ≤ hAt h c - 0
    omega
theorem hAt_shr {h : List Nat} (IH : IsHeap h) {g : Nat → Bool} (hg : ∀ c, g c = true → rmv h c = true) (c : Nat) : hAt (shr h g) c = hAt h c - b2n (g c) := by
  unfold shr
  rw [filt_hAt _ (shr_pw IH hg), List.getD_eq_getElem?_getD, List.getElem?_map]
  by_cases q : c < h.length
  · rw [List.getElem?_range q]
    rfl
  · rw [List.getElem?_eq_none (by rw [List.length_range]; omega), hAt_ge (by omega)]
    show (0 : Nat) = 0 - _
    omega
theorem shr_heap {h : List Nat} (IH : IsHeap h) {g : Nat → Bool} (hg : ∀ c, g c = true → rmv h c = true) : IsHeap (shr h g) := filt_heap (shr_pw IH hg)
theorem shr_len (h : List Nat) (g : Nat → Bool) : (shr h g).length ≤ h.length := by
  have := List.length_filter_le (fun x => decide (0 < x)) ((List.range h.length).map fun c => hAt h c - b2n (g c))
  rw [List.length_map, List.length_range] at this
  exact this
def tipsC (h : List Nat) : List Nat := (List.range h.length).filter (rmv h)
def shr1 (h : List Nat) (c : Nat) : List Nat := shr h fun x => decide (x = c)
def fill : Nat → List Nat → Int
  | 0, h => if h = [] then 1 else 0
  | n + 1, h => sumL (tipsC h) fun c => fill n (shr1 h c)
end
end K1

set_option exponentiation.threshold 400
namespace K1
open PySem PySem.Spec PyProof.Rows L2 Evl HM LX ZW TE DR
/-- one square more -/
def add1 (h : List Nat) (j : Nat) : List Nat := grow h fun x => decide (x = j)
theorem add1_opn {h : List Nat} {j : Nat} (o : opn h j = true) : ∀ c, decide (c = j) = true → opn h c = true := fun c z => by rw [of_decide_eq_true z]; exact o
theorem hAt_add1 {h : List Nat} {j : Nat} (o : opn h j = true) (c : Nat) : hAt (add1 h j) c = hAt h c + (if c = j then 1 else 0) := by
  unfold add1
  rw [hAt_grow (add1_opn o)]
  unfold b2n
  by_cases z : c = j
  · rw [if_pos z, if_pos (decide_eq_true z)]
  · rw [if_neg z, if_neg (by rw [decide_eq_false z]; decide)]
theorem shr1_ok {h : List Nat} {j : Nat} (r : rmv h j = true) : ∀ c, decide (c = j) = true → rmv h c = true := fun c z => by rw [of_decide_eq_true z]; exact r
theorem hAt_shr1 {h : List Nat} (IH : IsHeap h) {j : Nat} (r : rmv h j = true) (c : Nat) : hAt (shr1 h j) c = hAt h c - (if c = j then 1 else 0) := by
  unfold shr1
  rw [hAt_shr IH (shr1_ok r)]
  unfold b2n
  by_cases z : c = j
  · rw [if_pos z, if_pos (decide_eq_true z)]
  · rw [if_neg z, if_neg (by rw [decide_eq_false z]; decide)]
theorem shr1_heap {h : List Nat} (IH : IsHeap h) {j : Nat} (r : rmv h j = true) : IsHeap (shr1 h j) := shr_heap IH (shr1_ok r)
theorem bx_shr1 {c r : Nat} {h : List Nat} (B : Bx c r h) {j : Nat} (t : rmv h j = true) : Bx c r (shr1 h j) := ⟨shr1_heap B.heap t, Nat.le_trans (shr_len _ _) B.len, by rw [hAt_shr1 B.heap t]; have := B.top; omega⟩
theorem opn_iff {h : List Nat} {j : Nat} : opn h j = true ↔ j = 0 ∨ hAt h j < hAt h (j - 1) := by
  unfold opn
  rw [Bool.or_eq_true, decide_eq_true_eq, decide_eq_true_eq]
theorem add_shr {c r : Nat} {h κ : List Nat} (B : Bx c r h) (C : Bx c r κ) (j : Nat) : ((opn h j = true ∧ j < c ∧ hAt h j < r) ∧ add1 h j = κ) ↔ (j ∈ tipsC κ ∧ shr1 κ j = h) := by
  unfold tipsC
  rw [List.mem_filter, List.mem_range]
  constructor
  · rintro ⟨⟨o, jc, jr⟩, rfl⟩
    have a := hAt_add1 o
    have aj := a j
    rw [if_pos rfl] at aj
    have a1 := a (j + 1)
    rw [if_neg (by omega)] at a1
    have le := B.heap.fall j
    have t : rmv (add1 h j) j = true := decide_eq_true (by omega)
    refine ⟨⟨rmv_lt t, t⟩, heap_ext (shr1_heap C.heap t) B.heap fun x => ?_⟩
    rw [hAt_shr1 C.heap t, a]
    split <;> omega
  · rintro ⟨⟨jl, t⟩, rfl⟩
    have a := hAt_shr1 C.heap t
    have aj := a j
    rw [if_pos rfl] at aj
    have tj := of_decide_eq_true t
    have o : opn (shr1 κ j) j = true := opn_iff.mpr (by
      by_cases z : j = 0
      · exact .inl z
      · right
        have a1 := a (j - 1)
        rw [if_neg (by omega)] at a1
        have := C.heap.le (show j - 1 ≤ j by omega)
        omega)
    refine ⟨⟨o, by have := C.len; omega, by have := C.le j; omega⟩, heap_ext (grow_heap B.heap (add1_opn o)) C.heap fun x => ?_⟩
    rw [hAt_add1 o, a]
    by_cases z : x = j
    · subst z
      rw [if_pos rfl]
      omega
    · rw [if_neg z]
      omega
/-- columns that take a square of the box -/
def adds (c r : Nat) (h : List Nat) : List Nat := (List.range c).filter fun j => opn h j && decide (hAt h j < r)
theorem adds_mem {c r : Nat} {h : List Nat} (j : Nat) : j ∈ adds c r h ↔ opn h j = true ∧ j < c ∧ hAt h j < r := by
  unfold adds
  rw [List.mem_filter, List.mem_range, Bool.and_eq_true, decide_eq_true_eq]
  exact ⟨fun ⟨a, b, d⟩ => ⟨b, a, d⟩, fun ⟨b, a, d⟩ => ⟨a, b, d⟩⟩
/-- great orders: a rest is one column -/
theorem rest_inj {c r : Nat} {h : List Nat} (B : Bx c r h) {k : Nat} (hk : c + r ≤ k + 1) (k2 : 2 ≤ k) {i j : Nat} (hi : i ∈ adds c r h) (hj : j ∈ adds c r h) (e : dg h i % (k : Int) = dg h j % (k : Int)) : i = j := by
  obtain ⟨_, i1, i2⟩ := (adds_mem i).mp hi
  obtain ⟨_, j1, j2⟩ := (adds_mem j).mp hj
  refine dg_inj B.heap ?_
  have d := Int.dvd_of_emod_eq_zero (Int.emod_eq_emod_iff_emod_sub_eq_zero.mp e)
  obtain ⟨q, hq⟩ := d
  unfold dg at hq ⊢
  have : q = 0 := by
    rcases Int.lt_trichotomy q 0 with z | z | z
    · have : (k : Int) * q ≤ (k : Int) * (-1) := Int.mul_le_mul_of_nonneg_left (by omega) (by omega)
      omega
    · exact z
    · have : (k : Int) * 1 ≤ (k : Int) * q := Int.mul_le_mul_of_nonneg_left (by omega) (by omega)
      omega
  rw [this, Int.mul_zero] at hq
  omega
theorem gbq_iff {c r : Nat} {h : List Nat} {k q : Int} (j : Nat) : gbq c r h k q j = true ↔ (j ∈ adds c r h ∧ dg h j % k = q) := by
  rw [adds_mem]
  unfold gbq
  rw [Bool.and_eq_true, Bool.and_eq_true, Bool.and_eq_true, decide_eq_true_eq, decide_eq_true_eq, decide_eq_true_eq]
  exact ⟨fun ⟨⟨a, b⟩, c, d⟩ => ⟨⟨a, c, d⟩, b⟩, fun ⟨⟨a, c, d⟩, b⟩ => ⟨⟨a, b⟩, c, d⟩⟩
theorem rests_adds {c r : Nat} {h : List Nat} (B : Bx c r h) {k : Nat} (hk : c + r ≤ k + 1) (k2 : 2 ≤ k) {L : List Int} (nd : L.Nodup) (mem : ∀ q, q ∈ L ↔ ∃ j, gbq c r h (k : Int) q j = true) : L.Perm ((adds c r h).map fun j => dg h j % (k : Int)) := by
  refine nodup_perm nd ?_ fun q => ?_
  · refine List.pairwise_map.mpr (List.Pairwise.imp_of_mem (fun {a b} ha hb ne e => ne (rest_inj B hk k2 ha hb e)) (List.nodup_range.filter _))
  · rw [mem, List.mem_map]
    constructor
    · rintro ⟨j, hj⟩
      obtain ⟨a, b⟩ := (gbq_iff j).mp hj
      exact ⟨j, a, b⟩
    · rintro ⟨j, a, b⟩
      exact ⟨j, (gbq_iff j).mpr ⟨a, b⟩⟩
theorem grow_adds {c r : Nat} {h : List Nat} (B : Bx c r h) {k : Nat} (hk : c + r ≤ k + 1) (k2 : 2 ≤ k) {j : Nat} (hj : j ∈ adds c r h) : grow h (gbq c r h (k : Int) (dg h j % (k : Int))) = add1 h j := by
  unfold add1
  congr 1
  funext x
  refine bool_ext ?_
  rw [gbq_iff, decide_eq_true_eq]
  constructor
  · rintro ⟨a, b⟩
    exact rest_inj B hk k2 a hj b
  · rintro rfl
    exact ⟨hj, rfl⟩
theorem adds_nodup (c r : Nat) (h : List Nat) : (adds c r h).Nodup := List.nodup_range.filter _
theorem tipsC_nodup (h : List Nat) : (tipsC h).Nodup := List.nodup_range.filter _
theorem sum_adj {c r : Nat} {h κ : List Nat} (B : Bx c r h) (C : Bx c r κ) {k : Nat} (hk : c + r ≤ k + 1) (k2 : 2 ≤ k) {L : List Int} (nd : L.Nodup) (mem : ∀ q, q ∈ L ↔ ∃ j, gbq c r h (k : Int) q j = true) :
    sumL L (fun q => ind κ (grow h (gbq c r h (k : Int) q))) = sumL (tipsC κ) fun j => ind (shr1 κ j) h := by
  rw [sumL_perm _ (rests_adds B hk k2 nd mem), sumL_map]
  have e : sumL (adds c r h) (fun j => ind κ (grow h (gbq c r h (k : Int) (dg h j % (k : Int))))) = sumL (adds c r h) fun j => if decide (add1 h j = κ) = true then 1 else 0 := sumL_congr fun j hj => by
    rw [grow_adds B hk k2 hj]
    unfold ind
    by_cases z : add1 h j = κ
    · rw [if_pos z, if_pos (decide_eq_true z)]
    · rw [if_neg z, if_neg (by rw [decide_eq_false z]; decide)]
  rw [e, sumL_same (q := fun j => decide (shr1 κ j = h)) (adds_nodup c r h) (tipsC_nodup κ) fun j => ?_]
  · refine sumL_congr fun j _ => ?_
    unfold ind
    by_cases z : shr1 κ j = h
    · rw [if_pos (decide_eq_true z), if_pos z.symm]
    · rw [if_neg (show ¬ decide (shr1 κ j = h) = true by rw [decide_eq_false z]; decide), if_neg (show ¬ h = shr1 κ j from fun y => z y.symm)]
  · rw [decide_eq_true_eq, decide_eq_true_eq, adds_mem]
    exact add_shr B C j
/-- squares within a box -/
def sq (c : Nat) (h : List Nat) : Int := sumL (List.range c) fun j => (hAt h j : Int)
theorem sumL_delta {f : Nat → Int} {j : Nat} {v : Int} : ∀ {n : Nat}, j < n → sumL (List.range n) (fun x => f x - if x = j then v else 0) = sumL (List.range n) f - v
  | 0, h => absurd h (Nat.not_lt_zero j)
  | n + 1, h => by
    rw [List.range_succ, sumL_app, sumL_app, sumL_cons, sumL_nil, sumL_cons, sumL_nil]
    by_cases z : j = n
    · subst z
      rw [if_pos rfl, show sumL (List.range j) (fun x => f x - if x = j then v else 0) = sumL (List.range j) f from sumL_congr fun x hx => by rw [if_neg (by have := List.mem_range.mp hx; omega)]; omega]
      omega
    · rw [if_neg (fun e => z e.symm), sumL_delta (show j < n by omega)]
      omega
theorem sq_shr1 {c r : Nat} {κ : List Nat} (C : Bx c r κ) {j : Nat} (hj : j ∈ tipsC κ) : sq c (shr1 κ j) = sq c κ - 1 := by
  obtain ⟨j1, t⟩ := List.mem_filter.mp hj
  have j1 := List.mem_range.mp j1
  have tj := of_decide_eq_true t
  unfold sq
  rw [← sumL_delta (f := fun x => (hAt κ x : Int)) (v := 1) (show j < c by have := C.len; omega)]
  refine sumL_congr fun x _ => ?_
  rw [hAt_shr1 C.heap t]
  by_cases z : x = j
  · subst z
    rw [if_pos rfl, if_pos rfl]
    omega
  · rw [if_neg z, if_neg z]
    omega
theorem sq_zero {c r : Nat} {κ : List Nat} (C : Bx c r κ) (h : sq c κ = 0) : κ = [] := by
  cases κ with
  | nil => rfl
  | cons a t =>
    exfalso
    have p := C.heap.pos 0 (by simp)
    have l := C.len
    have := sumL_ge (l := List.range c) (f := fun j => (hAt (a :: t) j : Int)) (x := 0) (fun _ _ => by omega) (List.mem_range.mpr (by simp at l; omega))
    unfold sq at h
    omega
theorem sq_nn (c : Nat) (h : List Nat) : 0 ≤ sq c h := sumL_nn fun _ _ => by omega
theorem Wt_congr {rs : List (Int × Int)} {c r i : Nat} {F G : List Nat → Int} (e : ∀ h, Bx c r h → F h = G h) : Wt rs c r i F = Wt rs c r i G := by
  unfold Wt
  exact sumL_congr fun x _ => e _ (cut_bx (hseq_ok rs x i).1)
theorem Wt_add (rs : List (Int × Int)) (c r i : Nat) (F G : List Nat → Int) : Wt rs c r i (fun h => F h + G h) = Wt rs c r i F + Wt rs c r i G := sumL_add _ _ _
theorem Wt_sum (rs : List (Int × Int)) (c r i : Nat) {α : Type} (l : List α) (F : α → List Nat → Int) : Wt rs c r i (fun h => sumL l fun a => F a h) = sumL l fun a => Wt rs c r i (F a) := by
  unfold Wt
  rw [sumL_swap]
/-- THE COUNT: rings of great orders fill a box as standard fillings do -/
theorem fill_count {rs : List (Int × Int)} {c r g : Nat} (hn : ∀ i, i < g → 2 ≤ (K1N.nAt rs i : Int) ∧ 1 ≤ K1N.sAt rs i ∧ 2 ≤ K1M.ord (K1N.nAt rs i) (K1N.sAt rs i).natAbs ∧ c + r ≤ K1M.ord (K1N.nAt rs i) (K1N.sAt rs i).natAbs + 1) :
    ∀ i, i ≤ g → ∀ κ, Bx c r κ → (i : Int) ≤ sq c κ → Wt rs c r i (ind κ) = if sq c κ = i then fill i κ else 0
  | 0, _, κ, C, _ => by
    rw [Wt_zero]
    unfold ind
    by_cases z : ([] : List Nat) = κ
    · subst z
      rw [if_pos rfl, if_pos ?_]
      · rfl
      · unfold sq
        rw [show sumL (List.range c) (fun j => (hAt [] j : Int)) = sumL (List.range c) fun _ => 0 from sumL_congr fun j _ => by rw [hAt_ge (Nat.zero_le _)]; rfl, sumL_zero]
        rfl
    · rw [if_neg z, if_neg (show ¬ sq c κ = ((0 : Nat) : Int) from fun y => z (sq_zero C y).symm)]
  | i + 1, hi, κ, C, hs => by
    obtain ⟨n2, s1, o2, ok⟩ := hn i (by omega)
    have ih := fill_count hn i (by omega)
    rw [Wt_next]
    have e : ∀ h, Bx c r h → plc rs c r i (ind κ) h = (sumL (tipsC κ) fun j => ind (shr1 κ j) h) + ((K1N.nAt rs i : Int) - ((adds c r κ).length : Int)) * ind κ h := fun h B => by
      have nd : ((adds c r h).map fun j => dg h j % (K1M.ord (K1N.nAt rs i) (K1N.sAt rs i).natAbs : Int)).Nodup :=
        List.pairwise_map.mpr (List.Pairwise.imp_of_mem (fun {a b} ha hb ne e => ne (rest_inj B ok o2 ha hb e)) (List.nodup_range.filter _))
      have mem : ∀ q, q ∈ ((adds c r h).map fun j => dg h j % (K1M.ord (K1N.nAt rs i) (K1N.sAt rs i).natAbs : Int)) ↔ ∃ j, gbq c r h (K1M.ord (K1N.nAt rs i) (K1N.sAt rs i).natAbs : Int) q j = true := fun q => by
        rw [List.mem_map]
        constructor
        · rintro ⟨j, a, b⟩
          exact ⟨j, (gbq_iff j).mpr ⟨a, b⟩⟩
        · rintro ⟨j, hj⟩
          obtain ⟨a, b⟩ := (gbq_iff j).mp hj
          exact ⟨j, a, b⟩
      rw [plc_is B n2 rfl s1 rfl o2 nd mem, sum_adj B C ok o2 nd mem]
      congr 1
      rw [List.length_map]
      unfold ind
      by_cases z : h = κ
      · rw [z]
      · rw [if_neg z, Int.mul_zero, Int.mul_zero]
    rw [Wt_congr e, Wt_add, Wt_sum]
    have z0 : Wt rs c r i (fun h => ((K1N.nAt rs i : Int) - ((adds c r κ).length : Int)) * ind κ h) = 0 := by
      have := ih κ C (by omega)
      rw [if_neg (by omega)] at this
      show sumL _ (fun x => _ * ind κ (cutH c r (hseq rs x i))) = 0
      rw [sumL_mul]
      have t : sumL (tupsL rs i) (fun x => ind κ (cutH c r (hseq rs x i))) = 0 := this
      rw [t, Int.mul_zero]
    rw [z0, Int.add_zero]
    have step : ∀ j ∈ tipsC κ, Wt rs c r i (ind (shr1 κ j)) = if sq c κ = ((i + 1 : Nat) : Int) then fill i (shr1 κ j) else 0 := fun j hj => by
      have q := sq_shr1 C hj
      have t := (List.mem_filter.mp hj).2
      rw [ih (shr1 κ j) (bx_shr1 C t) (by omega)]
      by_cases y : sq c κ = ((i + 1 : Nat) : Int)
      · rw [if_pos y, if_pos (by omega)]
      · rw [if_neg y, if_neg (by omega)]
    rw [sumL_congr step]
    by_cases y : sq c κ = ((i + 1 : Nat) : Int)
    · rw [if_pos y]
      show _ = sumL (tipsC κ) fun j => fill i (shr1 κ j)
      exact sumL_congr fun j _ => if_pos y
    · rw [if_neg y]
      rw [show sumL (tipsC κ) (fun j => if sq c κ = ((i + 1 : Nat) : Int) then fill i (shr1 κ j) else 0) = sumL (tipsC κ) fun _ => 0 from sumL_congr fun j _ => if_neg y, sumL_zero]
theorem sq_rep (c r : Nat) : sq c (List.replicate c r) = (c : Int) * r := by
  unfold sq
  rw [show sumL (List.range c) (fun j => (hAt (List.replicate c r) j : Int)) = sumL (List.range c) fun _ => (r : Int) * 1 from sumL_congr fun j hj => by rw [hAt_rep, if_pos (List.mem_range.mp hj), Int.mul_one], sumL_mul, sumL_one, List.length_range, Int.mul_comm]
end K1

set_option exponentiation.threshold 400
namespace K1
open PySem PySem.Spec PyProof.Rows L2 Evl HM LX ZW TE DR
section
variable {P : Program} {w : World} {K : PySem.W.Frag} {mg : Str → Option Value} {base : Heap}
def spAllTups2 : Sp := fun vs H Q _ => ∃ (c : Addr) (xs : List V) (rs : List (Int × Int)) (most : Int), vs = [.ref c, .int most] ∧ H c = some (.tup xs) ∧ RingsAt H 60 xs rs ∧ xs.length ≤ 12 ∧ prodL rs xs.length ≤ 300 ∧ (prodL rs xs.length : Int) ≤ most ∧
  ∀ (p : Addr) (M : List SO.Row) H', Ex H H' → H' p = some (.lst (SO.refR M)) → SO.RowsAt H' M → M.map (·.2) = tupsL rs xs.length → Q (.ref p) H'
theorem ok_all_tuples (T : Txt K mg) {f : Addr} {fd : FuncData} (D : DefAt K mg "_law_all_tuples" sLAllTuples ["_law_chain_here", "_law_most"] f fd) : FnOk P w K mg base CX0 1 f fd ["_law_chain_here", "_law_most"] spAllTups2 := by
  refine D.F.ok scLAllTuples (fun vs H Q E h => ?_) (fun cdv A outer s₀ H vs Q E hr h => ?_)
  · obtain ⟨c, xs, rs, most, rfl, _⟩ := h
    rfl
  · obtain ⟨c, xs, rs, most, rfl, hc, hR, l12, pb, pm, q⟩ := h
    refine ⟨_, pss_cons (ps_set (i := 2) scLAllTuples.nd rfl (.inl rfl) (pe_lst (pa_cons (pe_tup pa_nil) pa_nil)))
      (pss_cons (ps_for PassesOwn.never rfl (pi_tup (pv 0)) (pg_tup (by rfl) (pgs_cons (pg_name (i := 3) scLAllTuples.nd rfl (.inl rfl)) (pgs_cons (pg_name (i := 4) scLAllTuples.nd rfl (.inl rfl)) pgs_nil)))
        (pss_cons (ps_set (i := 5) scLAllTuples.nd rfl (.inl rfl) (pe_lst pa_nil))
      (pss_cons (ps_for PassesOwn.never rfl (pi_list (pv 2)) (pg_name (i := 6) scLAllTuples.nd rfl (.inr rfl))
        (pss_one (ps_expr (pe_bm PySem.F.plainAttrs_list PySem.F.slot_list_extend PySem.F.type_list_extend mt_extend (pv 5) (pa_cons (pe_lc (own := [("_law_place", 7)]) (g := gName 7) (tt := tYes) rfl scLAllTuples.nd (pi_range1 (by rfl) T.z_range (pa_cons (pv 3) pa_nil))
        (blkOk_by (N := nLAllTuples) (sc := defScope sLAllTuples) (by decide +kernel)) (fun _ _ _ _ _ => (pg_name (i := 7) scLAllTuples.nd rfl (.inl rfl))) (fun _ _ _ _ _ => pts_nil)
        (fun _ _ _ _ _ => (pe_op op_catE (pv 6) (pe_tup (pa_cons (pv 7) pa_nil))))) pa_nil)))))
      (pss_one (ps_set (i := 2) scLAllTuples.nd rfl (.inl rfl) (pv 5))))))
      (pss_one (ps_ret (pe_ifExp (pt_cmpR op_le (pe_callB call_len_seq (by rfl) T.z_len PySem.boot_len (pa_cons (pv 2) pa_nil)) (pv 1) (nomark _)) (pv 2) (pe_lst pa_nil))))), ?_⟩
    have hlen : xs.length = rs.length := paired_len hR
    have n1 : ∀ j, j < xs.length → 1 ≤ K1N.nAt rs j := fun j hj => by have := rings_ok hR j (by omega); omega
    refine ⟨by show 0 ≤ sizeLine; decide, fun t0 ht0 => ⟨by show 1 ≤ sizeLine; decide, fun l0 hl0 => ?_⟩⟩
    have x0 := (Ex.new (o := .tup []) ht0).trans (Ex.new (o := .lst [V.ref t0]) hl0)
    have gl0 : (upd (upd H t0 (.tup [])) l0 (.lst [V.ref t0])) l0 = some (.lst (SO.refR [(t0, [])])) := upd_same
    have gt0 : (upd (upd H t0 (.tup [])) l0 (.lst [V.ref t0])) t0 = some (.tup []) := (Ex.new (o := .lst [V.ref t0]) hl0) _ _ upd_same
    show tSeq _ _ _ _ (upd (upd H t0 (.tup [])) l0 (.lst [V.ref t0]))
    generalize upd (upd H t0 (.tup [])) l0 (.lst [V.ref t0]) = H0 at x0 gl0 gt0 ⊢
    refine ⟨_, rfl, c, rfl, ⟨_, SqT.of (x0 _ _ hc)⟩, for_tup (K := K) (a := c) (xs := xs) (fun i σ' H' => ∃ (lf : Addr) (M : List SO.Row) (y2 y3 y4 y5 : Option V), σ' = [some (.ref c), some (.int most), some (.ref lf), y2, y3, y4, y5, none] ∧ H' lf = some (.lst (SO.refR M)) ∧ SO.RowsAt H' M ∧ M.map (·.2) = tupsL rs i ∧ Ex H H') ⟨l0, [(t0, [])], none, none, none, none, rfl, gl0, fun x hx => by rw [List.mem_singleton.mp hx]; exact gt0, rfl, x0⟩ (fun i σ' H' _ hW => ?_) (fun i x σ' H' hx hW => ?_) (fun σ' H' hW => ?_)⟩
    · obtain ⟨_, _, _, _, _, _, _, _, _, _, ee⟩ := hW
      exact SqT.of (ee _ _ hc)
    · obtain ⟨lf, M, y2, y3, y4, y5, rfl, v1, v2, v3, v4⟩ := hW
      have hi : i < xs.length := (List.getElem?_eq_some_iff.mp hx).1
      obtain ⟨t, rfl, ht, m1, m2, m3, m4⟩ := rings_nth4 (rings_ex4 v4 hR) hx
      have lM : M.length = prodL rs i := by rw [← tups_len, ← v3, List.length_map]
      have pm := prod_mono n1 (xs.length - (i + 1)) (i + 1) (by omega)
      have pn : prodL rs (i + 1) = prodL rs i * K1N.nAt rs i := rfl
      refine ⟨t, _, rfl, SqT.of ht, rfl, _, [_], rfl, _, [], rfl, rfl, ?_⟩
      refine ⟨by show 0 ≤ sizeLine; decide, fun lm hlm => ?_⟩
      have hlmH : H lm = none := by
        cases z : H lm with
        | none => rfl
        | some o => rw [v4 _ _ z] at hlm; cases hlm
      have xm := Ex.new (o := .lst []) hlm
      have glm : (upd H' lm (.lst [])) lm = some (.lst (SO.refR [])) := upd_same
      have nlf : lf ≠ lm := ne_of_none v1 hlm
      generalize hHm : upd H' lm (.lst []) = Hm at xm glm ⊢
      refine ⟨_, rfl, lf, rfl, ⟨_, SqL.of (xm _ _ v1)⟩, for_list (K := K) (a := lf) (xs := SO.refR M) (fun j σ2 H2 => ∃ (M2 : List SO.Row) (y5 : Option V), σ2 = [some (.ref c), some (.int most), some (.ref lf), some (.int (K1N.nAt rs i : Int)), some (.int (K1N.sAt rs i)), some (.ref lm), y5, none] ∧ H2 lm = some (.lst (SO.refR M2)) ∧ SO.RowsAt H2 M2 ∧ M2.map (·.2) = ((M.map (·.2)).take j).flatMap (fun one => (List.range (K1N.nAt rs i)).map fun (p : Nat) => one ++ [(p : Int)]) ∧ Ex H' H2) ⟨[], y5, rfl, glm, fun x hx => absurd hx (by simp), by simp, xm⟩ (fun j σ2 H2 _ hW2 => ?_) (fun j x σ2 H2 hx2 hW2 => ?_) (fun σ2 H2 hW2 => ?_)⟩
      · obtain ⟨_, _, _, _, _, _, ee⟩ := hW2
        exact SqL.of (ee _ _ v1)
      · obtain ⟨M2, y5, rfl, w1, w2, w3, w4⟩ := hW2
        obtain ⟨r, hr', rfl⟩ : ∃ r, M[j]? = some r ∧ V.ref r.1 = x := by
          have hx3 : (M.map fun x => V.ref x.1)[j]? = some x := hx2
          rw [List.getElem?_map] at hx3
          exact Option.map_eq_some_iff.mp hx3
        have hj : j < M.length := (List.getElem?_eq_some_iff.mp hr').1
        have rat := w4 _ _ (v2 r (List.mem_of_getElem? hr'))
        have l2 : M2.length = j * K1N.nAt rs i := by
          have e := congrArg List.length w3
          rw [List.length_map, flat_len (n := K1N.nAt rs i) (fun x _ => by rw [List.length_map, List.length_range]), List.length_take, List.length_map, Nat.min_eq_left (by omega)] at e
          exact e
        have lj : (j + 1) * K1N.nAt rs i ≤ 300 := by
          have : (j + 1) * K1N.nAt rs i ≤ M.length * K1N.nAt rs i := Nat.mul_le_mul_right _ hj
          rw [lM] at this
          omega
        rw [Nat.add_mul] at lj
        have rl : r.2.length ≤ 12 := by
          have : r.2 ∈ tupsL rs i := by rw [← v3]; exact List.mem_map.mpr ⟨r, List.mem_of_getElem? hr', rfl⟩
          have := ((tups_mem rs i r.2).mp this).1
          omega
        refine ⟨_, rfl, .inl ⟨rfl, _, SqL.of w1⟩, _, rfl, _, rfl, by omega, by omega, fun Dl hD => ?_⟩
        refine lc_range (lo := 0) (n := (K1N.nAt rs i : Int).toNat) (fun a H3 => ∃ N : List SO.Row, H3 Dl = some (.lst (SO.refR N)) ∧ SO.RowsAt H3 N ∧ N.map (·.2) = (List.range a).map (fun (p : Nat) => r.2 ++ [(p : Int)]) ∧ Ex H2 H3) ⟨[], upd_same, fun x hx => absurd hx (by simp), rfl, Ex.new hD⟩ (fun a H3 ha hp => ?_) (fun H3 hp => ?_)
        · obtain ⟨N, u1, u2, u3, u4⟩ := hp
          rw [Int.toNat_natCast] at ha
          refine ⟨rfl, ?_⟩
          dsimp only [tYes]
          rw [if_pos rfl]
          refine ⟨_, rfl, _, rfl, by show 1 ≤ sizeLine; decide, fun z7 hz7 => ?_⟩
          have g7 := Ex.new (o := .tup [V.int (0 + (a : Int))]) hz7
          refine ⟨r.1, z7, _, _, rfl, rfl, g7 _ _ (u4 _ _ rat), upd_same, sz_of (by rw [List.length_map]; show _ + 1 ≤ _; omega), fun w7 H4 f8 hw7 => ?_⟩
          have f9 := g7.trans f8
          have lN : N.length = a := by
            have e := congrArg List.length u3
            rw [List.length_map, List.length_map, List.length_range] at e
            exact e
          have nw : w7 ≠ Dl := ne_of hw7 (f9 _ _ u1) (by intro z; cases z)
          refine ⟨_, f9 _ _ u1, by show (SO.refR N).length < sizeLine; unfold SO.refR; rw [List.length_map]; exact small1000 (by omega), N ++ [(w7, r.2 ++ [(a : Int)])], ?_, fun x hx => ?_, ?_, Ex.mut (u4.trans f9) hD⟩
          · rw [upd_same]
            unfold SO.refR
            rw [List.map_append]
            rfl
          · rcases List.mem_append.mp hx with m | m
            · have hxx := f9 _ _ (u2 x m)
              rw [upd_ne (ne_of hxx (f9 _ _ u1) (by intro z; cases z))]
              exact hxx
            · rw [List.mem_singleton.mp m]
              show (upd H4 Dl _) w7 = _
              rw [upd_ne nw, hw7, List.map_append, Int.zero_add]
              rfl
          · rw [List.map_append, u3, List.range_succ, List.map_append]
            rfl
        · obtain ⟨N, u1, u2, u3, u4⟩ := hp
          rw [Int.toNat_natCast] at u3
          have lN : N.length = K1N.nAt rs i := by
            have e := congrArg List.length u3
            rw [List.length_map, List.length_map, List.length_range] at e
            exact e
          refine ⟨lm, Dl, _, _, rfl, rfl, u4 _ _ w1, u1, sz_of (by unfold SO.refR; rw [List.length_map, List.length_map]; omega), ?_⟩
          have lmN : H' lm = none := hlm
          refine ⟨M2 ++ N, _, rfl, ?_, fun x hx => ?_, ?_, Ex.mut (w4.trans u4) hlm⟩
          · rw [upd_same]
            unfold SO.refR
            rw [List.map_append]
          · rcases List.mem_append.mp hx with m | m
            · have hxx := u4 _ _ (w2 x m)
              rw [upd_ne (ne_of hxx (u4 _ _ w1) (by intro z; cases z))]
              exact hxx
            · have hxx := u2 x m
              rw [upd_ne (ne_of hxx (u4 _ _ w1) (by intro z; cases z))]
              exact hxx
          · rw [List.map_append, w3, u3, List.take_add_one, List.getElem?_map, hr', List.flatMap_append]
            simp
      · obtain ⟨M2, y5, rfl, w1, w2, w3, w4⟩ := hW2
        refine ⟨_, rfl, lm, M2, _, _, _, _, rfl, w1, w2, ?_, v4.trans w4⟩
        rw [w3, List.take_of_length_le (by show (M.map (·.2)).length ≤ (SO.refR M).length; unfold SO.refR; rw [List.length_map, List.length_map]; exact Nat.le_refl _), v3]
        rfl
    · obtain ⟨lf, M, y2, y3, y4, y5, rfl, v1, v2, v3, v4⟩ := hW
      have lM : M.length = prodL rs xs.length := by rw [← tups_len, ← v3, List.length_map]
      refine ⟨_, rfl, lf, _, rfl, .inl (SqL.of v1), _, rfl, _, _, rfl, rfl, _, rfl, ?_⟩
      have ml : (SO.refR M).length = M.length := List.length_map ..
      rw [ml, decide_eq_true (show (M.length : Int) ≤ most by omega)]
      exact iteT ⟨_, rfl, q lf M _ v4 v1 v2 v3⟩
end
end K1

/-! own walk: zip of three tuples -/
namespace Z3
open PySem PySem.Spec PyProof.Rows L2
/-- three tuples, their items in new threes -/
def It3 (K : PySem.W.Frag) (a b c : Addr) : It :=
  ⟨fun i H => ∃ (xs ys us : List V) (x y u : V), SqT K H a xs ∧ SqT K H b ys ∧ SqT K H c us ∧ xs[i]? = some x ∧ ys[i]? = some y ∧ us[i]? = some u,
    fun i H v H' => ∃ T x y u, v = .ref T ∧ H T = none ∧ H' = upd H T (.tup [x, y, u]) ∧ (∀ xs, SqT K H a xs → xs[i]? = some x) ∧ (∀ ys, SqT K H b ys → ys[i]? = some y) ∧ ∀ us, SqT K H c us → us[i]? = some u,
    fun i H => ∃ xs ys us : List V, SqT K H a xs ∧ SqT K H b ys ∧ SqT K H c us ∧ xs.length = i ∧ ys.length = i ∧ us.length = i⟩
theorem turn3 {P : Program} {w : World} {K : PySem.W.Frag} {elts : List Expr} {kk : Nat} {tpos : Pos} {a b c z TI TO i1 i2 i3 : Addr} (S : ZipSep3 z TI TO i1 i2 i3 [i1, a] [i2, b] [i3, c]) (na : a ≠ i1) (nb : b ≠ i2) (nc : c ≠ i3) (w1 : z ≠ i1 ∧ z ≠ i2 ∧ z ≠ i3) :
    Turn P w K (.Tuple elts kk tpos) (It3 K a b c) [z, TI, TO, i1, i2, i3] z (fun i h => IsZip h z TI TO .none ∧ IsTupOf3 h TI (.ref i1) (.ref i2) (.ref i3) ∧ (∃ x y u, IsTupOf3 h TO x y u) ∧ h.IsTupleIter i1 a i ∧ h.IsTupleIter i2 b i ∧ h.IsTupleIter i3 c i) where
  mem := by simp
  obj := fun i h st t ht => by
    obtain ⟨hz, hTI, ⟨x, y, u, hTO⟩, ⟨o1, e1, _, d1⟩, ⟨o2, e2, _, d2⟩, ⟨o3, e3, _, d3⟩⟩ := st
    rcases (show t = z ∨ t = TI ∨ t = TO ∨ t = i1 ∨ t = i2 ∨ t = i3 by simpa using ht) with q | q | q | q | q | q
    · rw [q]
      exact ⟨_, hz, fun v q => nomatch q⟩
    · rw [q]
      exact ⟨_, hTI, fun v q => nomatch q⟩
    · rw [q]
      exact ⟨_, hTO, fun v q => nomatch q⟩
    · exact ⟨o1, q ▸ e1, fun v q => by rw [d1] at q; cases q⟩
    · exact ⟨o2, q ▸ e2, fun v q => by rw [d2] at q; cases q⟩
    · exact ⟨o3, q ▸ e3, fun v q => by rw [d3] at q; cases q⟩
  keep := fun i h h' st k => by
    obtain ⟨hz, hTI, ⟨x, y, u, hTO⟩, h1, h2, h3⟩ := st
    exact ⟨k z (by simp) _ hz, k TI (by simp) _ hTI, ⟨x, y, u, k TO (by simp) _ hTO⟩, h1.at fun o q => k i1 (by simp) o q, h2.at fun o q => k i2 (by simp) o q, h3.at fun o q => k i3 (by simp) o q⟩
  item := by
    intro X eP eW eK hc i pins s σ H E I hf st hg
    subst eP eW eK
    obtain ⟨hz, hTI, ⟨x0, y0, u0, hTO⟩, h1, h2, h3⟩ := st
    obtain ⟨xs, ys, us, x, y, u, qx, qy, qu, gx, gy, gu⟩ := hg
    obtain ⟨t1, r1, p1, _⟩ := I.tuple qx
    obtain ⟨t2, r2, p2, _⟩ := I.tuple qy
    obtain ⟨t3, r3, p3, _⟩ := I.tuple qu
    obtain ⟨v1, m1, rv1⟩ := r1.get gx
    obtain ⟨v2, m2, rv2⟩ := r2.get gy
    obtain ⟨v3, m3, rv3⟩ := r3.get gu
    have l1 : i < t1.toArray.size := by simpa using (List.getElem?_eq_some_iff.mp m1).1
    have l2 : i < t2.toArray.size := by simpa using (List.getElem?_eq_some_iff.mp m2).1
    have l3 : i < t3.toArray.size := by simpa using (List.getElem?_eq_some_iff.mp m3).1
    have hzl : z < s.heap.objs.size := Heap.lt_size hz
    have hh : X.A.in1.handled = none := I.ok.hd hc
    refine wpAny_pyNext_zipD3_item S (Draws.tuple hh i1 a na t1.toArray) (Draws.tuple hh i2 b nb t2.toArray) (Draws.tuple hh i3 c nc t3.toArray) hz hTI hTO ⟨h1, p1⟩ ⟨h2, p2⟩ ⟨h3, p3⟩ l1 l2 l3 fun w1' w2' w3' h' tk g1 g2 g3 zz tt s1 s2 s3 hT hsz hk => ?_
    have a1 : w1' = v1 := Option.some.inj (g1.symm.trans (by simpa using m1))
    have a2 : w2' = v2 := Option.some.inj (g2.symm.trans (by simpa using m2))
    have a3 : w3' = v3 := Option.some.inj (g3.symm.trans (by simpa using m3))
    subst a1 a2 a3
    refine ⟨_, rfl, wpAny_letOwnedTupleGo_zip (s := { s with heap := h', toks := tk }) zz fun h2' z2 sb => ?_⟩
    have hT2 : h2'.get? s.heap.objs.size = some { cls := .type "tuple", data := .seq #[w1', w2', w3'] } := (sb.2 _ (Nat.ne_of_gt hzl)).trans hT
    have made : ObjOk X.prog X.w (upd H s.heap.objs.size (.tup [x, y, u])) h2' s.heap.objs.size (.tup [x, y, u]) :=
      ⟨by show 3 ≤ sizeLine; decide, [w1', w2', w3'], .cons rv1 (.cons rv2 (.cons rv3 .nil)), ⟨_, hT2, rfl, _, rfl⟩⟩
    have I2 : Inv X pins σ (upd H s.heap.objs.size (.tup [x, y, u])) { s with heap := h2', toks := tk } :=
      I.turnedNew (ch := [z, TI, TO, i1, i2, i3]) (fun t o ht q => (sb.2 t (fun e => ht (by simp [e]))).trans (hk t o (fun e => ht (by simp [e])) (fun e => ht (by simp [e])) (fun e => ht (by simp [e])) (fun e => ht (by simp [e])) (fun e => ht (by simp [e])) q)) hf (Nat.le_refl _) made
    refine ⟨.ref s.heap.objs.size, _, I2, rfl, ⟨_, x, y, u, rfl, I.hok.fresh (Nat.le_refl _), rfl, fun l hl => by rw [EnT.tup_inj I hl qx]; exact gx, fun l hl => by rw [EnT.tup_inj I hl qy]; exact gy, fun l hl => by rw [EnT.tup_inj I hl qu]; exact gu⟩,
      ⟨z2, (sb.2 _ S.TIz).trans (hk _ _ S.TIz S.TITO S.TIi1 S.TIi2 S.TIi3 hTI), ⟨w1', w2', w3', (sb.2 _ S.TOz).trans tt⟩, s1.1.at fun o q => (sb.2 _ w1.1.symm).trans q, s2.1.at fun o q => (sb.2 _ w1.2.1.symm).trans q, s3.1.at fun o q => (sb.2 _ w1.2.2.symm).trans q⟩, fun t ht => ?_⟩
    have lt : t < s.heap.objs.size := by
      rcases (show t = z ∨ t = TI ∨ t = TO ∨ t = i1 ∨ t = i2 ∨ t = i3 by simpa using ht) with q | q | q | q | q | q
      · exact q ▸ hzl
      · exact q ▸ Heap.lt_size hTI
      · exact q ▸ Heap.lt_size hTO
      · obtain ⟨_, e, _⟩ := h1
        exact q ▸ Heap.lt_size e
      · obtain ⟨_, e, _⟩ := h2
        exact q ▸ Heap.lt_size e
      · obtain ⟨_, e, _⟩ := h3
        exact q ▸ Heap.lt_size e
    rw [upd_ne (Nat.ne_of_lt lt)]
    exact (hf t ht).1
  done := by
    intro X eP eW eK hc i pins s σ H E I hf st hg
    subst eP eW eK
    obtain ⟨hz, hTI, ⟨x0, y0, u0, hTO⟩, h1, h2, h3⟩ := st
    obtain ⟨xs, ys, us, qx, qy, qu, gx, gy, gu⟩ := hg
    obtain ⟨t1, r1, p1, _⟩ := I.tuple qx
    obtain ⟨t2, r2, p2, _⟩ := I.tuple qy
    obtain ⟨t3, r3, p3, _⟩ := I.tuple qu
    have k1 := r1.length
    have k2 := r2.length
    have k3 := r3.length
    have hh : X.A.in1.handled = none := I.ok.hd hc
    exact wpAny_pyNext_zipD3_end S (Draws.tuple hh i1 a na t1.toArray) (Draws.tuple hh i2 b nb t2.toArray) (Draws.tuple hh i3 c nc t3.toArray) hz hTI hTO ⟨h1, p1⟩ ⟨h2, p2⟩ ⟨h3, p3⟩ (by rw [List.size_toArray]; omega) (by rw [List.size_toArray]; omega) (by rw [List.size_toArray]; omega) (.inl (by rw [List.size_toArray]; omega))
      fun h' tk hk => ⟨rfl, I.turnedL (ch := [z, TI, TO, i1, i2, i3]) (fun t o ht q => hk t o (fun e => ht (by simp [e])) (fun e => ht (by simp [e])) (fun e => ht (by simp [e])) (fun e => ht (by simp [e])) (fun e => ht (by simp [e])) q) hf⟩
  self := fun A i s Q E st h => wpAny_pyIter_zip st.1 h
def iZip3 (K : PySem.W.Frag) (ta : TA) : TI := fun σ H R => ta σ H fun vs H1 => ∃ a b c xs ys us, vs = [.ref a, .ref b, .ref c] ∧ SqT K H1 a xs ∧ SqT K H1 b ys ∧ SqT K H1 c us ∧ R (It3 K a b c) H1
theorem pi_zip3 {X : Cx} {e e2 e3 : Expr} {ta : TA} {p pos tpos : Pos} {elts : List Expr} {kk : Nat} (hg : Gl X "zip") (hm : X.mg "zip" = none) (ha : PA X [e, e2, e3] ta)
    (hs : starEach [e, e2, e3] X.env = (false, eval e X.env) :: starEach [e2, e3] X.env := by rfl) (hpl : (backTo pos (starEach [e2, e3] X.env)).any (·.1) = false := by rfl) :
    PI X (.Tuple elts kk tpos) (.Call (.Name "zip" p) [e, e2, e3] [] pos) (iZip3 X.K ta) := by
  refine ⟨fun pins s σ H R I h => ?_⟩
  refine Call_ (ld_blt I hg hm PyProof.Rows.boot_zip (PyProof.Rows.callWith_type1 (thn (ha.run pos pins s σ H _ I h) fun vs' s1 ⟨vs, H1, I1, r1, q1⟩ => ?_) hs hpl))
  obtain ⟨a, b, c, xs, ys, us, ex, qx, qy, qu, q⟩ := q1
  subst ex
  obtain ⟨t1, r1', p1, _⟩ := I1.tuple qx
  obtain ⟨t2, r2', p2, _⟩ := I1.tuple qy
  obtain ⟨t3, r3', p3, _⟩ := I1.tuple qu
  cases r1 with
  | cons ra rr =>
    cases rr with
    | cons rb rr =>
      cases rr with
      | cons rc rr =>
        cases rr
        cases ra
        cases rb
        cases rc
        have la : a < s1.heap.objs.size := by
          obtain ⟨_, e, _⟩ := p1
          exact Heap.lt_size e
        have lb : b < s1.heap.objs.size := by
          obtain ⟨_, e, _⟩ := p2
          exact Heap.lt_size e
        have lc : c < s1.heap.objs.size := by
          obtain ⟨_, e, _⟩ := p3
          exact Heap.lt_size e
        refine zip_begins3 (begins_tuple a t1.toArray) (begins_tuple b t2.toArray) (begins_tuple c t3.toArray) p1 p2 p3 fun h' hz hTI hTO g1 g2 g3 _ hk => wpAny_pyIter_zip hz ?_
        have I2 : Inv X pins σ H1 { s1 with heap := h' } := I1.kept (t' := s1.toks) hk
        have S : ZipSep3 (s1.heap.objs.size + 5) (s1.heap.objs.size + 3) (s1.heap.objs.size + 4) s1.heap.objs.size (s1.heap.objs.size + 1) (s1.heap.objs.size + 2) [s1.heap.objs.size, a] [s1.heap.objs.size + 1, b] [s1.heap.objs.size + 2, c] :=
          zip_sep3 (fun t ht => by rw [List.mem_singleton.mp ht]; exact la) (fun t ht => by rw [List.mem_singleton.mp ht]; exact lb) (fun t ht => by rw [List.mem_singleton.mp ht]; exact lc)
        have add : ∀ {m k : Nat}, m ≠ k → s1.heap.objs.size + m ≠ s1.heap.objs.size + k := fun n e => n (Nat.add_left_cancel e)
        refine ⟨s1.heap.objs.size + 5, [s1.heap.objs.size + 5, s1.heap.objs.size + 3, s1.heap.objs.size + 4, s1.heap.objs.size, s1.heap.objs.size + 1, s1.heap.objs.size + 2], _, _, H1, rfl, I2,
          turn3 S (Nat.ne_of_lt la) (Nat.ne_of_lt (Nat.lt_succ_of_lt lb)) (Nat.ne_of_lt (Nat.lt_succ_of_lt (Nat.lt_succ_of_lt lc))) ⟨add (m := 5) (k := 0) (by decide), add (by decide), add (by decide)⟩,
          ⟨hz, hTI, ⟨_, _, _, hTO⟩, ⟨_, g1, rfl, rfl⟩, ⟨_, g2, rfl, rfl⟩, ⟨_, g3, rfl, rfl⟩⟩, fun t ht => ?_, q⟩
        have le : s1.heap.objs.size ≤ t := by
          rcases (show t = s1.heap.objs.size + 5 ∨ t = s1.heap.objs.size + 3 ∨ t = s1.heap.objs.size + 4 ∨ t = s1.heap.objs.size ∨ t = s1.heap.objs.size + 1 ∨ t = s1.heap.objs.size + 2 by simpa using ht) with q | q | q | q | q | q
          · exact q ▸ Nat.le_add_right _ _
          · exact q ▸ Nat.le_add_right _ _
          · exact q ▸ Nat.le_add_right _ _
          · exact q ▸ Nat.le_refl _
          · exact q ▸ Nat.le_add_right _ _
          · exact q ▸ Nat.le_add_right _ _
        exact I1.fpOk le (I1.hok.fresh le)
theorem for_zip3 {K : PySem.W.Frag} {a b c : Addr} {xs ys us : List V} {n : Nat} {g : TG} {tb : TS} {D : Ends} {σ : L2.St} {H : Hp} (hx : xs.length = n) (hy : ys.length = n) (hu : us.length = n)
    (Pv : Nat → L2.St → Hp → Prop) (h0 : Pv 0 σ H) (hq : ∀ i σ H, Pv i σ H → SqT K H a xs ∧ SqT K H b ys ∧ SqT K H c us)
    (hs : ∀ i x y u T σ H, i < n → xs[i]? = some x → ys[i]? = some y → us[i]? = some u → Pv i σ H → H T = none → g (.ref T) σ (upd H T (.tup [x, y, u])) fun σ2 H2 => tb { D with nx := Pv (i + 1), ct := Pv (i + 1), bk := D.nx } σ2 H2) (hd : ∀ σ H, Pv n σ H → D.nx σ H) :
    ∃ W : Nat → Nat → L2.St → Hp → Prop, (∃ m, W 0 m σ H) ∧ ∀ i m σ H, W i m σ H →
      ((It3 K a b c).stop i H ∧ D.nx σ H) ∨ ((It3 K a b c).go i H ∧ ∃ N : L2.St → Hp → Prop, (∀ σ' H', N σ' H' → ∃ m', m' < m ∧ W (i + 1) m' σ' H') ∧ ∀ v H', (It3 K a b c).yld i H v H' → g v σ H' fun σ2 H2 => tb { D with nx := N, ct := N, bk := D.nx } σ2 H2) := by
  refine ⟨fun i m σ H => m = n - i ∧ i ≤ n ∧ Pv i σ H, ⟨n, (Nat.sub_zero n).symm, Nat.zero_le _, h0⟩, ?_⟩
  rintro i m σ H ⟨rfl, hi, p⟩
  obtain ⟨qa, qb, qc⟩ := hq i σ H p
  by_cases hlt : i < n
  · have e1 : xs[i]? = some (xs[i]'(by omega)) := List.getElem?_eq_getElem _
    have e2 : ys[i]? = some (ys[i]'(by omega)) := List.getElem?_eq_getElem _
    have e3 : us[i]? = some (us[i]'(by omega)) := List.getElem?_eq_getElem _
    refine .inr ⟨⟨xs, ys, us, _, _, _, qa, qb, qc, e1, e2, e3⟩, Pv (i + 1), fun σ' H' p' => ⟨n - (i + 1), by omega, rfl, hlt, p'⟩, fun v H' hy' => ?_⟩
    obtain ⟨T, x, y, u, rfl, nT, rfl, fx, fy, fu⟩ := hy'
    exact hs i x y u T σ H hlt (fx _ qa) (fy _ qb) (fu _ qc) p nT
  · have e : i = n := by omega
    subst e
    exact .inl ⟨⟨xs, ys, us, qa, qb, qc, hx, hy, hu⟩, hd σ H p⟩
end Z3

/-! own walk: zip of a list and a tuple -/
namespace ZM
open PySem PySem.Spec PyProof.Rows L2
/-- a list and a tuple, their items in new pairs -/
def ItM (K : PySem.W.Frag) (a b : Addr) : It :=
  ⟨fun i H => ∃ (xs ys : List V) (x y : V), SqL K H a xs ∧ SqT K H b ys ∧ xs[i]? = some x ∧ ys[i]? = some y,
    fun i H v H' => ∃ T x y, v = .ref T ∧ H T = none ∧ H' = upd H T (.tup [x, y]) ∧ (∀ xs, SqL K H a xs → xs[i]? = some x) ∧ ∀ ys, SqT K H b ys → ys[i]? = some y,
    fun i H => ∃ xs ys : List V, SqL K H a xs ∧ SqT K H b ys ∧ xs.length = i ∧ ys.length = i⟩
theorem turnM {P : Program} {w : World} {K : PySem.W.Frag} {elts : List Expr} {kk : Nat} {tpos : Pos} {a b z TI TO i1 i2 : Addr} (S : ZipSep2 z TI TO i1 i2 [i1, a] [i2, b]) (na : a ≠ i1) (nb : b ≠ i2) (w1 : z ≠ i1 ∧ z ≠ i2) :
    Turn P w K (.Tuple elts kk tpos) (ItM K a b) [z, TI, TO, i1, i2] z (fun i h => IsZip h z TI TO .none ∧ IsTupOf2 h TI (.ref i1) (.ref i2) ∧ (∃ x y, IsTupOf2 h TO x y) ∧ h.IsListIter i1 a i ∧ h.IsTupleIter i2 b i) where
  mem := by simp
  obj := fun i h st t ht => by
    obtain ⟨hz, hTI, ⟨x, y, hTO⟩, ⟨o1, e1, _, d1⟩, ⟨o2, e2, _, d2⟩⟩ := st
    rcases (show t = z ∨ t = TI ∨ t = TO ∨ t = i1 ∨ t = i2 by simpa using ht) with q | q | q | q | q
    · rw [q]
      exact ⟨_, hz, fun v q => nomatch q⟩
    · rw [q]
      exact ⟨_, hTI, fun v q => nomatch q⟩
    · rw [q]
      exact ⟨_, hTO, fun v q => nomatch q⟩
    · exact ⟨o1, q ▸ e1, fun v q => by rw [d1] at q; cases q⟩
    · exact ⟨o2, q ▸ e2, fun v q => by rw [d2] at q; cases q⟩
  keep := fun i h h' st k => by
    obtain ⟨hz, hTI, ⟨x, y, hTO⟩, h1, h2⟩ := st
    exact ⟨k z (by simp) _ hz, k TI (by simp) _ hTI, ⟨x, y, k TO (by simp) _ hTO⟩, h1.at fun o q => k i1 (by simp) o q, h2.at fun o q => k i2 (by simp) o q⟩
  item := by
    intro X eP eW eK hc i pins s σ H E I hf st hg
    subst eP eW eK
    obtain ⟨hz, hTI, ⟨x0, y0, hTO⟩, h1, h2⟩ := st
    obtain ⟨xs, ys, x, y, qx, qy, gx, gy⟩ := hg
    obtain ⟨t1, r1, p1, _⟩ := I.list qx
    obtain ⟨t2, r2, p2, _⟩ := I.tuple qy
    obtain ⟨v1, m1, rv1⟩ := r1.get gx
    obtain ⟨v2, m2, rv2⟩ := r2.get gy
    have l1 : i < t1.toArray.size := by simpa using (List.getElem?_eq_some_iff.mp m1).1
    have l2 : i < t2.toArray.size := by simpa using (List.getElem?_eq_some_iff.mp m2).1
    have hzl : z < s.heap.objs.size := Heap.lt_size hz
    have hh : X.A.in1.handled = none := I.ok.hd hc
    refine wpAny_pyNext_zipD2_item S (Draws.list hh i1 a na t1.toArray) (Draws.tuple hh i2 b nb t2.toArray) hz hTI hTO ⟨h1, p1.isList⟩ ⟨h2, p2⟩ l1 l2 fun w1' w2' h' tk g1 g2 zz tt s1 s2 hT hsz hk => ?_
    have a1 : w1' = v1 := Option.some.inj (g1.symm.trans (by simpa using m1))
    have a2 : w2' = v2 := Option.some.inj (g2.symm.trans (by simpa using m2))
    subst a1 a2
    refine ⟨_, rfl, wpAny_letOwnedTupleGo_zip (s := { s with heap := h', toks := tk }) zz fun h2' z2 sb => ?_⟩
    have hT2 : h2'.get? s.heap.objs.size = some { cls := .type "tuple", data := .seq #[w1', w2'] } := (sb.2 _ (Nat.ne_of_gt hzl)).trans hT
    have made : ObjOk X.prog X.w (upd H s.heap.objs.size (.tup [x, y])) h2' s.heap.objs.size (.tup [x, y]) :=
      ⟨by show 2 ≤ sizeLine; decide, [w1', w2'], .cons rv1 (.cons rv2 .nil), ⟨_, hT2, rfl, _, rfl⟩⟩
    have I2 : Inv X pins σ (upd H s.heap.objs.size (.tup [x, y])) { s with heap := h2', toks := tk } :=
      I.turnedNew (ch := [z, TI, TO, i1, i2]) (fun t o ht q => (sb.2 t (fun e => ht (by simp [e]))).trans (hk t o (fun e => ht (by simp [e])) (fun e => ht (by simp [e])) (fun e => ht (by simp [e])) (fun e => ht (by simp [e])) q)) hf (Nat.le_refl _) made
    refine ⟨.ref s.heap.objs.size, _, I2, rfl, ⟨_, x, y, rfl, I.hok.fresh (Nat.le_refl _), rfl, fun l hl => by rw [I.list_inj hl qx]; exact gx, fun l hl => by rw [I.tuple_inj hl qy]; exact gy⟩,
      ⟨z2, (sb.2 _ S.TIz).trans (hk _ _ S.TIz S.TITO S.TIi1 S.TIi2 hTI), ⟨w1', w2', (sb.2 _ S.TOz).trans tt⟩, s1.1.at fun o q => (sb.2 _ w1.1.symm).trans q, s2.1.at fun o q => (sb.2 _ w1.2.symm).trans q⟩, fun t ht => ?_⟩
    have lt : t < s.heap.objs.size := by
      rcases (show t = z ∨ t = TI ∨ t = TO ∨ t = i1 ∨ t = i2 by simpa using ht) with q | q | q | q | q
      · exact q ▸ hzl
      · exact q ▸ Heap.lt_size hTI
      · exact q ▸ Heap.lt_size hTO
      · obtain ⟨_, e, _⟩ := h1
        exact q ▸ Heap.lt_size e
      · obtain ⟨_, e, _⟩ := h2
        exact q ▸ Heap.lt_size e
    rw [upd_ne (Nat.ne_of_lt lt)]
    exact (hf t ht).1
  done := by
    intro X eP eW eK hc i pins s σ H E I hf st hg
    subst eP eW eK
    obtain ⟨hz, hTI, ⟨x0, y0, hTO⟩, h1, h2⟩ := st
    obtain ⟨xs, ys, qx, qy, gx, gy⟩ := hg
    obtain ⟨t1, r1, p1, _⟩ := I.list qx
    obtain ⟨t2, r2, p2, _⟩ := I.tuple qy
    have k1 := r1.length
    have k2 := r2.length
    have hh : X.A.in1.handled = none := I.ok.hd hc
    exact wpAny_pyNext_zipD2_end S (Draws.list hh i1 a na t1.toArray) (Draws.tuple hh i2 b nb t2.toArray) hz hTI hTO ⟨h1, p1.isList⟩ ⟨h2, p2⟩ (by rw [List.size_toArray]; omega) (by rw [List.size_toArray]; omega) (.inl (by rw [List.size_toArray]; omega))
      fun h' tk hk => ⟨rfl, I.turnedL (ch := [z, TI, TO, i1, i2]) (fun t o ht q => hk t o (fun e => ht (by simp [e])) (fun e => ht (by simp [e])) (fun e => ht (by simp [e])) (fun e => ht (by simp [e])) q) hf⟩
  self := fun A i s Q E st h => wpAny_pyIter_zip st.1 h
def iZipM (K : PySem.W.Frag) (ta : TA) : TI := fun σ H R => ta σ H fun vs H1 => ∃ a b xs ys, vs = [.ref a, .ref b] ∧ SqL K H1 a xs ∧ SqT K H1 b ys ∧ R (ItM K a b) H1
theorem pi_zipM {X : Cx} {e e2 : Expr} {ta : TA} {p pos tpos : Pos} {elts : List Expr} {kk : Nat} (hg : Gl X "zip") (hm : X.mg "zip" = none) (ha : PA X [e, e2] ta)
    (hs : starEach [e, e2] X.env = (false, eval e X.env) :: starEach [e2] X.env := by rfl) (hpl : (backTo pos (starEach [e2] X.env)).any (·.1) = false := by rfl) :
    PI X (.Tuple elts kk tpos) (.Call (.Name "zip" p) [e, e2] [] pos) (iZipM X.K ta) := by
  refine ⟨fun pins s σ H R I h => ?_⟩
  refine Call_ (ld_blt I hg hm PyProof.Rows.boot_zip (PyProof.Rows.callWith_type1 (thn (ha.run pos pins s σ H _ I h) fun vs' s1 ⟨vs, H1, I1, r1, q1⟩ => ?_) hs hpl))
  obtain ⟨a, b, xs, ys, ex, qx, qy, q⟩ := q1
  subst ex
  obtain ⟨t1, r1', p1, _⟩ := I1.list qx
  obtain ⟨t2, r2', p2, _⟩ := I1.tuple qy
  cases r1 with
  | cons ra rr =>
    cases rr with
    | cons rb rr =>
      cases rr
      cases ra
      cases rb
      have la : a < s1.heap.objs.size := by
        obtain ⟨_, e, _⟩ := p1.isList
        exact Heap.lt_size e
      have lb : b < s1.heap.objs.size := by
        obtain ⟨_, e, _⟩ := p2
        exact Heap.lt_size e
      refine zip_begins2 (begins_list a t1.toArray) (begins_tuple b t2.toArray) p1.isList p2 fun h' hz hTI hTO g1 g2 _ hk => wpAny_pyIter_zip hz ?_
      have I2 : Inv X pins σ H1 { s1 with heap := h' } := I1.kept (t' := s1.toks) hk
      have S : ZipSep2 (s1.heap.objs.size + 4) (s1.heap.objs.size + 2) (s1.heap.objs.size + 3) s1.heap.objs.size (s1.heap.objs.size + 1) [s1.heap.objs.size, a] [s1.heap.objs.size + 1, b] :=
        zip_sep2 (fun t ht => by rw [List.mem_singleton.mp ht]; exact la) (fun t ht => by rw [List.mem_singleton.mp ht]; exact lb)
      have add : ∀ {m k : Nat}, m ≠ k → s1.heap.objs.size + m ≠ s1.heap.objs.size + k := fun n e => n (Nat.add_left_cancel e)
      refine ⟨s1.heap.objs.size + 4, [s1.heap.objs.size + 4, s1.heap.objs.size + 2, s1.heap.objs.size + 3, s1.heap.objs.size, s1.heap.objs.size + 1], _, _, H1, rfl, I2,
        turnM S (Nat.ne_of_lt la) (Nat.ne_of_lt (Nat.lt_succ_of_lt lb)) ⟨add (m := 4) (k := 0) (by decide), add (by decide)⟩,
        ⟨hz, hTI, ⟨_, _, hTO⟩, ⟨_, g1, rfl, rfl⟩, ⟨_, g2, rfl, rfl⟩⟩, fun t ht => ?_, q⟩
      have le : s1.heap.objs.size ≤ t := by
        rcases (show t = s1.heap.objs.size + 4 ∨ t = s1.heap.objs.size + 2 ∨ t = s1.heap.objs.size + 3 ∨ t = s1.heap.objs.size ∨ t = s1.heap.objs.size + 1 by simpa using ht) with q | q | q | q | q
        · exact q ▸ Nat.le_add_right _ _
        · exact q ▸ Nat.le_add_right _ _
        · exact q ▸ Nat.le_add_right _ _
        · exact q ▸ Nat.le_refl _
        · exact q ▸ Nat.le_add_right _ _
      exact I1.fpOk le (I1.hok.fresh le)
theorem lc_zipM {K : PySem.W.Frag} {a b : Addr} {xs ys : List V} {n : Nat} {g : TG} {tt : TT} {te : TE} {vs : List Nat} {σ : L2.St} {H1 : Hp} {D : Addr} {Qd : Hp → Prop} (hx : xs.length = n) (hy : ys.length = n)
    (Pv : Nat → Hp → Prop) (h0 : Pv 0 (upd H1 D (.lst []))) (hq : ∀ i H, Pv i H → SqL K H a xs ∧ SqT K H b ys)
    (hs : ∀ i x y T H, i < n → xs[i]? = some x → ys[i]? = some y → Pv i H → H T = none → g (.ref T) (wipe σ vs) (upd H T (.tup [x, y])) fun σ2 H2 => wipe σ2 vs = wipe σ vs ∧ tt σ2 H2 fun c H3 =>
      if c = true then te σ2 H3 fun z H4 => ∃ acc, H4 D = some (.lst acc) ∧ acc.length < sizeLine ∧ Pv (i + 1) (upd H4 D (.lst (acc ++ [z]))) else Pv (i + 1) H3) (hd : ∀ H, Pv n H → Qd H) :
    ∃ W : Nat → Nat → Hp → Prop, (∃ m, W 0 m (upd H1 D (.lst []))) ∧ ∀ i m H, W i m H →
      ((ItM K a b).stop i H ∧ Qd H) ∨ ((ItM K a b).go i H ∧ ∃ Nx : Hp → Prop, (∀ H', Nx H' → ∃ m', m' < m ∧ W (i + 1) m' H') ∧ ∀ v H', (ItM K a b).yld i H v H' → g v (wipe σ vs) H' fun σ2 H2 => wipe σ2 vs = wipe σ vs ∧ tt σ2 H2 fun c H3 =>
        if c = true then te σ2 H3 fun z H4 => ∃ acc, H4 D = some (.lst acc) ∧ acc.length < sizeLine ∧ Nx (upd H4 D (.lst (acc ++ [z]))) else Nx H3) := by
  refine ⟨fun i m H => m = n - i ∧ i ≤ n ∧ Pv i H, ⟨n, (Nat.sub_zero n).symm, Nat.zero_le _, h0⟩, ?_⟩
  rintro i m H ⟨rfl, hi, p⟩
  obtain ⟨qa, qb⟩ := hq i H p
  by_cases hlt : i < n
  · have e1 : xs[i]? = some (xs[i]'(by omega)) := List.getElem?_eq_getElem _
    have e2 : ys[i]? = some (ys[i]'(by omega)) := List.getElem?_eq_getElem _
    refine .inr ⟨⟨xs, ys, _, _, qa, qb, e1, e2⟩, Pv (i + 1), fun H' p' => ⟨n - (i + 1), by omega, rfl, hlt, p'⟩, fun v H' hy' => ?_⟩
    obtain ⟨T, x, y, rfl, nT, rfl, fx, fy⟩ := hy'
    exact hs i x y T H hlt (fx _ qa) (fy _ qb) p nT
  · have e : i = n := by omega
    subst e
    exact .inl ⟨⟨xs, ys, qa, qb, hx, hy⟩, hd H p⟩
end ZM

namespace K1
open PySem PySem.Spec PyProof.Rows L2 Evl HM LX ZW Z3 ZM
section
variable {P : Program} {w : World} {K : PySem.W.Frag} {mg : Str → Option Value} {base : Heap}
theorem int_get5 {ns : List Int} {i : Nat} (h : i < ns.length) : (ns.map V.int)[i]? = some (V.int (ns.getD i 0)) := by
  rw [List.getElem?_map, List.getD_eq_getElem?_getD, List.getElem?_eq_getElem h]
  rfl
def spCheckHeaps (K : PySem.W.Frag) : Sp := fun vs H Q _ => ∃ p q h f, vs = [.ref p, .ref q] ∧ HeapAt H p h ∧ HeapAt H q f ∧ Good h ∧ Good f ∧ ∀ H', Ex H H' → Q .non H'
def spHolds (K : PySem.W.Frag) : Sp := fun vs H Q _ => ∃ p q h f, vs = [.ref p, .ref q] ∧ HeapAt H p h ∧ HeapAt H q f ∧ Good h ∧ Good f ∧ Sub f h ∧ ∀ H', Ex H H' → Q (.bl true) H'
def spIsHeld (K : PySem.W.Frag) : Sp := spHolds K
def spCommonOf (K : PySem.W.Frag) : Sp := fun vs H Q _ => ∃ p q h f, vs = [.ref p, .ref q] ∧ HeapAt H p h ∧ HeapAt H q f ∧ Good h ∧ Good f ∧ ∀ r H', Ex H H' → HeapAt H' r (meet h f) → Q (.ref r) H'
theorem meet_take {a b : List Nat} {i : Nat} (hi : i < min a.length b.length) : ((List.range (i + 1)).map fun c => min (hAt a c) (hAt b c)) = ((List.range i).map fun c => min (hAt a c) (hAt b c)) ++ [min (hAt a i) (hAt b i)] := by
  rw [List.range_succ, List.map_append]
  rfl
def rLenS (K : PySem.W.Frag) : List V → Hp → VK → Prop := fun xs H Q => ∃ (p : Addr) (ys : List V), xs = [V.ref p] ∧ (SqL K H p ys ∨ SqT K H p ys) ∧ Q (V.int (ys.length : Int)) H
def scRows : Scope := { kind := .function, names := [(".0", .local), ("row", .cell), ("len", .globalImplicit), ("heap", .free)], isGenerator := false, isCoroutine := false, more := [] }
def spLengthsOf (K : PySem.W.Frag) : Sp := fun vs H Q _ => ∃ p h, vs = [.ref p] ∧ HeapAt H p h ∧ Good h ∧ ∀ r H', Ex H H' → HeapAt H' r (conj h) → Q (.ref r) H'
theorem ok_lengths_of (T : Txt K mg) {f : Addr} {fd : FuncData} (D : DefAt K mg "lengths_of" sLengthsOf ["heap"] f fd) : FnOk P w K mg base CX0 2 f fd ["heap"] (spLengthsOf K) := by
  refine D.F.ok scLengthsOf (fun vs H Q E h => ?_) (fun cdv A outer s H vs Q E hr h => ?_)
  · obtain ⟨p, h, rfl, _⟩ := h
    rfl
  · obtain ⟨p, h, rfl, hp1, G, k⟩ := h
    obtain ⟨f1, fd1, D1⟩ := T.d_height_at
    have hr1 : Room 1 _ := hr.mono (by decide)
    refine ⟨_, pss_one (ps_ret (pe_callTy call_tuple_of (by rfl) T.z_tuple (by decide +kernel) (pa_cons (pe_lc (own := [("row", 2)]) (g := gName 2) (tt := tYes) rfl scLengthsOf.nd (pi_range1 (by rfl) T.z_range (pa_cons (pe_call (ok_height_at T D1) hr1 (by rfl) D1.g D1.F.kp D1.b .nil pass0 (pa_cons (pv 0) (pa_cons pe_int pa_nil))) pa_nil))
        (blkOk_by (N := nLengthsOf) (sc := defScope sLengthsOf) (by decide +kernel)) (fun _ _ _ _ _ => (pg_name (i := 2) scLengthsOf.nd rfl (.inr rfl))) (fun _ _ _ _ _ => pts_nil)
        (fun _ _ _ _ _ => pe_callB (show CallR _ _ (rLenS K) from call_len_seq) (by rfl) T.z_len PySem.boot_len (pa_cons (pe_lc (own := [("height", 1)]) (g := gName 1) (wi := iTup K (tVar 0)) rfl scLengthsOf.nd (pi_tup (pv 0))
          (blkOk_by (N := nLengthsOf) (sc := relS scRows (defScope sLengthsOf)) (by decide +kernel)) (fun _ _ _ _ _ => pg_name (i := 1) scLengthsOf.nd rfl (Or.inl rfl))
          (fun _ _ _ _ _ => pts_one (pt_cmpR op_gt (pv 1) (pv 2) (nomark _))) (fun _ _ _ _ _ => pv 1)) pa_nil))) pa_nil))), ?_⟩
    refine ⟨_, rfl, p, h, 0, rfl, hp1, fun H2 e2 => ?_⟩
    have hp2 := e2 _ _ hp1
    have ht := G.top
    have hl60 := G.len
    refine ⟨_, rfl, by omega, by omega, fun Dl hD => ?_⟩
    refine lc_range (lo := 0) (n := (hAt h 0 : Int).toNat) (fun i H' => H' Dl = some (.lst (hv ((List.range i).map fun r => (h.filter fun x => decide (r < x)).length))) ∧ Ex H2 H') ⟨upd_same, Ex.new hD⟩ (fun i H' hi hW => ?_) (fun H' hW => ?_)
    · obtain ⟨w1, w2⟩ := hW
      have hp4 := w2 _ _ hp2
      refine ⟨rfl, ?_⟩
      dsimp only [tYes]
      rw [if_pos rfl]
      refine ⟨_, rfl, p, rfl, ⟨_, SqT.of hp4⟩, fun D2 hD2 => ?_⟩
      refine lc_tup (K := K) (a := p) (xs := hv h) (fun j H5 => H5 D2 = some (.lst (hv ((h.take j).filter fun x => decide (i < x)))) ∧ Ex H' H5) ⟨upd_same, Ex.new hD2⟩ (fun j H5 _ hp5 => SqT.of (hp5.2 _ _ hp4)) (fun j x H5 hx hp5 => ?_) (fun H5 hp5 => ?_)
      · obtain ⟨u1, u2⟩ := hp5
        obtain ⟨y, hy, rfl⟩ := hv_inv hx
        refine ⟨rfl, _, rfl, _, rfl, _, _, rfl, rfl, _, rfl, ite2 (fun cc => ?_) (fun cc => ?_)⟩
        · have c0 : i < y := by
            have := of_decide_eq_true cc
            omega
          refine ⟨_, rfl, _, u1, ?_, ?_, Ex.mut u2 hD2⟩
          · rw [hv_len]
            have a1 := List.length_filter_le (fun x => decide (i < x)) (h.take j)
            rw [List.length_take] at a1
            exact small1000 (by omega)
          · rw [upd_same, take_filter_snoc _ hy, if_pos (decide_eq_true c0), hv_snoc]
        · have c0 : ¬ i < y := fun z => cc (decide_eq_true (by omega))
          refine ⟨?_, u2⟩
          rw [take_filter_snoc _ hy, if_neg (by rw [decide_eq_false c0]; decide), List.append_nil]
          exact u1
      · obtain ⟨u1, u2⟩ := hp5
        rw [hv_len, List.take_length] at u1
        refine ⟨D2, _, rfl, .inl (SqL.of u1), _, u2 _ _ w1, ?_, ?_, Ex.mut (w2.trans u2) hD⟩
        · rw [hv_len, List.length_map, List.length_range]
          exact small1000 (by omega)
        · rw [upd_same, List.range_succ, List.map_append, hv_len]
          show _ = some (HO.lst (hv (_ ++ [(h.filter fun x => decide (i < x)).length])))
          rw [hv_snoc]
    · obtain ⟨w1, w2⟩ := hW
      rw [show (hAt h 0 : Int).toNat = hAt h 0 by omega] at w1
      exact ⟨Dl, _, rfl, .inl ⟨SqL.of w1, fun r' hr' => k r' _ ((e2.trans w2).trans (Ex.new hr')) upd_same⟩⟩
def spTurnedOver (K : PySem.W.Frag) : Sp := spLengthsOf K
/-! ### classes with chips at the ends -/
/-- a class -/
def ClassAt (H : Hp) (v : V) (deg : Int) (ps : List Int) : Prop := ∃ t a, v = .ref t ∧ H t = some (.tup [.int deg, .ref a]) ∧ PlacesT H a ps
theorem ClassAt.ex {H H' : Hp} {v : V} {deg : Int} {ps : List Int} (e : Ex H H') (h : ClassAt H v deg ps) : ClassAt H' v deg ps := by
  obtain ⟨t, a, rfl, h1, h2⟩ := h
  exact ⟨t, a, rfl, e _ _ h1, e _ _ h2⟩
def spCheckDigits (K : PySem.W.Frag) : Sp := fun vs H Q _ => ∃ (l : Addr) (ns : List Int), vs = [.ref l] ∧ H l = some (.lst (ns.map V.int)) ∧ ns.length ≤ 1000 ∧ (∀ z ∈ ns, -(10 ^ 60) < z ∧ z < 10 ^ 60) ∧ ∀ H', Ex H H' → Q .non H'
def spCheckClass : Sp := fun vs H Q _ => ∃ c v xs rs deg ps, vs = [.ref c, v] ∧ H c = some (.tup xs) ∧ RingsAt H 60 xs rs ∧ xs.length ≤ 12 ∧ ClassAt H v deg ps ∧ -(10 ^ 60) < deg ∧ deg < 10 ^ 60 ∧ ps.length = xs.length ∧ PlOk rs ps ∧ ∀ H', Ex H H' → Q .non H'
def spIsClass : Sp := fun vs H Q _ => ∃ c v xs rs deg ps, vs = [.ref c, v] ∧ H c = some (.tup xs) ∧ RingsAt H 60 xs rs ∧ xs.length ≤ 12 ∧ ClassAt H v deg ps ∧ -(10 ^ 60) < deg ∧ deg < 10 ^ 60 ∧ ps.length = xs.length ∧ PlOk rs ps ∧ ∀ H', Ex H H' → Q (.bl true) H'
/-- rests taken modulo the places -/
def modp (rs : List (Int × Int)) (ns : List Int) : List Int := (List.range ns.length).map fun j => ns.getD j 0 % (K1N.nAt rs j : Int)
def spToldClass : Sp := fun vs H Q _ => ∃ c l xs rs deg, ∃ ns : List Int, vs = [.ref c, .int deg, .ref l] ∧ H c = some (.tup xs) ∧ RingsAt H 60 xs rs ∧ xs.length ≤ 12 ∧ H l = some (.lst (ns.map V.int)) ∧ ns.length = xs.length ∧ -(10 ^ 60) < deg ∧ deg < 10 ^ 60 ∧
  ∀ r H', Ex H H' → ClassAt H' (.ref r) deg (modp rs ns) → Q (.ref r) H'
/-- places moved by a step for each chip -/
def mv (rs : List (Int × Int)) (ps : List Int) (a : Int) : List Int := (List.range ps.length).map fun j => ps.getD j 0 + a * K1N.sAt rs j
def spWithEnds : Sp := fun vs H Q _ => ∃ c v xs rs deg ps, ∃ a b : Int, vs = [.ref c, v, .int a, .int b] ∧ H c = some (.tup xs) ∧ RingsAt H 60 xs rs ∧ (1 ≤ xs.length ∧ xs.length ≤ 12) ∧ ClassAt H v deg ps ∧ (-(10 ^ 9) < deg ∧ deg < 10 ^ 9) ∧ (-(10 ^ 9) < a ∧ a < 10 ^ 9) ∧ (-(10 ^ 9) < b ∧ b < 10 ^ 9) ∧ ps.length = xs.length ∧ PlOk rs ps ∧
  ∀ r H', Ex H H' → ClassAt H' (.ref r) (deg + a + b) (modp rs (mv rs ps a)) → Q (.ref r) H'
end
end K1

/-! tuples and lists of ints compared, whatever they hold -/
namespace CI
open PySem PySem.Spec PyProof.Rows L2 Evl HM LX ZW K1
theorem eqvAll_ints : ∀ a b : List Int, PyData.eqvAll (a.map PyData.int) (b.map PyData.int) = decide (a = b)
  | [], [] => by simp [PyData.eqvAll]
  | [], _ :: _ => by simp [PyData.eqvAll]
  | _ :: _, [] => by simp [PyData.eqvAll]
  | x :: a, y :: b => by
    have := eqvAll_ints a b
    simp only [List.map_cons, PyData.eqvAll, PyData.eqv, this]
    by_cases e : x = y
    · subst e
      simp
    · simp [e]
theorem eqvT (a b : List Int) : PyData.eqv (.tuple (a.map PyData.int)) (.tuple (b.map PyData.int)) = decide (a = b) := by
  rw [← eqvAll_ints]
  simp only [PyData.eqv]
theorem eqvL (a b : List Int) : PyData.eqv (.list (a.map PyData.int)) (.list (b.map PyData.int)) = decide (a = b) := by
  rw [← eqvAll_ints]
  simp only [PyData.eqv]
section
variable {K : PySem.W.Frag} {H : Hp} {p q : Addr} {Q : VK}
theorem eqT {l l' : List Int} (h1 : H p = some (.tup (l.map V.int))) (h2 : H q = some (.tup (l'.map V.int))) (k : Q (.bl (decide (l = l'))) H) : rEqD K (.ref p) (.ref q) H Q :=
  ⟨_, _, .tup (SqT.of h1) (dp_ints l), .tup (SqT.of h2) (dp_ints l'), shaped_intsT _, shaped_intsT _, by rw [eqvT]; exact k⟩
theorem neT {l l' : List Int} (h1 : H p = some (.tup (l.map V.int))) (h2 : H q = some (.tup (l'.map V.int))) (k : Q (.bl (!decide (l = l'))) H) : rNeD K (.ref p) (.ref q) H Q :=
  ⟨_, _, .tup (SqT.of h1) (dp_ints l), .tup (SqT.of h2) (dp_ints l'), shaped_intsT _, shaped_intsT _, by rw [eqvT]; exact k⟩
theorem eqL {l l' : List Int} (h1 : H p = some (.lst (l.map V.int))) (h2 : H q = some (.lst (l'.map V.int))) (k : Q (.bl (decide (l = l'))) H) : rEqD K (.ref p) (.ref q) H Q :=
  ⟨_, _, .lst (SqL.of h1) (dp_ints l), .lst (SqL.of h2) (dp_ints l'), shaped_intsL _, shaped_intsL _, by rw [eqvL]; exact k⟩
theorem neL {l l' : List Int} (h1 : H p = some (.lst (l.map V.int))) (h2 : H q = some (.lst (l'.map V.int))) (k : Q (.bl (!decide (l = l'))) H) : rNeD K (.ref p) (.ref q) H Q :=
  ⟨_, _, .lst (SqL.of h1) (dp_ints l), .lst (SqL.of h2) (dp_ints l'), shaped_intsL _, shaped_intsL _, by rw [eqvL]; exact k⟩
theorem hvI2 (h : List Nat) : hv h = (h.map fun (n : Nat) => (n : Int)).map V.int := by
  unfold hv
  rw [List.map_map]
  rfl
theorem nat_inj : ∀ {h h' : List Nat}, (h.map fun (n : Nat) => (n : Int)) = (h'.map fun (n : Nat) => (n : Int)) → h = h'
  | [], [], _ => rfl
  | [], _ :: _, e => by simp at e
  | _ :: _, [], e => by simp at e
  | a :: r, b :: t, e => by
    simp only [List.map_cons, List.cons.injEq] at e
    rw [nat_inj e.2, show a = b by omega]
theorem nat_ints {h h' : List Nat} : (h.map fun (n : Nat) => (n : Int)) = (h'.map fun (n : Nat) => (n : Int)) ↔ h = h' := ⟨nat_inj, fun e => by rw [e]⟩
theorem eqH {h h' : List Nat} (h1 : HeapAt H p h) (h2 : HeapAt H q h') (k : Q (.bl (decide (h = h'))) H) : rEqD K (.ref p) (.ref q) H Q := by
  unfold HeapAt at h1 h2
  rw [hvI2] at h1 h2
  refine eqT h1 h2 ?_
  rw [show decide ((h.map fun (n : Nat) => (n : Int)) = (h'.map fun (n : Nat) => (n : Int))) = decide (h = h') from decide_eq_decide.mpr nat_ints]
  exact k
theorem neH {h h' : List Nat} (h1 : HeapAt H p h) (h2 : HeapAt H q h') (k : Q (.bl (!decide (h = h'))) H) : rNeD K (.ref p) (.ref q) H Q := by
  unfold HeapAt at h1 h2
  rw [hvI2] at h1 h2
  refine neT h1 h2 ?_
  rw [show decide ((h.map fun (n : Nat) => (n : Int)) = (h'.map fun (n : Nat) => (n : Int))) = decide (h = h') from decide_eq_decide.mpr nat_ints]
  exact k
end
end CI

/-! own rule: math.factorial of a small int -/
namespace FA
open PySem PySem.Spec PyProof.Rows L2
def rFact : List V → Hp → VK → Prop := fun xs H Q => ∃ n : Nat, xs = [V.int (n : Int)] ∧ n ≤ 8 ∧ Q (V.int ((Builtin.Math.factorialNat n : Nat) : Int)) H
theorem cr_fact {X : Cx} : CallR X (.builtin "math.factorial") rFact := by
  intro pins s σ H xs us Q I r h
  obtain ⟨n, rfl, hn, q⟩ := h
  obtain ⟨u, rfl, rx⟩ := r.one
  obtain ⟨t, rfl⟩ := rx
  have fl : (Builtin.Math.factorialNat n) ≤ 40320 := by
    have : n = 0 ∨ n = 1 ∨ n = 2 ∨ n = 3 ∨ n = 4 ∨ n = 5 ∨ n = 6 ∨ n = 7 ∨ n = 8 := by omega
    rcases this with rfl | rfl | rfl | rfl | rfl | rfl | rfl | rfl | rfl <;> decide
  refine PySem.W.mg_factorial (a := (n : Int)) (by show ¬ (n : Int) > 2 ^ 63 - 1; omega) (by omega) (by show ¬ (n : Int) > 20000; omega) ?_ ?_
  · rw [Int.toNat_natCast, Int.natAbs_natCast]
    have h1 : (Builtin.Math.factorialNat n).log2 ≤ 15 := PySem.W.mg_log (by omega)
    exact Nat.lt_of_le_of_lt h1 (by decide)
  · rw [Int.toNat_natCast]
    exact ⟨.int _, H, I.tok _, ⟨_, rfl⟩, q⟩
end FA

/-! own rule: sum of a tuple of ints -/
namespace ST
open PySem PySem.Spec PyProof.Rows L2
section
variable {prog : Program} {w : World} {A : Around} {E : Value → Shared → Prop} {s : Shared} {l : Addr}
theorem sum_tup {xs : Array (Int × Tok)} {Q : Value → Shared → Prop} (hh : A.handled = none) (hl : s.heap.IsTuple l (intItems xs))
    (h : ∀ h' tk t', (∀ b o, s.heap.get? b = some o → h'.get? b = some o) → Q (.int (preSum (numAt xs) xs.size) t') { s with heap := h', toks := tk }) :
    wpAny (model prog w) A (call (.builtin "sum") [.ref l]) Q E s := by
  have hlt : l < s.heap.objs.size := by
    obtain ⟨_, e, _⟩ := hl
    exact Heap.lt_size e
  refine call_sum_walkG (wpAny_pyIter_tuple hl ?_)
  refine ⟨_, _, _, _, _, _, numAt xs, rfl, Walks.tuple (A := A.in1) hh s.heap.objs.size l (Nat.ne_of_lt hlt) (intItems xs), ⟨⟨_, Heap.get?_push_size _ rfl, rfl, rfl⟩, hl.push _⟩, fun b hb => ?_, (fun _ _ => intItems_at), fun h' tk t' hk => ?_⟩
  · show b < (s.heap.push _).objs.size
    rw [Heap.size_push]
    rcases List.mem_cons.mp hb with rfl | hb
    · exact Nat.lt_succ_self _
    · rcases List.mem_cons.mp hb with rfl | hb
      · exact Nat.lt_succ_of_lt hlt
      · cases hb
  · have := h h' tk t' fun b o e => by
      refine hk b o (fun hm => ?_) (Heap.get?_push_of_some _ e)
      rcases List.mem_cons.mp hm with e1 | hm
      · exact absurd (e1 ▸ Heap.lt_size e) (Nat.lt_irrefl _)
      · cases hm
    simpa [intItems] using this
theorem sum_tupR {its : List Value} {ns : List Int} {Q : Value → Shared → Prop} (hh : A.handled = none) (hl : s.heap.IsTuple l its.toArray) (hi : IntsAre its ns)
    (h : ∀ h' tk t', (∀ b o, s.heap.get? b = some o → h'.get? b = some o) → Q (.int ns.sum t') { s with heap := h', toks := tk }) : wpAny (model prog w) A (call (.builtin "sum") [.ref l]) Q E s := by
  obtain ⟨xs, e⟩ := hi.allInts.items
  have hn : numsOf (intItems xs).toList = ns := by rw [← e]; exact hi.numsOf
  rw [nums_intItems] at hn
  rw [e] at hl
  refine sum_tup hh hl fun h' tk t' hk => ?_
  have := h h' tk t' hk
  rw [preSum_eq, List.take_of_length_le (by simp), hn]
  exact this
end
section
variable {X : Cx}
def rSumT (K : PySem.W.Frag) : List V → Hp → VK → Prop := fun vs H Q => ∃ (a : Addr) (ns : List Int), vs = [V.ref a] ∧ SqT K H a (ns.map V.int) ∧ Q (.int ns.sum) H
theorem cr_sumT (hc : X.calm = true) : CallR X (.builtin "sum") (rSumT X.K) := by
  intro pins s σ H vs us Q I r h
  obtain ⟨a, ns, rfl, hs, q⟩ := h
  obtain ⟨its, rv, hl, _⟩ := I.tuple hs
  rw [Vals.ref1 r]
  exact sum_tupR (I.ok.hd hc) hl rv.ints fun h' tk t' hk => ⟨.int _, H, I.kept hk, ⟨_, rfl⟩, q⟩
end
end ST

set_option exponentiation.threshold 400
namespace K1
open PySem PySem.Spec PyProof.Rows L2 Evl HM LX
section
variable {P : Program} {w : World} {K : PySem.W.Frag} {mg : Str → Option Value} {base : Heap}
def lamr (h : List Nat) (r : Nat) : Nat := hAt (conj h) r
def hk (h : List Nat) (c r : Nat) : Int := (hAt h c : Int) - (r : Int) + (lamr h r : Int) - (c : Int) - 1
def hkp (h : List Nat) (c : Nat) : Nat → Int
  | 0 => 1
  | r + 1 => hkp h c r * hk h c r
def hprod (h : List Nat) : Nat → Int
  | 0 => 1
  | c + 1 => hprod h c * hkp h c (hAt h c)
theorem walk_enumT {K : PySem.W.Frag} {a : Addr} {xs : List V} : Walk (EnT.IteT K a) xs.length (fun H => SqT K H a xs) (YPair (fun i => some (.int (i : Nat))) (fun i => xs[i]?)) :=
  ⟨fun i _ hi q => ⟨xs, xs[i], q, by simp [hi]⟩, fun _ q => ⟨xs, q, rfl⟩, fun i H v H' _ q y => by
    obtain ⟨T, x, h1, h2, h3, h4⟩ := y
    exact ⟨T, .int (i : Nat), x, h1, h2, h3, rfl, h4 xs q⟩⟩
theorem iteF' {b : Bool} {A B : Prop} (h : b = false) (a : B) : if b = true then A else B := by
  rw [if_neg (by rw [h]; decide)]
  exact a
def spHookAt : Sp := fun vs H Q _ => ∃ p l h, ∃ c r : Nat, vs = [.ref p, .ref l, .int (c : Int), .int (r : Int)] ∧ HeapAt H p h ∧ HeapAt H l (conj h) ∧ IsHeap h ∧ r < hAt h c ∧ Q (.int (hk h c r)) H
theorem ok_hook_at (T : Txt K mg) {f : Addr} {fd : FuncData} (D : DefAt K mg "hook_at" sHookAt ["heap", "lengths", "column", "row"] f fd) : FnOk P w K mg base CX0 1 f fd ["heap", "lengths", "column", "row"] spHookAt := by
  refine D.F.ok scHookAt (fun vs H Q E h => ?_) (fun cdv A outer s₀ H vs Q E hr h => ?_)
  · obtain ⟨p, l, h, c, r, rfl, _⟩ := h
    rfl
  · obtain ⟨p, l, h, c, r, rfl, hp, hl, Hh, hrc, q⟩ := h
    refine ⟨_, pss_one (ps_ret (pe_op op_sub (pe_op op_sub (pe_op op_add (pe_op op_sub (pe_ix ix_tup (pv 0) (pv 2) (fun _ _ => rfl)) (pv 3)) (pe_ix ix_tup (pv 1) (pv 3) (fun _ _ => rfl))) (pv 2)) pe_int)), ?_⟩
    have hc : c < h.length := by
      rcases Nat.lt_or_ge c h.length with z | z
      · exact z
      · rw [hAt_ge z] at hrc
        omega
    have hrl : r < (conj h).length := by
      rw [conj_len]
      have := Hh.le (Nat.zero_le c)
      omega
    exact ⟨_, rfl, _, rfl, p, _, (c : Int), .int (hAt h c : Int), rfl, rfl, SqT.of hp, atI_nat (hv_get hc), _, rfl, _, _, rfl, rfl, _, rfl, _, rfl, l, _, (r : Int), .int (hAt (conj h) r : Int), rfl, rfl, SqT.of hl, atI_nat (hv_get hrl), _, _, rfl, rfl, _, rfl, _, _, rfl, rfl, _, _, rfl, rfl, q⟩
theorem sum_cast : ∀ (h : List Nat), (h.map fun (n : Nat) => (n : Int)).sum = ((h.sum : Nat) : Int)
  | [] => rfl
  | a :: r => by
    rw [List.map_cons, List.sum_cons, List.sum_cons, sum_cast r]
    omega
def spStdCount (K : PySem.W.Frag) : Sp := fun vs H Q _ => ∃ (p : Addr) (h : List Nat), vs = [.ref p] ∧ HeapAt H p h ∧ Good h ∧ h.sum ≤ 8 ∧ 0 < hprod h h.length ∧ hprod h h.length < 1000000 ∧ ∀ H', Ex H H' → Q (.int (((Builtin.Math.factorialNat h.sum : Nat) : Int) / hprod h h.length)) H'
theorem ok_std_count (T : Txt K mg) {f : Addr} {fd : FuncData} (D : DefAt K mg "standard_count" sStandardCount ["heap"] f fd) : FnOk P w K mg base CX0 3 f fd ["heap"] (spStdCount K) := by
  refine D.F.ok scStandardCount (fun vs H Q E h => ?_) (fun cdv A outer s₀ H vs Q E hr h => ?_)
  · obtain ⟨p, h, rfl, _⟩ := h
    rfl
  · obtain ⟨p, h, rfl, hp, G, s6, h0, hb, kQ⟩ := h
    obtain ⟨f1, fd1, D1⟩ := T.d_hook_at
    obtain ⟨f2, fd2, D2⟩ := T.d_lengths_of
    have hr1 : Room 1 _ := hr.mono (by decide)
    have hr2 : Room 2 _ := hr.mono (by decide)
    refine ⟨_, pss_cons (ps_set (i := 1) scStandardCount.nd rfl (.inl rfl) (pe_call (ok_lengths_of T D2) hr2 (by rfl) D2.g D2.F.kp D2.b .nil pass0 (pa_cons (pv 0) pa_nil)))
      (pss_cons (ps_set (i := 2) scStandardCount.nd rfl (.inl rfl) pe_int)
      (pss_cons (ps_for PassesOwn.never rfl (EnT.pi_enumT (by rfl) T.z_enumerate (pa_cons (pv 0) pa_nil)) (pg_tup (by rfl) (pgs_cons (pg_name (i := 3) scStandardCount.nd rfl (.inl rfl)) (pgs_cons (pg_name (i := 4) scStandardCount.nd rfl (.inl rfl)) pgs_nil)))
        (pss_one (ps_for PassesOwn.never rfl (pi_range1 (by rfl) T.z_range (pa_cons (pv 4) pa_nil)) (pg_name (i := 5) scStandardCount.nd rfl (.inl rfl))
        (pss_one (ps_set (i := 2) scStandardCount.nd rfl (.inl rfl) (pe_op op_mul (pv 2) (pe_call (ok_hook_at T D1) hr1 (by rfl) D1.g D1.F.kp D1.b .nil pass0 (pa_cons (pv 0) (pa_cons (pv 1) (pa_cons (pv 3) (pa_cons (pv 5) pa_nil)))))))))))
      (pss_one (ps_ret (pe_op op_fdiv (pe_callBfun FA.cr_fact (by rfl) T.v_factorial (pa_cons (pe_callB (ST.cr_sumT rfl) (by rfl) T.z_sum (by decide +kernel) (pa_cons (pv 0) pa_nil)) pa_nil)) (pv 2)))))), ?_⟩
    refine ⟨_, rfl, p, h, rfl, hp, G, fun l H1 e1 hl => ?_⟩
    have hp1 := e1 _ _ hp
    have w1 : Walk (EnT.IteT K p) h.length (fun H => SqT K H p (hv h)) (YPair (fun i => some (.int (i : Nat))) (fun i => (hv h)[i]?)) := by
      have := walk_enumT (K := K) (a := p) (xs := hv h)
      rw [hv_len] at this
      exact this
    refine ⟨_, rfl, p, _, rfl, SqT.of hp1, ?_⟩
    refine for_it w1 (fun i σ' H' => ∃ (y3 y4 y5 : Option V), σ' = [some (.ref p), some (.ref l), some (.int (hprod h i)), y3, y4, y5] ∧ Ex H1 H') ⟨none, none, none, rfl, Ex.refl _⟩ (fun i σ' H' _ hW => ?_) (fun i x σ' H' H2 hi hW hy => ?_) (fun σ' H' hW => ?_)
    · obtain ⟨_, _, _, _, e⟩ := hW
      exact SqT.of (e _ _ hp1)
    · obtain ⟨y3, y4, y5, rfl, v1⟩ := hW
      obtain ⟨Tp, x1, z1, rfl, nT, rfl, hx1, hz1⟩ := hy
      obtain rfl := Option.some.inj hx1
      obtain rfl := Option.some.inj ((hv_get hi).symm.trans hz1)
      have eT := Ex.new (o := .tup [.int (i : Nat), .int (hAt h i : Int)]) nT
      have v1' := v1.trans eT
      refine ⟨Tp, _, rfl, SqT.of upd_same, rfl, .int (i : Nat), [_], rfl, .int (hAt h i : Int), [], rfl, rfl, ?_⟩
      generalize upd H' Tp (.tup [.int (i : Nat), .int (hAt h i : Int)]) = H3 at *
      have top := G.heap.le (Nat.zero_le i)
      have gt := G.top
      have gl := G.len
      refine ⟨_, rfl, _, rfl, by omega, by omega, for_range (lo := 0) (n := (hAt h i : Int).toNat) (fun r σ' H' => ∃ y5, σ' = [some (.ref p), some (.ref l), some (.int (hprod h i * hkp h i r)), some (.int (i : Nat)), some (.int (hAt h i : Int)), y5] ∧ Ex H1 H') ⟨_, by rw [show hprod h i * hkp h i 0 = hprod h i from Int.mul_one _]; rfl, v1'⟩ (fun r σ' H' hr0 hW => ?_) (fun σ' H' hW => ?_)⟩
      · obtain ⟨y5, rfl, u1⟩ := hW
        have hr1' : r < hAt h i := by omega
        refine ⟨_, rfl, _, rfl, _, rfl, _, rfl, _, rfl, p, l, h, i, r, by rw [Int.zero_add]; rfl, u1 _ _ hp1, u1 _ _ hl, G.heap, hr1', ?_⟩
        have lm : lamr h r ≤ h.length := by
          unfold lamr
          rcases Nat.lt_or_ge h.length (hAt (conj h) r) with z | z
          · have := (conj_iff G.heap h.length r).mp z
            rw [hAt_ge (Nat.le_refl _)] at this
            omega
          · exact z
        refine ⟨_, _, rfl, rfl, .inr (by unfold hk; constructor <;> omega), ?_⟩
        refine ⟨_, congrArg (fun z => [some (V.ref p), some (V.ref l), some (V.int z), some (V.int (i : Nat)), some (V.int (hAt h i : Int)), some (V.int (0 + (r : Int)))]) ?_, u1⟩
        exact Int.mul_assoc _ _ _
      · obtain ⟨y5, rfl, u1⟩ := hW
        rw [show (hAt h i : Int).toNat = hAt h i by omega]
        exact ⟨_, _, _, rfl, u1⟩
    · obtain ⟨y3, y4, y5, rfl, v1⟩ := hW
      have hp2 := v1 _ _ hp1
      unfold HeapAt at hp2
      rw [CI.hvI2] at hp2
      refine ⟨_, rfl, p, _, rfl, SqT.of hp2, ?_⟩
      rw [sum_cast h]
      refine ⟨h.sum, rfl, s6, _, rfl, _, _, rfl, rfl, ⟨h0, by omega⟩, kQ _ (e1.trans v1)⟩
theorem ok_std_fillings (T : Txt K mg) {f : Addr} {fd : FuncData} (D : DefAt K mg "standard_fillings" sStandardFillings ["heap"] f fd) : FnOk P w K mg base CX0 5 f fd ["heap"] (spStdCount K) := by
  refine D.F.ok scStandardFillings (fun vs H Q E h => ?_) (fun cdv A outer s₀ H vs Q E hr h => ?_)
  · obtain ⟨p, h, rfl, _⟩ := h
    rfl
  · obtain ⟨p, h, rfl, hp, G, s6, h0, hb, kQ⟩ := h
    obtain ⟨f1, fd1, D1⟩ := T.d_standard_count
    obtain ⟨f2, fd2, D2⟩ := T.d_check_heap
    obtain ⟨tMOST_STANDARD, vMOST_STANDARD⟩ := T.v_MOST_STANDARD
    have hr3 : Room 3 _ := hr.mono (by decide)
    have hr4 : Room 4 _ := hr.mono (by decide)
    refine ⟨_, pss_cons (ps_expr (pe_call (ok_check_heap T D2) hr4 (by rfl) D2.g D2.F.kp D2.b .nil pass0 (pa_cons (pv 0) pa_nil)))
      (pss_cons (ps_if (pt_cmpR op_gt (pe_callB (ST.cr_sumT rfl) (by rfl) T.z_sum (by decide +kernel) (pa_cons (pv 0) pa_nil)) (pe_glob (v := .int 200) rfl vMOST_STANDARD ⟨_, rfl⟩) (nomark _)) pss_never pss_nil)
      (pss_one (ps_ret (pe_call (ok_std_count T D1) hr3 (by rfl) D1.g D1.F.kp D1.b .nil pass0 (pa_cons (pv 0) pa_nil))))), ?_⟩
    refine ⟨_, rfl, p, h, rfl, hp, G, fun H1 e1 => ?_⟩
    have hp1 := e1 _ _ hp
    have hp2 := hp1
    unfold HeapAt at hp2
    rw [CI.hvI2] at hp2
    refine ⟨_, rfl, p, _, rfl, SqT.of hp2, ?_⟩
    rw [sum_cast h]
    refine ⟨_, _, rfl, rfl, _, rfl, iteF' (decide_eq_false (by omega)) ?_⟩
    exact ⟨_, rfl, p, h, rfl, hp1, G, s6, h0, hb, fun H2 e2 => kQ _ (e1.trans e2)⟩
end
end K1

set_option exponentiation.threshold 400
namespace K1
open PySem PySem.Spec PyProof.Rows L2 Evl HM LX ZW TE DR
def RefH (H : Hp) (y : V) (h : List Nat) : Prop := ∃ b, y = V.ref b ∧ HeapAt H b h
section
variable {P : Program} {w : World} {K : PySem.W.Frag} {mg : Str → Option Value} {base : Heap}
def spCountedT : Sp := fun vs H Q _ => ∃ (a : Addr) (ys : List V) (hs : List (List Nat)) (c r : Nat), vs = [.ref a] ∧ H a = some (.lst ys) ∧ Paired (RefH H) ys hs ∧ (∀ h ∈ hs, Bx c r h) ∧ hs.length ≤ 300 ∧
  ∀ (m : Addr) N H', Ex H H' → H' m = some (.dT (kvC N)) → Mk c r N → (∀ F, wsum N F = sumL hs F) → N.length ≤ 300 → Q (.ref m) H'
theorem ok_countedT (T : Txt K mg) {f : Addr} {fd : FuncData} (D : DefAt K mg "_law_counted" sLCounted ["_law_values"] f fd) : FnOk P w K mg base CX0 1 f fd ["_law_values"] spCountedT := by
  refine D.F.ok scLCounted (fun vs H Q E h => ?_) (fun cdv A outer s₀ H vs Q E hr h => ?_)
  · obtain ⟨a, ys, hs, c, r, rfl, _⟩ := h
    rfl
  · obtain ⟨a, ys, hs, c, r, rfl, ha, pr, bx, l3, kQ⟩ := h
    have hu1 := Nat.lt_of_le_of_lt (Nat.add_le_add_left (show 1 ≤ 64 by decide) _) hr.units
    refine ⟨_, pss_cons (ps_set (i := 1) scLCounted.nd rfl (.inl rfl) pe_dnewT)
      (pss_cons (ps_for PassesOwn.never rfl (pi_list (pv 0)) (pg_name (i := 2) scLCounted.nd rfl (.inl rfl))
        (pss_one (ps_dput hu1 (pv 1) (pv 2) (pe_op op_add (pe_dget2 hu1 (pv 1) (pv 2) pe_int ⟨rfl, rfl, rfl, rfl⟩) pe_int) rfl)))
      (pss_one (ps_ret (pv 1)))), ?_⟩
    intro m hm
    have e0 := Ex.new (o := .dT []) hm
    have gm : (upd H m (.dT [])) m = some (.dT (kvC [])) := upd_same
    have nam : a ≠ m := ne_of_none ha hm
    have ha1 := e0 _ _ ha
    have pr1 : Paired (RefH (upd H m (.dT []))) ys hs := paired_imp (fun y h ⟨b, h1, h2⟩ => ⟨b, h1, e0 _ _ h2⟩) pr
    generalize upd H m (.dT []) = H1 at *
    have yl : ys.length = hs.length := Paired.length pr
    refine ⟨_, rfl, a, rfl, ⟨_, SqL.of ha1⟩, for_list (K := K) (a := a) (xs := ys) (fun v σ2 H2 => ∃ (y2 : Option V) (N : List (List Nat × Int)), σ2 = [some (.ref a), some (.ref m), y2] ∧ H2 m = some (.dT (kvC N)) ∧ Mk c r N ∧ N.length ≤ v ∧ (∀ F, wsum N F = sumL (hs.take v) F) ∧ Keep m H1 H2)
      ⟨_, [], rfl, gm, Mk.nil _ _, Nat.le_refl _, fun F => rfl, Keep.refl _ _⟩ (fun v σ2 H2 _ hW => ?_) (fun v y σ2 H6 hy hW => ?_) (fun σ2 H6 hW => ?_)⟩
    · obtain ⟨_, _, _, _, _, _, _, kp⟩ := hW
      exact SqL.of (kp _ _ nam ha1)
    · obtain ⟨y2, N, rfl, w1, w2, wl, w3, w4⟩ := hW
      obtain ⟨S, hS, b, rfl, hb⟩ := paired_get pr1 hy
      have nbm : b ≠ m := ne_of hb gm (by intro z; cases z)
      have hvl : v < hs.length := (List.getElem?_eq_some_iff.mp hS).1
      have hk6 : H6 b = some (.tup ((keyW S).map kV)) := by rw [keyW_hv]; exact w4 _ _ nbm hb
      refine ⟨_, rfl, m, rfl, .inr ⟨_, .inl w1⟩, _, rfl, _, DGet.t w1 hk6, (getC N S).getD 0, 1, ?_, rfl, _, rfl, _, rfl, m, _, rfl, DPut.t (k := keyW S) w1 hk6 (by unfold kvC; rw [List.length_map]; exact big6 (by omega)), _, addC N S 1, rfl, ?_, w2.add (bx S (List.mem_of_getElem? hS)) (by decide), Nat.le_trans (addC_len N S 1) (by omega), fun F => ?_, w4.trans Keep.dice⟩
      · rw [valC]
        cases getC N S <;> rfl
      · rw [upd_same]
        dsimp only
        rw [putC w2.nd]
      · rw [wsum_add F S 1 w2.nd, w3, take_snoc1 hS, sumL_app, sumL_cons, sumL_nil]
        omega
    · obtain ⟨y2, N, rfl, w1, w2, wl, w3, w4⟩ := hW
      rw [yl] at wl w3
      rw [List.take_length] at w3
      exact ⟨_, rfl, kQ m N _ (fun b o hb => w4 _ _ (ne_of_none hb hm) (e0 _ _ hb)) w1 w2 w3 (by omega)⟩
def spCountedZ : Sp := fun vs H Q _ => ∃ (a : Addr) (is : List Int), vs = [.ref a] ∧ H a = some (.lst (is.map V.int)) ∧ is.length ≤ 300 ∧
  ∀ (m : Addr) N H', Ex H H' → H' m = some (.dK (kvZ N)) → MkZ N → (∀ G, wsumZ N G = sumL is G) → N.length ≤ 300 → Q (.ref m) H'
theorem ok_countedZ (T : Txt K mg) {f : Addr} {fd : FuncData} (D : DefAt K mg "_law_counted" sLCounted ["_law_values"] f fd) : FnOk P w K mg base CX0 1 f fd ["_law_values"] spCountedZ := by
  refine D.F.ok scLCounted (fun vs H Q E h => ?_) (fun cdv A outer s₀ H vs Q E hr h => ?_)
  · obtain ⟨a, is, rfl, _⟩ := h
    rfl
  · obtain ⟨a, is, rfl, ha, l3, kQ⟩ := h
    have hu1 := Nat.lt_of_le_of_lt (Nat.add_le_add_left (show 1 ≤ 64 by decide) _) hr.units
    refine ⟨_, pss_cons (ps_set (i := 1) scLCounted.nd rfl (.inl rfl) pe_dnewK)
      (pss_cons (ps_for PassesOwn.never rfl (pi_list (pv 0)) (pg_name (i := 2) scLCounted.nd rfl (.inl rfl))
        (pss_one (ps_dput hu1 (pv 1) (pv 2) (pe_op op_add (pe_dget2 hu1 (pv 1) (pv 2) pe_int ⟨rfl, rfl, rfl, rfl⟩) pe_int) rfl)))
      (pss_one (ps_ret (pv 1)))), ?_⟩
    intro m hm
    have e0 := Ex.new (o := .dK []) hm
    have gm : (upd H m (.dK [])) m = some (.dK (kvZ [])) := upd_same
    have nam : a ≠ m := ne_of_none ha hm
    have ha1 := e0 _ _ ha
    generalize upd H m (.dK []) = H1 at *
    refine ⟨_, rfl, a, rfl, ⟨_, SqL.of ha1⟩, for_list (K := K) (a := a) (xs := is.map V.int) (fun v σ2 H2 => ∃ (y2 : Option V) (N : List (Int × Int)), σ2 = [some (.ref a), some (.ref m), y2] ∧ H2 m = some (.dK (kvZ N)) ∧ MkZ N ∧ N.length ≤ v ∧ (∀ G, wsumZ N G = sumL (is.take v) G) ∧ Keep m H1 H2)
      ⟨_, [], rfl, gm, MkZ.nil, Nat.le_refl _, fun F => rfl, Keep.refl _ _⟩ (fun v σ2 H2 _ hW => ?_) (fun v y σ2 H6 hy hW => ?_) (fun σ2 H6 hW => ?_)⟩
    · obtain ⟨_, _, _, _, _, _, _, kp⟩ := hW
      exact SqL.of (kp _ _ nam ha1)
    · obtain ⟨y2, N, rfl, w1, w2, wl, w3, w4⟩ := hW
      obtain ⟨hvl, z, hz, rfl⟩ := int_inv hy
      refine ⟨_, rfl, m, rfl, .inl ⟨_, .inl w1⟩, _, rfl, _, DGet.k (k := .inl z) w1, (getZ N z).getD 0, 1, ?_, rfl, _, rfl, _, rfl, m, _, rfl, DPut.k (k := .inl z) w1 (by rw [kvZ_len]; exact small1000 (by omega)), _, addZ N z 1, rfl, ?_, w2.add z (by decide), Nat.le_trans (addZ_len N z 1) (by omega), fun G => ?_, w4.trans Keep.dice⟩
      · rw [valZ]
        cases getZ N z <;> rfl
      · rw [upd_same, putZ w2.nd]
      · rw [wsumZ_add G z 1 w2.nd, w3, take_snoc1 hz, sumL_app, sumL_cons, sumL_nil]
        omega
    · obtain ⟨y2, N, rfl, w1, w2, wl, w3, w4⟩ := hW
      rw [List.length_map] at wl w3
      rw [List.take_length] at w3
      exact ⟨_, rfl, kQ m N _ (fun b o hb => w4 _ _ (ne_of_none hb hm) (e0 _ _ hb)) w1 w2 w3 (by omega)⟩
def spCut2 : Sp := fun vs H Q _ => ∃ (p : Addr) (h : List Nat) (c r : Nat), vs = [.ref p, .int (c : Int), .int (r : Int)] ∧ HeapAt H p h ∧ IsHeap h ∧ h.length ≤ 100 ∧ ∀ (a : Addr) H', Ex H H' → HeapAt H' a (cutH c r h) → Q (.ref a) H'
theorem ok_lcut2 (T : Txt K mg) {f : Addr} {fd : FuncData} (D : DefAt K mg "_law_cut" sLCut ["_law_heap_here", "_law_columns", "_law_rows"] f fd) : FnOk P w K mg base CX0 1 f fd ["_law_heap_here", "_law_columns", "_law_rows"] spCut2 := by
  refine D.F.ok scLCut (fun vs H Q E h => ?_) (fun cdv A outer s₀ H vs Q E hr h => ?_)
  · obtain ⟨p, h, c, r, rfl, _⟩ := h
    rfl
  · obtain ⟨p, h, c, r, rfl, hp, IH, hl, kQ⟩ := h
    refine ⟨_, pss_one (ps_ret (pe_callTy call_tuple_of (by rfl) T.z_tuple (by decide +kernel) (pa_cons (pe_lc (own := [("_law_height", 3)]) (g := gName 3) rfl scLCut.nd (pi_tup (pe_slice sl_tupE (pv 0) po_none (po_some (pv 1))))
        (blkOk_by (N := nLCut) (sc := defScope sLCut) (by decide +kernel)) (fun _ _ _ _ _ => (pg_name (i := 3) scLCut.nd rfl (.inl rfl))) (fun _ _ _ _ _ => pts_one (pt_cmpR op_gt (pv 2) pe_int (nomark _)))
        (fun _ _ _ _ _ => (pe_callB (call_min2 rfl) (by rfl) T.z_min (by decide +kernel) (pa_cons (pv 2) (pa_cons (pv 3) pa_nil))))) pa_nil))), ?_⟩
    refine ⟨_, rfl, _, rfl, _, rfl, p, _, rfl, hp, fun t H1 e1 ht => ?_⟩
    have ct : cutV (hv h) none (some (c : Int)) = hv (h.take c) := by
      unfold cutV
      rw [HT.sIx_nat, HT.sIx_none, hv_len, List.drop_zero, Nat.sub_zero]
      unfold hv
      rw [← List.map_take]
      congr 1
      by_cases z : c ≤ h.length
      · rw [Nat.min_eq_left z]
      · rw [Nat.min_eq_right (by omega), List.take_of_length_le (Nat.le_refl _), List.take_of_length_le (by omega)]
    rw [ct] at ht
    refine ⟨t, rfl, ⟨_, SqT.of ht⟩, fun Dl hD => ?_⟩
    refine lc_tup (K := K) (a := t) (xs := hv (h.take c)) (fun i H' => H' Dl = some (.lst (hv (if 0 < r then ((h.take c).take i).map fun x => min x r else []))) ∧ Ex H1 H') ⟨by rw [upd_same]; split <;> rfl, Ex.new hD⟩ (fun i H' _ hp2 => SqT.of (hp2.2 _ _ ht)) (fun i x H' hx hp2 => ?_) (fun H' hp2 => ?_)
    · obtain ⟨w1, w2⟩ := hp2
      obtain ⟨y, hy, rfl⟩ := hv_inv hx
      have mn : (if (y : Int) < (r : Int) then (y : Int) else (r : Int)) = ((min y r : Nat) : Int) := by split <;> omega
      refine ⟨rfl, _, rfl, _, _, rfl, rfl, _, rfl, ite2 (fun cc => ?_) (fun cc => ?_)⟩
      · have c0 : 0 < r := by
          have := of_decide_eq_true cc
          omega
        rw [if_pos c0] at w1 ⊢
        refine ⟨_, rfl, _, rfl, _, _, rfl, _, w1, ?_, ?_, Ex.mut w2 hD⟩
        · rw [hv_len, List.length_map, List.length_take, List.length_take]
          exact small1000 (by omega)
        · rw [upd_same, mn, take_snoc1 hy, List.map_append]
          exact congrArg (fun z => some (HO.lst z)) (hv_snoc _ _).symm
      · have c0 : ¬ 0 < r := fun z => cc (decide_eq_true (by omega))
        rw [if_neg c0] at w1 ⊢
        exact ⟨w1, w2⟩
    · obtain ⟨w1, w2⟩ := hp2
      rw [hv_len, List.take_of_length_le (Nat.le_refl _)] at w1
      have ce : (if 0 < r then (h.take c).map fun x => min x r else []) = cutH c r h := by
        by_cases z : 0 < r
        · rw [if_pos z, cut_pos z IH]
        · rw [if_neg z, show r = 0 by omega, cut_zero]
      rw [ce] at w1
      exact ⟨Dl, _, rfl, .inl ⟨SqL.of w1, fun a ha => kQ a _ ((e1.trans w2).trans (Ex.new ha)) upd_same⟩⟩
end
end K1

set_option exponentiation.threshold 400
namespace K1
open PySem PySem.Spec PyProof.Rows L2 Evl HM LX
section
variable {P : Program} {w : World} {K : PySem.W.Frag} {mg : Str → Option Value} {base : Heap}
theorem cut_to {xs : List V} {c : Nat} (hc : c ≤ xs.length) : cutV xs none (some (c : Int)) = xs.take c := by
  unfold cutV
  rw [HT.sIx_none, HT.sIx_nat, List.drop_zero, Nat.sub_zero, Nat.min_eq_left hc]
theorem cut_from {xs : List V} {c : Nat} (hc : c ≤ xs.length) : cutV xs (some (c : Int)) none = xs.drop c := by
  unfold cutV
  rw [HT.sIx_none, HT.sIx_nat, Nat.min_eq_left hc]
  exact List.take_of_length_le (by rw [List.length_drop]; exact Nat.le_refl _)
theorem at_lastV {xs : List V} {x : V} (hl : 1 ≤ xs.length) (h : xs[xs.length - 1]? = some x) : atI xs (-1) = some x := by
  have hn : xs ≠ [] := fun z => by
    subst z
    exact absurd hl (by decide)
  obtain ⟨a, b, rfl⟩ : ∃ a b, xs = a ++ [b] := ⟨xs.dropLast, xs.getLast hn, (List.dropLast_concat_getLast hn).symm⟩
  rw [List.length_append, List.length_singleton, Nat.add_sub_cancel, List.getElem?_append_right (Nat.le_refl _), Nat.sub_self] at h
  obtain rfl := Option.some.inj h
  exact atI_last _ _
end
end K1

set_option exponentiation.threshold 400
namespace K1
open PySem PySem.Spec PyProof.Rows L2 Evl HM LX ZW TE DR
theorem nAt_app {rs : List (Int × Int)} {n s : Int} {j : Nat} (h : j < rs.length) : K1N.nAt (rs ++ [(n, s)]) j = K1N.nAt rs j := by
  unfold K1N.nAt
  rw [List.getD_eq_getElem?_getD, List.getD_eq_getElem?_getD, List.getElem?_append_left h]
theorem nAt_last {rs : List (Int × Int)} {n s : Int} : K1N.nAt (rs ++ [(n, s)]) rs.length = n.toNat := by
  unfold K1N.nAt
  rw [List.getD_eq_getElem?_getD, List.getElem?_append_right (Nat.le_refl _), Nat.sub_self]
  rfl
theorem prod_appL {rs : List (Int × Int)} {n s : Int} : ∀ i, i ≤ rs.length → prodL (rs ++ [(n, s)]) i = prodL rs i
  | 0, _ => rfl
  | i + 1, h => by
    show prodL (rs ++ [(n, s)]) i * K1N.nAt (rs ++ [(n, s)]) i = _
    rw [prod_appL i (by omega), nAt_app (by omega)]
    rfl
theorem prod_app1 (rs : List (Int × Int)) (n s : Int) : prodL (rs ++ [(n, s)]) (rs.length + 1) = prodL rs rs.length * n.toNat := by
  show prodL (rs ++ [(n, s)]) rs.length * K1N.nAt (rs ++ [(n, s)]) rs.length = _
  rw [prod_appL _ (Nat.le_refl _), nAt_last]
section
variable {P : Program} {w : World} {K : PySem.W.Frag} {mg : Str → Option Value} {base : Heap}
def spLow : Sp := fun vs H Q _ => ∃ (d : Addr), vs = [.ref d, .int 160] ∧ Dice H d ∧ ∀ (c : Addr) (xs : List V) (rs : List (Int × Int)) H', H' c = some (.tup xs) → RingsAt H' 60 xs rs → 1 ≤ xs.length → xs.length ≤ 4 → prodL rs xs.length ≤ 160 → Dice H' d → Keep d H H' → Q (.ref c) H'
theorem ok_low_chain (T : Txt K mg) {f : Addr} {fd : FuncData} (D : DefAt K mg "_law_low_chain" sLLowChain ["_law_dice_here", "_law_most"] f fd) : FnOk P w K mg base CX0 5 f fd ["_law_dice_here", "_law_most"] spLow := by
  refine D.F.ok scLLowChain (fun vs H Q E h => ?_) (fun cdv A outer s₀ H vs Q E hr h => ?_)
  · obtain ⟨d, rfl, _⟩ := h
    rfl
  · obtain ⟨d, rfl, hd, kQ⟩ := h
    obtain ⟨f1, fd1, D1⟩ := T.d_l_roll
    obtain ⟨f2, fd2, D2⟩ := T.d_l_chain
    have hr1 : Room 1 _ := hr.mono (by decide)
    have hr4 : Room 4 _ := hr.mono (by decide)
    refine ⟨_, pss_cons (ps_asg (pe_tup (pa_cons (pe_tup pa_nil) (pa_cons pe_int pa_nil))) (pg_tup (by rfl) (pgs_cons (pg_name (i := 2) scLLowChain.nd rfl (.inl rfl)) (pgs_cons (pg_name (i := 3) scLLowChain.nd rfl (.inl rfl)) pgs_nil))))
      (pss_cons (ps_for PassesOwn.never rfl (pi_range1 (by rfl) T.z_range (pa_cons (pe_op op_add pe_int (pe_call (ok_roll T D1) hr1 (by rfl) D1.g D1.F.kp D1.b .nil pass0 (pa_cons (pv 0) (pa_cons pe_int pa_nil)))) pa_nil)) (pg_name (i := 4) scLLowChain.nd rfl (.inl rfl))
        (pss_cons (ps_asg (pe_ix ix_tup (pe_call (ok_chain T D2) hr4 (by rfl) D2.g D2.F.kp D2.b .nil pass0 (pa_cons (pv 0) (pa_cons pe_int (pa_cons pe_int pa_nil)))) pe_int (fun _ _ => rfl)) (pg_tup (by rfl) (pgs_cons (pg_name (i := 5) scLLowChain.nd rfl (.inl rfl)) (pgs_cons (pg_name (i := 6) scLLowChain.nd rfl (.inl rfl)) pgs_nil))))
      (pss_one (ps_if (PW.pt (pw_or (pt_cmpR op_le (pe_op op_mul (pv 3) (pv 5)) (pv 1) (nomark _))
          (pw_or1 (pt_cmpR op_le (pe_op op_mul (pv 3) pe_int) (pv 1) (nomark _))))) (pss_cons (ps_set (i := 2) scLLowChain.nd rfl (.inl rfl) (pe_op op_catE (pv 2) (pe_tup (pa_cons (pe_ifExp (pt_cmpR op_le (pe_op op_mul (pv 3) (pv 5)) (pv 1) (nomark _)) (pe_tup (pa_cons (pv 5) (pa_cons (pv 6) pa_nil))) (pe_tup (pa_cons pe_int (pa_cons pe_int pa_nil)))) pa_nil))))
      (pss_one (ps_set (i := 3) scLLowChain.nd rfl (.inl rfl) (pe_op op_mul (pv 3) (pe_ix ix_tup (pe_ix ix_tup (pv 2) (pe_un un_neg pe_int) (fun _ _ => rfl)) pe_int (fun _ _ => rfl)))))) pss_nil))))
      (pss_one (ps_ret (pv 2)))), ?_⟩
    refine ⟨by show 0 ≤ sizeLine; decide, fun t0 ht0 => ⟨by show 2 ≤ sizeLine; decide, fun t9 ht9 => ?_⟩⟩
    have x0 := (Ex.new (o := .tup []) ht0).trans (Ex.new (o := .tup [V.ref t0, V.int 1]) ht9)
    have g0 : (upd (upd H t0 (.tup [])) t9 (.tup [V.ref t0, V.int 1])) t0 = some (.tup []) := (Ex.new (o := .tup [V.ref t0, V.int 1]) ht9) _ _ upd_same
    have g9 : (upd (upd H t0 (.tup [])) t9 (.tup [V.ref t0, V.int 1])) t9 = some (.tup [V.ref t0, V.int 1]) := upd_same
    have hd0 := hd.ex x0
    generalize upd (upd H t0 (.tup [])) t9 (.tup [V.ref t0, V.int 1]) = H0 at *
    refine ⟨t9, _, rfl, SqT.of g9, rfl, V.ref t0, [_], rfl, V.int 1, [], rfl, rfl, ?_⟩
    refine ⟨_, rfl, d, _, rfl, hd0, by decide, by decide, fun r0 H1 r00 r01 hd1 k1 => ⟨_, _, rfl, rfl, _, rfl, by omega, by omega, ?_⟩⟩
    have nt0 : H1 t0 = some (.tup []) := k1.tup hd0 g0
    refine for_range (lo := 0) (n := (2 + r0).toNat) (fun i σ' H' => ∃ (t : Addr) (xs : List V) (rs : List (Int × Int)) (y4 y5 y6 : Option V), σ' = [some (.ref d), some (.int 160), some (.ref t), some (.int (prodL rs xs.length : Int)), y4, y5, y6] ∧ H' t = some (.tup xs) ∧ RingsAt H' 60 xs rs ∧ xs.length ≤ i ∧ (1 ≤ i → 1 ≤ xs.length) ∧ prodL rs xs.length ≤ 160 ∧ (i = 0 → xs.length = 0) ∧ Dice H' d ∧ Keep d H H')
      ⟨t0, [], [], _, _, _, rfl, nt0, .nil, Nat.le_refl _, fun z => absurd z (by decide), by decide, fun _ => rfl, hd1, (Keep.ex x0).trans k1⟩ (fun i σ' H' hi hW => ?_) (fun σ' H' hW => ?_)
    · obtain ⟨t, xs, rs, y4, y5, y6, rfl, ht, hR, li, l1, pb, z0, hd', kp⟩ := hW
      refine ⟨_, rfl, d, 1, 6, rfl, hd', by decide, by decide, by decide, by decide, fun p ys qs H2 hp hR6 hl hd2 k2 => ?_⟩
      have hl1 : ys.length = 1 := by omega
      obtain ⟨y, rfl⟩ : ∃ y, ys = [y] := List.length_eq_one_iff.mp hl1
      obtain ⟨q, qs', rfl⟩ : ∃ q r, qs = q :: r := by
        cases hR6 with
        | cons h _ => exact ⟨_, _, rfl⟩
      obtain ⟨n, s⟩ := q
      have hring : RingAt H2 6 y n s := by
        cases hR6 with
        | cons h _ => exact h
      obtain ⟨ry, rfl, hry, q1, q2, q3, q4⟩ := hring
      have kp2 := kp.trans k2
      have ht2 := k2.tup hd' ht
      have hR2 : RingsAt H2 60 xs rs := paired_imp (fun _ _ z => RingAt.keep k2 hd' z) hR
      refine ⟨p, _, 0, _, rfl, rfl, SqT.of hp, rfl, ry, _, rfl, SqT.of hry, rfl, _, [_], rfl, _, [], rfl, rfl, ?_⟩
      have hlen := paired_len hR2
      have pz : ∀ n' s' : Int, 0 ≤ n' → (prodL (rs ++ [(n', s')]) (xs.length + 1) : Int) = (prodL rs xs.length : Int) * n' := fun n' s' h0 => by
        rw [hlen, prod_app1, Int.natCast_mul, Int.toNat_of_nonneg h0]
      refine ⟨_, rfl, _, rfl, _, _, rfl, rfl, .inl ⟨by omega, by omega⟩, _, rfl, _, _, rfl, rfl, _, rfl, ite2 (fun cc => ?_) (fun cc => ?_)⟩
      · have c1 := of_decide_eq_true cc
        refine iteT ⟨_, rfl, _, rfl, _, rfl, _, _, rfl, rfl, .inl ⟨by omega, by omega⟩, _, rfl, _, _, rfl, rfl, _, rfl, ?_⟩
        rw [cc]
        refine iteT ⟨_, rfl, _, rfl, by show 2 ≤ sizeLine; decide, fun z hz => ⟨by show 1 ≤ sizeLine; decide, fun w hw => ?_⟩⟩
        have xz := (Ex.new (o := .tup [V.int n, V.int s]) hz).trans (Ex.new (o := .tup [V.ref z]) hw)
        refine ⟨t, w, xs, [_], rfl, rfl, xz _ _ ht2, upd_same, sz_of (by show xs.length + 1 ≤ _; omega), fun u H3 e3 hu => ?_⟩
        have hz3 := e3 _ _ ((Ex.new (o := .tup [V.ref z]) hw) _ _ upd_same)
        have e23 := xz.trans e3
        have pe := pz n s (by omega)
        refine ⟨_, rfl, _, rfl, 1, rfl, u, _, -1, _, rfl, rfl, SqT.of hu, atI_last _ _, z, _, 0, _, rfl, rfl, SqT.of hz3, rfl, _, _, rfl, rfl, .inl ⟨by omega, by omega⟩, ?_⟩
        refine ⟨u, xs ++ [V.ref z], rs ++ [(n, s)], some (.int (0 + (i : Int))), some (.int n), some (.int s), ?_, hu, paired_snoc (R := fun x (r : Int × Int) => RingAt H3 60 x r.1 r.2) (y := (n, s)) ⟨z, rfl, hz3, q1, by omega, q3, q4⟩ (rings_ex4 e23 hR2), by rw [List.length_append]; show xs.length + 1 ≤ _; omega, fun _ => by rw [List.length_append]; exact Nat.le_add_left _ _, ?_, fun z => absurd z (Nat.succ_ne_zero i), hd2.ex e23, kp2.trans (Keep.ex e23)⟩
        · rw [List.length_append]
          show _ = [some (V.ref d), some (V.int 160), some (V.ref u), some (V.int (prodL (rs ++ [(n, s)]) (xs.length + 1) : Int)), _, _, _]
          rw [pe]
          rfl
        · rw [List.length_append]
          show prodL (rs ++ [(n, s)]) (xs.length + 1) ≤ 160
          omega
      · have c1 : ¬ (prodL rs xs.length : Int) * n ≤ 160 := fun z => cc (decide_eq_true z)
        refine ⟨_, rfl, _, _, rfl, rfl, .inl ⟨by omega, by omega⟩, _, rfl, _, _, rfl, rfl, _, rfl, ite2 (fun c2 => ?_) (fun c2 => ?_)⟩
        · have c3 := of_decide_eq_true c2
          refine ⟨_, rfl, _, rfl, _, rfl, _, _, rfl, rfl, .inl ⟨by omega, by omega⟩, _, rfl, _, _, rfl, rfl, _, rfl, ?_⟩
          rw [decide_eq_false c1]
          refine iteF ⟨by show 2 ≤ sizeLine; decide, fun z hz => ⟨by show 1 ≤ sizeLine; decide, fun w hw => ?_⟩⟩
          have xz := (Ex.new (o := .tup [V.int 2, V.int 1]) hz).trans (Ex.new (o := .tup [V.ref z]) hw)
          refine ⟨t, w, xs, [_], rfl, rfl, xz _ _ ht2, upd_same, sz_of (by show xs.length + 1 ≤ _; omega), fun u H3 e3 hu => ?_⟩
          have hz3 := e3 _ _ ((Ex.new (o := .tup [V.ref z]) hw) _ _ upd_same)
          have e23 := xz.trans e3
          have pe := pz 2 1 (by omega)
          refine ⟨_, rfl, _, rfl, 1, rfl, u, _, -1, _, rfl, rfl, SqT.of hu, atI_last _ _, z, _, 0, _, rfl, rfl, SqT.of hz3, rfl, _, _, rfl, rfl, .inl ⟨by omega, by omega⟩, ?_⟩
          refine ⟨u, xs ++ [V.ref z], rs ++ [(2, 1)], some (.int (0 + (i : Int))), some (.int n), some (.int s), ?_, hu, paired_snoc (R := fun x (r : Int × Int) => RingAt H3 60 x r.1 r.2) (y := (2, 1)) ⟨z, rfl, hz3, by decide, by decide, by decide, by decide⟩ (rings_ex4 e23 hR2), by rw [List.length_append]; show xs.length + 1 ≤ _; omega, fun _ => by rw [List.length_append]; exact Nat.le_add_left _ _, ?_, fun z => absurd z (Nat.succ_ne_zero i), hd2.ex e23, kp2.trans (Keep.ex e23)⟩
          · rw [List.length_append]
            show _ = [some (V.ref d), some (V.int 160), some (V.ref u), some (V.int (prodL (rs ++ [(2, 1)]) (xs.length + 1) : Int)), _, _, _]
            rw [pe]
            rfl
          · rw [List.length_append]
            show prodL (rs ++ [(2, 1)]) (xs.length + 1) ≤ 160
            omega
        · have c3 : ¬ (prodL rs xs.length : Int) * 2 ≤ 160 := fun z => c2 (decide_eq_true z)
          refine ⟨t, xs, rs, _, _, _, rfl, ht2, hR2, by omega, fun _ => ?_, pb, fun z => absurd z (Nat.succ_ne_zero i), hd2, kp2⟩
          by_cases y : i = 0
          · exfalso
            have := z0 y
            rw [this] at c3
            exact c3 (show ((1 : Nat) : Int) * 2 ≤ 160 by decide)
          · exact l1 (by omega)
    · obtain ⟨t, xs, rs, y4, y5, y6, rfl, ht, hR, li, l1, pb, z0, hd', kp⟩ := hW
      exact ⟨_, rfl, kQ t xs rs _ ht hR (l1 (by omega)) (by omega) pb hd' kp⟩
end
end K1

set_option exponentiation.threshold 400
namespace K1
open PySem PySem.Spec PyProof.Rows L2 Evl HM LX ZW TE DR
def lw (h : List Nat) (j : Nat) : List Nat := (List.range h.length).map fun c => hAt h c - b2n (decide (c = j))
theorem lw_is {h : List Nat} {j : Nat} (hj : j < h.length) : h.take j ++ [hAt h j - 1] ++ h.drop (j + 1) = lw h j := by
  unfold lw
  refine List.ext_getElem? fun c => ?_
  rw [List.getElem?_map]
  have lt : (h.take j).length = j := by rw [List.length_take]; omega
  have l2 : (h.take j ++ [hAt h j - 1]).length = j + 1 := by rw [List.length_append, lt]; rfl
  rcases Nat.lt_trichotomy c j with z | z | z
  · rw [List.append_assoc, List.getElem?_append_left (by omega), List.getElem?_take, if_pos z, List.getElem?_range (by omega), hAt_lt (by omega)]
    show _ = some (hAt h c - b2n (decide (c = j)))
    rw [decide_eq_false (show ¬ c = j by omega)]
    rfl
  · subst z
    rw [List.getElem?_append_left (by omega), List.getElem?_append_right (by omega), lt, Nat.sub_self, List.getElem?_range (by omega)]
    show some (hAt h c - 1) = some (hAt h c - b2n (decide (c = c)))
    rw [decide_eq_true rfl]
    rfl
  · rw [List.getElem?_append_right (by omega), l2, List.getElem?_drop, show j + 1 + (c - (j + 1)) = c by omega]
    by_cases y : c < h.length
    · rw [hAt_lt y, List.getElem?_range y]
      show _ = some (hAt h c - b2n (decide (c = j)))
      rw [decide_eq_false (show ¬ c = j by omega)]
      rfl
    · rw [List.getElem?_eq_none (by omega), List.getElem?_eq_none (by rw [List.length_range]; omega)]
      rfl
theorem lw_shr (h : List Nat) (j : Nat) : (lw h j).filter (fun x => decide (0 < x)) = shr1 h j := rfl
theorem hv_app (a b : List Nat) : hv (a ++ b) = hv a ++ hv b := by
  unfold hv
  rw [List.map_append]
theorem tips_next (h : List Nat) (i : Nat) : (List.range (i + 1)).filter (rmv h) = (List.range i).filter (rmv h) ++ (if rmv h i = true then [i] else []) := by
  rw [List.range_succ, List.filter_append, List.filter_cons]
  rfl
theorem rmv_of {h : List Nat} {c : Nat} (z : hAt h (c + 1) < hAt h c) : rmv h c = true := decide_eq_true z
theorem rmv_no {h : List Nat} {c : Nat} (z : ¬ hAt h (c + 1) < hAt h c) : rmv h c = false := decide_eq_false z
section
variable {P : Program} {w : World} {K : PySem.W.Frag} {mg : Str → Option Value} {base : Heap}
def spLStd : Sp := fun vs H Q _ => ∃ (p : Addr) (h : List Nat) (n c r : Nat), vs = [.ref p] ∧ HeapAt H p h ∧ Bx c r h ∧ (n : Int) = sq c h ∧ h.sum = n ∧ n ≤ 8 ∧ c ≤ 6 ∧ r ≤ 6 ∧ 0 < fill n h ∧ ∀ H', Ex H H' → Q (.int (fill n h)) H'
theorem ok_lstandard (T : Txt K mg) {f : Addr} {fd : FuncData} (D : DefAt K mg "_law_standard" sLStandard ["_law_heap_here"] f fd) : FnOk P w K mg base CX0 2 f fd ["_law_heap_here"] spLStd := by
  refine D.F.ok scLStandard (fun vs H Q E h => ?_) (fun cdv A outer s₀ H vs Q E hr h => ?_)
  · obtain ⟨p, h, n, c, r, rfl, _⟩ := h
    rfl
  · obtain ⟨p, h0, n, c, r, rfl, hp, B0, hn, hs, n8, c6, r6, f0, kQ⟩ := h
    have hu1 := Nat.lt_of_le_of_lt (Nat.add_le_add_left (show 1 ≤ 64 by decide) _) hr.units
    refine ⟨_, pss_cons (ps_par (i := 1) (j := 2) (by rfl) scLStandard.nd rfl rfl (by decide) rfl rfl (pa_cons (pe_disp1T hr.units0 (pe_callTy call_tuple_of (by rfl) T.z_tuple (by decide +kernel) (pa_cons (pv 0) pa_nil)) pe_int) (pa_cons (pe_callB (ST.cr_sumT rfl) (by rfl) T.z_sum (by decide +kernel) (pa_cons (pv 0) pa_nil)) pa_nil)) (by rfl))
      (pss_cons (ps_while PassesOwn.never (pt_cmpR op_gt (pv 2) pe_int (nomark _)) (pss_cons (ps_set (i := 3) scLStandard.nd rfl (.inl rfl) pe_dnewT)
      (pss_cons (ps_lock (ps_for PassesOwn.never rfl (pi_keys (pv 1)) (pg_name (i := 4) scLStandard.nd rfl (.inl rfl))
        (pss_one (ps_for PassesOwn.never rfl (pi_range1 (by rfl) T.z_range (pa_cons (pe_callB call_len_seq (by rfl) T.z_len PySem.boot_len (pa_cons (pv 4) pa_nil)) pa_nil)) (pg_name (i := 5) scLStandard.nd rfl (.inl rfl))
        (pss_one (ps_if (PW.pt (pw_or (pt_cmpR op_eq (pe_op op_add (pv 5) pe_int) (pe_callB call_len_seq (by rfl) T.z_len PySem.boot_len (pa_cons (pv 4) pa_nil)) (nomark _))
          (pw_or1 (pt_cmpR op_lt (pe_ix ix_tup (pv 4) (pe_op op_add (pv 5) pe_int) (fun _ _ => rfl)) (pe_ix ix_tup (pv 4) (pv 5) (fun _ _ => rfl)) (nomark _))))) (pss_cons (ps_set (i := 6) scLStandard.nd rfl (.inl rfl) (pe_op op_catE (pe_op op_catE (pe_slice sl_tupE (pv 4) po_none (po_some (pv 5))) (pe_tup (pa_cons (pe_op op_sub (pe_ix ix_tup (pv 4) (pv 5) (fun _ _ => rfl)) pe_int) pa_nil))) (pe_slice sl_tupE (pv 4) (po_some (pe_op op_add (pv 5) pe_int)) po_none)))
      (pss_cons (ps_set (i := 6) scLStandard.nd rfl (.inl rfl) (pe_callTy call_tuple_of (by rfl) T.z_tuple (by decide +kernel) (pa_cons (pe_lc (own := [("_law_height", 7)]) (g := gName 7) rfl scLStandard.nd (pi_tup (pv 6))
        (blkOk_by (N := nLStandard) (sc := defScope sLStandard) (by decide +kernel)) (fun _ _ _ _ _ => (pg_name (i := 7) scLStandard.nd rfl (.inl rfl))) (fun _ _ _ _ _ => pts_one (pt_cmpR op_gt (pv 7) pe_int (nomark _)))
        (fun _ _ _ _ _ => (pv 7))) pa_nil)))
      (pss_one (ps_dput hu1 (pv 3) (pv 6) (pe_op op_add (pe_dget2 hu1 (pv 3) (pv 6) pe_int ⟨rfl, rfl, rfl, rfl⟩) (pe_dget hu1 (pv 1) (pv 4) (fun _ _ => rfl))) rfl)))) pss_nil))))))
      (pss_one (ps_par (i := 1) (j := 2) (by rfl) scLStandard.nd rfl rfl (by decide) rfl rfl (pa_cons (pv 3) (pa_cons (pe_op op_sub (pv 2) pe_int) pa_nil)) (by rfl))))))
      (pss_one (ps_ret (pe_dget hu1 (pv 1) (pe_tup pa_nil) (fun _ _ => rfl))))), ?_⟩
    have pw := pow_few c6 r6
    intro d hd
    have xd := Ex.new (o := .dT []) hd
    have hp1 := xd _ _ hp
    refine ⟨_, rfl, p, _, rfl, .inr ⟨SqT.of hp1, ?_⟩⟩
    refine ⟨p, keyW h0, rfl, by rw [keyW_hv]; exact hp1, upd_same, ?_⟩
    have g0 : (upd (upd H d (.dT [])) d (.dT [(keyW h0, V.int 1)])) d = some (.dT (kvC [(h0, 1)])) := upd_same
    have eA : Ex H (upd (upd H d (.dT [])) d (.dT [(keyW h0, V.int 1)])) := Ex.mut xd hd
    generalize upd (upd H d (.dT [])) d (.dT [(keyW h0, V.int 1)]) = H1 at *
    have hp2 := eA _ _ hp
    unfold HeapAt at hp2
    have hp3 := hp2
    rw [CI.hvI2] at hp3
    refine ⟨_, rfl, p, _, rfl, SqT.of hp3, ?_⟩
    rw [sum_cast h0, hs]
    refine ⟨_, _, rfl, ?_⟩
    refine ⟨fun m σ' H' => ∃ (d : Addr) (N : List (List Nat × Int)) (y3 y4 y5 y6 : Option V), m ≤ n ∧ σ' = [some (.ref p), some (.ref d), some (.int (m : Int)), y3, y4, y5, y6, none] ∧ H' d = some (.dT (kvC N)) ∧ Mk c r N ∧ (∀ x ∈ N, sq c x.1 = m) ∧ wsum N (fill m) = fill n h0 ∧ Ex H1 H', ⟨n, d, [(h0, 1)], none, none, none, none, Nat.le_refl _, rfl, g0, ⟨by simp, fun x hx => by rw [List.mem_singleton.mp hx]; show (0 : Int) < 1; decide, fun x hx => by rw [List.mem_singleton.mp hx]; exact B0⟩, fun x hx => by rw [List.mem_singleton.mp hx]; exact hn.symm, ?_, Ex.refl _⟩, fun m σ' H' hW => ?_⟩
    · unfold wsum
      rw [sumL_cons, sumL_nil]
      show (1 : Int) * fill n h0 + 0 = _
      omega
    obtain ⟨d, N, y3, y4, y5, y6, mn, rfl, hd', mk, sz, ws, ee⟩ := hW
    have Nf := mk.few
    refine ⟨_, rfl, _, _, rfl, rfl, _, rfl, ite2 (fun cc => ?_) (fun cc => ?_)⟩
    · have m0 : 0 < m := by have := of_decide_eq_true cc; omega
      obtain ⟨k, rfl⟩ : ∃ k, m = k + 1 := ⟨m - 1, by omega⟩
      refine ⟨fun σ2 H2 => ∃ (d : Addr) (N : List (List Nat × Int)) (y3 y4 y5 y6 : Option V), σ2 = [some (.ref p), some (.ref d), some (.int (k : Int)), y3, y4, y5, y6, none] ∧ H2 d = some (.dT (kvC N)) ∧ Mk c r N ∧ (∀ x ∈ N, sq c x.1 = k) ∧ wsum N (fill k) = fill n h0 ∧ Ex H1 H2, fun σ2 H2 hN => ?_, ?_⟩
      · obtain ⟨d, N, y3, y4, y5, y6, a1, a2, a3, a4, a5, a6⟩ := hN
        exact ⟨k, Nat.lt_succ_self k, d, N, y3, y4, y5, y6, by omega, a1, a2, a3, a4, a5, a6⟩
      intro m hm
      have nmd : d ≠ m := ne_of_none hd' hm
      have e3 := Ex.new (o := .dT []) hm
      refine ⟨d, _, e3 _ _ hd', trivial, fun od => ?_⟩
      have k0 : Keep d H' (upd (upd H' m (.dT [])) d (.frz od (.dT (kvC N)))) := (Keep.ex e3).trans keep_lock
      have s0 : (upd (upd H' m (.dT [])) d (.frz od (.dT (kvC N)))) m = some (.dT (kvC [])) := (upd_ne nmd.symm).trans upd_same
      have fz0 : (upd (upd H' m (.dT [])) d (.frz od (.dT (kvC N)))) d = some (.frz od (.dT (kvC N))) := upd_same
      generalize upd (upd H' m (.dT [])) d (.frz od (.dT (kvC N))) = H2 at *
      have kl : (kvC N).length = N.length := List.length_map ..
      refine ⟨_, rfl, d, od, rfl, .inr ⟨_, fz0, for_it walk_keysT (fun v σ2 H2 => ∃ (y4 y5 y6 : Option V) (M : List (List Nat × Int)), σ2 = [some (.ref p), some (.ref d), some (.int ((k + 1 : Nat) : Int)), some (.ref m), y4, y5, y6, none] ∧ H2 m = some (.dT (kvC M)) ∧ Mk c r M ∧ (∀ x ∈ M, sq c x.1 = k) ∧ (∀ F, wsum M F = sumL (N.take v) fun x => sumL (tipsC x.1) fun j => x.2 * F (shr1 x.1 j)) ∧ H2 d = some (.frz od (.dT (kvC N))) ∧ Keep d H' H2)
        ⟨_, _, _, [], rfl, s0, Mk.nil c r, fun x hx => absurd hx (by simp), fun F => rfl, fz0, k0⟩ (fun v σ2 H2 _ hW => ?_) (fun v x σ2 H2 H3 hv1 hW hy => ?_) (fun σ2 H2 hW => ?_)⟩⟩
      · obtain ⟨_, _, _, _, _, _, _, _, _, fz, _⟩ := hW
        exact fz
      · obtain ⟨y4, y5, y6, M, rfl, w1, w2, wz, w3, w4, w5⟩ := hW
        obtain ⟨rfl, ky, v', b, hkv, rfl, hb⟩ := hy
        have iL : v < N.length := by rw [kl] at hv1; exact hv1
        obtain ⟨x, hx2, rfl, rfl⟩ := kvC_at hkv
        have hxm := List.mem_of_getElem? hx2
        have px := mk.pos x hxm
        have Bx' := mk.bx x hxm
        have xsz := sz x hxm
        have xl := Bx'.len
        have hb0 : HeapAt H3 b x.1 := by
          unfold HeapAt
          rw [← keyW_hv]
          exact hb
        have nbm : b ≠ m := ne_of hb0 w1 (by intro z; cases z)
        refine ⟨_, rfl, b, _, rfl, .inr (SqT.of hb0), _, rfl, by omega, by rw [hv_len]; omega, ?_⟩
        rw [hv_len]
        refine for_range (lo := 0) (n := (x.1.length : Int).toNat) (fun z σ3 H6 => ∃ (y5 y6 : Option V) (M2 : List (List Nat × Int)), σ3 = [some (.ref p), some (.ref d), some (.int ((k + 1 : Nat) : Int)), some (.ref m), some (.ref b), y5, y6, none] ∧ H6 m = some (.dT (kvC M2)) ∧ Mk c r M2 ∧ (∀ x ∈ M2, sq c x.1 = k) ∧ (∀ F, wsum M2 F = sumL (N.take v) (fun x => sumL (tipsC x.1) fun j => x.2 * F (shr1 x.1 j)) + sumL ((List.range z).filter (rmv x.1)) fun j => x.2 * F (shr1 x.1 j)) ∧ Keep m H3 H6)
          ⟨_, _, M, rfl, w1, w2, wz, fun F => by rw [w3]; exact (Int.add_zero _).symm, Keep.refl _ _⟩ (fun z σ3 H6 hz hW => ?_) (fun σ3 H6 hW => ?_)
        · obtain ⟨y5, y6, M2, rfl, u1, u2, uz, u3, u4⟩ := hW
          have zl : z < x.1.length := by omega
          have hb6 : HeapAt H6 b x.1 := u4 _ _ nbm hb0
          have z0 : (0 : Int) + (z : Int) = ((z : Nat) : Int) := Int.zero_add _
          have nx := tips_next x.1 z
          have fz6 := u4 _ _ nmd w4
          have mf := u2.few
          have noT : rmv x.1 z = false → ∀ y7 : Option V, (∃ (y5 y6 : Option V) (M2 : List (List Nat × Int)), [some (.ref p), some (.ref d), some (.int ((k + 1 : Nat) : Int)), some (.ref m), some (.ref b), some (.int (0 + (z : Int))), y7, none] = [some (.ref p), some (.ref d), some (.int ((k + 1 : Nat) : Int)), some (.ref m), some (.ref b), y5, y6, none] ∧ H6 m = some (.dT (kvC M2)) ∧ Mk c r M2 ∧ (∀ x ∈ M2, sq c x.1 = k) ∧ (∀ F, wsum M2 F = sumL (N.take v) (fun x => sumL (tipsC x.1) fun j => x.2 * F (shr1 x.1 j)) + sumL ((List.range (z + 1)).filter (rmv x.1)) fun j => x.2 * F (shr1 x.1 j)) ∧ Keep m H3 H6) := fun rf y7 => by
            rw [nx, rf]
            exact ⟨some (.int (0 + (z : Int))), y7, M2, rfl, u1, u2, uz, fun F => by rw [u3, if_neg (by decide), List.append_nil], u4⟩
          refine ⟨_, rfl, _, _, rfl, rfl, _, rfl, b, _, rfl, .inr (SqT.of hb6), rfl, _, rfl, ?_⟩
          refine ite2 (fun cc => ?a1) (fun cc => ?b1)
          case' a1 =>
            have tip : rmv x.1 z = true := by
              have c1 : z + 1 = x.1.length := by
                have := V.int.inj (of_decide_eq_true cc)
                rw [hv_len] at this
                omega
              exact rmv_of (by rw [hAt_ge (show x.1.length ≤ z + 1 by omega)]; exact Bx'.heap.pos z zl)
            refine iteT ?_
          case' b1 =>
            have c1 : ¬ z + 1 = x.1.length := fun e => cc (decide_eq_true (by rw [hv_len, ← e]; show V.int (0 + (z : Int) + 1) = V.int ((z + 1 : Nat) : Int); congr 1; omega))
            refine ⟨_, rfl, _, rfl, _, _, rfl, rfl, b, _, _, _, rfl, rfl, SqT.of hb6, at_of (show 0 + (z : Int) + 1 = ((z + 1 : Nat) : Int) by omega) (hv_get (show z + 1 < x.1.length by omega)), _, rfl, _, rfl, b, _, _, _, rfl, rfl, SqT.of hb6, at_of z0 (hv_get zl), _, _, rfl, rfl, _, rfl, ite2 (fun c2 => ?c1) (fun c2 => ?d1)⟩
          case' c1 =>
            have tip : rmv x.1 z = true := rmv_of (Int.ofNat_lt.mp (of_decide_eq_true c2))
          case' d1 =>
            have rf : rmv x.1 z = false := rmv_no (fun y => c2 (decide_eq_true (Int.ofNat_lt.mpr y)))
            exact noT rf y6
          all_goals
            have h1 : 1 ≤ hAt x.1 z := Bx'.heap.pos z zl
            have ltn := hv_len x.1
            refine ⟨_, rfl, _, rfl, _, rfl, b, _, rfl, hb6, fun t1 A1 e1 q1 => ⟨_, rfl, _, rfl, b, _, _, _, rfl, rfl, SqT.of (e1 _ _ hb6), at_of z0 (hv_get zl), _, _, rfl, rfl, by show 1 ≤ sizeLine; decide, fun t2 ht2 => ?_⟩⟩
            rw [z0, cut_to (by omega)] at q1
            have e2 := Ex.new (o := .tup [.int ((hAt x.1 z : Int) - 1)]) ht2
            refine ⟨t1, t2, _, _, rfl, rfl, e2 _ _ q1, upd_same, ?_, fun t3 A3 e4 q3 => ?_⟩
            · rw [List.length_take]
              exact Nat.le_trans (show _ ≤ 200 by show min z _ + 1 ≤ 200; omega) (by decide)
            have b3 := e4 _ _ (e2 _ _ (e1 _ _ hb6))
            refine ⟨_, rfl, _, rfl, _, _, rfl, rfl, _, rfl, b, _, rfl, b3, fun t4 A4 e5 q4 => ?_⟩
            rw [show 0 + (z : Int) + 1 = ((z + 1 : Nat) : Int) by omega, cut_from (by omega)] at q4
            have q34 := e5 _ _ q3
            have wsE : List.take z (hv x.1) ++ [V.int ((hAt x.1 z : Int) - 1)] ++ List.drop (z + 1) (hv x.1) = hv (lw x.1 z) := by
              rw [← lw_is zl, hv_app, hv_app]
              unfold hv
              rw [List.map_take, List.map_drop]
              congr 2
              show [V.int ((hAt x.1 z : Int) - 1)] = [V.int ((hAt x.1 z - 1 : Nat) : Int)]
              rw [Int.ofNat_sub h1]
              rfl
            refine ⟨t3, t4, _, _, rfl, rfl, q34, q4, ?_, fun t5 A5 e6 q5 => ?_⟩
            · rw [List.length_append, List.length_take, List.length_drop]
              exact Nat.le_trans (show _ ≤ 200 by show min z _ + 1 + _ ≤ 200; omega) (by decide)
            have q5' : A5 t5 = some (.tup (hv (lw x.1 z))) := by
              rw [q5]
              exact congrArg (fun q => some (HO.tup q)) wsE
            have e66 : Ex H6 A5 := ((((e1.trans e2).trans e4).trans e5).trans e6)
            have LL : (lw x.1 z).length = x.1.length := by unfold lw; rw [List.length_map, List.length_range]
            refine ⟨_, rfl, t5, rfl, ⟨_, SqT.of q5'⟩, fun Dl hD => ?_⟩
            refine lc_tup (K := K) (a := t5) (xs := hv (lw x.1 z)) (fun i H' => H' Dl = some (.lst (hv (((lw x.1 z).take i).filter fun x => decide (0 < x)))) ∧ Ex A5 H') ⟨upd_same, Ex.new hD⟩ (fun i H' _ hp2 => SqT.of (hp2.2 _ _ q5')) (fun i u H' hx hp2 => ?_) (fun H' hp2 => ?_)
            · obtain ⟨g1, g2⟩ := hp2
              obtain ⟨y, hy, rfl⟩ := hv_inv hx
              refine ⟨rfl, _, rfl, _, _, rfl, rfl, _, rfl, ite2 (fun cc => ?_) (fun cc => ?_)⟩
              · have c0 : 0 < y := by
                  have := of_decide_eq_true cc
                  omega
                refine ⟨_, rfl, _, g1, ?_, ?_, Ex.mut g2 hD⟩
                · rw [hv_len]
                  exact small1000 (Nat.le_trans (List.length_filter_le _ _) (by rw [List.length_take]; omega))
                · rw [upd_same, take_snoc1 hy, List.filter_append, List.filter_cons_of_pos (p := fun x => decide (0 < x)) (decide_eq_true c0), List.filter_nil]
                  exact congrArg (fun z => some (HO.lst z)) (hv_snoc _ _).symm
              · have c0 : ¬ 0 < y := fun z => cc (decide_eq_true (by omega))
                rw [take_snoc1 hy, List.filter_append, List.filter_cons_of_neg (by simpa using c0), List.filter_nil, List.append_nil]
                exact ⟨g1, g2⟩
            · obtain ⟨g1, g2⟩ := hp2
              rw [hv_len, List.take_of_length_le (Nat.le_refl _), lw_shr] at g1
              refine ⟨Dl, _, rfl, .inl ⟨SqL.of g1, fun a ha => ?_⟩⟩
              have e7 := (e66.trans g2).trans (Ex.new (o := .tup (hv (shr1 x.1 z))) ha)
              have hak : (upd H' a (.tup (hv (shr1 x.1 z)))) a = some (.tup ((keyW (shr1 x.1 z)).map kV)) := by rw [keyW_hv]; exact upd_same
              have hbk : (upd H' a (.tup (hv (shr1 x.1 z)))) b = some (.tup ((keyW x.1).map kV)) := by rw [keyW_hv]; exact e7 _ _ hb6
              have u1' := e7 _ _ u1
              have fz7 := e7 _ _ fz6
              refine ⟨_, rfl, m, rfl, .inr ⟨_, .inl u1'⟩, _, rfl, _, DGet.t u1' hak, _, rfl, _, rfl, d, .int x.2, rfl, .inr ⟨kvC N, keyW x.1, b, .inr ⟨od, fz7⟩, rfl, hbk, by rw [valC, getC_at mk.nd hxm]; rfl⟩, (getC M2 (shr1 x.1 z)).getD 0, x.2, ?_, rfl, _, rfl, _, rfl, m, _, rfl, DPut.t (k := keyW (shr1 x.1 z)) u1' hak (by unfold kvC; rw [List.length_map]; exact big6 (by omega)), _, _, addC M2 (shr1 x.1 z) x.2, rfl, ?_, u2.add (bx_shr1 Bx' tip) px, ?_, fun F => ?_, (u4.trans (Keep.ex e7)).trans Keep.dice⟩
              · rw [valC]
                cases getC M2 (shr1 x.1 z) <;> rfl
              · rw [upd_same]
                dsimp only
                rw [putC u2.nd]
              · have s1 : sq c (shr1 x.1 z) = (k : Int) := by
                  rw [sq_shr1 Bx' (List.mem_filter.mpr ⟨List.mem_range.mpr zl, tip⟩), xsz]
                  omega
                exact addC_all (p := fun x => sq c x.1 = (k : Int)) uz (fun _ _ => s1) s1
              · rw [nx, tip, if_pos rfl, sumL_app, sumL_cons, sumL_nil, wsum_add F _ x.2 u2.nd, u3]
                omega
        · obtain ⟨y5, y6, M2, rfl, u1, u2, uz, u3, u4⟩ := hW
          rw [Int.toNat_natCast] at u3
          refine ⟨_, _, _, M2, rfl, u1, u2, uz, fun F => ?_, u4 _ _ nmd w4, fun a o na ha2 => u4 _ _ (ne_of_none ha2 hm) (w5 _ _ na ha2)⟩
          rw [u3, take_snoc1 hx2, sumL_app, sumL_cons, sumL_nil, Int.add_zero]
          rfl
      · obtain ⟨y4, y5, y6, M, rfl, w1, w2, wz, w3, w4, w5⟩ := hW
        rw [kl, List.take_length] at w3
        refine ⟨w4, ?_⟩
        have w1' : (upd H2 d (.dT (kvC N))) m = some (.dT (kvC M)) := (upd_ne nmd.symm).trans w1
        refine ⟨_, rfl, _, rfl, _, _, rfl, rfl, _, _, rfl, m, M, some (.ref m), y4, y5, y6, ?_, w1', w2, wz, ?_, ee.trans (restore (H := H) hd' w5)⟩
        · show _ = [some (V.ref p), some (V.ref m), some (V.int (k : Int)), some (V.ref m), y4, y5, y6, none]
          rw [show (k : Int) = ((k + 1 : Nat) : Int) - 1 by omega]
          rfl
        · rw [w3, ← ws]
          unfold wsum
          refine sumL_congr fun x _ => ?_
          rw [sumL_mul]
          rfl
    · have m0 : m = 0 := by
        have : ¬ (m : Int) > 0 := fun z => cc (decide_eq_true z)
        omega
      subst m0
      refine ⟨_, rfl, by show 0 ≤ sizeLine; decide, fun t ht => ?_⟩
      have xt := Ex.new (o := .tup []) ht
      have key : getC N [] = some (fill n h0) := by
        have e1 := wsum_ind [] mk.nd
        have e2 : wsum N (ind []) = wsum N (fill 0) := by
          unfold wsum
          refine sumL_congr fun x hx => ?_
          have : x.1 = [] := sq_zero (mk.bx x hx) (by rw [sz x hx]; rfl)
          rw [this]
          rfl
        rw [e2, ws] at e1
        cases g : getC N [] with
        | none => rw [g] at e1; have e1 : fill n h0 = 0 := e1; omega
        | some v => rw [g] at e1; have e1 : fill n h0 = v := e1; rw [e1]
      refine ⟨d, .int (fill n h0), rfl, .inr ⟨kvC N, keyW [], t, .inl (xt _ _ hd'), rfl, upd_same, ?_⟩, ?_⟩
      · rw [valC, key]
        rfl
      · exact kQ _ ((eA.trans ee).trans xt)
end
end K1

set_option exponentiation.threshold 400
namespace K1
open PySem PySem.Spec PyProof.Rows L2 Evl HM LX ZW TE DR
theorem dp_refs {K : PySem.W.Frag} {H : Hp} : ∀ {ys : List V} {L : List (List Nat × Int)}, Paired (RefAt H) ys L → DpAll K H ys ((L.map fun x => natI x.1).map rowD)
  | _, _, .nil => .nil
  | _, _, .cons h r => by
    obtain ⟨b, rfl, hb⟩ := h
    refine .cons (.tup (SqT.of ?_) (dp_ints _)) (dp_refs r)
    rw [natI_hv]
    exact hb
theorem neRef {K : PySem.W.Frag} {H : Hp} {p q : Addr} {ys zs : List V} {L M : List (List Nat × Int)} {Q : VK} (h1 : H p = some (.lst ys)) (h2 : H q = some (.lst zs)) (hL : Paired (RefAt H) ys L) (hM : Paired (RefAt H) zs M) (e : (L.map fun x => natI x.1) = M.map fun x => natI x.1) (k : Q (.bl false) H) : rNeD K (.ref p) (.ref q) H Q := by
  refine ⟨_, _, .lst (SqL.of h1) (dp_refs hL), .lst (SqL.of h2) (dp_refs hM), rowD_shapedL _, rowD_shapedL _, ?_⟩
  rw [e, SeqAt.eqv_refl _ (rowD_canL _)]
  exact k
theorem keys_ref {H : Hp} : ∀ {L : List (List Nat × Int)} {bs : List Addr}, IsKeys H (kvC L) bs → Paired (RefAt H) (bs.map V.ref) L
  | [], _, h => by
    cases h
    exact .nil
  | x :: r, _, h => by
    cases h with
    | cons h t => exact .cons ⟨_, rfl, by unfold HeapAt; rw [← keyW_hv]; exact h⟩ (keys_ref t)
theorem SrtC.eq {L M : List (List Nat × Int)} (a : SrtC L) (b : SrtC M) (p : (L.map (·.1)).Perm (M.map (·.1))) : (L.map fun x => natI x.1) = M.map fun x => natI x.1 := by
  refine SO.srt_uniq a b ?_
  have := p.map natI
  rw [List.map_map, List.map_map] at this
  exact this
theorem kvZ_at {L : List (Int × Int)} {i : Nat} {ky : Key} {v : V} (h : (kvZ L)[i]? = some (ky, v)) : ∃ x, L[i]? = some x ∧ ky = Sum.inl x.1 ∧ v = V.int x.2 := by
  unfold kvZ at h
  rw [List.getElem?_map] at h
  obtain ⟨x, h1, h2⟩ := Option.map_eq_some_iff.mp h
  obtain ⟨e1, e2⟩ := Prod.mk.inj h2
  exact ⟨x, h1, e1.symm, e2.symm⟩
theorem filt_sum (k : Int) : ∀ L : List (Int × Int), ((L.filter fun x => decide (x.1 ≥ k)).map (·.2)).sum = wsumZ L (fun z => if k ≤ z then 1 else 0)
  | [] => rfl
  | x :: L => by
    have ih := filt_sum k L
    unfold wsumZ at ih ⊢
    rw [List.filter_cons, sumL_cons, ← ih]
    show _ = x.2 * (if k ≤ x.1 then 1 else 0) + _
    by_cases z : x.1 ≥ k
    · rw [if_pos (decide_eq_true z), if_pos (show k ≤ x.1 from z), List.map_cons, List.sum_cons]
      omega
    · rw [if_neg (by rw [decide_eq_false z]; decide), if_neg (show ¬ k ≤ x.1 from z)]
      omega
theorem take_filterP {α : Type} {l : List α} {i : Nat} {x : α} (g : α → Bool) (h : l[i]? = some x) : (l.take (i + 1)).filter g = (l.take i).filter g ++ (if g x = true then [x] else []) := take_filter_snoc g h
theorem ksZ (L : List (Int × Int)) : ((kvZ L).map fun kv => kV kv.1) = (L.map (·.1)).map V.int := by
  unfold kvZ
  rw [List.map_map, List.map_map]
  rfl
section
variable {P : Program} {w : World} {K : PySem.W.Frag} {mg : Str → Option Value} {base : Heap}
theorem ok_classes_by_heap (T : Txt K mg) {f : Addr} {fd : FuncData} (D : DefAt K mg "classes_by_heap" sClassesByHeap ["chain", "columns", "rows"] f fd) : FnOk P w K mg base CX0 7 f fd ["chain", "columns", "rows"] spByHeap := by
  refine D.F.ok scClassesByHeap (fun vs H Q E h => ?_) (fun cdv A outer s₀ H vs Q E hr h => ?_)
  · obtain ⟨ch, xs, rs, c, r, rfl, _⟩ := h
    rfl
  · obtain ⟨ch, xs, rs, c, r, rfl, hch, hR, l1, l12, c6, r6, kQ⟩ := h
    obtain ⟨f1, fd1, D1⟩ := T.d_cut_heaps
    obtain ⟨f2, fd2, D2⟩ := T.d_check_between
    obtain ⟨f3, fd3, D3⟩ := T.d_check_chain
    obtain ⟨tMOST_CUT, vMOST_CUT⟩ := T.v_MOST_CUT
    have hr3 : Room 3 _ := hr.mono (by decide)
    have hr5 : Room 5 _ := hr.mono (by decide)
    have hr6 : Room 6 _ := hr.mono (by decide)
    have hu2 := Nat.lt_of_le_of_lt (Nat.add_le_add_left (show 2 ≤ 64 by decide) _) hr.units
    have hu1 := Nat.lt_of_le_of_lt (Nat.add_le_add_left (show 1 ≤ 64 by decide) _) hr.units
    refine ⟨_, pss_cons (ps_expr (pe_call (ok_check_chain T D3) hr5 (by rfl) D3.g D3.F.kp D3.b .nil pass0 (pa_cons (pv 0) pa_nil)))
      (pss_cons (ps_expr (pe_call (ok_check_between T D2) hr3 (by rfl) D2.g D2.F.kp D2.b .nil pass0 (pa_cons (pv 1) (pa_cons pe_int (pa_cons (pe_glob (v := .int 6) rfl vMOST_CUT ⟨_, rfl⟩) pa_nil)))))
      (pss_cons (ps_expr (pe_call (ok_check_between T D2) hr3 (by rfl) D2.g D2.F.kp D2.b .nil pass0 (pa_cons (pv 2) (pa_cons pe_int (pa_cons (pe_glob (v := .int 6) rfl vMOST_CUT ⟨_, rfl⟩) pa_nil)))))
      (pss_cons (ps_set (i := 3) scClassesByHeap.nd rfl (.inr rfl) (pe_call (ok_cut_heaps T D1) hr6 (by rfl) D1.g D1.F.kp D1.b .nil pass0 (pa_cons (pv 0) (pa_cons (pv 1) (pa_cons (pv 2) pa_nil)))))
      (pss_one (ps_ret (pe_dcT (own := [("heap", 4)]) (g := gName 4) (tt := tYes) rfl hr.units0 scClassesByHeap.nd (pi_list (pe_callB (SO.cr_sortedDO rfl hu2) (by rfl) T.z_sorted (by decide +kernel) (pa_cons (pv 3) pa_nil)))
        (blkOk_by (N := nClassesByHeap) (sc := defScope sClassesByHeap) (by decide +kernel)) (fun _ _ _ _ _ => (pg_name (i := 4) scClassesByHeap.nd rfl (.inl rfl))) (fun _ _ _ _ _ => pts_nil)
        (fun _ _ _ _ _ => (pv 4)) (fun _ _ _ _ _ => (pe_dget hu1 (pv 3) (pv 4) (fun _ _ => rfl))))))))), ?_⟩
    have pw := pow_few c6 r6
    refine ⟨_, rfl, .ref ch, rfl, rings_chain4 hR hch l1 l12, fun H1 e1 => ?_⟩
    refine ⟨_, rfl, (c : Int), 0, 6, rfl, by omega, by omega, by omega, by omega, fun H2 e2 => ?_⟩
    refine ⟨_, rfl, (r : Int), 0, 6, rfl, by omega, by omega, by omega, by omega, fun H3 e3 => ?_⟩
    have e13 := (e1.trans e2).trans e3
    refine ⟨_, rfl, _, rfl, _, rfl, ch, xs, rs, c, r, rfl, e13 _ _ hch, rings_ex4 e13 hR, l12, c6, r6, fun d L H4 e4 hd C => ?_⟩
    refine ⟨_, rfl, ?_⟩
    dsimp only [tNil]
    refine sortDC hd (fun M R p pm st hR' eR pr hp => ?_)
    have xp := Ex.new (o := .lst (SO.refR R)) hp
    have gp : (upd H4 p (.lst (SO.refR R))) p = some (.lst (SO.refR R)) := upd_same
    have hd' := xp _ _ hd
    have pr' : Paired (RefAt (upd H4 p (.lst (SO.refR R)))) (SO.refR R) M := paired_imp (fun y x ⟨b, h1, h2⟩ => ⟨b, h1, xp _ _ h2⟩) pr
    have e5 := e4.trans xp
    generalize upd H4 p (.lst (SO.refR R)) = H5 at *
    refine ⟨p, rfl, ⟨_, SqL.of gp⟩, fun Dq hD => ?_⟩
    have CM := C.perm pm
    have mf := CM.few
    have ml : (SO.refR R).length = M.length := Paired.length pr'
    refine dcT_it (walk_list (K := K) (a := p) (xs := SO.refR R)) (fun i H' => H' Dq = some (.dT (kvC (M.take i))) ∧ Ex H5 H') ⟨upd_same, Ex.new hD⟩ (fun i H' _ hp2 => SqL.of (hp2.2 _ _ gp)) (fun i x H' H6 hi hp2 hy => ?_) (fun H' hp2 => ?_)
    · obtain ⟨w1, w2⟩ := hp2
      obtain ⟨rfl, hx⟩ := hy
      obtain ⟨y, hy2, b, rfl, hb⟩ := paired_get pr' hx
      have hym := List.mem_of_getElem? hy2
      have hb6 := w2 _ _ hb
      have hk6 : H6 b = some (.tup ((keyW y.1).map kV)) := by rw [keyW_hv]; exact hb6
      have tk := take_snoc1 hy2
      refine ⟨rfl, ?_⟩
      dsimp only [tYes]
      rw [if_pos rfl]
      refine ⟨_, rfl, _, rfl, _, rfl, d, .int y.2, rfl, .inr ⟨kvC L, keyW y.1, b, .inl (w2 _ _ hd'), rfl, hk6, by rw [valC, getC_at C.nd ((pm.mem_iff).mp hym)]; rfl⟩, _, keyW y.1, b, rfl, hk6, w1, ?_, ?_, Ex.mut w2 hD⟩
      · unfold kvC
        rw [List.length_map, List.length_take]
        exact big6 (by omega)
      · rw [upd_same, tk]
        have nn : y.1 ∉ (M.take i).map (·.1) := fun z => by
          have nd := CM.nd
          rw [show M = M.take i ++ y :: M.drop (i + 1) from ?_] at nd
          · rw [List.map_append, List.map_cons] at nd
            exact (List.nodup_append.mp nd).2.2 _ z _ (List.mem_cons_self ..) rfl
          · obtain ⟨h1, h2⟩ := List.getElem?_eq_some_iff.mp hy2
            rw [← h2, ← List.drop_eq_getElem_cons h1, List.take_append_drop]
        rw [putC_new nn]
    · obtain ⟨w1, w2⟩ := hp2
      rw [ml, List.take_length] at w1
      exact kQ Dq M _ ((e13.trans e5).trans w2) w1 CM st
end
end K1

set_option exponentiation.threshold 400
namespace K1
open PySem PySem.Spec PyProof.Rows L2 Evl HM LX ZW TE DR
theorem refs_put {H : Hp} {Dl : Addr} {ys : List V} {hs : List (List Nat)} {b : Addr} {h : List Nat} (hD : H Dl = some (.lst ys)) (p : Paired (RefH H) ys hs) (hb : HeapAt H b h) (zs : List V) : Paired (RefH (upd H Dl (.lst zs))) (ys ++ [.ref b]) (hs ++ [h]) := by
  have nb : ∀ {c : Addr} {k : List Nat}, HeapAt H c k → c ≠ Dl := fun hc => ne_of hc hD (by intro z; cases z)
  exact paired_snoc ⟨b, rfl, (upd_ne (nb hb)).trans hb⟩ (paired_imp (fun y x ⟨c, e, hc⟩ => ⟨c, e, (upd_ne (nb hc)).trans hc⟩) p)
theorem refs_ex {H H' : Hp} (e : Ex H H') {ys : List V} {hs : List (List Nat)} (p : Paired (RefH H) ys hs) : Paired (RefH H') ys hs := paired_imp (fun _ _ ⟨c, z, hc⟩ => ⟨c, z, e _ _ hc⟩) p
theorem prod_pos {rs : List (Int × Int)} {g : Nat} (h : ∀ j, j < g → 1 ≤ K1N.nAt rs j) : ∀ i, i ≤ g → 1 ≤ prodL rs i
  | 0, _ => Nat.le_refl _
  | i + 1, hi => Nat.mul_pos (prod_pos h i (by omega)) (h i (by omega))
theorem great_one {rs : List (Int × Int)} {g : Nat} (g1 : 1 ≤ g) (p1 : 1 ≤ prodL rs g) : CnZ rs g (2 * (g : Int) - 1) [((g : Int) - 1, (prodL rs g : Int))] := by
  refine ⟨⟨by simp, fun x hx => by rw [List.mem_singleton.mp hx]; show (0 : Int) < _; omega⟩, fun G => ?_⟩
  unfold wsumZ
  rw [sumL_cons, sumL_nil]
  show (prodL rs g : Int) * G _ + 0 = _
  have e : ∀ x ∈ tupsL rs g, G ((F (hseq rs x g) (2 * (g : Int) - 1 - g) : Int) - 1) = G ((g : Int) - 1) := fun x hx => by
    obtain ⟨pl, _⟩ := (tups_mem rs g x).mp hx
    congr 1
    have := rich_great rs x (tot := 2 * (g : Int) - 1) (by rw [pl]; omega)
    unfold rich1 at this
    rw [pl] at this
    omega
  rw [sumL_congr e, ← tups_len, Int.add_zero, ← sumL_one (tupsL rs g), Int.mul_comm, ← sumL_mul]
  exact sumL_congr fun _ _ => Int.mul_one _
section
variable {P : Program} {w : World} {K : PySem.W.Frag} {mg : Str → Option Value} {base : Heap}
def spCR : Sp := fun vs H Q _ => ∃ (d : Addr), vs = [.ref d] ∧ Dice H d ∧ ∀ H', Dice H' d → Keep d H H' → Q (.bl true) H'
theorem ok_counts_right (T : Txt K mg) {f : Addr} {fd : FuncData} (D : DefAt K mg "_law_counts_right" sLCountsRight ["_law_dice_here"] f fd) : FnOk P w K mg base CX0 8 f fd ["_law_dice_here"] spCR := by
  refine D.F.ok scLCountsRight (fun vs H Q E h => ?_) (fun cdv A outer s₀ H vs Q E hr h => ?_)
  · obtain ⟨d, rfl, _⟩ := h
    rfl
  · obtain ⟨d, rfl, hd, kQ⟩ := h
    obtain ⟨f1, fd1, D1⟩ := T.d_classes_at_least
    obtain ⟨f2, fd2, D2⟩ := T.d_classes_by_richness
    obtain ⟨f3, fd3, D3⟩ := T.d_l_counted
    obtain ⟨f4, fd4, D4⟩ := T.d_l_rich
    obtain ⟨f5, fd5, D5⟩ := T.d_l_roll
    obtain ⟨f6, fd6, D6⟩ := T.d_l_cut
    obtain ⟨f7, fd7, D7⟩ := T.d_classes_by_heap
    obtain ⟨f8, fd8, D8⟩ := T.d_l_all_tuples
    obtain ⟨f9, fd9, D9⟩ := T.d_l_heap
    obtain ⟨f10, fd10, D10⟩ := T.d_l_low_chain
    have hr1 : Room 1 _ := hr.mono (by decide)
    have hr2 : Room 2 _ := hr.mono (by decide)
    have hr5 : Room 5 _ := hr.mono (by decide)
    have hr7 : Room 7 _ := hr.mono (by decide)
    have hu2 := Nat.lt_of_le_of_lt (Nat.add_le_add_left (show 2 ≤ 64 by decide) _) hr.units
    have hu1 := Nat.lt_of_le_of_lt (Nat.add_le_add_left (show 1 ≤ 64 by decide) _) hr.units
    refine ⟨_, pss_cons (ps_set (i := 1) scLCountsRight.nd rfl (.inr rfl) (pe_call (ok_low_chain T D10) hr5 (by rfl) D10.g D10.F.kp D10.b .nil pass0 (pa_cons (pv 0) (pa_cons pe_int pa_nil))))
      (pss_cons (ps_asg (pe_tup (pa_cons (pe_callB call_len_seq (by rfl) T.z_len PySem.boot_len (pa_cons (pv 1) pa_nil)) (pa_cons (pe_lc (own := [("_law_x", 12)]) (g := gName 12) (tt := tYes) rfl scLCountsRight.nd (pi_list (pe_call (ok_all_tuples T D8) hr1 (by rfl) D8.g D8.F.kp D8.b .nil pass0 (pa_cons (pv 1) (pa_cons pe_int pa_nil))))
        (blkOk_by (N := nLCountsRight) (sc := defScope sLCountsRight) (by decide +kernel)) (fun _ _ _ _ _ => (pg_name (i := 12) scLCountsRight.nd rfl (.inl rfl))) (fun _ _ _ _ _ => pts_nil)
        (fun _ _ _ _ _ => (pe_call (ok_lheap T D9) hr2 (by rfl) D9.g D9.F.kp D9.b .nil pass0 (pa_cons (pv 1) (pa_cons (pv 12) pa_nil))))) pa_nil))) (pg_tup (by rfl) (pgs_cons (pg_name (i := 2) scLCountsRight.nd rfl (.inr rfl)) (pgs_cons (pg_name (i := 3) scLCountsRight.nd rfl (.inl rfl)) pgs_nil))))
      (pss_cons (ps_asg (pe_tup (pa_cons (pe_call (ok_roll T D5) hr1 (by rfl) D5.g D5.F.kp D5.b .nil pass0 (pa_cons (pv 0) (pa_cons pe_int pa_nil))) (pa_cons (pe_call (ok_roll T D5) hr1 (by rfl) D5.g D5.F.kp D5.b .nil pass0 (pa_cons (pv 0) (pa_cons pe_int pa_nil))) pa_nil))) (pg_tup (by rfl) (pgs_cons (pg_name (i := 4) scLCountsRight.nd rfl (.inr rfl)) (pgs_cons (pg_name (i := 5) scLCountsRight.nd rfl (.inr rfl)) pgs_nil))))
      (pss_cons (ps_set (i := 6) scLCountsRight.nd rfl (.inl rfl) (pe_call (ok_classes_by_heap T D7) hr7 (by rfl) D7.g D7.F.kp D7.b .nil pass0 (pa_cons (pv 1) (pa_cons (pv 4) (pa_cons (pv 5) pa_nil)))))
      (pss_cons (ps_if (PW.pt (pw_or (pt_cmpR (op_neDT hr.units) (pv 6) (pe_call (ok_countedT T D3) hr1 (by rfl) D3.g D3.F.kp D3.b .nil pass0 (pa_cons (pe_lc (own := [("_law_heap_here", 13)]) (g := gName 13) (tt := tYes) rfl scLCountsRight.nd (pi_list (pv 3))
        (blkOk_by (N := nLCountsRight) (sc := defScope sLCountsRight) (by decide +kernel)) (fun _ _ _ _ _ => (pg_name (i := 13) scLCountsRight.nd rfl (.inl rfl))) (fun _ _ _ _ _ => pts_nil)
        (fun _ _ _ _ _ => (pe_call (ok_lcut2 T D6) hr1 (by rfl) D6.g D6.F.kp D6.b .nil pass0 (pa_cons (pv 13) (pa_cons (pv 4) (pa_cons (pv 5) pa_nil)))))) pa_nil)) (nomark _))
          (pw_or1 (pt_cmpR (op_neD hr.units) (pe_callTy (call_list_dT rfl) (by rfl) T.z_list (by decide +kernel) (pa_cons (pv 6) pa_nil)) (pe_callB (SO.cr_sortedDO rfl hu2) (by rfl) T.z_sorted (by decide +kernel) (pa_cons (pv 6) pa_nil)) (nomark _))))) (pss_one (ps_ret pe_bl)) pss_nil)
      (pss_cons (ps_set (i := 7) scLCountsRight.nd rfl (.inr rfl) (pe_op op_sub (pe_call (ok_roll T D5) hr1 (by rfl) D5.g D5.F.kp D5.b .nil pass0 (pa_cons (pv 0) (pa_cons (pe_op op_add (pe_op op_mul pe_int (pv 2)) pe_int) pa_nil))) pe_int))
      (pss_cons (ps_set (i := 8) scLCountsRight.nd rfl (.inr rfl) (pe_call (ok_countedZ T D3) hr1 (by rfl) D3.g D3.F.kp D3.b .nil pass0 (pa_cons (pe_lc (own := [("_law_heap_here", 13)]) (g := gName 13) (tt := tYes) rfl scLCountsRight.nd (pi_list (pv 3))
        (blkOk_by (N := nLCountsRight) (sc := defScope sLCountsRight) (by decide +kernel)) (fun _ _ _ _ _ => (pg_name (i := 13) scLCountsRight.nd rfl (.inl rfl))) (fun _ _ _ _ _ => pts_nil)
        (fun _ _ _ _ _ => (pe_call (ok_rich T D4) hr1 (by rfl) D4.g D4.F.kp D4.b .nil pass0 (pa_cons (pv 13) (pa_cons (pv 2) (pa_cons (pv 7) pa_nil)))))) pa_nil)))
      (pss_cons (ps_if (PW.pt (pw_or (pt_cmpR (op_ne_dictA hr.units0) (pe_call (ok_classes_by_richness T D2) hr7 (by rfl) D2.g D2.F.kp D2.b .nil pass0 (pa_cons (pv 1) (pa_cons (pv 7) pa_nil))) (pv 8) (nomark _))
          (pw_or1 (pt_cmpR (op_ne_dictA hr.units0) (pe_call (ok_classes_by_richness T D2) hr7 (by rfl) D2.g D2.F.kp D2.b .nil pass0 (pa_cons (pv 1) (pa_cons (pe_op op_sub (pe_op op_mul pe_int (pv 2)) pe_int) pa_nil))) (pe_disp (pps_cons (pe_op op_sub (pv 2) pe_int) (pe_callB call_len_seq (by rfl) T.z_len PySem.boot_len (pa_cons (pv 3) pa_nil)) pps_nil) (by rfl) (by rfl) (fun z => by cases z) (by decide)) (nomark _))))) (pss_one (ps_ret pe_bl)) pss_nil)
      (pss_cons (ps_for PassesOwn.never rfl (pi_range1 (by rfl) T.z_range (pa_cons pe_int pa_nil)) (pg_name (i := 9) scLCountsRight.nd rfl (.inr rfl))
        (pss_cons (ps_set (i := 10) scLCountsRight.nd rfl (.inl rfl) (pe_callB (cr_sum rfl) (by rfl) T.z_sum (by decide +kernel) (pa_cons (pe_lock (pe_lc (own := [("_law_one", 14)]) (g := gName 14) rfl scLCountsRight.nd (pi_keys (pv 8))
        (blkOk_by (N := nLCountsRight) (sc := defScope sLCountsRight) (by decide +kernel)) (fun _ _ _ _ _ => (pg_name (i := 14) scLCountsRight.nd rfl (.inl rfl))) (fun _ _ _ _ _ => pts_one (pt_cmpR op_ge (pv 14) (pv 9) (nomark _)))
        (fun _ _ _ _ _ => (pe_dget hu1 (pv 8) (pv 14) (fun _ _ => rfl))))) pa_nil)))
      (pss_cons (ps_if (pt_cmpR op_ne (pe_call (ok_classes_at_least T D1) hr7 (by rfl) D1.g D1.F.kp D1.b .nil pass0 (pa_cons (pv 1) (pa_cons (pv 7) (pa_cons (pv 9) pa_nil)))) (pv 10) (nomark _)) (pss_one (ps_ret pe_bl)) pss_nil)
      (pss_cons (ps_set (i := 11) scLCountsRight.nd rfl (.inl rfl) (pe_op op_add (pe_op op_sub (pe_op op_sub (pv 9) (pv 7)) pe_int) (pv 2)))
      (pss_one (ps_if (PW.pt (pw_and (pt_cmpR op_ge (pv 11) pe_int (nomark _))
          (pw_and1 (pt_cmpR op_ne (pe_call (ok_classes_at_least T D1) hr7 (by rfl) D1.g D1.F.kp D1.b .nil pass0 (pa_cons (pv 1) (pa_cons (pe_op op_sub (pe_op op_sub (pe_op op_mul pe_int (pv 2)) pe_int) (pv 7)) (pa_cons (pv 11) pa_nil)))) (pv 10) (nomark _))))) (pss_one (ps_ret pe_bl)) pss_nil))))))
      (pss_one (ps_ret pe_bl)))))))))), ?_⟩
    refine ⟨_, rfl, d, rfl, hd, fun ch xs rs H1 hc hR l1 l4 small hd1 k1 => ?_⟩
    have rsl : xs.length = rs.length := paired_len hR
    refine ⟨_, rfl, ch, _, rfl, .inr (SqT.of hc), _, rfl, ch, xs, rs, 160, rfl, hc, hR, by omega, by omega, by omega, fun p M H2 e2 hp hM hMs => ⟨p, rfl, ⟨_, SqL.of hp⟩, fun Dl hD => ?_⟩⟩
    have ml : (SO.refR M).length = M.length := List.length_map ..
    refine lc_list (K := K) (a := p) (xs := SO.refR M) (fun i H' => ∃ ys, H' Dl = some (.lst ys) ∧ Paired (RefH H') ys ((M.take i).map fun x => hseq rs x.2 xs.length) ∧ Ex H2 H') ⟨[], upd_same, .nil, Ex.new hD⟩ (fun i H' _ hp2 => by obtain ⟨_, _, _, ee⟩ := hp2; exact SqL.of (ee _ _ hp)) (fun i y H' hy hp2 => ?_) (fun H' hp2 => ?_)
    · obtain ⟨ys, w1, w2, w3⟩ := hp2
      obtain ⟨x, hx2, rfl⟩ : ∃ x, M[i]? = some x ∧ V.ref x.1 = y := by
        have hy2 : (M.map fun x => V.ref x.1)[i]? = some y := hy
        rw [List.getElem?_map] at hy2
        exact Option.map_eq_some_iff.mp hy2
      have hxm := List.mem_of_getElem? hx2
      have hx6 := w3 _ _ (hM x hxm)
      have rt : x.2 ∈ tupsL rs xs.length := by rw [← hMs]; exact List.mem_map.mpr ⟨x, hxm, rfl⟩
      obtain ⟨rl, _⟩ := (tups_mem rs xs.length x.2).mp rt
      refine ⟨rfl, ?_⟩
      dsimp only [tYes]
      rw [if_pos rfl]
      refine ⟨_, rfl, _, rfl, ch, x.1, xs, rs, x.2, rfl, (e2.trans w3) _ _ hc, rings_ex4 (e2.trans w3) hR, by omega, hx6, rl, fun b H7 e7 hb => ⟨_, e7 _ _ w1, ?_, ys ++ [.ref b], upd_same, ?_, Ex.mut (w3.trans e7) hD⟩⟩
      · have := Paired.length w2
        rw [List.length_map, List.length_take] at this
        have m3 : M.length ≤ 300 := by
          have := congrArg List.length hMs
          rw [List.length_map, tups_len] at this
          omega
        exact small1000 (by omega)
      · rw [take_snoc1 hx2, List.map_append]
        exact refs_put (e7 _ _ w1) (refs_ex e7 w2) hb _
    obtain ⟨ys, w1, w2, w3⟩ := hp2
    rw [ml, List.take_length] at w2
    obtain ⟨hs, hhs⟩ : ∃ hs, hs = (tupsL rs xs.length).map fun x => hseq rs x xs.length := ⟨_, rfl⟩
    rw [show (M.map fun x => hseq rs x.2 xs.length) = hs by rw [hhs, ← hMs, List.map_map]; rfl] at w2
    have hsl : hs.length = prodL rs xs.length := by rw [hhs, List.length_map, tups_len]
    have yl : ys.length = prodL rs xs.length := by rw [← hsl]; exact Paired.length w2
    refine ⟨by show 2 ≤ sizeLine; decide, fun t1 ht1 => ?_⟩
    have x1 := Ex.new (o := .tup [.int (xs.length : Int), .ref Dl]) ht1
    have e13 := (e2.trans w3).trans x1
    have g1 : (upd H' t1 (.tup [.int (xs.length : Int), .ref Dl])) t1 = some (.tup [.int (xs.length : Int), .ref Dl]) := upd_same
    have w1' := x1 _ _ w1
    have w2' := refs_ex x1 w2
    have ndl : d ≠ Dl := (hd1.ex e2).ne_new hD
    generalize upd H' t1 (.tup [.int (xs.length : Int), .ref Dl]) = H3 at *
    refine ⟨t1, _, rfl, SqT.of g1, rfl, _, [_], rfl, _, [], rfl, rfl, ?_⟩
    have hd3 := hd1.ex e13
    refine ⟨_, rfl, d, _, rfl, hd3, by decide, by decide, fun c H4 c0 c4 hd4 k4 => ⟨_, rfl, d, _, rfl, hd4, by decide, by decide, fun r H5 r0 r4 hd5 k5 => ?_⟩⟩
    obtain ⟨c, rfl⟩ : ∃ c' : Nat, (c' : Int) = c := ⟨c.toNat, by omega⟩
    obtain ⟨r, rfl⟩ : ∃ r' : Nat, (r' : Int) = r := ⟨r.toNat, by omega⟩
    refine ⟨by show 2 ≤ sizeLine; decide, fun t2 ht2 => ?_⟩
    have x2 := Ex.new (o := .tup [.int (c : Int), .int (r : Int)]) ht2
    have k15 : Keep d H1 (upd H5 t2 (.tup [.int (c : Int), .int (r : Int)])) := (((Keep.ex e13).trans k4).trans k5).trans (Keep.ex x2)
    have k35 : Keep d H3 (upd H5 t2 (.tup [.int (c : Int), .int (r : Int)])) := (k4.trans k5).trans (Keep.ex x2)
    have g2 : (upd H5 t2 (.tup [.int (c : Int), .int (r : Int)])) t2 = some (.tup [.int (c : Int), .int (r : Int)]) := upd_same
    have hd6 := hd5.ex x2
    generalize upd H5 t2 (.tup [.int (c : Int), .int (r : Int)]) = H6 at *
    refine ⟨t2, _, rfl, SqT.of g2, rfl, _, [_], rfl, _, [], rfl, rfl, ?_⟩
    have hc6 := k15.tup hd1 hc
    have hR6 : RingsAt H6 60 xs rs := paired_imp (fun _ _ z => RingAt.keep k15 hd1 z) hR
    have w16 := k35 _ _ ndl.symm w1'
    have w26 : Paired (RefH H6) ys hs := paired_imp (fun _ _ ⟨b, z, hb⟩ => ⟨b, z, k35.tup hd3 hb⟩) w2'
    refine ⟨_, rfl, _, rfl, _, rfl, ch, xs, rs, c, r, rfl, hc6, hR6, l1, by omega, by omega, by omega, fun u L H7 e7 hu C st => ?_⟩
    have w17 := e7 _ _ w16
    have w27 := refs_ex e7 w26
    refine ⟨_, rfl, _, rfl, Dl, rfl, ⟨_, SqL.of w17⟩, fun D2 hD2 => ?_⟩
    refine lc_list (K := K) (a := Dl) (xs := ys) (fun i H' => ∃ zs, H' D2 = some (.lst zs) ∧ Paired (RefH H') zs ((hs.take i).map fun x => cutH c r x) ∧ Ex H7 H') ⟨[], upd_same, .nil, Ex.new hD2⟩ (fun i H' _ hp2 => by obtain ⟨_, _, _, ee⟩ := hp2; exact SqL.of (ee _ _ w17)) (fun i y H' hy hp2 => ?_) (fun H8 hp2 => ?_)
    · obtain ⟨zs, v1, v2, v3⟩ := hp2
      obtain ⟨h, hh, b, rfl, hb⟩ := paired_get w27 hy
      have hb' : HeapAt H' b h := v3 _ _ hb
      have hm : h ∈ (tupsL rs xs.length).map fun x => hseq rs x xs.length := by rw [← hhs]; exact List.mem_of_getElem? hh
      obtain ⟨q, hq, rfl⟩ := List.mem_map.mp hm
      obtain ⟨q1, q2, q3⟩ := hseq_ok rs q xs.length
      refine ⟨rfl, ?_⟩
      dsimp only [tYes]
      rw [if_pos rfl]
      refine ⟨_, rfl, _, rfl, _, rfl, b, _, c, r, rfl, hb', q1, by omega, fun g H9 e9 hg => ⟨_, e9 _ _ v1, ?_, zs ++ [.ref g], upd_same, ?_, Ex.mut (v3.trans e9) hD2⟩⟩
      · have := Paired.length v2
        rw [List.length_map, List.length_take] at this
        exact small1000 (by omega)
      · rw [take_snoc1 hh, List.map_append]
        exact refs_put (e9 _ _ v1) (refs_ex e9 v2) hg _
    obtain ⟨zs, v1, v2, v3⟩ := hp2
    rw [yl, ← hsl, List.take_length] at v2
    have hu8 := v3 _ _ hu
    have w18 := v3 _ _ w17
    have w28 := refs_ex v3 w27
    refine ⟨D2, zs, _, c, r, rfl, v1, v2, fun h hh => ?_, by rw [List.length_map]; omega, fun m N H9 e9 hm mk wsN nl => ?_⟩
    · obtain ⟨x, hx, rfl⟩ := List.mem_map.mp hh
      have hm : x ∈ (tupsL rs xs.length).map fun x => hseq rs x xs.length := by rw [← hhs]; exact hx
      obtain ⟨q, hq, rfl⟩ := List.mem_map.mp hm
      exact cut_bx (hseq_ok rs q xs.length).1
    have CN : Cn rs c r xs.length N := ⟨mk.nd, mk.pos, mk.bx, fun F => by
      rw [wsN, hhs, sumL_map, sumL_map]
      rfl⟩
    have hu9 := e9 _ _ hu8
    have w19 := e9 _ _ w18
    have w29 := refs_ex e9 w28
    refine ⟨u, m, kvC L, kvC N, rfl, rfl, hu9, hm, kvC_ints L, kvC_ints N, false, by rw [C.same CN]; rfl, iteF ?_⟩
    refine ⟨_, rfl, u, kvC L, rfl, Rd.of hu9, fun p2 bs hp2 hik => ?_⟩
    have y2 := Ex.new (o := .lst (bs.map V.ref)) hp2
    have gg2 : (upd H9 p2 (.lst (bs.map V.ref))) p2 = some (.lst (bs.map V.ref)) := upd_same
    have pr2 : Paired (RefAt (upd H9 p2 (.lst (bs.map V.ref)))) (bs.map V.ref) L := paired_imp (fun y x ⟨b, h1, h2⟩ => ⟨b, h1, y2 _ _ h2⟩) (keys_ref hik)
    have hu10 := y2 _ _ hu9
    have e610 := ((e7.trans v3).trans e9).trans y2
    generalize upd H9 p2 (.lst (bs.map V.ref)) = H10 at *
    refine ⟨_, rfl, ?_⟩
    delta tNil
    refine sortDC hu10 (fun M2 R2 p3 pm2 st2 hR2 eR2 pr3 hp3 => ?_)
    have x3 := Ex.new (o := .lst (SO.refR R2)) hp3
    have g3 : (upd H10 p3 (.lst (SO.refR R2))) p3 = some (.lst (SO.refR R2)) := upd_same
    have keys : (L.map (·.1)).Perm (M2.map (·.1)) := (pm2.map _).symm
    refine neRef (x3 _ _ gg2) g3 (paired_imp (fun y x ⟨b, h1, h2⟩ => ⟨b, h1, x3 _ _ h2⟩) pr2) (paired_imp (fun y x ⟨b, h1, h2⟩ => ⟨b, h1, x3 _ _ h2⟩) pr3) (st.eq st2 keys) ⟨false, rfl, iteF ?_⟩
    have e611 := e610.trans x3
    generalize upd H10 p3 (.lst (SO.refR R2)) = H11 at *
    have hd11 := hd6.ex e611
    refine ⟨_, rfl, _, rfl, _, _, rfl, rfl, .inl ⟨by omega, by omega⟩, _, _, rfl, rfl, d, _, rfl, hd11, by omega, by omega, fun tt H12 tt0 tt1 hd12 k12 => ⟨_, _, rfl, rfl, ?_⟩⟩
    obtain ⟨tot, htot⟩ : ∃ tot : Int, tot = tt - 2 := ⟨_, rfl⟩
    have k6 : Keep d H6 H12 := (Keep.ex e611).trans k12
    have k16 : Keep d H1 H12 := k15.trans k6
    have w112 := k6 _ _ ndl.symm w16
    have w212 : Paired (RefH H12) ys hs := paired_imp (fun _ _ ⟨b, z, hb⟩ => ⟨b, z, k6.tup hd6 hb⟩) w26
    have hc12 := k16.tup hd1 hc
    have hR12 : RingsAt H12 60 xs rs := paired_imp (fun _ _ z => RingAt.keep k16 hd1 z) hR
    show tSeq _ _ _ [some (.ref d), some (.ref ch), some (.int (xs.length : Int)), some (.ref Dl), some (.int (c : Int)), some (.int (r : Int)), some (.ref u), some (.int (tt - 2)), none, none, none, none, none, none, none] H12
    rw [← htot]
    refine ⟨_, rfl, Dl, rfl, ⟨_, SqL.of w112⟩, fun D3 hD3 => ?_⟩
    obtain ⟨rv, hrv⟩ : ∃ rv : List Int → Int, rv = fun x => (F (hseq rs x xs.length) (tot - xs.length) : Int) - 1 := ⟨_, rfl⟩
    refine lc_list (K := K) (a := Dl) (xs := ys) (fun i H' => H' D3 = some (.lst ((((tupsL rs xs.length).take i).map rv).map V.int)) ∧ Ex H12 H') ⟨upd_same, Ex.new hD3⟩ (fun i H' _ hp2 => SqL.of (hp2.2 _ _ w112)) (fun i y H' hy hp2 => ?_) (fun H13 hp2 => ?_)
    · obtain ⟨v1, v3⟩ := hp2
      obtain ⟨h, hh, b, rfl, hb⟩ := paired_get w212 hy
      rw [hhs, List.getElem?_map] at hh
      obtain ⟨q, hq, rfl⟩ := Option.map_eq_some_iff.mp hh
      obtain ⟨ql, _⟩ := (tups_mem rs xs.length q).mp (List.mem_of_getElem? hq)
      have hb' : HeapAt H' b (hseq rs q xs.length) := v3 _ _ hb
      refine ⟨rfl, ?_⟩
      dsimp only [tYes]
      rw [if_pos rfl]
      refine ⟨_, rfl, _, rfl, _, rfl, b, rs, q, tot, by rw [ql]; rfl, by omega, by rw [ql]; exact hb', fun H9 e9 => ⟨_, e9 _ _ v1, ?_, ?_, Ex.mut (v3.trans e9) hD3⟩⟩
      · rw [List.length_map, List.length_map, List.length_take]
        have := tups_len rs xs.length
        exact small1000 (by omega)
      · rw [upd_same, take_snoc1 hq, List.map_append, List.map_append]
        unfold rich1
        rw [ql, hrv]
        rfl
    obtain ⟨v1, v3⟩ := hp2
    rw [yl, ← tups_len, List.take_length] at v1
    have hc13 := v3 _ _ hc12
    have hR13 := rings_ex4 v3 hR12
    have w113 := v3 _ _ w112
    have tl := tups_len rs xs.length
    have nn : ∀ j, j < xs.length → 1 ≤ K1N.nAt rs j := fun j hj => by have := rings_ok hR j (by omega); omega
    have p1 := prod_pos nn xs.length (Nat.le_refl _)
    refine ⟨D3, _, rfl, v1, by rw [List.length_map]; omega, fun m N H14 e14 hm mk wsN nl => ?_⟩
    have CN : CnZ rs xs.length tot N := ⟨mk, fun G => by
      rw [wsN, sumL_map, hrv]⟩
    have hc14 := e14 _ _ hc13
    have hR14 := rings_ex4 e14 hR13
    have w114 := e14 _ _ w113
    refine ⟨_, rfl, _, rfl, ch, xs, rs, tot, rfl, hc14, hR14, l1, by omega, by omega, p1, by omega, by omega, fun a1 M1 H15 e15 ha1 CM1 asc1 ml1 => ?_⟩
    have hm15 := e15 _ _ hm
    have same := CM1.zk.same CN.zk (CM1.eqs CN)
    refine ⟨_, rfl, a1, m, kvZ M1, kvZ N, rfl, rfl, ha1, hm15, same.1, same.2, false, rfl, iteF ?_⟩
    have hc15 := e15 _ _ hc14
    have hR15 := rings_ex4 e15 hR14
    have w115 := e15 _ _ w114
    refine ⟨_, rfl, _, rfl, _, _, rfl, rfl, .inl ⟨by omega, by omega⟩, _, _, rfl, rfl, ch, xs, rs, 2 * (xs.length : Int) - 1, rfl, hc15, hR15, l1, by omega, by omega, p1, by omega, by omega, fun a2 M2' H16 e16 ha2 CM2 asc2 ml2 => ?_⟩
    intro p5 hp5
    have x5 := Ex.new (o := .dK []) hp5
    have w116 := (e16.trans x5) _ _ w115
    have ha2' := x5 _ _ ha2
    refine ⟨_, rfl, _, _, rfl, rfl, _, rfl, Dl, _, rfl, .inl (SqL.of w116), ?_⟩
    have e6 : Ex H16 (upd (upd H16 p5 (.dK [])) p5 (.dK (mergeK [] [(.inl ((xs.length : Int) - 1), .int (prodL rs xs.length : Int))]))) := Ex.mut x5 hp5
    have GO := great_one l1 p1
    have same2 := CM2.zk.same GO.zk (CM2.eqs GO)
    refine ⟨upd_same, [(.inl ((xs.length : Int) - 1), .int (ys.length : Int))], rfl, by show 1 ≤ 15; decide, ?_⟩
    rw [yl]
    refine ⟨a2, p5, kvZ M2', kvZ [((xs.length : Int) - 1, (prodL rs xs.length : Int))], rfl, rfl, e6 _ _ ha2, upd_same, same2.1, same2.2, false, rfl, iteF ?_⟩
    have e1217 : Ex H12 (upd (upd H16 p5 (.dK [])) p5 (.dK (mergeK [] [(.inl ((xs.length : Int) - 1), .int (prodL rs xs.length : Int))]))) := (((v3.trans e14).trans e15).trans e16).trans e6
    have hm17 := (e16.trans e6) _ _ hm15
    have hc17 := (e16.trans e6) _ _ hc15
    have hR17 := rings_ex4 (e16.trans e6) hR15
    refine ⟨_, rfl, by decide, by decide, ?_⟩
    generalize upd (upd H16 p5 (.dK [])) p5 (.dK (mergeK [] [(.inl ((xs.length : Int) - 1), .int (prodL rs xs.length : Int))])) = H17 at *
    refine for_range (lo := 0) (n := (4 : Int).toNat) (fun i σ' H' => ∃ (y9 y10 y11 : Option V), σ' = [some (.ref d), some (.ref ch), some (.int (xs.length : Int)), some (.ref Dl), some (.int (c : Int)), some (.int (r : Int)), some (.ref u), some (.int tot), some (.ref m), y9, y10, y11, none, none, none] ∧ Ex H17 H') ⟨_, _, _, rfl, Ex.refl _⟩ (fun k σ' H' hk hW => ?_) (fun σ' H' hW => ?_)
    · obtain ⟨y9, y10, y11, rfl, ee⟩ := hW
      have hk : k < 4 := hk
      have hm18 := ee _ _ hm17
      refine ⟨m, _, hm18, trivial, fun od => ?_⟩
      have k3 : Keep m H' (upd H' m (.frz od (.dK (kvZ N)))) := keep_lock
      have fz3 : (upd H' m (.frz od (.dK (kvZ N)))) m = some (.frz od (.dK (kvZ N))) := upd_same
      generalize upd H' m (.frz od (.dK (kvZ N))) = H18 at *
      refine ⟨_, rfl, m, od, rfl, .inl ⟨_, fz3, fun D4 hD4 => ?_⟩⟩
      have nu3 : m ≠ D4 := ne_of_none fz3 hD4
      have hD4' : H' D4 = none := by
        cases z : H' D4 with
        | none => rfl
        | some o => rw [k3 _ _ nu3.symm z] at hD4; cases hD4
      have k0e : (0 : Int) + (k : Int) = (k : Int) := Int.zero_add _
      refine L2.lc_it (L2.walk_keys (d := m) (o := od) (kvs := kvZ N)) (fun i H2 => H2 D4 = some (.lst (((N.take i).filter fun x => decide (x.1 ≥ (k : Int))).map fun x => V.int x.2)) ∧ H2 m = some (.frz od (.dK (kvZ N))) ∧ Keep m H' H2) ⟨upd_same, (upd_ne nu3).trans fz3, k3.trans (Keep.new hD4)⟩ (fun i H2 _ hp2 => hp2.2.1) (fun i x H2 H3 hi hp2 hy => ?_) (fun H19 hp2 => ?_)
      · obtain ⟨v1, v2, v3⟩ := hp2
        obtain ⟨rfl, ky, v, hkv, rfl⟩ := hy
        obtain ⟨x, hx, rfl, rfl⟩ := kvZ_at hkv
        have tf := take_filterP (fun x : Int × Int => decide (x.1 ≥ (k : Int))) hx
        refine ⟨rfl, _, rfl, _, rfl, _, _, rfl, rfl, _, rfl, ite2 (fun cc => ?_) (fun cc => ?_)⟩
        · rw [k0e] at cc
          rw [if_pos cc] at tf
          refine ⟨_, rfl, _, rfl, m, .int x.2, rfl, .inl ⟨kvZ N, .inl x.1, .inr ⟨od, v2⟩, rfl, by rw [valZ, getZ_at CN.zk.nd (List.mem_of_getElem? hx)]; rfl⟩, _, v1, ?_, ?_, (upd_ne nu3).trans v2, v3.mut hD4'⟩
          · rw [List.length_map]
            have := List.length_filter_le (fun x : Int × Int => decide (x.1 ≥ (k : Int))) (N.take i)
            rw [List.length_take] at this
            exact small1000 (by omega)
          · rw [upd_same, tf, List.map_append]
            rfl
        · rw [k0e] at cc
          rw [if_neg cc, List.append_nil] at tf
          rw [tf]
          exact ⟨v1, v2, v3⟩
      obtain ⟨v1, v2, v3⟩ := hp2
      rw [kvZ_len, List.take_length] at v1
      refine ⟨v2, ?_⟩
      have v1' : (upd H19 m (.dK (kvZ N))) D4 = some (.lst (((N.filter fun x => decide (x.1 ≥ (k : Int))).map (·.2)).map V.int)) := by
        rw [upd_ne nu3.symm, v1, List.map_map]
        rfl
      have e13 : Ex H' (upd H19 m (.dK (kvZ N))) := restore (H := H) hm18 v3
      generalize upd H19 m (.dK (kvZ N)) = H20 at *
      have num : ((N.filter fun x => decide (x.1 ≥ (k : Int))).map (·.2)).sum = Nk rs xs.length tot k := by rw [filt_sum, CN.num]
      refine ⟨D4, _, rfl, SqL.of v1', ?_⟩
      show tSeq _ _ _ [some (.ref d), some (.ref ch), some (.int (xs.length : Int)), some (.ref Dl), some (.int (c : Int)), some (.int (r : Int)), some (.ref u), some (.int tot), some (.ref m), some (.int (0 + (k : Int))), some (.int ((N.filter fun x => decide (x.1 ≥ (k : Int))).map (·.2)).sum), y11, none, none, none] H20
      rw [num, k0e]
      have e14 := ee.trans e13
      have hc20 := e14 _ _ hc17
      have hR20 := rings_ex4 e14 hR17
      refine ⟨_, rfl, _, rfl, _, rfl, ch, xs, rs, tot, k, rfl, hc20, hR20, l1, ⟨by omega, .inl (by omega)⟩, by omega, by omega, by omega, fun H21 e21 => ?_⟩
      refine ⟨_, rfl, rfl, false, by simp, iteF ?_⟩
      refine ⟨_, rfl, _, rfl, _, _, rfl, rfl, _, _, rfl, rfl, _, rfl, _, _, rfl, rfl, ?_⟩
      have e1721 := e14.trans e21
      refine ⟨_, rfl, _, _, rfl, rfl, _, rfl, ite2 (fun c2 => ?_) (fun c2 => ?_)⟩
      · have c2 := of_decide_eq_true c2
        obtain ⟨o, ho⟩ : ∃ o : Nat, (o : Int) = (k : Int) - tot - 1 + (xs.length : Int) := ⟨((k : Int) - tot - 1 + (xs.length : Int)).toNat, by omega⟩
        refine ⟨_, rfl, _, rfl, _, _, rfl, rfl, .inl ⟨by omega, by omega⟩, _, _, rfl, rfl, _, rfl, _, _, rfl, rfl, _, rfl, ch, xs, rs, 2 * (xs.length : Int) - 2 - tot, o, ?_, e21 _ _ hc20, rings_ex4 e21 hR20, l1, ⟨by omega, .inl (by omega)⟩, by omega, by omega, by omega, fun H22 e22 => ?_⟩
        · rw [ho]
          rfl
        · rw [Nk_rr rs xs.length tot k o ho]
          refine ⟨_, rfl, rfl, false, by simp, iteF ?_⟩
          exact ⟨_, _, _, rfl, e1721.trans e22⟩
      · exact ⟨_, _, _, rfl, e1721⟩
    · obtain ⟨y9, y10, y11, rfl, ee⟩ := hW
      exact kQ _ ((hd12.ex e1217).ex ee) (((k1.trans k16).trans (Keep.ex e1217)).trans (Keep.ex ee))
end
end K1

set_option exponentiation.threshold 400
namespace K1
open PySem PySem.Spec PyProof.Rows L2 Evl HM LX ZW TE DR
theorem Nk_wt {rs : List (Int × Int)} {g : Nat} {d : Int} {k r : Nat} (hr : (r : Int) = (g : Int) - d + k) (r0 : 0 < r) : Nk rs g d k = Wt rs (k + 1) r g (ind (List.replicate (k + 1) r)) := by
  unfold Wt Nk ind
  refine sumL_congr fun x _ => ?_
  have a := rich_box (hseq_ok rs x g).1 k r0
  have b := rich_ge rs x g d k
  by_cases z : k + 1 ≤ F (hseq rs x g) (d - g)
  · rw [if_pos z, if_pos (a.mpr (by have := b.mp z; omega))]
  · rw [if_neg z, if_neg (fun y => z (b.mpr (by have := a.mp y; omega)))]
theorem bx_rep {c r : Nat} (hr : 0 < r) : Bx c r (List.replicate c r) := ⟨rep_heap c hr, by rw [List.length_replicate]; exact Nat.le_refl _, by rw [hAt_rep]; split <;> omega⟩
theorem far_count {rs : List (Int × Int)} {c r g : Nat} (hc : 1 ≤ c) (hr : 1 ≤ r) (hg : g = c * r) {d : Int} {k : Nat} (hd : d = (g : Int) + c - 1 - r) (hk : k + 1 = c)
    (hn : ∀ i, i < g → 2 ≤ (K1N.nAt rs i : Int) ∧ 1 ≤ K1N.sAt rs i ∧ 2 ≤ K1M.ord (K1N.nAt rs i) (K1N.sAt rs i).natAbs ∧ c + r ≤ K1M.ord (K1N.nAt rs i) (K1N.sAt rs i).natAbs + 1) : Nk rs g d k = fill g (List.replicate c r) := by
  subst hk
  have sr := sq_rep (k + 1) r
  have gg : (g : Int) = ((k + 1 : Nat) : Int) * r := by rw [hg, Int.natCast_mul]
  rw [Nk_wt (r := r) (by omega) hr, fill_count hn g (Nat.le_refl _) _ (bx_rep hr) (by omega), if_pos (by omega)]
def boxes : List (Nat × Nat) := [(1, 2), (2, 1), (1, 3), (2, 2), (3, 1), (2, 3), (3, 2), (4, 2)]
def okBox (b : Nat × Nat) : Bool := decide (1 ≤ b.1) && decide (b.1 ≤ 4) && decide (1 ≤ b.2) && decide (b.2 ≤ 3) && decide (b.1 * b.2 ≤ 8) && decide ((List.replicate b.1 b.2).sum = b.1 * b.2) && decide (0 < fill (b.1 * b.2) (List.replicate b.1 b.2)) && decide (0 < hprod (List.replicate b.1 b.2) b.1) && decide (hprod (List.replicate b.1 b.2) b.1 < 1000000) && decide (((Builtin.Math.factorialNat (b.1 * b.2) : Nat) : Int) / hprod (List.replicate b.1 b.2) b.1 = fill (b.1 * b.2) (List.replicate b.1 b.2))
theorem boxes_ok : ∀ b ∈ boxes, okBox b = true := by decide +kernel
theorem ord_mul {k m j : Nat} (hk : 1 ≤ k) (hm : 1 ≤ m) (h : Nat.gcd k j = 1) : K1M.ord (k * m) (m * j) = k := by
  unfold K1M.ord
  rw [Nat.mul_comm k m, Nat.gcd_mul_left, h, Nat.mul_one, Nat.mul_div_cancel_left _ hm]
section
variable {P : Program} {w : World} {K : PySem.W.Frag} {mg : Str → Option Value} {base : Heap}
def spRingOf2 : Sp := fun vs H Q _ => ∃ (d : Addr) (k t : Int), vs = [.ref d, .int k, .int t] ∧ Dice H d ∧ 2 ≤ k ∧ k ≤ 100 ∧ 1 ≤ t ∧ t ≤ 1000 ∧ ∀ x n s H', RingAt H' (k * t) x n s → K1M.ord n.toNat s.natAbs = k.toNat → Dice H' d → Keep d H H' → Q x H'
theorem ok_ring_of2 (T : Txt K mg) {f : Addr} {fd : FuncData} (D : DefAt K mg "_law_ring_of" sLRingOf ["_law_dice_here", "_law_k", "_law_times"] f fd) : FnOk P w K mg base CX0 3 f fd ["_law_dice_here", "_law_k", "_law_times"] spRingOf2 := by
  refine D.F.ok scLRingOf (fun vs H Q E h => ?_) (fun cdv A outer s H vs Q E hr h => ?_)
  · obtain ⟨d, n, t, rfl, _⟩ := h
    rfl
  · obtain ⟨d, k, t, rfl, hd, h1, h2, h3, h4, q⟩ := h
    obtain ⟨f1, fd1, D1⟩ := T.d_l_roll
    obtain ⟨f2, fd2, D2⟩ := T.d_l_common
    obtain ⟨f3, fd3, D3⟩ := T.d_l_one_of
    have hr1 : Room 1 _ := hr.mono (by decide)
    refine ⟨_, pss_cons (ps_set (i := 3) scLRingOf.nd rfl (.inl rfl) (pe_op op_add pe_int (pe_call (ok_roll T D1) hr1 (by rfl) D1.g D1.F.kp D1.b .nil pass0 (pa_cons (pv 0) (pa_cons (pv 2) pa_nil)))))
      (pss_cons (ps_setLc (i := 4) (own := [("_law_one", 5)]) (g := gName 5) (by rfl) scLRingOf.nd rfl rfl (sw_true rfl rfl rfl (by decide +kernel)) (pi_range2 (by rfl) T.z_range (pa_cons pe_int (pa_cons (pv 1) pa_nil)))
        (blkOk_by (N := nLRingOf) (sc := defScope sLRingOf) (by decide +kernel)) (fun _ _ _ _ _ => pg_name (i := 5) scLRingOf.nd rfl (Or.inl rfl))
        (fun _ _ _ _ _ => pts_one (pt_cmpR op_eq (pe_call (ok_common T D2) hr1 (by rfl) D2.g D2.F.kp D2.b .nil pass0 (pa_cons (pv 1) (pa_cons (pv 5) pa_nil))) pe_int (nomark _))) (fun _ _ _ _ _ => pv 5))
      (pss_one (ps_ret (pe_tup (pa_cons (pe_op op_mul (pv 1) (pv 3)) (pa_cons (pe_op op_mul (pv 3) (pe_call (ok_one_of T D3) hr (by rfl) D3.g D3.F.kp D3.b .nil pass0 (pa_cons (pv 0) (pa_cons (pv 4) pa_nil)))) pa_nil)))))), ?_⟩
    refine ⟨.ref d, rfl, .int t, rfl, d, _, rfl, hd, by omega, by omega, fun r H1 r0 r1 hd1 k1 => ?_⟩
    refine ⟨1, r, rfl, rfl, .int k, rfl, 1, k, rfl, by omega, fun Dl hD => ?_⟩
    have ndl : d ≠ Dl := hd1.ne_new hD
    have hD0 : H Dl = none := k1.free ndl.symm hD
    refine lc_range (lo := 1) (n := (k - 1).toNat) (fun i H' => ∃ js : List Int, H' Dl = some (.lst (js.map V.int)) ∧ js.length ≤ i ∧ (∀ j ∈ js, 1 ≤ j ∧ j < k ∧ Nat.gcd k.toNat j.toNat = 1) ∧ (1 ≤ i → 1 ≤ js.length) ∧ Keep d H H' ∧ Dice H' d)
      ⟨[], upd_same, Nat.le_refl _, by simp, by omega, k1.trans (Keep.new hD), hd1.upd (hd1.ne_new hD)⟩ (fun i H' hi hp => ?_) (fun H' hp => ?_)
    · obtain ⟨js, a1, a2, a3, a4, a5, a6⟩ := hp
      refine ⟨rfl, .int k, rfl, .int (1 + (i : Int)), rfl, k.toNat, 1 + i, ?_, fun H2 e2 => ?_⟩
      · show [V.int k, V.int (1 + (i : Int))] = [V.int ((k.toNat : Nat) : Int), V.int (((1 + i : Nat)) : Int)]
        rw [show ((k.toNat : Nat) : Int) = k by omega, show (((1 + i : Nat)) : Int) = 1 + (i : Int) by omega]
      · refine ⟨rfl, _, rfl, ite2 (fun c => ?_) (fun c => ?_)⟩
        · refine ⟨_, rfl, js.map V.int, e2 _ _ a1, ?_, js ++ [1 + (i : Int)], ?_, ?_, ?_, ?_, ?_, ?_⟩
          · rw [List.length_map]
            exact small1000 (by omega)
          · rw [List.map_append]
            exact upd_same
          · rw [List.length_append]
            exact Nat.add_le_add_right a2 1
          · intro j hj
            rcases List.mem_append.mp hj with hj | hj
            · exact a3 j hj
            · obtain rfl := List.mem_singleton.mp hj
              refine ⟨by omega, by omega, ?_⟩
              have g1 := V.int.inj (of_decide_eq_true c)
              rw [show (1 + (i : Int)).toNat = 1 + i by omega]
              omega
          · intro _
            rw [List.length_append]
            exact Nat.le_add_left _ _
          · exact (a5.trans (Keep.ex e2)).mut hD0
          · exact (a6.ex e2).upd ndl
        · refine ⟨js, e2 _ _ a1, by omega, a3, fun _ => ?_, a5.trans (Keep.ex e2), a6.ex e2⟩
          by_cases z : i = 0
          · subst z
            refine absurd ?_ c
            rw [show k.toNat.gcd (1 + 0) = 1 from Nat.gcd_one_right k.toNat]
            rfl
          · exact a4 (by omega)
    · obtain ⟨js, a1, a2, a3, a4, a5, a6⟩ := hp
      have hl : 1 ≤ js.length := a4 (by omega)
      have hb : 1 ≤ 1 + r ∧ 1 + r ≤ t := by omega
      have hkm : k * (1 + r) ≤ k * t := Int.mul_le_mul_of_nonneg_left hb.2 (by omega)
      have hk2 : 2 ≤ k * (1 + r) := by
        have := Int.mul_le_mul_of_nonneg_left hb.1 (show (0 : Int) ≤ k by omega)
        omega
      refine ⟨.int k, rfl, .int (1 + r), rfl, k, 1 + r, rfl, rfl, .inl (by constructor <;> omega), .int (1 + r), rfl, .ref d, rfl, .ref Dl, rfl, d, Dl, _, rfl, a6, a1, ndl.symm, by rw [List.length_map]; exact hl, by rw [List.length_map]; omega, fun x H2 hx hd2 k2 => ?_⟩
      obtain ⟨j, hj, rfl⟩ := List.mem_map.mp hx
      obtain ⟨j1, j2, j3⟩ := a3 j hj
      refine ⟨1 + r, j, rfl, rfl, .inl (by constructor <;> omega), by show 2 ≤ sizeLine; decide, fun p hp => ?_⟩
      have c1 : 1 ≤ (1 + r) * j := by
        have := Int.mul_le_mul_of_nonneg_left j1 (show (0 : Int) ≤ 1 + r by omega)
        omega
      have c2 : (1 + r) * j < k * (1 + r) := by
        rw [Int.mul_comm k (1 + r)]
        exact Int.mul_lt_mul_of_pos_left j2 (by omega)
      have oo : K1M.ord (k * (1 + r)).toNat ((1 + r) * j).natAbs = k.toNat := by
        obtain ⟨k', rfl⟩ : ∃ k' : Nat, (k' : Int) = k := ⟨k.toNat, by omega⟩
        obtain ⟨r', rfl⟩ : ∃ r' : Nat, (r' : Int) = r := ⟨r.toNat, by omega⟩
        obtain ⟨j', rfl⟩ : ∃ j' : Nat, (j' : Int) = j := ⟨j.toNat, by omega⟩
        rw [Int.toNat_natCast, Int.toNat_natCast] at j3
        rw [show (k' : Int) * (1 + (r' : Int)) = ((k' * (1 + r') : Nat) : Int) by rw [Int.natCast_mul, Int.natCast_add]; rfl, show (1 + (r' : Int)) * (j' : Int) = (((1 + r') * j' : Nat) : Int) by rw [Int.natCast_mul, Int.natCast_add]; rfl, Int.toNat_natCast, Int.toNat_natCast, Int.natAbs_natCast]
        exact ord_mul (by omega) (by omega) j3
      exact q _ _ _ _ ⟨p, rfl, upd_same, hk2, hkm, c1, c2⟩ oo (hd2.upd (hd2.ne_new hp)) ((a5.trans k2).trans (Keep.new hp))
end
end K1

set_option exponentiation.threshold 400
namespace K1
open PySem PySem.Spec PyProof.Rows L2 Evl HM LX ZW TE DR
def BoxV (H : Hp) (y : V) (b : Nat × Nat) : Prop := ∃ t, y = V.ref t ∧ H t = some (.tup [.int (b.1 : Int), .int (b.2 : Int)])
theorem boxV_ex {H H' : Hp} (e : Ex H H') {ys : List V} {bs : List (Nat × Nat)} (p : Paired (BoxV H) ys bs) : Paired (BoxV H') ys bs := paired_imp (fun _ _ ⟨t, z, h⟩ => ⟨t, z, e _ _ h⟩) p
theorem paired_mem {α β : Type} {R : α → β → Prop} {xs : List α} {ys : List β} (p : Paired R xs ys) {x : α} (h : x ∈ xs) : ∃ y ∈ ys, R x y := by
  obtain ⟨i, hi, rfl⟩ := List.getElem_of_mem h
  obtain ⟨y, hy, r⟩ := paired_get p (List.getElem?_eq_getElem hi)
  exact ⟨y, List.mem_of_getElem? hy, r⟩
theorem rings_updL {H : Hp} {L : Addr} {zs xs : List V} {rs : List (Int × Int)} {m : Int} (hL : H L = some (.lst zs)) (h : RingsAt H m xs rs) (o : HO) : RingsAt (upd H L o) m xs rs := paired_imp (fun x q z => by
  obtain ⟨t, rfl, ht, z'⟩ := z
  exact ⟨t, rfl, (upd_ne (ne_of ht hL (by intro z; cases z))).trans ht, z'⟩) h
section
variable {P : Program} {w : World} {K : PySem.W.Frag} {mg : Str → Option Value} {base : Heap}
def spFR : Sp := fun vs H Q _ => ∃ (d : Addr), vs = [.ref d] ∧ Dice H d ∧ ∀ H', Dice H' d → Keep d H H' → Q (.bl true) H'
theorem ok_far_right (T : Txt K mg) {f : Addr} {fd : FuncData} (D : DefAt K mg "_law_far_right" sLFarRight ["_law_dice_here"] f fd) : FnOk P w K mg base CX0 8 f fd ["_law_dice_here"] spFR := by
  refine D.F.ok scLFarRight (fun vs H Q E h => ?_) (fun cdv A outer s₀ H vs Q E hr h => ?_)
  · obtain ⟨d, rfl, _⟩ := h
    rfl
  · obtain ⟨d, rfl, hd, kQ⟩ := h
    obtain ⟨f1, fd1, D1⟩ := T.d_classes_at_least
    obtain ⟨f2, fd2, D2⟩ := T.d_standard_fillings
    obtain ⟨f3, fd3, D3⟩ := T.d_l_standard
    obtain ⟨f4, fd4, D4⟩ := T.d_l_ring_of
    obtain ⟨f5, fd5, D5⟩ := T.d_l_roll
    obtain ⟨f6, fd6, D6⟩ := T.d_l_one_of
    have hr1 : Room 1 _ := hr.mono (by decide)
    have hr2 : Room 2 _ := hr.mono (by decide)
    have hr3 : Room 3 _ := hr.mono (by decide)
    have hr5 : Room 5 _ := hr.mono (by decide)
    have hr7 : Room 7 _ := hr.mono (by decide)
    refine ⟨_, pss_cons (ps_asg (pe_call (ok_one_of T D6) hr2 (by rfl) D6.g D6.F.kp D6.b .nil pass0 (pa_cons (pv 0) (pa_cons (pe_lst (pa_cons (pe_tup (pa_cons pe_int (pa_cons pe_int pa_nil))) (pa_cons (pe_tup (pa_cons pe_int (pa_cons pe_int pa_nil))) (pa_cons (pe_tup (pa_cons pe_int (pa_cons pe_int pa_nil))) (pa_cons (pe_tup (pa_cons pe_int (pa_cons pe_int pa_nil))) (pa_cons (pe_tup (pa_cons pe_int (pa_cons pe_int pa_nil))) (pa_cons (pe_tup (pa_cons pe_int (pa_cons pe_int pa_nil))) (pa_cons (pe_tup (pa_cons pe_int (pa_cons pe_int pa_nil))) (pa_cons (pe_tup (pa_cons pe_int (pa_cons pe_int pa_nil))) pa_nil))))))))) pa_nil))) (pg_tup (by rfl) (pgs_cons (pg_name (i := 1) scLFarRight.nd rfl (.inl rfl)) (pgs_cons (pg_name (i := 2) scLFarRight.nd rfl (.inl rfl)) pgs_nil))))
      (pss_cons (ps_par (i := 3) (j := 4) (by rfl) scLFarRight.nd rfl rfl (by decide) rfl rfl (pa_cons (pe_op op_mul (pv 1) (pv 2)) (pa_cons (pe_op op_sub (pe_op op_add (pv 1) (pv 2)) pe_int) pa_nil)) (by rfl))
      (pss_cons (ps_set (i := 5) scLFarRight.nd rfl (.inl rfl) (pe_lst pa_nil))
      (pss_cons (ps_for PassesOwn.never rfl (pi_range1 (by rfl) T.z_range (pa_cons (pv 3) pa_nil)) (pg_name (i := 6) scLFarRight.nd rfl (.inl rfl))
        (pss_cons (ps_set (i := 7) scLFarRight.nd rfl (.inl rfl) (pe_op op_add (pv 4) (pe_call (ok_roll T D5) hr1 (by rfl) D5.g D5.F.kp D5.b .nil pass0 (pa_cons (pv 0) (pa_cons pe_int pa_nil)))))
      (pss_one (ps_expr (pe_bm PySem.F.plainAttrs_list PySem.F.slot_list_append PySem.F.type_list_append mt_append (pv 5) (pa_cons (pe_call (ok_ring_of2 T D4) hr3 (by rfl) D4.g D4.F.kp D4.b .nil pass0 (pa_cons (pv 0) (pa_cons (pe_callB (call_max2 rfl) (by rfl) T.z_max (by decide +kernel) (pa_cons pe_int (pa_cons (pv 7) pa_nil))) (pa_cons pe_int pa_nil)))) pa_nil))))))
      (pss_cons (ps_set (i := 8) scLFarRight.nd rfl (.inl rfl) (pe_call (ok_lstandard T D3) hr2 (by rfl) D3.g D3.F.kp D3.b .nil pass0 (pa_cons (pe_op RT.op_repZ (pe_tup (pa_cons (pv 2) pa_nil)) (pv 1)) pa_nil)))
      (pss_cons (ps_if (pt_cmpR op_ne (pe_call (ok_std_fillings T D2) hr5 (by rfl) D2.g D2.F.kp D2.b .nil pass0 (pa_cons (pe_op RT.op_repZ (pe_tup (pa_cons (pv 2) pa_nil)) (pv 1)) pa_nil)) (pv 8) (nomark _)) (pss_one (ps_ret pe_bl)) pss_nil)
      (pss_cons (ps_set (i := 9) scLFarRight.nd rfl (.inl rfl) (pe_op op_sub (pe_op op_sub (pe_op op_add (pv 3) (pv 1)) pe_int) (pv 2)))
      (pss_one (ps_ret (pe_cmpR op_eq (pe_call (ok_classes_at_least T D1) hr7 (by rfl) D1.g D1.F.kp D1.b .nil pass0 (pa_cons (pe_callTy call_tuple_of (by rfl) T.z_tuple (by decide +kernel) (pa_cons (pv 5) pa_nil)) (pa_cons (pv 9) (pa_cons (pe_op op_sub (pv 1) pe_int) pa_nil)))) (pv 8) (nomark _)))))))))), ?_⟩
    refine ⟨_, rfl, ?_⟩
    refine ⟨by show 2 ≤ sizeLine; decide, fun t0 ht0 => ?_⟩
    have xt0 := Ex.new (o := .tup [.int 1, .int 2]) ht0
    have gt0 : (upd H t0 (.tup [.int 1, .int 2])) t0 = some (.tup [.int 1, .int 2]) := upd_same
    generalize upd H t0 (.tup [.int 1, .int 2]) = A0 at *
    refine ⟨by show 2 ≤ sizeLine; decide, fun t1 ht1 => ?_⟩
    have xt1 := Ex.new (o := .tup [.int 2, .int 1]) ht1
    have gt1 : (upd A0 t1 (.tup [.int 2, .int 1])) t1 = some (.tup [.int 2, .int 1]) := upd_same
    generalize upd A0 t1 (.tup [.int 2, .int 1]) = A1 at *
    refine ⟨by show 2 ≤ sizeLine; decide, fun t2 ht2 => ?_⟩
    have xt2 := Ex.new (o := .tup [.int 1, .int 3]) ht2
    have gt2 : (upd A1 t2 (.tup [.int 1, .int 3])) t2 = some (.tup [.int 1, .int 3]) := upd_same
    generalize upd A1 t2 (.tup [.int 1, .int 3]) = A2 at *
    refine ⟨by show 2 ≤ sizeLine; decide, fun t3 ht3 => ?_⟩
    have xt3 := Ex.new (o := .tup [.int 2, .int 2]) ht3
    have gt3 : (upd A2 t3 (.tup [.int 2, .int 2])) t3 = some (.tup [.int 2, .int 2]) := upd_same
    generalize upd A2 t3 (.tup [.int 2, .int 2]) = A3 at *
    refine ⟨by show 2 ≤ sizeLine; decide, fun t4 ht4 => ?_⟩
    have xt4 := Ex.new (o := .tup [.int 3, .int 1]) ht4
    have gt4 : (upd A3 t4 (.tup [.int 3, .int 1])) t4 = some (.tup [.int 3, .int 1]) := upd_same
    generalize upd A3 t4 (.tup [.int 3, .int 1]) = A4 at *
    refine ⟨by show 2 ≤ sizeLine; decide, fun t5 ht5 => ?_⟩
    have xt5 := Ex.new (o := .tup [.int 2, .int 3]) ht5
    have gt5 : (upd A4 t5 (.tup [.int 2, .int 3])) t5 = some (.tup [.int 2, .int 3]) := upd_same
    generalize upd A4 t5 (.tup [.int 2, .int 3]) = A5 at *
    refine ⟨by show 2 ≤ sizeLine; decide, fun t6 ht6 => ?_⟩
    have xt6 := Ex.new (o := .tup [.int 3, .int 2]) ht6
    have gt6 : (upd A5 t6 (.tup [.int 3, .int 2])) t6 = some (.tup [.int 3, .int 2]) := upd_same
    generalize upd A5 t6 (.tup [.int 3, .int 2]) = A6 at *
    refine ⟨by show 2 ≤ sizeLine; decide, fun t7 ht7 => ?_⟩
    have xt7 := Ex.new (o := .tup [.int 4, .int 2]) ht7
    have gt7 : (upd A6 t7 (.tup [.int 4, .int 2])) t7 = some (.tup [.int 4, .int 2]) := upd_same
    generalize upd A6 t7 (.tup [.int 4, .int 2]) = A7 at *
    refine ⟨by show 8 ≤ sizeLine; decide, fun bl hbl => ?_⟩
    have w7 := Ex.new (o := .lst [V.ref t0, .ref t1, .ref t2, .ref t3, .ref t4, .ref t5, .ref t6, .ref t7]) hbl
    have gl0 : (upd A7 bl (.lst [V.ref t0, .ref t1, .ref t2, .ref t3, .ref t4, .ref t5, .ref t6, .ref t7])) bl = some (.lst [V.ref t0, .ref t1, .ref t2, .ref t3, .ref t4, .ref t5, .ref t6, .ref t7]) := upd_same
    generalize upd A7 bl (.lst [V.ref t0, .ref t1, .ref t2, .ref t3, .ref t4, .ref t5, .ref t6, .ref t7]) = B0 at *
    have w6 := xt7.trans w7
    have w5 := xt6.trans w6
    have w4 := xt5.trans w5
    have w3 := xt4.trans w4
    have w2 := xt3.trans w3
    have w1 := xt2.trans w2
    have w0 := xt1.trans w1
    have wH := xt0.trans w0
    have PB : Paired (BoxV B0) [V.ref t0, .ref t1, .ref t2, .ref t3, .ref t4, .ref t5, .ref t6, .ref t7] boxes :=
      .cons ⟨_, rfl, w0 _ _ gt0⟩ (.cons ⟨_, rfl, w1 _ _ gt1⟩ (.cons ⟨_, rfl, w2 _ _ gt2⟩ (.cons ⟨_, rfl, w3 _ _ gt3⟩ (.cons ⟨_, rfl, w4 _ _ gt4⟩ (.cons ⟨_, rfl, w5 _ _ gt5⟩ (.cons ⟨_, rfl, w6 _ _ gt6⟩ (.cons ⟨_, rfl, w7 _ _ gt7⟩ .nil)))))))
    have hdB := hd.ex wH
    have nbd : bl ≠ d := fun z => by
      obtain ⟨_, _, _, e⟩ := hdB
      rw [← z, gl0] at e
      cases e
    refine ⟨d, bl, _, rfl, hdB, gl0, nbd, by show 1 ≤ 8; decide, by show 8 ≤ 1000; decide, fun x H1 hx hd1 k1 => ?_⟩
    obtain ⟨b, hb, t, rfl, ht⟩ := paired_mem PB hx
    have ht1 := k1.tup hdB ht
    have okb := boxes_ok b hb
    obtain ⟨c, r⟩ := b
    unfold okBox at okb
    simp only [Bool.and_eq_true, decide_eq_true_eq] at okb
    obtain ⟨⟨⟨⟨⟨⟨⟨⟨⟨c1, c4⟩, r1⟩, r3⟩, m8⟩, sm⟩, f0⟩, hp0⟩, hp1⟩, fe⟩ := okb
    refine ⟨t, _, rfl, SqT.of ht1, rfl, _, [_], rfl, _, [], rfl, rfl, ?_⟩
    refine ⟨_, rfl, _, rfl, _, _, rfl, rfl, .inl ⟨by omega, by omega⟩, _, rfl, _, rfl, _, _, rfl, rfl, _, _, rfl, rfl, _, _, rfl, ?_⟩
    obtain ⟨g, hg⟩ : ∃ g, g = c * r := ⟨_, rfl⟩
    rw [← hg] at m8 sm f0 fe
    have g1 : 1 ≤ g := by rw [hg]; exact Nat.mul_pos c1 r1
    have gi : (c : Int) * (r : Int) = (g : Int) := by rw [hg, Int.natCast_mul]
    refine ⟨by show 0 ≤ sizeLine; decide, fun L hL => ?_⟩
    show tSeq _ _ _ [some (.ref d), some (.int (c : Int)), some (.int (r : Int)), some (.int ((c : Int) * (r : Int))), some (.int ((c : Int) + (r : Int) - 1)), some (.ref L), none, none, none, none] _
    rw [gi]
    have eL := Ex.new (o := .lst []) hL
    have gL : (upd H1 L (.lst [])) L = some (.lst []) := upd_same
    have hdL := hd1.ex eL
    have ndL : d ≠ L := hd1.ne_new hL
    have kL := k1.trans (Keep.ex eL)
    have hLH : H L = none := by
      cases z : H L with
      | none => rfl
      | some o => 
        have := k1.free ndL.symm hL
        rw [wH _ _ z] at this
        cases this
    have kH : Keep d H (upd H1 L (.lst [])) := (Keep.ex wH).trans kL
    generalize upd H1 L (.lst []) = H2 at *
    refine ⟨_, rfl, _, rfl, by omega, by omega, ?_⟩
    refine for_range (lo := 0) (n := (g : Int).toNat) (fun i σ' H' => ∃ (y6 y7 : Option V) (ys : List V) (rs : List (Int × Int)), σ' = [some (.ref d), some (.int (c : Int)), some (.int (r : Int)), some (.int (g : Int)), some (.int ((c : Int) + (r : Int) - 1)), some (.ref L), y6, y7, none, none] ∧ H' L = some (.lst ys) ∧ RingsAt H' 60 ys rs ∧ rs.length = i ∧ (∀ j, j < i → 2 ≤ K1M.ord (K1N.nAt rs j) (K1N.sAt rs j).natAbs ∧ c + r ≤ K1M.ord (K1N.nAt rs j) (K1N.sAt rs j).natAbs + 1) ∧ Dice H' d ∧ Keep d H H')
      ⟨none, none, [], [], rfl, gL, .nil, rfl, fun j hj => absurd hj (Nat.not_lt_zero j), hdL, kH⟩ (fun i σ' H' hi hW => ?_) (fun σ' H' hW => ?_)
    · obtain ⟨y6, y7, ys, rs, rfl, v1, v2, v3, v4, v5, v6⟩ := hW
      have hi : i < g := hi
      refine ⟨_, rfl, _, rfl, d, _, rfl, v5, by decide, by decide, fun rr H4 rr0 rr2 hd4 k4 => ⟨_, _, rfl, rfl, ?_⟩⟩
      refine ⟨_, rfl, .inl ⟨rfl, _, SqL.of (k4 _ _ ndL.symm v1)⟩, _, rfl, _, rfl, _, _, rfl, d, (if (c : Int) + (r : Int) - 1 + rr > 2 then (c : Int) + (r : Int) - 1 + rr else 2), 2, rfl, hd4, by split <;> omega, by split <;> omega, by decide, by decide, fun x n s H5 hx oo hd5 k5 => ?_⟩
      have k45 := k4.trans k5
      have v1' := k45 _ _ ndL.symm v1
      have v2' : RingsAt H5 60 ys rs := paired_imp (fun _ _ z => RingAt.keep k45 v5 z) v2
      have hx' : RingAt H5 60 x n s := hx.most (by split <;> omega)
      have yl : ys.length = rs.length := paired_len v2'
      refine ⟨L, ys, x, rfl, rfl, v1', small1000 (by omega), ?_⟩
      have nl : ∀ t, x = .ref t → t ≠ L := fun t e => by
        obtain ⟨t', e', ht', _⟩ := hx'
        rw [e] at e'
        cases e'
        exact ne_of ht' v1' (by intro z; cases z)
      have snoc : RingsAt (upd H5 L (.lst (ys ++ [x]))) 60 (ys ++ [x]) (rs ++ [(n, s)]) := by
        have r2 := rings_updL v1' v2' (.lst (ys ++ [x]))
        exact paired_snoc (y := (n, s)) (R := fun z (q : Int × Int) => RingAt (upd H5 L (.lst (ys ++ [x]))) 60 z q.1 q.2) (RingAt.upd nl hx') r2
      refine ⟨_, _, ys ++ [x], rs ++ [(n, s)], rfl, upd_same, snoc, by rw [List.length_append, v3]; rfl, fun j hj => ?_, hd5.upd ndL, (v6.trans k45).mut hLH⟩
      rcases Nat.lt_or_ge j i with z | z
      · rw [nAt_app (by omega), show K1N.sAt (rs ++ [(n, s)]) j = K1N.sAt rs j from by
          unfold K1N.sAt
          rw [List.getD_eq_getElem?_getD, List.getD_eq_getElem?_getD, List.getElem?_append_left (by omega)]]
        exact v4 j z
      · obtain rfl : j = rs.length := by omega
        rw [nAt_last, show K1N.sAt (rs ++ [(n, s)]) rs.length = s from by
          unfold K1N.sAt
          rw [List.getD_eq_getElem?_getD, List.getElem?_append_right (Nat.le_refl _), Nat.sub_self]
          rfl, oo]
        split <;> constructor <;> omega
    · obtain ⟨y6, y7, ys, rs, rfl, v1, v2, v3, v4, v5, v6⟩ := hW
      have v3 : rs.length = g := v3
      have v4 : ∀ j, j < g → _ := v4
      have yl : ys.length = rs.length := paired_len v2
      have Bk := bx_rep (c := c) (r := r) (show 0 < r from r1)
      have sr := sq_rep c r
      obtain ⟨κ, hκ⟩ : ∃ κ, κ = List.replicate c r := ⟨_, rfl⟩
      have κl : κ.length = c := by rw [hκ, List.length_replicate]
      have fl : (List.replicate (c : Int).toNat [V.int (r : Int)]).flatten = hv κ := by
        rw [hκ, Int.toNat_natCast]
        unfold hv
        rw [List.map_replicate, List.flatten_replicate_singleton]
      rw [← hκ] at Bk sr sm f0 hp0 hp1 fe
      refine ⟨_, rfl, by show 1 ≤ sizeLine; decide, fun t1 ht1 => ⟨_, rfl, t1, _, _, rfl, rfl, upd_same, by simp, by omega, by omega, by show 1 ≤ 1000; decide, fun p1 H5 e5 hp5 => ?_⟩⟩
      rw [fl] at hp5
      have e15 := (Ex.new (o := .tup [.int (r : Int)]) ht1).trans e5
      refine ⟨p1, κ, g, c, r, rfl, hp5, Bk, by omega, sm, m8, by omega, by omega, f0, fun H6 e6 => ?_⟩
      refine ⟨_, rfl, by show 1 ≤ sizeLine; decide, fun t2 ht2 => ⟨_, rfl, t2, _, _, rfl, rfl, upd_same, by simp, by omega, by omega, by show 1 ≤ 1000; decide, fun p2 H7 e7 hp7 => ?_⟩⟩
      rw [fl] at hp7
      have e17 := (e15.trans e6).trans ((Ex.new (o := .tup [.int (r : Int)]) ht2).trans e7)
      refine ⟨p2, κ, rfl, hp7, ⟨Bk.heap, by omega, by have := Bk.top; omega⟩, by omega, by rw [κl]; exact hp0, by rw [κl]; exact hp1, fun H8 e8 => ?_⟩
      rw [κl, sm, fe]
      refine ⟨_, rfl, rfl, false, by simp, iteF ?_⟩
      have eA := e17.trans e8
      refine ⟨_, rfl, _, rfl, _, _, rfl, rfl, _, _, rfl, rfl, _, rfl, _, _, rfl, rfl, ?_⟩
      refine ⟨_, rfl, L, ys, rfl, .inl ⟨SqL.of (eA _ _ v1), fun lt hlt => ?_⟩⟩
      have xl := Ex.new (o := .tup ys) hlt
      refine ⟨_, rfl, _, rfl, _, _, rfl, rfl, lt, ys, rs, (g : Int) + c - 1 - r, c - 1, ?_, upd_same, rings_ex4 (eA.trans xl) v2, by omega, ⟨by omega, .inr ⟨by omega, by omega, by omega⟩⟩, by omega, by omega, by omega, fun H9 e9 => ?_⟩
      · rw [Int.ofNat_sub c1]
        rfl
      · rw [yl, v3, far_count c1 r1 hg rfl (by omega) (fun j hj => ?_), ← hκ]
        · refine ⟨_, rfl, rfl, ?_⟩
          rw [decide_eq_true rfl]
          have e19 := (eA.trans xl).trans e9
          exact kQ _ (v5.ex e19) (v6.trans (Keep.ex e19))
        · obtain ⟨o1, o2⟩ := v4 j hj
          obtain ⟨q1, q2⟩ := rings_ok v2 j (by omega)
          exact ⟨by omega, q1, o1, o2⟩
end
end K1

set_option exponentiation.threshold 400
namespace K1
open PySem PySem.Spec PyProof.Rows L2 Evl HM LX ZW TE DR
theorem sql_keep {K : PySem.W.Frag} {H H1 H2 : Hp} {p a : Addr} {xs : List V} (h0 : H p = none) (e : Ex H H1) (k : Keep p H1 H2) (h : SqL K H a xs) : SqL K H2 a xs := by
  rcases h with (h | ⟨o, h⟩) | h
  · exact .inl (.inl (k _ _ (ne_of_none h h0) (e _ _ h)))
  · exact .inl (.inr ⟨o, k _ _ (ne_of_none h h0) (e _ _ h)⟩)
  · exact .inr h
section
variable {P : Program} {w : World} {K : PySem.W.Frag} {mg : Str → Option Value} {base : Heap}
def spLaw (K : PySem.W.Frag) : Sp := fun vs H Q _ => ∃ (a : Addr) (ns : List Int), vs = [.ref a] ∧ SqL K H a (ns.map V.int) ∧ ns.length ≤ 63 ∧ ∀ H', Q (.bl true) H'
theorem ok_law (T : Txt K mg) {f : Addr} {fd : FuncData} (F : Fun K "law" "law" sLaw f fd) : FnOk P w K mg base CX0 9 f fd ["_law_script"] (spLaw K) := by
  refine F.ok scLaw (fun vs H Q E h => ?_) (fun cdv A outer s₀ H vs Q E hr h => ?_)
  · obtain ⟨a, ns, rfl, _⟩ := h
    rfl
  · obtain ⟨a, ns, rfl, hS, hlen, q⟩ := h
    obtain ⟨f1, fd1, D1⟩ := T.d_l_far_right
    obtain ⟨f2, fd2, D2⟩ := T.d_l_counts_right
    obtain ⟨f3, fd3, D3⟩ := T.d_l_dice
    have hr1 : Room 1 _ := hr.mono (by decide)
    have hr8 : Room 8 _ := hr.mono (by decide)
    refine ⟨_, pss_cons (ps_for PassesOwn.never rfl (pi_range1 (by rfl) T.z_range (pa_cons (pe_callB (call_max2 rfl) (by rfl) T.z_max (by decide +kernel) (pa_cons pe_int (pa_cons (pe_callB (call_min2 rfl) (by rfl) T.z_min (by decide +kernel) (pa_cons pe_int (pa_cons (pe_callB call_len_seq (by rfl) T.z_len PySem.boot_len (pa_cons (pv 0) pa_nil)) pa_nil))) pa_nil))) pa_nil)) (pg_name (i := 1) scLaw.nd rfl (.inl rfl))
        (pss_cons (ps_set (i := 2) scLaw.nd rfl (.inl rfl) (pe_call (ok_dice T D3) hr1 (by rfl) D3.g D3.F.kp D3.b .nil pass0 (pa_cons (pv 0) (pa_cons (pv 1) pa_nil))))
      (pss_one (ps_if (PW.pt (pw_or (pt_not (pt_val (pe_call (ok_counts_right T D2) hr8 (by rfl) D2.g D2.F.kp D2.b .nil pass0 (pa_cons (pv 2) pa_nil))))
          (pw_or1 (pt_not (pt_val (pe_call (ok_far_right T D1) hr8 (by rfl) D1.g D1.F.kp D1.b .nil pass0 (pa_cons (pv 2) pa_nil))))))) (pss_one (ps_ret pe_bl)) pss_nil))))
      (pss_one (ps_ret pe_bl)), ?_⟩
    refine ⟨_, rfl, a, _, rfl, .inl hS, _, _, rfl, _, _, rfl, _, rfl, ?_, ?_, for_range (lo := 0) (n := Int.toNat _) (fun i σ' H' => ∃ y1 y2, σ' = [some (.ref a), y1, y2] ∧ SqL K H' a (ns.map V.int)) ⟨_, _, rfl, hS⟩ (fun i σ' H' _ hp => ?_) (fun σ' H' hp => ?_)⟩
    · first | omega | (split <;> omega) | (split <;> split <;> omega)
    · rw [List.length_map]
      first | omega | (split <;> omega) | (split <;> split <;> omega)
    · obtain ⟨y1, y2, rfl, hS'⟩ := hp
      refine ⟨_, rfl, _, rfl, a, ns, i, ?_, hS', fun d H1 hp0 e1 hd1 => ?_⟩
      · rw [Int.zero_add]
        rfl
      refine ⟨_, rfl, d, rfl, hd1, fun H2 hd2 k2 => ⟨true, rfl, iteF ?_⟩⟩
      refine ⟨_, rfl, d, rfl, hd2, fun H3 hd3 k3 => ⟨true, rfl, iteF ?_⟩⟩
      exact ⟨_, _, rfl, sql_keep hp0 e1 (k2.trans k3) hS'⟩
    · obtain ⟨y1, y2, rfl, hS'⟩ := hp
      exact q _
end
end K1

namespace K1
open PySem PySem.Spec PyProof.Rows L2
/-- what a def of the text leaves -/
theorem mk_def {K : PySem.W.Frag} {h : Heap} {mg : Str → Option Value} {x : Str} {st : Stmt} {ps : List Str} {f : Addr} {oc : Value} {od an : Option Addr} {osl : Array (Option Value)} {kV doc pm cdv ct : Value} (X : K.In h) (G : h.Ns mainGlobals mg)
    (a : PySem.W.nsIn K mainGlobals x = some (some (.ref f))) (l : K.lookup f = some ⟨oc, od, .func (PySem.W.fnOf x x (defArgs st) (defBody st) (defScope st) .none kV doc pm an cdv ct), osl⟩) (c : PySem.W.codeIn K cdv x = true) (k : PySem.W.keepIn K (.ref f) = true)
    (b : ∀ (kV doc pm : Value) (an : Option Addr) (cdv ct : Value) (us : List Value), us.length = ps.length → bindArgs (PySem.W.fnOf x x (defArgs st) (defBody st) (defScope st) .none kV doc pm an cdv ct) ⟨us, []⟩ = pure (ps.zip us)) :
    ∃ f fd, DefAt K mg x st ps f fd := ⟨f, _, ⟨fun_mk (st := st) l c k, PySem.W.mg_of X G a, (fun_mk (st := st) l c k).binds b⟩⟩
theorem all_mk {P : Program} {w : World} {K : PySem.W.Frag} {h : Heap} {mg : Str → Option Value} {fa : Addr} (X : K.In h) (G : h.Ns mainGlobals mg) (hfa : mg "law" = some (.ref fa)) (vBOUND : ∃ t, mg "BOUND" = some (.int (10 ^ 60) t))
    {tRINGS tPLACES tSIDE tMOST_CUT tMOST_K tMOST_STANDARD : Tok} (gRINGS : PySem.W.nsIn K mainGlobals "MOST_RINGS" = some (some (.int 12 tRINGS))) (gPLACES : PySem.W.nsIn K mainGlobals "MOST_PLACES" = some (some (.int 60 tPLACES))) (gSIDE : PySem.W.nsIn K mainGlobals "MOST_SIDE" = some (some (.int 60 tSIDE))) (gMOST_CUT : PySem.W.nsIn K mainGlobals "MOST_CUT" = some (some (.int 6 tMOST_CUT))) (gMOST_K : PySem.W.nsIn K mainGlobals "MOST_K" = some (some (.int 40 tMOST_K))) (gMOST_STANDARD : PySem.W.nsIn K mainGlobals "MOST_STANDARD" = some (some (.int 200 tMOST_STANDARD))) (bfactorial : PySem.W.nsIn K mainGlobals "factorial" = some (some (.builtin "math.factorial"))) (bgcd : PySem.W.nsIn K mainGlobals "gcd" = some (some (.builtin "math.gcd")))
    (z_abs : PySem.W.nsIn K mainGlobals "abs" = some none) (z_all : PySem.W.nsIn K mainGlobals "all" = some none) (z_bool : PySem.W.nsIn K mainGlobals "bool" = some none) (z_enumerate : PySem.W.nsIn K mainGlobals "enumerate" = some none) (z_int : PySem.W.nsIn K mainGlobals "int" = some none) (z_isinstance : PySem.W.nsIn K mainGlobals "isinstance" = some none) (z_len : PySem.W.nsIn K mainGlobals "len" = some none) (z_list : PySem.W.nsIn K mainGlobals "list" = some none) (z_max : PySem.W.nsIn K mainGlobals "max" = some none) (z_min : PySem.W.nsIn K mainGlobals "min" = some none) (z_range : PySem.W.nsIn K mainGlobals "range" = some none) (z_sorted : PySem.W.nsIn K mainGlobals "sorted" = some none) (z_sum : PySem.W.nsIn K mainGlobals "sum" = some none) (z_tuple : PySem.W.nsIn K mainGlobals "tuple" = some none) (z_zip : PySem.W.nsIn K mainGlobals "zip" = some none)
    {f0 : Addr} {oc0 : Value} {od0 an0 : Option Addr} {sl0 : Array (Option Value)} {kV0 dc0 pm0 cd0 ct0 : Value}
    (a0 : PySem.W.nsIn K mainGlobals "is_integer" = some (some (.ref f0))) (l0 : K.lookup f0 = some ⟨oc0, od0, .func (PySem.W.fnOf "is_integer" "is_integer" (defArgs sIsInteger) (defBody sIsInteger) (defScope sIsInteger) .none kV0 dc0 pm0 an0 cd0 ct0), sl0⟩) (c0 : PySem.W.codeIn K cd0 "is_integer" = true) (k0 : PySem.W.keepIn K (.ref f0) = true)
    {f1 : Addr} {oc1 : Value} {od1 an1 : Option Addr} {sl1 : Array (Option Value)} {kV1 dc1 pm1 cd1 ct1 : Value}
    (a1 : PySem.W.nsIn K mainGlobals "is_between" = some (some (.ref f1))) (l1 : K.lookup f1 = some ⟨oc1, od1, .func (PySem.W.fnOf "is_between" "is_between" (defArgs sIsBetween) (defBody sIsBetween) (defScope sIsBetween) .none kV1 dc1 pm1 an1 cd1 ct1), sl1⟩) (c1 : PySem.W.codeIn K cd1 "is_between" = true) (k1 : PySem.W.keepIn K (.ref f1) = true)
    {f2 : Addr} {oc2 : Value} {od2 an2 : Option Addr} {sl2 : Array (Option Value)} {kV2 dc2 pm2 cd2 ct2 : Value}
    (a2 : PySem.W.nsIn K mainGlobals "is_pair" = some (some (.ref f2))) (l2 : K.lookup f2 = some ⟨oc2, od2, .func (PySem.W.fnOf "is_pair" "is_pair" (defArgs sIsPair) (defBody sIsPair) (defScope sIsPair) .none kV2 dc2 pm2 an2 cd2 ct2), sl2⟩) (c2 : PySem.W.codeIn K cd2 "is_pair" = true) (k2 : PySem.W.keepIn K (.ref f2) = true)
    {f3 : Addr} {oc3 : Value} {od3 an3 : Option Addr} {sl3 : Array (Option Value)} {kV3 dc3 pm3 cd3 ct3 : Value}
    (a3 : PySem.W.nsIn K mainGlobals "check_integer" = some (some (.ref f3))) (l3 : K.lookup f3 = some ⟨oc3, od3, .func (PySem.W.fnOf "check_integer" "check_integer" (defArgs sCheckInteger) (defBody sCheckInteger) (defScope sCheckInteger) .none kV3 dc3 pm3 an3 cd3 ct3), sl3⟩) (c3 : PySem.W.codeIn K cd3 "check_integer" = true) (k3 : PySem.W.keepIn K (.ref f3) = true)
    {f4 : Addr} {oc4 : Value} {od4 an4 : Option Addr} {sl4 : Array (Option Value)} {kV4 dc4 pm4 cd4 ct4 : Value}
    (a4 : PySem.W.nsIn K mainGlobals "check_between" = some (some (.ref f4))) (l4 : K.lookup f4 = some ⟨oc4, od4, .func (PySem.W.fnOf "check_between" "check_between" (defArgs sCheckBetween) (defBody sCheckBetween) (defScope sCheckBetween) .none kV4 dc4 pm4 an4 cd4 ct4), sl4⟩) (c4 : PySem.W.codeIn K cd4 "check_between" = true) (k4 : PySem.W.keepIn K (.ref f4) = true)
    {f5 : Addr} {oc5 : Value} {od5 an5 : Option Addr} {sl5 : Array (Option Value)} {kV5 dc5 pm5 cd5 ct5 : Value}
    (a5 : PySem.W.nsIn K mainGlobals "is_ring" = some (some (.ref f5))) (l5 : K.lookup f5 = some ⟨oc5, od5, .func (PySem.W.fnOf "is_ring" "is_ring" (defArgs sIsRing) (defBody sIsRing) (defScope sIsRing) .none kV5 dc5 pm5 an5 cd5 ct5), sl5⟩) (c5 : PySem.W.codeIn K cd5 "is_ring" = true) (k5 : PySem.W.keepIn K (.ref f5) = true)
    {f6 : Addr} {oc6 : Value} {od6 an6 : Option Addr} {sl6 : Array (Option Value)} {kV6 dc6 pm6 cd6 ct6 : Value}
    (a6 : PySem.W.nsIn K mainGlobals "is_chain" = some (some (.ref f6))) (l6 : K.lookup f6 = some ⟨oc6, od6, .func (PySem.W.fnOf "is_chain" "is_chain" (defArgs sIsChain) (defBody sIsChain) (defScope sIsChain) .none kV6 dc6 pm6 an6 cd6 ct6), sl6⟩) (c6 : PySem.W.codeIn K cd6 "is_chain" = true) (k6 : PySem.W.keepIn K (.ref f6) = true)
    {f7 : Addr} {oc7 : Value} {od7 an7 : Option Addr} {sl7 : Array (Option Value)} {kV7 dc7 pm7 cd7 ct7 : Value}
    (a7 : PySem.W.nsIn K mainGlobals "check_ring" = some (some (.ref f7))) (l7 : K.lookup f7 = some ⟨oc7, od7, .func (PySem.W.fnOf "check_ring" "check_ring" (defArgs sCheckRing) (defBody sCheckRing) (defScope sCheckRing) .none kV7 dc7 pm7 an7 cd7 ct7), sl7⟩) (c7 : PySem.W.codeIn K cd7 "check_ring" = true) (k7 : PySem.W.keepIn K (.ref f7) = true)
    {f8 : Addr} {oc8 : Value} {od8 an8 : Option Addr} {sl8 : Array (Option Value)} {kV8 dc8 pm8 cd8 ct8 : Value}
    (a8 : PySem.W.nsIn K mainGlobals "check_chain" = some (some (.ref f8))) (l8 : K.lookup f8 = some ⟨oc8, od8, .func (PySem.W.fnOf "check_chain" "check_chain" (defArgs sCheckChain) (defBody sCheckChain) (defScope sCheckChain) .none kV8 dc8 pm8 an8 cd8 ct8), sl8⟩) (c8 : PySem.W.codeIn K cd8 "check_chain" = true) (k8 : PySem.W.keepIn K (.ref f8) = true)
    {f9 : Addr} {oc9 : Value} {od9 an9 : Option Addr} {sl9 : Array (Option Value)} {kV9 dc9 pm9 cd9 ct9 : Value}
    (a9 : PySem.W.nsIn K mainGlobals "order_of" = some (some (.ref f9))) (l9 : K.lookup f9 = some ⟨oc9, od9, .func (PySem.W.fnOf "order_of" "order_of" (defArgs sOrderOf) (defBody sOrderOf) (defScope sOrderOf) .none kV9 dc9 pm9 an9 cd9 ct9), sl9⟩) (c9 : PySem.W.codeIn K cd9 "order_of" = true) (k9 : PySem.W.keepIn K (.ref f9) = true)
    {f10 : Addr} {oc10 : Value} {od10 an10 : Option Addr} {sl10 : Array (Option Value)} {kV10 dc10 pm10 cd10 ct10 : Value}
    (a10 : PySem.W.nsIn K mainGlobals "is_heap" = some (some (.ref f10))) (l10 : K.lookup f10 = some ⟨oc10, od10, .func (PySem.W.fnOf "is_heap" "is_heap" (defArgs sIsHeap) (defBody sIsHeap) (defScope sIsHeap) .none kV10 dc10 pm10 an10 cd10 ct10), sl10⟩) (c10 : PySem.W.codeIn K cd10 "is_heap" = true) (k10 : PySem.W.keepIn K (.ref f10) = true)
    {f11 : Addr} {oc11 : Value} {od11 an11 : Option Addr} {sl11 : Array (Option Value)} {kV11 dc11 pm11 cd11 ct11 : Value}
    (a11 : PySem.W.nsIn K mainGlobals "check_heap" = some (some (.ref f11))) (l11 : K.lookup f11 = some ⟨oc11, od11, .func (PySem.W.fnOf "check_heap" "check_heap" (defArgs sCheckHeap) (defBody sCheckHeap) (defScope sCheckHeap) .none kV11 dc11 pm11 an11 cd11 ct11), sl11⟩) (c11 : PySem.W.codeIn K cd11 "check_heap" = true) (k11 : PySem.W.keepIn K (.ref f11) = true)
    {f12 : Addr} {oc12 : Value} {od12 an12 : Option Addr} {sl12 : Array (Option Value)} {kV12 dc12 pm12 cd12 ct12 : Value}
    (a12 : PySem.W.nsIn K mainGlobals "height_at" = some (some (.ref f12))) (l12 : K.lookup f12 = some ⟨oc12, od12, .func (PySem.W.fnOf "height_at" "height_at" (defArgs sHeightAt) (defBody sHeightAt) (defScope sHeightAt) .none kV12 dc12 pm12 an12 cd12 ct12), sl12⟩) (c12 : PySem.W.codeIn K cd12 "height_at" = true) (k12 : PySem.W.keepIn K (.ref f12) = true)
    {f13 : Addr} {oc13 : Value} {od13 an13 : Option Addr} {sl13 : Array (Option Value)} {kV13 dc13 pm13 cd13 ct13 : Value}
    (a13 : PySem.W.nsIn K mainGlobals "has_box" = some (some (.ref f13))) (l13 : K.lookup f13 = some ⟨oc13, od13, .func (PySem.W.fnOf "has_box" "has_box" (defArgs sHasBox) (defBody sHasBox) (defScope sHasBox) .none kV13 dc13 pm13 an13 cd13 ct13), sl13⟩) (c13 : PySem.W.codeIn K cd13 "has_box" = true) (k13 : PySem.W.keepIn K (.ref f13) = true)
    {f14 : Addr} {oc14 : Value} {od14 an14 : Option Addr} {sl14 : Array (Option Value)} {kV14 dc14 pm14 cd14 ct14 : Value}
    (a14 : PySem.W.nsIn K mainGlobals "lengths_of" = some (some (.ref f14))) (l14 : K.lookup f14 = some ⟨oc14, od14, .func (PySem.W.fnOf "lengths_of" "lengths_of" (defArgs sLengthsOf) (defBody sLengthsOf) (defScope sLengthsOf) .none kV14 dc14 pm14 an14 cd14 ct14), sl14⟩) (c14 : PySem.W.codeIn K cd14 "lengths_of" = true) (k14 : PySem.W.keepIn K (.ref f14) = true)
    {f15 : Addr} {oc15 : Value} {od15 an15 : Option Addr} {sl15 : Array (Option Value)} {kV15 dc15 pm15 cd15 ct15 : Value}
    (a15 : PySem.W.nsIn K mainGlobals "hook_at" = some (some (.ref f15))) (l15 : K.lookup f15 = some ⟨oc15, od15, .func (PySem.W.fnOf "hook_at" "hook_at" (defArgs sHookAt) (defBody sHookAt) (defScope sHookAt) .none kV15 dc15 pm15 an15 cd15 ct15), sl15⟩) (c15 : PySem.W.codeIn K cd15 "hook_at" = true) (k15 : PySem.W.keepIn K (.ref f15) = true)
    {f16 : Addr} {oc16 : Value} {od16 an16 : Option Addr} {sl16 : Array (Option Value)} {kV16 dc16 pm16 cd16 ct16 : Value}
    (a16 : PySem.W.nsIn K mainGlobals "open_columns" = some (some (.ref f16))) (l16 : K.lookup f16 = some ⟨oc16, od16, .func (PySem.W.fnOf "open_columns" "open_columns" (defArgs sOpenColumns) (defBody sOpenColumns) (defScope sOpenColumns) .none kV16 dc16 pm16 an16 cd16 ct16), sl16⟩) (c16 : PySem.W.codeIn K cd16 "open_columns" = true) (k16 : PySem.W.keepIn K (.ref f16) = true)
    {f17 : Addr} {oc17 : Value} {od17 an17 : Option Addr} {sl17 : Array (Option Value)} {kV17 dc17 pm17 cd17 ct17 : Value}
    (a17 : PySem.W.nsIn K mainGlobals "heaped" = some (some (.ref f17))) (l17 : K.lookup f17 = some ⟨oc17, od17, .func (PySem.W.fnOf "heaped" "heaped" (defArgs sHeaped) (defBody sHeaped) (defScope sHeaped) .none kV17 dc17 pm17 an17 cd17 ct17), sl17⟩) (c17 : PySem.W.codeIn K cd17 "heaped" = true) (k17 : PySem.W.keepIn K (.ref f17) = true)
    {f18 : Addr} {oc18 : Value} {od18 an18 : Option Addr} {sl18 : Array (Option Value)} {kV18 dc18 pm18 cd18 ct18 : Value}
    (a18 : PySem.W.nsIn K mainGlobals "rests_within" = some (some (.ref f18))) (l18 : K.lookup f18 = some ⟨oc18, od18, .func (PySem.W.fnOf "rests_within" "rests_within" (defArgs sRestsWithin) (defBody sRestsWithin) (defScope sRestsWithin) .none kV18 dc18 pm18 an18 cd18 ct18), sl18⟩) (c18 : PySem.W.codeIn K cd18 "rests_within" = true) (k18 : PySem.W.keepIn K (.ref f18) = true)
    {f19 : Addr} {oc19 : Value} {od19 an19 : Option Addr} {sl19 : Array (Option Value)} {kV19 dc19 pm19 cd19 ct19 : Value}
    (a19 : PySem.W.nsIn K mainGlobals "steps_within" = some (some (.ref f19))) (l19 : K.lookup f19 = some ⟨oc19, od19, .func (PySem.W.fnOf "steps_within" "steps_within" (defArgs sStepsWithin) (defBody sStepsWithin) (defScope sStepsWithin) .none kV19 dc19 pm19 an19 cd19 ct19), sl19⟩) (c19 : PySem.W.codeIn K cd19 "steps_within" = true) (k19 : PySem.W.keepIn K (.ref f19) = true)
    {f20 : Addr} {oc20 : Value} {od20 an20 : Option Addr} {sl20 : Array (Option Value)} {kV20 dc20 pm20 cd20 ct20 : Value}
    (a20 : PySem.W.nsIn K mainGlobals "tuples_of" = some (some (.ref f20))) (l20 : K.lookup f20 = some ⟨oc20, od20, .func (PySem.W.fnOf "tuples_of" "tuples_of" (defArgs sTuplesOf) (defBody sTuplesOf) (defScope sTuplesOf) .none kV20 dc20 pm20 an20 cd20 ct20), sl20⟩) (c20 : PySem.W.codeIn K cd20 "tuples_of" = true) (k20 : PySem.W.keepIn K (.ref f20) = true)
    {f21 : Addr} {oc21 : Value} {od21 an21 : Option Addr} {sl21 : Array (Option Value)} {kV21 dc21 pm21 cd21 ct21 : Value}
    (a21 : PySem.W.nsIn K mainGlobals "cut_heaps" = some (some (.ref f21))) (l21 : K.lookup f21 = some ⟨oc21, od21, .func (PySem.W.fnOf "cut_heaps" "cut_heaps" (defArgs sCutHeaps) (defBody sCutHeaps) (defScope sCutHeaps) .none kV21 dc21 pm21 an21 cd21 ct21), sl21⟩) (c21 : PySem.W.codeIn K cd21 "cut_heaps" = true) (k21 : PySem.W.keepIn K (.ref f21) = true)
    {f22 : Addr} {oc22 : Value} {od22 an22 : Option Addr} {sl22 : Array (Option Value)} {kV22 dc22 pm22 cd22 ct22 : Value}
    (a22 : PySem.W.nsIn K mainGlobals "classes_by_heap" = some (some (.ref f22))) (l22 : K.lookup f22 = some ⟨oc22, od22, .func (PySem.W.fnOf "classes_by_heap" "classes_by_heap" (defArgs sClassesByHeap) (defBody sClassesByHeap) (defScope sClassesByHeap) .none kV22 dc22 pm22 an22 cd22 ct22), sl22⟩) (c22 : PySem.W.codeIn K cd22 "classes_by_heap" = true) (k22 : PySem.W.keepIn K (.ref f22) = true)
    {f23 : Addr} {oc23 : Value} {od23 an23 : Option Addr} {sl23 : Array (Option Value)} {kV23 dc23 pm23 cd23 ct23 : Value}
    (a23 : PySem.W.nsIn K mainGlobals "classes_at_least" = some (some (.ref f23))) (l23 : K.lookup f23 = some ⟨oc23, od23, .func (PySem.W.fnOf "classes_at_least" "classes_at_least" (defArgs sClassesAtLeast) (defBody sClassesAtLeast) (defScope sClassesAtLeast) .none kV23 dc23 pm23 an23 cd23 ct23), sl23⟩) (c23 : PySem.W.codeIn K cd23 "classes_at_least" = true) (k23 : PySem.W.keepIn K (.ref f23) = true)
    {f24 : Addr} {oc24 : Value} {od24 an24 : Option Addr} {sl24 : Array (Option Value)} {kV24 dc24 pm24 cd24 ct24 : Value}
    (a24 : PySem.W.nsIn K mainGlobals "least_richness" = some (some (.ref f24))) (l24 : K.lookup f24 = some ⟨oc24, od24, .func (PySem.W.fnOf "least_richness" "least_richness" (defArgs sLeastRichness) (defBody sLeastRichness) (defScope sLeastRichness) .none kV24 dc24 pm24 an24 cd24 ct24), sl24⟩) (c24 : PySem.W.codeIn K cd24 "least_richness" = true) (k24 : PySem.W.keepIn K (.ref f24) = true)
    {f25 : Addr} {oc25 : Value} {od25 an25 : Option Addr} {sl25 : Array (Option Value)} {kV25 dc25 pm25 cd25 ct25 : Value}
    (a25 : PySem.W.nsIn K mainGlobals "richness_in" = some (some (.ref f25))) (l25 : K.lookup f25 = some ⟨oc25, od25, .func (PySem.W.fnOf "richness_in" "richness_in" (defArgs sRichnessIn) (defBody sRichnessIn) (defScope sRichnessIn) .none kV25 dc25 pm25 an25 cd25 ct25), sl25⟩) (c25 : PySem.W.codeIn K cd25 "richness_in" = true) (k25 : PySem.W.keepIn K (.ref f25) = true)
    {f26 : Addr} {oc26 : Value} {od26 an26 : Option Addr} {sl26 : Array (Option Value)} {kV26 dc26 pm26 cd26 ct26 : Value}
    (a26 : PySem.W.nsIn K mainGlobals "classes_by_richness" = some (some (.ref f26))) (l26 : K.lookup f26 = some ⟨oc26, od26, .func (PySem.W.fnOf "classes_by_richness" "classes_by_richness" (defArgs sClassesByRichness) (defBody sClassesByRichness) (defScope sClassesByRichness) .none kV26 dc26 pm26 an26 cd26 ct26), sl26⟩) (c26 : PySem.W.codeIn K cd26 "classes_by_richness" = true) (k26 : PySem.W.keepIn K (.ref f26) = true)
    {f27 : Addr} {oc27 : Value} {od27 an27 : Option Addr} {sl27 : Array (Option Value)} {kV27 dc27 pm27 cd27 ct27 : Value}
    (a27 : PySem.W.nsIn K mainGlobals "standard_count" = some (some (.ref f27))) (l27 : K.lookup f27 = some ⟨oc27, od27, .func (PySem.W.fnOf "standard_count" "standard_count" (defArgs sStandardCount) (defBody sStandardCount) (defScope sStandardCount) .none kV27 dc27 pm27 an27 cd27 ct27), sl27⟩) (c27 : PySem.W.codeIn K cd27 "standard_count" = true) (k27 : PySem.W.keepIn K (.ref f27) = true)
    {f28 : Addr} {oc28 : Value} {od28 an28 : Option Addr} {sl28 : Array (Option Value)} {kV28 dc28 pm28 cd28 ct28 : Value}
    (a28 : PySem.W.nsIn K mainGlobals "standard_fillings" = some (some (.ref f28))) (l28 : K.lookup f28 = some ⟨oc28, od28, .func (PySem.W.fnOf "standard_fillings" "standard_fillings" (defArgs sStandardFillings) (defBody sStandardFillings) (defScope sStandardFillings) .none kV28 dc28 pm28 an28 cd28 ct28), sl28⟩) (c28 : PySem.W.codeIn K cd28 "standard_fillings" = true) (k28 : PySem.W.keepIn K (.ref f28) = true)
    {f29 : Addr} {oc29 : Value} {od29 an29 : Option Addr} {sl29 : Array (Option Value)} {kV29 dc29 pm29 cd29 ct29 : Value}
    (a29 : PySem.W.nsIn K mainGlobals "_law_dice" = some (some (.ref f29))) (l29 : K.lookup f29 = some ⟨oc29, od29, .func (PySem.W.fnOf "_law_dice" "_law_dice" (defArgs sLDice) (defBody sLDice) (defScope sLDice) .none kV29 dc29 pm29 an29 cd29 ct29), sl29⟩) (c29 : PySem.W.codeIn K cd29 "_law_dice" = true) (k29 : PySem.W.keepIn K (.ref f29) = true)
    {f30 : Addr} {oc30 : Value} {od30 an30 : Option Addr} {sl30 : Array (Option Value)} {kV30 dc30 pm30 cd30 ct30 : Value}
    (a30 : PySem.W.nsIn K mainGlobals "_law_roll" = some (some (.ref f30))) (l30 : K.lookup f30 = some ⟨oc30, od30, .func (PySem.W.fnOf "_law_roll" "_law_roll" (defArgs sLRoll) (defBody sLRoll) (defScope sLRoll) .none kV30 dc30 pm30 an30 cd30 ct30), sl30⟩) (c30 : PySem.W.codeIn K cd30 "_law_roll" = true) (k30 : PySem.W.keepIn K (.ref f30) = true)
    {f31 : Addr} {oc31 : Value} {od31 an31 : Option Addr} {sl31 : Array (Option Value)} {kV31 dc31 pm31 cd31 ct31 : Value}
    (a31 : PySem.W.nsIn K mainGlobals "_law_one_of" = some (some (.ref f31))) (l31 : K.lookup f31 = some ⟨oc31, od31, .func (PySem.W.fnOf "_law_one_of" "_law_one_of" (defArgs sLOneOf) (defBody sLOneOf) (defScope sLOneOf) .none kV31 dc31 pm31 an31 cd31 ct31), sl31⟩) (c31 : PySem.W.codeIn K cd31 "_law_one_of" = true) (k31 : PySem.W.keepIn K (.ref f31) = true)
    {f32 : Addr} {oc32 : Value} {od32 an32 : Option Addr} {sl32 : Array (Option Value)} {kV32 dc32 pm32 cd32 ct32 : Value}
    (a32 : PySem.W.nsIn K mainGlobals "_law_common" = some (some (.ref f32))) (l32 : K.lookup f32 = some ⟨oc32, od32, .func (PySem.W.fnOf "_law_common" "_law_common" (defArgs sLCommon) (defBody sLCommon) (defScope sLCommon) .none kV32 dc32 pm32 an32 cd32 ct32), sl32⟩) (c32 : PySem.W.codeIn K cd32 "_law_common" = true) (k32 : PySem.W.keepIn K (.ref f32) = true)
    {f33 : Addr} {oc33 : Value} {od33 an33 : Option Addr} {sl33 : Array (Option Value)} {kV33 dc33 pm33 cd33 ct33 : Value}
    (a33 : PySem.W.nsIn K mainGlobals "_law_ring" = some (some (.ref f33))) (l33 : K.lookup f33 = some ⟨oc33, od33, .func (PySem.W.fnOf "_law_ring" "_law_ring" (defArgs sLRing) (defBody sLRing) (defScope sLRing) .none kV33 dc33 pm33 an33 cd33 ct33), sl33⟩) (c33 : PySem.W.codeIn K cd33 "_law_ring" = true) (k33 : PySem.W.keepIn K (.ref f33) = true)
    {f34 : Addr} {oc34 : Value} {od34 an34 : Option Addr} {sl34 : Array (Option Value)} {kV34 dc34 pm34 cd34 ct34 : Value}
    (a34 : PySem.W.nsIn K mainGlobals "_law_ring_of" = some (some (.ref f34))) (l34 : K.lookup f34 = some ⟨oc34, od34, .func (PySem.W.fnOf "_law_ring_of" "_law_ring_of" (defArgs sLRingOf) (defBody sLRingOf) (defScope sLRingOf) .none kV34 dc34 pm34 an34 cd34 ct34), sl34⟩) (c34 : PySem.W.codeIn K cd34 "_law_ring_of" = true) (k34 : PySem.W.keepIn K (.ref f34) = true)
    {f35 : Addr} {oc35 : Value} {od35 an35 : Option Addr} {sl35 : Array (Option Value)} {kV35 dc35 pm35 cd35 ct35 : Value}
    (a35 : PySem.W.nsIn K mainGlobals "_law_chain" = some (some (.ref f35))) (l35 : K.lookup f35 = some ⟨oc35, od35, .func (PySem.W.fnOf "_law_chain" "_law_chain" (defArgs sLChain) (defBody sLChain) (defScope sLChain) .none kV35 dc35 pm35 an35 cd35 ct35), sl35⟩) (c35 : PySem.W.codeIn K cd35 "_law_chain" = true) (k35 : PySem.W.keepIn K (.ref f35) = true)
    {f36 : Addr} {oc36 : Value} {od36 an36 : Option Addr} {sl36 : Array (Option Value)} {kV36 dc36 pm36 cd36 ct36 : Value}
    (a36 : PySem.W.nsIn K mainGlobals "_law_grown" = some (some (.ref f36))) (l36 : K.lookup f36 = some ⟨oc36, od36, .func (PySem.W.fnOf "_law_grown" "_law_grown" (defArgs sLGrown) (defBody sLGrown) (defScope sLGrown) .none kV36 dc36 pm36 an36 cd36 ct36), sl36⟩) (c36 : PySem.W.codeIn K cd36 "_law_grown" = true) (k36 : PySem.W.keepIn K (.ref f36) = true)
    {f37 : Addr} {oc37 : Value} {od37 an37 : Option Addr} {sl37 : Array (Option Value)} {kV37 dc37 pm37 cd37 ct37 : Value}
    (a37 : PySem.W.nsIn K mainGlobals "_law_heap" = some (some (.ref f37))) (l37 : K.lookup f37 = some ⟨oc37, od37, .func (PySem.W.fnOf "_law_heap" "_law_heap" (defArgs sLHeap) (defBody sLHeap) (defScope sLHeap) .none kV37 dc37 pm37 an37 cd37 ct37), sl37⟩) (c37 : PySem.W.codeIn K cd37 "_law_heap" = true) (k37 : PySem.W.keepIn K (.ref f37) = true)
    {f38 : Addr} {oc38 : Value} {od38 an38 : Option Addr} {sl38 : Array (Option Value)} {kV38 dc38 pm38 cd38 ct38 : Value}
    (a38 : PySem.W.nsIn K mainGlobals "_law_rich" = some (some (.ref f38))) (l38 : K.lookup f38 = some ⟨oc38, od38, .func (PySem.W.fnOf "_law_rich" "_law_rich" (defArgs sLRich) (defBody sLRich) (defScope sLRich) .none kV38 dc38 pm38 an38 cd38 ct38), sl38⟩) (c38 : PySem.W.codeIn K cd38 "_law_rich" = true) (k38 : PySem.W.keepIn K (.ref f38) = true)
    {f39 : Addr} {oc39 : Value} {od39 an39 : Option Addr} {sl39 : Array (Option Value)} {kV39 dc39 pm39 cd39 ct39 : Value}
    (a39 : PySem.W.nsIn K mainGlobals "_law_low_chain" = some (some (.ref f39))) (l39 : K.lookup f39 = some ⟨oc39, od39, .func (PySem.W.fnOf "_law_low_chain" "_law_low_chain" (defArgs sLLowChain) (defBody sLLowChain) (defScope sLLowChain) .none kV39 dc39 pm39 an39 cd39 ct39), sl39⟩) (c39 : PySem.W.codeIn K cd39 "_law_low_chain" = true) (k39 : PySem.W.keepIn K (.ref f39) = true)
    {f40 : Addr} {oc40 : Value} {od40 an40 : Option Addr} {sl40 : Array (Option Value)} {kV40 dc40 pm40 cd40 ct40 : Value}
    (a40 : PySem.W.nsIn K mainGlobals "_law_all_tuples" = some (some (.ref f40))) (l40 : K.lookup f40 = some ⟨oc40, od40, .func (PySem.W.fnOf "_law_all_tuples" "_law_all_tuples" (defArgs sLAllTuples) (defBody sLAllTuples) (defScope sLAllTuples) .none kV40 dc40 pm40 an40 cd40 ct40), sl40⟩) (c40 : PySem.W.codeIn K cd40 "_law_all_tuples" = true) (k40 : PySem.W.keepIn K (.ref f40) = true)
    {f41 : Addr} {oc41 : Value} {od41 an41 : Option Addr} {sl41 : Array (Option Value)} {kV41 dc41 pm41 cd41 ct41 : Value}
    (a41 : PySem.W.nsIn K mainGlobals "_law_cut" = some (some (.ref f41))) (l41 : K.lookup f41 = some ⟨oc41, od41, .func (PySem.W.fnOf "_law_cut" "_law_cut" (defArgs sLCut) (defBody sLCut) (defScope sLCut) .none kV41 dc41 pm41 an41 cd41 ct41), sl41⟩) (c41 : PySem.W.codeIn K cd41 "_law_cut" = true) (k41 : PySem.W.keepIn K (.ref f41) = true)
    {f42 : Addr} {oc42 : Value} {od42 an42 : Option Addr} {sl42 : Array (Option Value)} {kV42 dc42 pm42 cd42 ct42 : Value}
    (a42 : PySem.W.nsIn K mainGlobals "_law_counted" = some (some (.ref f42))) (l42 : K.lookup f42 = some ⟨oc42, od42, .func (PySem.W.fnOf "_law_counted" "_law_counted" (defArgs sLCounted) (defBody sLCounted) (defScope sLCounted) .none kV42 dc42 pm42 an42 cd42 ct42), sl42⟩) (c42 : PySem.W.codeIn K cd42 "_law_counted" = true) (k42 : PySem.W.keepIn K (.ref f42) = true)
    {f43 : Addr} {oc43 : Value} {od43 an43 : Option Addr} {sl43 : Array (Option Value)} {kV43 dc43 pm43 cd43 ct43 : Value}
    (a43 : PySem.W.nsIn K mainGlobals "_law_standard" = some (some (.ref f43))) (l43 : K.lookup f43 = some ⟨oc43, od43, .func (PySem.W.fnOf "_law_standard" "_law_standard" (defArgs sLStandard) (defBody sLStandard) (defScope sLStandard) .none kV43 dc43 pm43 an43 cd43 ct43), sl43⟩) (c43 : PySem.W.codeIn K cd43 "_law_standard" = true) (k43 : PySem.W.keepIn K (.ref f43) = true)
    {f44 : Addr} {oc44 : Value} {od44 an44 : Option Addr} {sl44 : Array (Option Value)} {kV44 dc44 pm44 cd44 ct44 : Value}
    (a44 : PySem.W.nsIn K mainGlobals "_law_counts_right" = some (some (.ref f44))) (l44 : K.lookup f44 = some ⟨oc44, od44, .func (PySem.W.fnOf "_law_counts_right" "_law_counts_right" (defArgs sLCountsRight) (defBody sLCountsRight) (defScope sLCountsRight) .none kV44 dc44 pm44 an44 cd44 ct44), sl44⟩) (c44 : PySem.W.codeIn K cd44 "_law_counts_right" = true) (k44 : PySem.W.keepIn K (.ref f44) = true)
    {f45 : Addr} {oc45 : Value} {od45 an45 : Option Addr} {sl45 : Array (Option Value)} {kV45 dc45 pm45 cd45 ct45 : Value}
    (a45 : PySem.W.nsIn K mainGlobals "_law_far_right" = some (some (.ref f45))) (l45 : K.lookup f45 = some ⟨oc45, od45, .func (PySem.W.fnOf "_law_far_right" "_law_far_right" (defArgs sLFarRight) (defBody sLFarRight) (defScope sLFarRight) .none kV45 dc45 pm45 an45 cd45 ct45), sl45⟩) (c45 : PySem.W.codeIn K cd45 "_law_far_right" = true) (k45 : PySem.W.keepIn K (.ref f45) = true)
    {f46 : Addr} {oc46 : Value} {od46 an46 : Option Addr} {sl46 : Array (Option Value)} {kV46 dc46 pm46 cd46 ct46 : Value}
    (a46 : PySem.W.nsIn K mainGlobals "law" = some (some (.ref f46))) (l46 : K.lookup f46 = some ⟨oc46, od46, .func (PySem.W.fnOf "law" "law" (defArgs sLaw) (defBody sLaw) (defScope sLaw) .none kV46 dc46 pm46 an46 cd46 ct46), sl46⟩) (c46 : PySem.W.codeIn K cd46 "law" = true) (k46 : PySem.W.keepIn K (.ref f46) = true) :
    ∃ fd : FuncData, (∀ (s : Shared) (v : Value), BindsTo s fd ⟨[v], []⟩ [("_law_script", v)]) ∧ ∀ base : Heap, K.In base → base.Ns mainGlobals mg → FnOk P w K mg base CX0 9 fa fd ["_law_script"] (spLaw K) := by
  have e := hfa.symm.trans (PySem.W.mg_of X G a46)
  cases e
  have T : Txt K mg :=
    { z_abs := PySem.W.mg_none_of X G z_abs, z_all := PySem.W.mg_none_of X G z_all, z_bool := PySem.W.mg_none_of X G z_bool, z_enumerate := PySem.W.mg_none_of X G z_enumerate, z_int := PySem.W.mg_none_of X G z_int, z_isinstance := PySem.W.mg_none_of X G z_isinstance, z_len := PySem.W.mg_none_of X G z_len, z_list := PySem.W.mg_none_of X G z_list, z_max := PySem.W.mg_none_of X G z_max, z_min := PySem.W.mg_none_of X G z_min, z_range := PySem.W.mg_none_of X G z_range, z_sorted := PySem.W.mg_none_of X G z_sorted, z_sum := PySem.W.mg_none_of X G z_sum, z_tuple := PySem.W.mg_none_of X G z_tuple, z_zip := PySem.W.mg_none_of X G z_zip, v_factorial := PySem.W.mg_of X G bfactorial, v_gcd := PySem.W.mg_of X G bgcd, v_BOUND := vBOUND, v_RINGS := ⟨tRINGS, PySem.W.mg_of X G gRINGS⟩, v_PLACES := ⟨tPLACES, PySem.W.mg_of X G gPLACES⟩, v_SIDE := ⟨tSIDE, PySem.W.mg_of X G gSIDE⟩, v_MOST_CUT := ⟨tMOST_CUT, PySem.W.mg_of X G gMOST_CUT⟩, v_MOST_K := ⟨tMOST_K, PySem.W.mg_of X G gMOST_K⟩, v_MOST_STANDARD := ⟨tMOST_STANDARD, PySem.W.mg_of X G gMOST_STANDARD⟩,
      d_is_integer := mk_def (ps := ["value"]) X G a0 l0 c0 k0 fun _ _ _ _ _ _ us hl => match us, hl with | [_], _ => rfl,
      d_is_between := mk_def (ps := ["value", "low", "high"]) X G a1 l1 c1 k1 fun _ _ _ _ _ _ us hl => match us, hl with | [_, _, _], _ => rfl,
      d_is_pair := mk_def (ps := ["value"]) X G a2 l2 c2 k2 fun _ _ _ _ _ _ us hl => match us, hl with | [_], _ => rfl,
      d_check_integer := mk_def (ps := ["value"]) X G a3 l3 c3 k3 fun _ _ _ _ _ _ us hl => match us, hl with | [_], _ => rfl,
      d_check_between := mk_def (ps := ["value", "low", "high"]) X G a4 l4 c4 k4 fun _ _ _ _ _ _ us hl => match us, hl with | [_, _, _], _ => rfl,
      d_is_ring := mk_def (ps := ["value"]) X G a5 l5 c5 k5 fun _ _ _ _ _ _ us hl => match us, hl with | [_], _ => rfl,
      d_is_chain := mk_def (ps := ["value"]) X G a6 l6 c6 k6 fun _ _ _ _ _ _ us hl => match us, hl with | [_], _ => rfl,
      d_check_ring := mk_def (ps := ["ring"]) X G a7 l7 c7 k7 fun _ _ _ _ _ _ us hl => match us, hl with | [_], _ => rfl,
      d_check_chain := mk_def (ps := ["chain"]) X G a8 l8 c8 k8 fun _ _ _ _ _ _ us hl => match us, hl with | [_], _ => rfl,
      d_order_of := mk_def (ps := ["ring"]) X G a9 l9 c9 k9 fun _ _ _ _ _ _ us hl => match us, hl with | [_], _ => rfl,
      d_is_heap := mk_def (ps := ["value"]) X G a10 l10 c10 k10 fun _ _ _ _ _ _ us hl => match us, hl with | [_], _ => rfl,
      d_check_heap := mk_def (ps := ["heap"]) X G a11 l11 c11 k11 fun _ _ _ _ _ _ us hl => match us, hl with | [_], _ => rfl,
      d_height_at := mk_def (ps := ["heap", "column"]) X G a12 l12 c12 k12 fun _ _ _ _ _ _ us hl => match us, hl with | [_, _], _ => rfl,
      d_has_box := mk_def (ps := ["heap", "columns", "rows"]) X G a13 l13 c13 k13 fun _ _ _ _ _ _ us hl => match us, hl with | [_, _, _], _ => rfl,
      d_lengths_of := mk_def (ps := ["heap"]) X G a14 l14 c14 k14 fun _ _ _ _ _ _ us hl => match us, hl with | [_], _ => rfl,
      d_hook_at := mk_def (ps := ["heap", "lengths", "column", "row"]) X G a15 l15 c15 k15 fun _ _ _ _ _ _ us hl => match us, hl with | [_, _, _, _], _ => rfl,
      d_open_columns := mk_def (ps := ["heap"]) X G a16 l16 c16 k16 fun _ _ _ _ _ _ us hl => match us, hl with | [_], _ => rfl,
      d_heaped := mk_def (ps := ["heap", "columns"]) X G a17 l17 c17 k17 fun _ _ _ _ _ _ us hl => match us, hl with | [_, _], _ => rfl,
      d_rests_within := mk_def (ps := ["whole", "heap", "order"]) X G a18 l18 c18 k18 fun _ _ _ _ _ _ us hl => match us, hl with | [_, _, _], _ => rfl,
      d_steps_within := mk_def (ps := ["whole", "heap", "order"]) X G a19 l19 c19 k19 fun _ _ _ _ _ _ us hl => match us, hl with | [_, _, _], _ => rfl,
      d_tuples_of := mk_def (ps := ["chain"]) X G a20 l20 c20 k20 fun _ _ _ _ _ _ us hl => match us, hl with | [_], _ => rfl,
      d_cut_heaps := mk_def (ps := ["chain", "columns", "rows"]) X G a21 l21 c21 k21 fun _ _ _ _ _ _ us hl => match us, hl with | [_, _, _], _ => rfl,
      d_classes_by_heap := mk_def (ps := ["chain", "columns", "rows"]) X G a22 l22 c22 k22 fun _ _ _ _ _ _ us hl => match us, hl with | [_, _, _], _ => rfl,
      d_classes_at_least := mk_def (ps := ["chain", "degree", "k"]) X G a23 l23 c23 k23 fun _ _ _ _ _ _ us hl => match us, hl with | [_, _, _], _ => rfl,
      d_least_richness := mk_def (ps := ["chain", "degree"]) X G a24 l24 c24 k24 fun _ _ _ _ _ _ us hl => match us, hl with | [_, _], _ => rfl,
      d_richness_in := mk_def (ps := ["heap", "short", "least"]) X G a25 l25 c25 k25 fun _ _ _ _ _ _ us hl => match us, hl with | [_, _, _], _ => rfl,
      d_classes_by_richness := mk_def (ps := ["chain", "degree"]) X G a26 l26 c26 k26 fun _ _ _ _ _ _ us hl => match us, hl with | [_, _], _ => rfl,
      d_standard_count := mk_def (ps := ["heap"]) X G a27 l27 c27 k27 fun _ _ _ _ _ _ us hl => match us, hl with | [_], _ => rfl,
      d_standard_fillings := mk_def (ps := ["heap"]) X G a28 l28 c28 k28 fun _ _ _ _ _ _ us hl => match us, hl with | [_], _ => rfl,
      d_l_dice := mk_def (ps := ["_law_script", "_law_at"]) X G a29 l29 c29 k29 fun _ _ _ _ _ _ us hl => match us, hl with | [_, _], _ => rfl,
      d_l_roll := mk_def (ps := ["_law_dice_here", "_law_total"]) X G a30 l30 c30 k30 fun _ _ _ _ _ _ us hl => match us, hl with | [_, _], _ => rfl,
      d_l_one_of := mk_def (ps := ["_law_dice_here", "_law_items"]) X G a31 l31 c31 k31 fun _ _ _ _ _ _ us hl => match us, hl with | [_, _], _ => rfl,
      d_l_common := mk_def (ps := ["_law_one", "_law_other"]) X G a32 l32 c32 k32 fun _ _ _ _ _ _ us hl => match us, hl with | [_, _], _ => rfl,
      d_l_ring := mk_def (ps := ["_law_dice_here", "_law_most"]) X G a33 l33 c33 k33 fun _ _ _ _ _ _ us hl => match us, hl with | [_, _], _ => rfl,
      d_l_ring_of := mk_def (ps := ["_law_dice_here", "_law_k", "_law_times"]) X G a34 l34 c34 k34 fun _ _ _ _ _ _ us hl => match us, hl with | [_, _, _], _ => rfl,
      d_l_chain := mk_def (ps := ["_law_dice_here", "_law_rings", "_law_most"]) X G a35 l35 c35 k35 fun _ _ _ _ _ _ us hl => match us, hl with | [_, _, _], _ => rfl,
      d_l_grown := mk_def (ps := ["_law_heap_here", "_law_ring_here", "_law_x"]) X G a36 l36 c36 k36 fun _ _ _ _ _ _ us hl => match us, hl with | [_, _, _], _ => rfl,
      d_l_heap := mk_def (ps := ["_law_chain_here", "_law_x"]) X G a37 l37 c37 k37 fun _ _ _ _ _ _ us hl => match us, hl with | [_, _], _ => rfl,
      d_l_rich := mk_def (ps := ["_law_heap_here", "_law_rings", "_law_total"]) X G a38 l38 c38 k38 fun _ _ _ _ _ _ us hl => match us, hl with | [_, _, _], _ => rfl,
      d_l_low_chain := mk_def (ps := ["_law_dice_here", "_law_most"]) X G a39 l39 c39 k39 fun _ _ _ _ _ _ us hl => match us, hl with | [_, _], _ => rfl,
      d_l_all_tuples := mk_def (ps := ["_law_chain_here", "_law_most"]) X G a40 l40 c40 k40 fun _ _ _ _ _ _ us hl => match us, hl with | [_, _], _ => rfl,
      d_l_cut := mk_def (ps := ["_law_heap_here", "_law_columns", "_law_rows"]) X G a41 l41 c41 k41 fun _ _ _ _ _ _ us hl => match us, hl with | [_, _, _], _ => rfl,
      d_l_counted := mk_def (ps := ["_law_values"]) X G a42 l42 c42 k42 fun _ _ _ _ _ _ us hl => match us, hl with | [_], _ => rfl,
      d_l_standard := mk_def (ps := ["_law_heap_here"]) X G a43 l43 c43 k43 fun _ _ _ _ _ _ us hl => match us, hl with | [_], _ => rfl,
      d_l_counts_right := mk_def (ps := ["_law_dice_here"]) X G a44 l44 c44 k44 fun _ _ _ _ _ _ us hl => match us, hl with | [_], _ => rfl,
      d_l_far_right := mk_def (ps := ["_law_dice_here"]) X G a45 l45 c45 k45 fun _ _ _ _ _ _ us hl => match us, hl with | [_], _ => rfl }
  have F := fun_mk (st := sLaw) l46 c46 k46
  exact ⟨PySem.W.fnOf "law" "law" (defArgs sLaw) (defBody sLaw) (defScope sLaw) .none kV46 dc46 pm46 an46 cd46 ct46, fun s v => .of_eq rfl, fun base _ _ => ok_law T F⟩
/-- the end of the law's row, what the loose names hold told -/
theorem walk_x {l : PySem.W.OpenLaw} {k : Nat} {q : Program} {loose : List Str} {lv : List (Str × PySem.W.WData)} {YP : World → Heap → Prop} {d : DefRec} {K : Params → PySem.W.Frag}
    (hn : l.most = some 63) (hdf : d.params.defaults = []) (hr : Room k callerA) (hY : ∀ (w : World) (h : Heap), YP w h → (K w.params).In h)
    (F : ∀ (w : World) (mg : Str → Option Value) (fa : Addr) (h : Heap), (K w.params).In h → h.Ns mainGlobals mg → PySem.W.XL q lv mg h → mg d.name = some (.ref fa) →
      ∃ fd : FuncData, (∀ (s : Shared) (u : Value), BindsTo s fd ⟨[u], []⟩ [("_law_script", u)]) ∧
        ∀ base : Heap, (K w.params).In base → base.Ns mainGlobals mg → FnOk l.prog w (K w.params) mg base CX0 k fa fd ["_law_script"] (spLaw (K w.params))) :
    PySem.W.WalkO q loose (PySem.W.XL q lv) YP l.row.toRowW d [] (fun f vs => PySem.call f vs) := by
  refine Att.attach_call hn hdf fun w s₀ s₁ mg mb fa o pm cd doc a vs ns G Y ho hd hcd hmg hobj hints hlen hg => ?_
  obtain ⟨fd, hb, hF⟩ := F w mg fa _ (hY w _ Y) G.T.g G.X hmg
  exact law_call (hY w _ Y) G.T.g G.T.b G.T.builtins G.T.nolimit hg hobj hints (Nat.le_trans hlen (by decide)) hr hF hb (fun H _ hS => ⟨a, ns, rfl, hS, hlen, fun _ => rfl⟩) fun H e s' z => z
end K1

open PySem PySem.W PyProof.Rows
set_option maxHeartbeats 0 in
theorem PySem.Challenge.cw_ringstairs_k93_whole_counts_of_classes_o_holds : PySem.Challenge.rw_ringstairs_k93_whole_counts_of_classes_o.Holds := by
  w_on; o_law; k_head; (case hw => w_witness2)
  k_fill
  refine K1.walk_x (k := 9) rfl rfl ⟨rfl, by decide, by decide⟩ (fun w h Y => PySem.W.kIn_of Y) ?F
  case F =>
    intro w mg fa h KX G XF hmg
    have vBOUND : ∃ t, mg "BOUND" = some (.int (10 ^ 60) t) := by
      obtain ⟨v, e1, e2⟩ := XF.2.val _ (List.mem_cons_self ..)
      cases e2
      exact ⟨_, e1⟩
    refine' K1.all_mk KX G hmg vBOUND ?gRINGS ?gPLACES ?gSIDE ?gMOST_CUT ?gMOST_K ?gMOST_STANDARD ?bfactorial ?bgcd ?z_abs ?z_all ?z_bool ?z_enumerate ?z_int ?z_isinstance ?z_len ?z_list ?z_max ?z_min ?z_range ?z_sorted ?z_sum ?z_tuple ?z_zip ?a0 ?l0 ?c0 ?k0 ?a1 ?l1 ?c1 ?k1 ?a2 ?l2 ?c2 ?k2 ?a3 ?l3 ?c3 ?k3 ?a4 ?l4 ?c4 ?k4 ?a5 ?l5 ?c5 ?k5 ?a6 ?l6 ?c6 ?k6 ?a7 ?l7 ?c7 ?k7 ?a8 ?l8 ?c8 ?k8 ?a9 ?l9 ?c9 ?k9 ?a10 ?l10 ?c10 ?k10 ?a11 ?l11 ?c11 ?k11 ?a12 ?l12 ?c12 ?k12 ?a13 ?l13 ?c13 ?k13 ?a14 ?l14 ?c14 ?k14 ?a15 ?l15 ?c15 ?k15 ?a16 ?l16 ?c16 ?k16 ?a17 ?l17 ?c17 ?k17 ?a18 ?l18 ?c18 ?k18 ?a19 ?l19 ?c19 ?k19 ?a20 ?l20 ?c20 ?k20 ?a21 ?l21 ?c21 ?k21 ?a22 ?l22 ?c22 ?k22 ?a23 ?l23 ?c23 ?k23 ?a24 ?l24 ?c24 ?k24 ?a25 ?l25 ?c25 ?k25 ?a26 ?l26 ?c26 ?k26 ?a27 ?l27 ?c27 ?k27 ?a28 ?l28 ?c28 ?k28 ?a29 ?l29 ?c29 ?k29 ?a30 ?l30 ?c30 ?k30 ?a31 ?l31 ?c31 ?k31 ?a32 ?l32 ?c32 ?k32 ?a33 ?l33 ?c33 ?k33 ?a34 ?l34 ?c34 ?k34 ?a35 ?l35 ?c35 ?k35 ?a36 ?l36 ?c36 ?k36 ?a37 ?l37 ?c37 ?k37 ?a38 ?l38 ?c38 ?k38 ?a39 ?l39 ?c39 ?k39 ?a40 ?l40 ?c40 ?k40 ?a41 ?l41 ?c41 ?k41 ?a42 ?l42 ?c42 ?k42 ?a43 ?l43 ?c43 ?k43 ?a44 ?l44 ?c44 ?k44 ?a45 ?l45 ?c45 ?k45 ?a46 ?l46 ?c46 ?k46
    (case gRINGS => k_is); (case gPLACES => k_is); (case gSIDE => k_is); (case gMOST_CUT => k_is); (case gMOST_K => k_is); (case gMOST_STANDARD => k_is); (case bfactorial => k_is); (case bgcd => k_is)
    (case z_abs => k_is); (case z_all => k_is); (case z_bool => k_is); (case z_enumerate => k_is); (case z_int => k_is); (case z_isinstance => k_is); (case z_len => k_is); (case z_list => k_is)
    (case z_max => k_is); (case z_min => k_is); (case z_range => k_is); (case z_sorted => k_is); (case z_sum => k_is); (case z_tuple => k_is); (case z_zip => k_is); (case a0 => k_is)
    (case l0 => k_is); (case c0 => k_is); (case k0 => k_is); (case a1 => k_is); (case l1 => k_is); (case c1 => k_is); (case k1 => k_is); (case a2 => k_is)
    (case l2 => k_is); (case c2 => k_is); (case k2 => k_is); (case a3 => k_is); (case l3 => k_is); (case c3 => k_is); (case k3 => k_is); (case a4 => k_is)
    (case l4 => k_is); (case c4 => k_is); (case k4 => k_is); (case a5 => k_is); (case l5 => k_is); (case c5 => k_is); (case k5 => k_is); (case a6 => k_is)
    (case l6 => k_is); (case c6 => k_is); (case k6 => k_is); (case a7 => k_is); (case l7 => k_is); (case c7 => k_is); (case k7 => k_is); (case a8 => k_is)
    (case l8 => k_is); (case c8 => k_is); (case k8 => k_is); (case a9 => k_is); (case l9 => k_is); (case c9 => k_is); (case k9 => k_is); (case a10 => k_is)
    (case l10 => k_is); (case c10 => k_is); (case k10 => k_is); (case a11 => k_is); (case l11 => k_is); (case c11 => k_is); (case k11 => k_is); (case a12 => k_is)
    (case l12 => k_is); (case c12 => k_is); (case k12 => k_is); (case a13 => k_is); (case l13 => k_is); (case c13 => k_is); (case k13 => k_is); (case a14 => k_is)
    (case l14 => k_is); (case c14 => k_is); (case k14 => k_is); (case a15 => k_is); (case l15 => k_is); (case c15 => k_is); (case k15 => k_is); (case a16 => k_is)
    (case l16 => k_is); (case c16 => k_is); (case k16 => k_is); (case a17 => k_is); (case l17 => k_is); (case c17 => k_is); (case k17 => k_is); (case a18 => k_is)
    (case l18 => k_is); (case c18 => k_is); (case k18 => k_is); (case a19 => k_is); (case l19 => k_is); (case c19 => k_is); (case k19 => k_is); (case a20 => k_is)
    (case l20 => k_is); (case c20 => k_is); (case k20 => k_is); (case a21 => k_is); (case l21 => k_is); (case c21 => k_is); (case k21 => k_is); (case a22 => k_is)
    (case l22 => k_is); (case c22 => k_is); (case k22 => k_is); (case a23 => k_is); (case l23 => k_is); (case c23 => k_is); (case k23 => k_is); (case a24 => k_is)
    (case l24 => k_is); (case c24 => k_is); (case k24 => k_is); (case a25 => k_is); (case l25 => k_is); (case c25 => k_is); (case k25 => k_is); (case a26 => k_is)
    (case l26 => k_is); (case c26 => k_is); (case k26 => k_is); (case a27 => k_is); (case l27 => k_is); (case c27 => k_is); (case k27 => k_is); (case a28 => k_is)
    (case l28 => k_is); (case c28 => k_is); (case k28 => k_is); (case a29 => k_is); (case l29 => k_is); (case c29 => k_is); (case k29 => k_is); (case a30 => k_is)
    (case l30 => k_is); (case c30 => k_is); (case k30 => k_is); (case a31 => k_is); (case l31 => k_is); (case c31 => k_is); (case k31 => k_is); (case a32 => k_is)
    (case l32 => k_is); (case c32 => k_is); (case k32 => k_is); (case a33 => k_is); (case l33 => k_is); (case c33 => k_is); (case k33 => k_is); (case a34 => k_is)
    (case l34 => k_is); (case c34 => k_is); (case k34 => k_is); (case a35 => k_is); (case l35 => k_is); (case c35 => k_is); (case k35 => k_is); (case a36 => k_is)
    (case l36 => k_is); (case c36 => k_is); (case k36 => k_is); (case a37 => k_is); (case l37 => k_is); (case c37 => k_is); (case k37 => k_is); (case a38 => k_is)
    (case l38 => k_is); (case c38 => k_is); (case k38 => k_is); (case a39 => k_is); (case l39 => k_is); (case c39 => k_is); (case k39 => k_is); (case a40 => k_is)
    (case l40 => k_is); (case c40 => k_is); (case k40 => k_is); (case a41 => k_is); (case l41 => k_is); (case c41 => k_is); (case k41 => k_is); (case a42 => k_is)
    (case l42 => k_is); (case c42 => k_is); (case k42 => k_is); (case a43 => k_is); (case l43 => k_is); (case c43 => k_is); (case k43 => k_is); (case a44 => k_is)
    (case l44 => k_is); (case c44 => k_is); (case k44 => k_is); (case a45 => k_is); (case l45 => k_is); (case c45 => k_is); (case k45 => k_is); (case a46 => k_is)
    (case l46 => k_is); (case c46 => k_is); (case k46 => k_is)

