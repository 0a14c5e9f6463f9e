import PyProof.Rows.All
import Wide.All
import OpenK.AllK
import Wide.FinOn
import HandS.ForMost
import KE.GoesEnum
import PySem.Challenge.RW_ringstairs_k67_whole_least_cores_of_a_bo
import HandS.ForExc
import HandS.Wide
import HandS.SortInts
import HandS.Zip
import HandS.Style
import HandS.Rev
import HandS.TupMul
import HandS.IsInst
import HandS.Evl
import HandS.Gcd
import HandS.RevRange
import HandS.Iter
import HandS.Small
import HandS.Conv
import HandS.DictComp
import KE.KDictSum
import PyProof.Rows.SortLt
import HandS.NamedTupSort
import HandS.SortRule
import HandS.TupAny
import HandS.Walk
import HandS.Deep
import PyProof.P3In
import PyProof.WalkInts
import HandS.SetKeys
import KE.KRevSl
set_option Elab.async false
set_option linter.all false
set_option maxRecDepth 100000
set_option maxHeartbeats 4000000
/-! plain mathematics for the orders and the diagonals -/
namespace K1M
/-- the step: the i-th place on the way from the right door by the left door -/
theorem dvd_iff {n s i : Nat} (hn : 0 < n) : (i * s) % n = 0 ↔ (n / Nat.gcd n s) ∣ i := by
  have hg : 0 < Nat.gcd n s := Nat.gcd_pos_of_pos_left _ hn
  have hc : Nat.Coprime (n / Nat.gcd n s) (s / Nat.gcd n s) := Nat.coprime_div_gcd_div_gcd hg
  have hn' : n = Nat.gcd n s * (n / Nat.gcd n s) := (Nat.mul_div_cancel' (Nat.gcd_dvd_left n s)).symm
  have hs' : s = Nat.gcd n s * (s / Nat.gcd n s) := (Nat.mul_div_cancel' (Nat.gcd_dvd_right n s)).symm
  constructor
  · intro h
    have d : n ∣ i * s := Nat.dvd_of_mod_eq_zero h
    have d2 : Nat.gcd n s * (n / Nat.gcd n s) ∣ Nat.gcd n s * (i * (s / Nat.gcd n s)) := by
      rw [← hn']
      have e : Nat.gcd n s * (i * (s / Nat.gcd n s)) = i * s := by
        rw [Nat.mul_left_comm, ← hs']
      rw [e]
      exact d
    have d3 := Nat.dvd_of_mul_dvd_mul_left hg d2
    exact hc.dvd_of_dvd_mul_right d3
  · rintro ⟨c, rfl⟩
    apply Nat.mod_eq_zero_of_dvd
    refine ⟨c * (s / Nat.gcd n s), ?_⟩
    have e : n / Nat.gcd n s * c * s = n / Nat.gcd n s * c * (Nat.gcd n s * (s / Nat.gcd n s)) := by rw [← hs']
    rw [e]
    have e2 : n * (c * (s / Nat.gcd n s)) = Nat.gcd n s * (n / Nat.gcd n s) * (c * (s / Nat.gcd n s)) := by rw [← hn']
    rw [e2]
    simp only [Nat.mul_assoc, Nat.mul_left_comm, Nat.mul_comm]
def ord (n s : Nat) : Nat := n / Nat.gcd n s
theorem ord_pos {n s : Nat} (hn : 0 < n) : 0 < ord n s := Nat.div_pos (Nat.gcd_le_left s hn) (Nat.gcd_pos_of_pos_left _ hn)
theorem ord_le {n s : Nat} : ord n s ≤ n := Nat.div_le_self _ _
theorem ord_ge2 {n s : Nat} (h1 : 1 ≤ s) (h2 : s < n) : 2 ≤ ord n s := by
  have hn : 0 < n := by omega
  have hg : 0 < Nat.gcd n s := Nat.gcd_pos_of_pos_left _ hn
  have hle : Nat.gcd n s ≤ s := Nat.le_of_dvd h1 (Nat.gcd_dvd_right n s)
  have hn' : n = Nat.gcd n s * ord n s := (Nat.mul_div_cancel' (Nat.gcd_dvd_left n s)).symm
  rcases Nat.lt_or_ge (ord n s) 2 with h | h
  · exfalso
    have hp := ord_pos (s := s) hn
    have e1 : ord n s = 1 := by omega
    rw [e1, Nat.mul_one] at hn'
    omega
  · exact h
/-- the way: while the next is not 0 and there are fewer than n -/
def stp (n s i : Nat) : Nat := (i * s) % n
theorem stp_zero_iff {n s i : Nat} (hn : 0 < n) : stp n s i = 0 ↔ ord n s ∣ i := dvd_iff hn
theorem stp_mod {n s i : Nat} (hn : 0 < n) : stp n s (i % ord n s) = stp n s i := by
  have h0 : (ord n s * s) % n = 0 := (stp_zero_iff (i := ord n s) hn).mpr (Nat.dvd_refl _)
  have e : i = ord n s * (i / ord n s) + i % ord n s := (Nat.div_add_mod i (ord n s)).symm
  have e2 : i * s = (i / ord n s) * (ord n s * s) + (i % ord n s) * s := by
    have : (ord n s * (i / ord n s) + i % ord n s) * s = (i / ord n s) * (ord n s * s) + (i % ord n s) * s := by
      rw [Nat.add_mul]
      congr 1
      simp only [Nat.mul_assoc, Nat.mul_left_comm, Nat.mul_comm]
    rw [← this, ← e]
  obtain ⟨q, hq⟩ := Nat.dvd_of_mod_eq_zero h0
  unfold stp
  rw [e2, hq, Nat.mul_left_comm, Nat.add_comm, Nat.add_mul_mod_self_left]
/-- the same for integers: the diagonal's place -/
theorem istp {n s : Nat} (hn : 0 < n) (c : Int) : (c * (s : Int)) % (n : Int) = ((stp n s (c % (ord n s : Int)).toNat : Nat) : Int) := by
  have hm : 0 < ord n s := ord_pos hn
  have hm' : (0 : Int) < (ord n s : Int) := by exact_mod_cast hm
  have hr0 : 0 ≤ c % (ord n s : Int) := Int.emod_nonneg _ (by omega)
  have h0 : ((ord n s : Int) * (s : Int)) % (n : Int) = 0 := by
    have h0 : (ord n s * s) % n = 0 := (stp_zero_iff (i := ord n s) hn).mpr (Nat.dvd_refl _)
    have := congrArg (fun x : Nat => (x : Int)) h0
    simpa using this
  have e : c = (ord n s : Int) * (c / (ord n s : Int)) + c % (ord n s : Int) := (Int.mul_ediv_add_emod c (ord n s : Int)).symm
  have e2 : c * (s : Int) = (c / (ord n s : Int)) * ((ord n s : Int) * (s : Int)) + (c % (ord n s : Int)) * (s : Int) := by
    have : ((ord n s : Int) * (c / (ord n s : Int)) + c % (ord n s : Int)) * (s : Int) = (c / (ord n s : Int)) * ((ord n s : Int) * (s : Int)) + (c % (ord n s : Int)) * (s : Int) := by
      rw [Int.add_mul]
      congr 1
      rw [Int.mul_assoc, Int.mul_left_comm]
    rw [← this, ← e]
  rw [e2, Int.add_emod, Int.mul_emod, h0, Int.mul_zero, Int.zero_emod, Int.zero_add, Int.emod_emod]
  unfold stp
  have e3 : c % (ord n s : Int) = (((c % (ord n s : Int)).toNat : Nat) : Int) := (Int.toNat_of_nonneg hr0).symm
  conv => lhs; rw [e3]
  simp
/-- does_let tells just the place -/
theorem lets_iff {n : Nat} {x p : Int} (hn : 0 < n) (h0 : 0 ≤ p) (h1 : p < n) : (x - p) % (n : Int) = 0 ↔ x % (n : Int) = p := by
  have hn' : (0 : Int) < n := by exact_mod_cast hn
  constructor
  · intro h
    have e := Int.emod_emod_of_dvd x (Int.dvd_refl (n : Int))
    have h2 : x = (n : Int) * ((x - p) / n) + p := by
      have := Int.mul_ediv_add_emod (x - p) n
      omega
    rw [h2, Int.add_comm, Int.add_mul_emod_self_left]
    exact Int.emod_eq_of_lt h0 h1
  · intro h
    have h2 := Int.mul_ediv_add_emod x n
    have h3 : x - p = (n : Int) * (x / n) := by omega
    rw [h3, Int.mul_emod_right]
/-- the stop of the loop is the order -/
theorem stop_is {n s k : Nat} (hn : 0 < n) (hk : 1 ≤ k) (hkn : k ≤ n) (hlow : ∀ i, 0 < i → i < k → stp n s i ≠ 0) (hstop : stp n s k = 0 ∨ k = n) : k = ord n s := by
  have hm := ord_pos (s := s) hn
  have hmn : ord n s ≤ n := ord_le
  have h1 : k ≤ ord n s := by
    rcases Nat.lt_or_ge (ord n s) k with h | h
    · exact absurd ((stp_zero_iff hn).mpr (Nat.dvd_refl _)) (hlow _ hm h)
    · exact h
  rcases hstop with h | h
  · have d := (stp_zero_iff hn).mp h
    have := Nat.le_of_dvd hk d
    omega
  · omega
end K1M

/-! plain mathematics for the written names -/
namespace K1N
def nAt (rs : List (Int × Int)) (j : Nat) : Nat := (rs.getD j (0, 0)).1.toNat
def sAt (rs : List (Int × Int)) (j : Nat) : Int := (rs.getD j (0, 0)).2
def row (j n : Nat) : List (Int × Int) := (List.range n).map fun (q : Nat) => ((j : Int), (q : Int))
def pre (rs : List (Int × Int)) : Nat → List (Int × Int)
  | 0 => []
  | i + 1 => pre rs i ++ row i (nAt rs i)
/-- a place that is its own written name -/
def own (rs : List (Int × Int)) (p : Int × Int) : Bool := !(decide (0 < p.1) && decide (p.2 = sAt rs p.1.toNat))
def names (rs : List (Int × Int)) : List (Int × Int) := (pre rs rs.length).filter (own rs)
def sumTo (rs : List (Int × Int)) : Nat → Nat
  | 0 => 0
  | i + 1 => sumTo rs i + nAt rs i
theorem row_succ (j n : Nat) : row j (n + 1) = row j n ++ [((j : Int), (n : Int))] := by
  unfold row
  rw [List.range_succ, List.map_append]
  rfl
theorem row_len (j n : Nat) : (row j n).length = n := by
  unfold row
  rw [List.length_map, List.length_range]
theorem pre_len {rs : List (Int × Int)} (h : ∀ j, nAt rs j ≤ 60) : ∀ i, (pre rs i).length ≤ 60 * i
  | 0 => Nat.le_refl _
  | i + 1 => by
    show (pre rs i ++ row i (nAt rs i)).length ≤ 60 * (i + 1)
    rw [List.length_append, row_len]
    have := pre_len h i
    have := h i
    omega
theorem row0 (rs : List (Int × Int)) : ∀ n, ((row 0 n).filter (own rs)).length = n
  | 0 => rfl
  | n + 1 => by
    rw [row_succ, List.filter_append, List.length_append, row0 rs n]
    have : own rs (((0 : Nat) : Int), (n : Int)) = true := rfl
    rw [List.filter_cons, if_pos this]
    rfl
theorem rowS (rs : List (Int × Int)) (j : Nat) (s : Nat) (hs : sAt rs (j + 1) = (s : Int)) : ∀ n, ((row (j + 1) n).filter (own rs)).length = if s < n then n - 1 else n
  | 0 => rfl
  | n + 1 => by
    rw [row_succ, List.filter_append, List.length_append, rowS rs j s hs n]
    by_cases c : n = s
    · have e : own rs (((j + 1 : Nat) : Int), (n : Int)) = false := by
        unfold own
        rw [show (((j + 1 : Nat) : Int)).toNat = j + 1 by omega, hs, decide_eq_true (show (0 : Int) < ((j + 1 : Nat) : Int) by omega), decide_eq_true (show (n : Int) = (s : Int) by omega)]
        rfl
      have e2 : [(((j + 1 : Nat) : Int), (n : Int))].filter (own rs) = [] := by
        rw [List.filter_cons, if_neg (show ¬ own rs (((j + 1 : Nat) : Int), (n : Int)) = true by rw [e]; decide)]
        rfl
      rw [e2, if_neg (show ¬ s < n by omega), if_pos (show s < n + 1 by omega)]
      show n + 0 = n + 1 - 1
      omega
    · have e : own rs (((j + 1 : Nat) : Int), (n : Int)) = true := by
        unfold own
        rw [show (((j + 1 : Nat) : Int)).toNat = j + 1 by omega, hs, decide_eq_false (show ¬ (n : Int) = (s : Int) by omega), Bool.and_false]
        rfl
      rw [List.filter_cons, if_pos e]
      show (if s < n then n - 1 else n) + 1 = _
      by_cases c2 : s < n
      · rw [if_pos c2, if_pos (by omega)]
        omega
      · rw [if_neg c2, if_neg (by omega)]
/-- how many written names -/
theorem count_to {rs : List (Int × Int)} (h : ∀ j, j < rs.length → 1 ≤ sAt rs j ∧ sAt rs j < (nAt rs j : Int)) : ∀ i, 1 ≤ i → i ≤ rs.length → ((pre rs i).filter (own rs)).length + i = sumTo rs i + 1
  | 0, z, _ => absurd z (by decide)
  | 1, _, h1 => by
    show (([] ++ row 0 (nAt rs 0)).filter (own rs)).length + 1 = 0 + nAt rs 0 + 1
    rw [List.nil_append, row0]
    omega
  | i + 2, _, h1 => by
    have ih := count_to h (i + 1) (by omega) (by omega)
    have hs := h (i + 1) (by omega)
    have hr := rowS rs i (sAt rs (i + 1)).toNat (by omega) (nAt rs (i + 1))
    rw [if_pos (by omega)] at hr
    show ((pre rs (i + 1) ++ row (i + 1) (nAt rs (i + 1))).filter (own rs)).length + (i + 2) = sumTo rs (i + 1) + nAt rs (i + 1) + 1
    rw [List.filter_append, List.length_append, hr]
    omega
theorem nAt_left {a b : List (Int × Int)} {j : Nat} (h : j < a.length) : nAt (a ++ b) j = nAt a j := by
  unfold nAt
  rw [List.getD_eq_getElem?_getD, List.getD_eq_getElem?_getD, List.getElem?_append_left h]
theorem nAt_right {a b : List (Int × Int)} {j : Nat} : nAt (a ++ b) (a.length + j) = nAt b j := by
  unfold nAt
  rw [List.getD_eq_getElem?_getD, List.getD_eq_getElem?_getD, List.getElem?_append_right (by omega), Nat.add_sub_cancel_left]
theorem sum_left {a b : List (Int × Int)} : ∀ i, i ≤ a.length → sumTo (a ++ b) i = sumTo a i
  | 0, _ => rfl
  | i + 1, h => by
    show sumTo (a ++ b) i + nAt (a ++ b) i = sumTo a i + nAt a i
    rw [sum_left i (by omega), nAt_left (by omega)]
theorem sum_right {a b : List (Int × Int)} : ∀ i, sumTo (a ++ b) (a.length + i) = sumTo a a.length + sumTo b i
  | 0 => by
    rw [Nat.add_zero, sum_left _ (Nat.le_refl _)]
    rfl
  | i + 1 => by
    show sumTo (a ++ b) (a.length + i) + nAt (a ++ b) (a.length + i) = sumTo a a.length + (sumTo b i + nAt b i)
    rw [sum_right i, nAt_right, Nat.add_assoc]
theorem names_joined {a b : List (Int × Int)} (ha : 1 ≤ a.length) (hb : 1 ≤ b.length) (h1 : ∀ j, j < a.length → 1 ≤ sAt a j ∧ sAt a j < (nAt a j : Int)) (h2 : ∀ j, j < b.length → 1 ≤ sAt b j ∧ sAt b j < (nAt b j : Int))
    (h3 : ∀ j, j < (a ++ b).length → 1 ≤ sAt (a ++ b) j ∧ sAt (a ++ b) j < (nAt (a ++ b) j : Int)) : (names (a ++ b)).length + 1 = (names a).length + (names b).length := by
  unfold names
  have e1 := count_to h1 a.length ha (Nat.le_refl _)
  have e2 := count_to h2 b.length hb (Nat.le_refl _)
  have e3 := count_to h3 (a ++ b).length (by rw [List.length_append]; omega) (Nat.le_refl _)
  have e4 := sum_right (a := a) (b := b) b.length
  rw [List.length_append] at e3 ⊢
  omega
end K1N

/-! enumerate over a tuple, one argument -/
namespace EnT
open PySem PySem.Spec PyProof.Rows L2
theorem made {v : Value} {o : Obj} {Hy : Heap → Prop} (B : Begins v o Hy) : Meets (Builtin.«enumerate.__new__» ⟨[.type "enumerate", v], []⟩) (fun _ R s => Hy s.heap ∧
      R (.ok (.ret (.ref (s.heap.push o).objs.size))) { s with heap := (s.heap.push o).push { cls := .type "enumerate", data := .fields #[.none, .bool false, .ref s.heap.objs.size, rawInt 0, .none, .none] } }) :=
  .of_wp fun prog w A R s z => by
    obtain ⟨hp, gs, dr, tk, os⟩ := s
    obtain ⟨z1, z2⟩ := z
    have sb := sub_enumerate
    have it1 : ∀ {A2 : Around} {E2 : Value → Shared → Prop} {Q2 : Value → Shared → Prop}, Q2 (.ref hp.objs.size) ⟨hp.push o, gs, dr, tk, os⟩ → wpAny (model prog w) A2 (pyIter v) Q2 E2 ⟨hp, gs, dr, tk, os⟩ :=
      fun y => B.iter prog w _ _ ⟨hp, gs, dr, tk, os⟩ _ z1 y
    wp_walk using it1
    refine wpAny_stack_any fun _ => wpAny_pure ?_
    split
    · rename_i c _ _ _ _ _
      cases (c == Value.type "enumerate")
      · wp_walk using it1
        exact ⟨_, rfl, z2⟩
      · wp_walk using it1
        exact ⟨_, rfl, z2⟩
    · wp_walk using it1
      exact ⟨_, rfl, z2⟩
section
variable {prog : Program} {w : World} {A : Around} {E : Value → Shared → Prop} {s : Shared}
theorem call_made {v : Value} {o : Obj} {Hy : Heap → Prop} {Q : Value → Shared → Prop} (B : Begins v o Hy) (h1 : Hy s.heap)
    (k : ∀ h2, IsEnum h2 (s.heap.objs.size + 1) s.heap.objs.size 0 .none → h2.get? s.heap.objs.size = some o → (∀ b u, s.heap.get? b = some u → h2.get? b = some u) → Q (.ref (s.heap.objs.size + 1)) { s with heap := h2 }) :
    wpAny (model prog w) A (call (.type "enumerate") [v]) Q E s := by
  refine callType_new F.called_enumerate (by decide) (F.typeCall_enumerate_1 _) (F.newCall_enumerate_1 _) (fun obj => F.args_object_init_2 obj _) F.entry_enumerate_new (made B) ⟨h1, ?_⟩
  have sz : (s.heap.push o).objs.size = s.heap.objs.size + 1 := by rw [Heap.size_push]
  show _ ∧ _
  rw [sz]
  have en := Heap.get?_push_size (s.heap.push o) (o := { cls := .type "enumerate", data := .fields #[.none, .bool false, .ref s.heap.objs.size, rawInt 0, .none, .none] }) rfl
  rw [sz] at en
  exact ⟨⟨_, en, rfl⟩, k _ en (Heap.get?_push_of_some _ (Heap.get?_push_size _ B.free)) fun b u y => Heap.get?_push_of_some _ (Heap.get?_push_of_some _ y)⟩
end
/-- the tuple at a, each item in a new pair with its number -/
def IteT (K : PySem.W.Frag) (a : Addr) : It :=
  ⟨fun i H => ∃ (ts : List V) (x : V), SqT K H a ts ∧ ts[i]? = some x, fun i H v H' => ∃ T x, v = .ref T ∧ H T = none ∧ H' = upd H T (.tup [.int (i : Nat), x]) ∧ ∀ ts, SqT K H a ts → ts[i]? = some x, fun i H => ∃ ts : List V, SqT K H a ts ∧ ts.length = i⟩
theorem tup_inj {X : Cx} {pins : List (Addr × Obj)} {σ : L2.St} {H : Hp} {s : Shared} {a : Addr} {xs ys : List V} (I : Inv X pins σ H s) (h1 : SqT X.K H a xs) (h2 : SqT X.K H a ys) : xs = ys := by
  obtain ⟨i1, r1, ⟨o1, g1, c1, n1, d1⟩, _⟩ := I.tuple h1
  obtain ⟨i2, r2, ⟨o2, g2, c2, n2, d2⟩, _⟩ := I.tuple h2
  rw [g1] at g2
  have e := Option.some.inj g2
  subst e
  rw [d1] at d2
  injection d2 with e1 _
  have e3 : i1 = i2 := by simpa using e1
  subst e3
  exact Vals.inj r1 r2
theorem turn {P : Program} {w : World} {K : PySem.W.Frag} {elts : List Expr} {kk : Nat} {tpos : Pos} (a e it : Addr) :
    Turn P w K (.Tuple elts kk tpos) (IteT K a) [e, it] e (fun i h => (∃ old, IsEnum h e it ((i : Nat) : Int) old) ∧ h.IsTupleIter it a i ∧ e ≠ it ∧ a ≠ e ∧ a ≠ it) where
  mem := by simp
  obj := fun i h st b hb => by
    obtain ⟨⟨old, he⟩, ⟨o, ho, hc, hd⟩, _⟩ := st
    rcases (show b = e ∨ b = it by simpa using hb) with z | z
    · rw [z]
      exact ⟨_, he, fun v q => nomatch q⟩
    · rw [z]
      exact ⟨o, ho, fun v q => by rw [hd] at q; cases q⟩
  keep := fun i h h' st k => by
    obtain ⟨⟨old, he⟩, ⟨o, ho, hc, hd⟩, n1, n2, n3⟩ := st
    exact ⟨⟨old, k e (by simp) _ he⟩, ⟨o, k it (by simp) _ ho, hc, hd⟩, n1, n2, n3⟩
  item := by
    intro X hP hw hK hc i pins s σ H E I hf st hg
    subst hP hw hK
    obtain ⟨⟨old, he⟩, hit, n1, n2, n3⟩ := st
    obtain ⟨xs, x, hq, hx⟩ := hg
    obtain ⟨its, rv, p, _⟩ := I.tuple hq
    obtain ⟨u, hu, ru⟩ := rv.get hx
    have hel : e < s.heap.objs.size := Heap.lt_size he
    have hil : it < s.heap.objs.size := by
      obtain ⟨_, q, _⟩ := hit
      exact Heap.lt_size q
    have hlt : i < its.toArray.size := by
      have := (List.getElem?_eq_some_iff.mp hu).1
      simpa using this
    have hh : X.A.in1.handled = none := I.ok.hd hc
    have DT := Draws.tuple (prog := X.prog) (w := X.w) hh it a n3 its.toArray
    refine wpAny_pyNext_enum_itemD DT he ⟨hit, p⟩ hlt n1 (by simp [n1, Ne.symm n2]) fun y h1 tk hy ho hst hT hsz hk => ?_
    have ey : y = u := by
      have q : its.toArray[i]? = some u := by simpa using hu
      exact Option.some.inj (hy.symm.trans q)
    subst ey
    refine ⟨_, rfl, wpAny_letOwnedTupleGo_enum (s := { s with heap := h1, toks := tk + 1 }) ho fun h2 he2 sb => ?_⟩
    have hT2 : h2.get? s.heap.objs.size = some { cls := .type "tuple", data := .seq #[.int i tk, y] } := (sb.2 _ (Nat.ne_of_gt hel)).trans hT
    have new : ObjOk X.prog X.w (upd H s.heap.objs.size (.tup [.int (i : Nat), x])) h2 s.heap.objs.size (.tup [.int (i : Nat), x]) :=
      ⟨show 2 ≤ sizeLine by decide, [.int i tk, y], .cons ⟨_, rfl⟩ (.cons ru .nil), ⟨_, hT2, rfl, _, rfl⟩⟩
    have I1 : Inv X pins σ (upd H s.heap.objs.size (.tup [.int (i : Nat), x])) { s with heap := h2, toks := tk + 1 } :=
      I.turnedNew (ch := [e, it]) (fun b ob hb q => (sb.2 b (fun z => hb (by simp [z]))).trans (hk b ob (fun z => hb (by simp [z])) (fun z => hb (by simp [z])) q)) hf (Nat.le_refl _) new
    obtain ⟨oi, g1, g2, g3⟩ := hst.1
    refine ⟨.ref s.heap.objs.size, _, I1, rfl, ⟨_, x, rfl, I.hok.fresh (Nat.le_refl _), rfl, fun ys hys => by rw [tup_inj I hys hq]; exact hx⟩, ⟨⟨y, ?_⟩, ⟨oi, (sb.2 it (Ne.symm n1)).trans g1, g2, g3⟩, n1, n2, n3⟩, fun b hb => ?_⟩
    · rw [show ((i + 1 : Nat) : Int) = (i : Int) + 1 by omega]
      exact he2
    · have hb2 : b < s.heap.objs.size := by
        rcases (show b = e ∨ b = it by simpa using hb) with z | z
        · rw [z]
          exact hel
        · rw [z]
          exact hil
      rw [upd_ne (Nat.ne_of_lt hb2)]
      exact (hf b hb).1
  done := by
    intro X hP hw hK hc i pins s σ H E I hf st hg
    subst hP hw hK
    obtain ⟨⟨old, he⟩, hit, n1, n2, n3⟩ := st
    obtain ⟨xs, hq, hx⟩ := hg
    obtain ⟨its, rv, p, _⟩ := I.tuple hq
    obtain ⟨f0, f1, f2, f3, f4, f5⟩ := hf it (by simp)
    have hl := rv.length
    have hn : its.toArray.size = i := by
      rw [List.size_toArray]
      omega
    have hh : X.A.in1.handled = none := I.ok.hd hc
    have DT := Draws.tuple (prog := X.prog) (w := X.w) hh it a n3 its.toArray
    refine wpAny_pyNext_enum_endD DT he ⟨?_, p⟩ fun h1 eb => ⟨rfl, I.turned (t' := s.toks) (fun b o hb q => eb b o hb q) f0 f1 f3 f4 f5⟩
    rw [hn]
    exact hit
  self := fun A i s Q E st h => by
    obtain ⟨⟨_, he⟩, _⟩ := st
    exact wpAny_pyIter_enum he h
def iEnumT (K : PySem.W.Frag) (ta : TA) : TI := fun σ H R => ta σ H fun vs H1 => ∃ a xs, vs = [.ref a] ∧ SqT K H1 a xs ∧ R (IteT K a) H1
theorem pi_enumT {X : Cx} {e : Expr} {ta : TA} {p pos tpos : Pos} {elts : List Expr} {kk : Nat} (hg : Gl X "enumerate") (hm : X.mg "enumerate" = none) (ha : PA X [e] ta) (hs : starEach [e] X.env = [(false, eval e X.env)] := by rfl) :
    PI X (.Tuple elts kk tpos) (.Call (.Name "enumerate" p) [e] [] pos) (iEnumT X.K ta) := by
  refine ⟨fun pins s σ H R I h => ?_⟩
  refine Call_ (ld_blt I hg hm boot_enumerate (PyProof.Rows.callWith_type1 (thn (ha.run pos pins s σ H _ I h) fun us s1 ⟨vs, H1, I1, r1, y1⟩ => ?_) hs rfl))
  obtain ⟨a, xs, ex, hq, q⟩ := y1
  subst ex
  cases r1 with
  | cons r rr =>
    cases rr
    cases r
    obtain ⟨its, rv, p2, _⟩ := I1.tuple hq
    have hal : a < s1.heap.objs.size := by
      obtain ⟨o, g, _⟩ := p2
      exact Heap.lt_size g
    refine call_made (begins_tuple a its.toArray) p2 fun h2 he hit hk => wpAny_pyIter_enum he ?_
    have I2 : Inv X pins σ H1 { s1 with heap := h2 } := I1.kept (t' := s1.toks) hk
    refine ⟨s1.heap.objs.size + 1, [s1.heap.objs.size + 1, s1.heap.objs.size], _, _, H1, rfl, I2, turn a (s1.heap.objs.size + 1) s1.heap.objs.size, ⟨⟨.none, he⟩, ⟨_, hit, rfl, rfl⟩, Nat.succ_ne_self _, Nat.ne_of_lt (Nat.lt_succ_of_lt hal), Nat.ne_of_lt hal⟩, fun b hb => ?_, q⟩
    have hle : s1.heap.objs.size ≤ b := by
      rcases (show b = s1.heap.objs.size + 1 ∨ b = s1.heap.objs.size by simpa using hb) with z | z
      · rw [z]
        exact Nat.le_add_right _ _
      · rw [z]
        exact Nat.le_refl _
    exact I1.fpOk hle (I1.hok.fresh hle)
end EnT

namespace K1
open PySem PySem.Spec PyProof.Rows L2 Evl
def topS (i : Nat) : Stmt := PySem.Challenge.pw_ringstairs_k67_whole_least_cores_of_a_bo.main.body.getD i (.Pass ⟨0, 0, 0, 0⟩)
abbrev sIsInteger : Stmt := topS 9
abbrev nIsInteger : List Str := ["value"]
theorem scIsInteger : FnScope nIsInteger ["value"] (defScope sIsInteger) := ⟨rfl, rfl, rfl, by decide +kernel, rfl, by decide +kernel, by decide +kernel⟩
abbrev sIsBetween : Stmt := topS 10
abbrev nIsBetween : List Str := ["value", "low", "high"]
theorem scIsBetween : FnScope nIsBetween ["value", "low", "high"] (defScope sIsBetween) := ⟨rfl, rfl, rfl, by decide +kernel, rfl, by decide +kernel, by decide +kernel⟩
abbrev sIsPair : Stmt := topS 11
abbrev nIsPair : List Str := ["value"]
theorem scIsPair : FnScope nIsPair ["value"] (defScope sIsPair) := ⟨rfl, rfl, rfl, by decide +kernel, rfl, by decide +kernel, by decide +kernel⟩
abbrev sCheckBetween : Stmt := topS 12
abbrev nCheckBetween : List Str := ["value", "low", "high"]
theorem scCheckBetween : FnScope nCheckBetween ["value", "low", "high"] (defScope sCheckBetween) := ⟨rfl, rfl, rfl, by decide +kernel, rfl, by decide +kernel, by decide +kernel⟩
abbrev sIsRing : Stmt := topS 16
abbrev nIsRing : List Str := ["value", "places", "door"]
theorem scIsRing : FnScope nIsRing ["value"] (defScope sIsRing) := ⟨rfl, rfl, rfl, by decide +kernel, rfl, by decide +kernel, by decide +kernel⟩
abbrev sIsChain : Stmt := topS 17
abbrev nIsChain : List Str := ["value", "ring"]
theorem scIsChain : FnScope nIsChain ["value"] (defScope sIsChain) := ⟨rfl, rfl, rfl, by decide +kernel, rfl, by decide +kernel, by decide +kernel⟩
abbrev sCheckChain : Stmt := topS 18
abbrev nCheckChain : List Str := ["chain"]
theorem scCheckChain : FnScope nCheckChain ["chain"] (defScope sCheckChain) := ⟨rfl, rfl, rfl, by decide +kernel, rfl, by decide +kernel, by decide +kernel⟩
abbrev sLets : Stmt := topS 19
abbrev nLets : List Str := ["ring", "place", "diagonal"]
theorem scLets : FnScope nLets ["ring", "place", "diagonal"] (defScope sLets) := ⟨rfl, rfl, rfl, by decide +kernel, rfl, by decide +kernel, by decide +kernel⟩
abbrev sLiesTold : Stmt := topS 21
abbrev nLiesTold : List Str := ["chain", "value", "place", "ring"]
theorem scLiesTold : FnScope nLiesTold ["chain", "value"] (defScope sLiesTold) := ⟨rfl, rfl, rfl, by decide +kernel, rfl, by decide +kernel, by decide +kernel⟩
abbrev sCheckPlaces : Stmt := topS 22
abbrev nCheckPlaces : List Str := ["chain", "places"]
theorem scCheckPlaces : FnScope nCheckPlaces ["chain", "places"] (defScope sCheckPlaces) := ⟨rfl, rfl, rfl, by decide +kernel, rfl, by decide +kernel, by decide +kernel⟩
abbrev sIsHeap : Stmt := topS 25
abbrev nIsHeap : List Str := ["value", "ahead", "height"]
theorem scIsHeap : FnScope nIsHeap ["value"] (defScope sIsHeap) := ⟨rfl, rfl, rfl, by decide +kernel, rfl, by decide +kernel, by decide +kernel⟩
abbrev sHeightAt : Stmt := topS 26
abbrev nHeightAt : List Str := ["heap", "column"]
theorem scHeightAt : FnScope nHeightAt ["heap", "column"] (defScope sHeightAt) := ⟨rfl, rfl, rfl, by decide +kernel, rfl, by decide +kernel, by decide +kernel⟩
abbrev sHasBox : Stmt := topS 27
abbrev nHasBox : List Str := ["heap", "columns", "rows"]
theorem scHasBox : FnScope nHasBox ["heap", "columns", "rows"] (defScope sHasBox) := ⟨rfl, rfl, rfl, by decide +kernel, rfl, by decide +kernel, by decide +kernel⟩
abbrev sHolds : Stmt := topS 28
abbrev nHolds : List Str := ["heap", "other", "column", "height"]
theorem scHolds : FnScope nHolds ["heap", "other"] (defScope sHolds) := ⟨rfl, rfl, rfl, by decide +kernel, rfl, by decide +kernel, by decide +kernel⟩
abbrev sLengthsOf : Stmt := topS 29
abbrev nLengthsOf : List Str := ["heap", "height", "row"]
theorem scLengthsOf : FnScope nLengthsOf ["heap"] (defScope sLengthsOf) := ⟨rfl, rfl, rfl, by decide +kernel, rfl, by decide +kernel, by decide +kernel⟩
abbrev sHookAt : Stmt := topS 30
abbrev nHookAt : List Str := ["heap", "lengths", "column", "row"]
theorem scHookAt : FnScope nHookAt ["heap", "lengths", "column", "row"] (defScope sHookAt) := ⟨rfl, rfl, rfl, by decide +kernel, rfl, by decide +kernel, by decide +kernel⟩
abbrev sOpenColumns : Stmt := topS 31
abbrev nOpenColumns : List Str := ["heap", "columns", "column"]
theorem scOpenColumns : FnScope nOpenColumns ["heap"] (defScope sOpenColumns) := ⟨rfl, rfl, rfl, by decide +kernel, rfl, by decide +kernel, by decide +kernel⟩
abbrev sHeaped : Stmt := topS 32
abbrev nHeaped : List Str := ["heap", "columns", "heights", "column", "height"]
theorem scHeaped : FnScope nHeaped ["heap", "columns"] (defScope sHeaped) := ⟨rfl, rfl, rfl, by decide +kernel, rfl, by decide +kernel, by decide +kernel⟩
abbrev sGrownBy : Stmt := topS 33
abbrev nGrownBy : List Str := ["heap", "ring", "place", "columns", "column"]
theorem scGrownBy : FnScope nGrownBy ["heap", "ring", "place"] (defScope sGrownBy) := ⟨rfl, rfl, rfl, by decide +kernel, rfl, by decide +kernel, by decide +kernel⟩
abbrev sHeapsOf : Stmt := topS 34
abbrev nHeapsOf : List Str := ["chain", "places", "heaps", "index", "ring"]
theorem scHeapsOf : FnScope nHeapsOf ["chain", "places"] (defScope sHeapsOf) := ⟨rfl, rfl, rfl, by decide +kernel, rfl, by decide +kernel, by decide +kernel⟩
abbrev sHeapOf : Stmt := topS 35
abbrev nHeapOf : List Str := ["chain", "places"]
theorem scHeapOf : FnScope nHeapOf ["chain", "places"] (defScope sHeapOf) := ⟨rfl, rfl, rfl, by decide +kernel, rfl, by decide +kernel, by decide +kernel⟩
abbrev sCheckOrder : Stmt := topS 38
abbrev nCheckOrder : List Str := ["k"]
theorem scCheckOrder : FnScope nCheckOrder ["k"] (defScope sCheckOrder) := ⟨rfl, rfl, rfl, by decide +kernel, rfl, by decide +kernel, by decide +kernel⟩
abbrev sBeadsOf : Stmt := topS 39
abbrev nBeadsOf : List Str := ["heap", "column", "height"]
theorem scBeadsOf : FnScope nBeadsOf ["heap"] (defScope sBeadsOf) := ⟨rfl, rfl, rfl, by decide +kernel, rfl, by decide +kernel, by decide +kernel⟩
abbrev sStaysCore : Stmt := topS 40
abbrev nStaysCore : List Str := ["k", "heap", "beads", "bead"]
theorem scStaysCore : FnScope nStaysCore ["k", "heap"] (defScope sStaysCore) := ⟨rfl, rfl, rfl, by decide +kernel, rfl, by decide +kernel, by decide +kernel⟩
abbrev sCheckCore : Stmt := topS 41
abbrev nCheckCore : List Str := ["k", "core"]
theorem scCheckCore : FnScope nCheckCore ["k", "core"] (defScope sCheckCore) := ⟨rfl, rfl, rfl, by decide +kernel, rfl, by decide +kernel, by decide +kernel⟩
abbrev sCheckTold : Stmt := topS 42
abbrev nCheckTold : List Str := ["k", "core"]
theorem scCheckTold : FnScope nCheckTold ["k", "core"] (defScope sCheckTold) := ⟨rfl, rfl, rfl, by decide +kernel, rfl, by decide +kernel, by decide +kernel⟩
abbrev sPartsOf : Stmt := topS 43
abbrev nPartsOf : List Str := ["k", "heap", "lengths", "parts", "column", "height", "row"]
theorem scPartsOf : FnScope nPartsOf ["k", "heap"] (defScope sPartsOf) := ⟨rfl, rfl, rfl, by decide +kernel, rfl, by decide +kernel, by decide +kernel⟩
abbrev sLettersOf : Stmt := topS 44
abbrev nLettersOf : List Str := ["k", "core"]
theorem scLettersOf : FnScope nLettersOf ["k", "core"] (defScope sLettersOf) := ⟨rfl, rfl, rfl, by decide +kernel, rfl, by decide +kernel, by decide +kernel⟩
abbrev sCoreWith : Stmt := topS 45
abbrev nCoreWith : List Str := ["k", "parts", "heap", "part", "lengths", "below", "length"]
theorem scCoreWith : FnScope nCoreWith ["k", "parts"] (defScope sCoreWith) := ⟨rfl, rfl, rfl, by decide +kernel, rfl, by decide +kernel, by decide +kernel⟩
abbrev sRowsWithSum : Stmt := topS 46
abbrev nRowsWithSum : List Str := ["most", "total", "left", "done", "row", "rest", "top", "part"]
theorem scRowsWithSum : FnScope nRowsWithSum ["most", "total"] (defScope sRowsWithSum) := ⟨rfl, rfl, rfl, by decide +kernel, rfl, by decide +kernel, by decide +kernel⟩
abbrev sCoresWithLetters : Stmt := topS 47
abbrev nCoresWithLetters : List Str := ["k", "letters", "parts"]
theorem scCoresWithLetters : FnScope nCoresWithLetters ["k", "letters"] (defScope sCoresWithLetters) := ⟨rfl, rfl, rfl, by decide +kernel, rfl, by decide +kernel, by decide +kernel⟩
abbrev sCheckBoxed : Stmt := topS 50
abbrev nCheckBoxed : List Str := ["k", "columns", "rows"]
theorem scCheckBoxed : FnScope nCheckBoxed ["k", "columns", "rows"] (defScope sCheckBoxed) := ⟨rfl, rfl, rfl, by decide +kernel, rfl, by decide +kernel, by decide +kernel⟩
abbrev sLettersFor : Stmt := topS 51
abbrev nLettersFor : List Str := ["k", "columns", "rows", "inner"]
theorem scLettersFor : FnScope nLettersFor ["k", "columns", "rows"] (defScope sLettersFor) := ⟨rfl, rfl, rfl, by decide +kernel, rfl, by decide +kernel, by decide +kernel⟩
abbrev sLeastCores : Stmt := topS 52
abbrev nLeastCores : List Str := ["k", "columns", "rows", "least", "letters", "core", "other"]
theorem scLeastCores : FnScope nLeastCores ["k", "columns", "rows"] (defScope sLeastCores) := ⟨rfl, rfl, rfl, by decide +kernel, rfl, by decide +kernel, by decide +kernel⟩
abbrev sLeastLetters : Stmt := topS 53
abbrev nLeastLetters : List Str := ["k", "columns", "rows"]
theorem scLeastLetters : FnScope nLeastLetters ["k", "columns", "rows"] (defScope sLeastLetters) := ⟨rfl, rfl, rfl, by decide +kernel, rfl, by decide +kernel, by decide +kernel⟩
abbrev sLDice : Stmt := topS 55
abbrev nLDice : List Str := ["_law_script", "_law_at", "_law_cell", "_law_great", "_law_left", "_law_mixed"]
theorem scLDice : FnScope nLDice ["_law_script", "_law_at"] (defScope sLDice) := ⟨rfl, rfl, rfl, by decide +kernel, rfl, by decide +kernel, by decide +kernel⟩
abbrev sLRoll : Stmt := topS 56
abbrev nLRoll : List Str := ["_law_dice_here", "_law_total", "_law_size", "_law_drawn", "_law_one", "_law_two"]
theorem scLRoll : FnScope nLRoll ["_law_dice_here", "_law_total"] (defScope sLRoll) := ⟨rfl, rfl, rfl, by decide +kernel, rfl, by decide +kernel, by decide +kernel⟩
abbrev sLOneOf : Stmt := topS 57
abbrev nLOneOf : List Str := ["_law_dice_here", "_law_items"]
theorem scLOneOf : FnScope nLOneOf ["_law_dice_here", "_law_items"] (defScope sLOneOf) := ⟨rfl, rfl, rfl, by decide +kernel, rfl, by decide +kernel, by decide +kernel⟩
abbrev sLCommon : Stmt := topS 58
abbrev nLCommon : List Str := ["_law_one", "_law_other"]
theorem scLCommon : FnScope nLCommon ["_law_one", "_law_other"] (defScope sLCommon) := ⟨rfl, rfl, rfl, by decide +kernel, rfl, by decide +kernel, by decide +kernel⟩
abbrev sLRingOf : Stmt := topS 59
abbrev nLRingOf : List Str := ["_law_dice_here", "_law_k", "_law_times", "_law_more", "_law_steps", "_law_one"]
theorem scLRingOf : FnScope nLRingOf ["_law_dice_here", "_law_k", "_law_times"] (defScope sLRingOf) := ⟨rfl, rfl, rfl, by decide +kernel, rfl, by decide +kernel, by decide +kernel⟩
abbrev sLEqualChain : Stmt := topS 60
abbrev nLEqualChain : List Str := ["_law_dice_here", "_law_rings", "_law_k", "_law_turn"]
theorem scLEqualChain : FnScope nLEqualChain ["_law_dice_here", "_law_rings", "_law_k"] (defScope sLEqualChain) := ⟨rfl, rfl, rfl, by decide +kernel, rfl, by decide +kernel, by decide +kernel⟩
abbrev sLTuple : Stmt := topS 61
abbrev nLTuple : List Str := ["_law_dice_here", "_law_chain", "_law_found", "_law_n", "_law_s"]
theorem scLTuple : FnScope nLTuple ["_law_dice_here", "_law_chain"] (defScope sLTuple) := ⟨rfl, rfl, rfl, by decide +kernel, rfl, by decide +kernel, by decide +kernel⟩
abbrev sLRestsUp : Stmt := topS 62
abbrev nLRestsUp : List Str := ["_law_heap", "_law_k", "_law_found", "_law_column", "_law_height"]
theorem scLRestsUp : FnScope nLRestsUp ["_law_heap", "_law_k"] (defScope sLRestsUp) := ⟨rfl, rfl, rfl, by decide +kernel, rfl, by decide +kernel, by decide +kernel⟩
abbrev sLBehind : Stmt := topS 63
abbrev nLBehind : List Str := ["_law_heap", "_law_k", "_law_letter", "_law_chosen", "_law_heights", "_law_found", "_law_column", "_law_height"]
theorem scLBehind : FnScope nLBehind ["_law_heap", "_law_k", "_law_letter"] (defScope sLBehind) := ⟨rfl, rfl, rfl, by decide +kernel, rfl, by decide +kernel, by decide +kernel⟩
abbrev sLHolds : Stmt := topS 64
abbrev nLHolds : List Str := ["_law_heap", "_law_other", "_law_low", "_law_high"]
theorem scLHolds : FnScope nLHolds ["_law_heap", "_law_other"] (defScope sLHolds) := ⟨rfl, rfl, rfl, by decide +kernel, rfl, by decide +kernel, by decide +kernel⟩
abbrev sLLayers : Stmt := topS 65
abbrev nLLayers : List Str := ["_law_k", "_law_most", "_law_layers_here", "_law_turn", "_law_further", "_law_core", "_law_letter"]
theorem scLLayers : FnScope nLLayers ["_law_k", "_law_most"] (defScope sLLayers) := ⟨rfl, rfl, rfl, by decide +kernel, rfl, by decide +kernel, by decide +kernel⟩
abbrev sLLeast : Stmt := topS 66
abbrev nLLeast : List Str := ["_law_k", "_law_whole", "_law_most", "_law_found", "_law_layer", "_law_core", "_law_other"]
theorem scLLeast : FnScope nLLeast ["_law_k", "_law_whole", "_law_most"] (defScope sLLeast) := ⟨rfl, rfl, rfl, by decide +kernel, rfl, by decide +kernel, by decide +kernel⟩
abbrev sLRight : Stmt := topS 67
abbrev nLRight : List Str := ["_law_dice_here", "_law_k", "_law_columns", "_law_rows", "_law_whole", "_law_due", "_law_fewest", "_law_chain", "_law_heap", "_law_core", "_law_l"]
theorem scLRight : FnScope nLRight ["_law_dice_here"] (defScope sLRight) := ⟨rfl, rfl, rfl, by decide +kernel, rfl, by decide +kernel, by decide +kernel⟩
abbrev sLaw : Stmt := topS 68
abbrev nLaw : List Str := ["_law_script", "_law_at", "_law_dice_here", "_law_turn"]
theorem scLaw : FnScope nLaw ["_law_script"] (defScope sLaw) := ⟨rfl, rfl, rfl, by decide +kernel, rfl, by decide +kernel, by decide +kernel⟩
/-- a def of the text at its place, and how its arguments bind -/
structure DefAt (K : PySem.W.Frag) (mg : Str → Option Value) (x : Str) (st : Stmt) (ps : List Str) (f : Addr) (fd : FuncData) : Prop where
  F : Fun K x x st f fd
  g : mg x = some (.ref f)
  b : Binds K fd ps []
/-- what the top has written -/
structure Txt (K : PySem.W.Frag) (mg : Str → Option Value) : Prop where
  z_abs : mg "abs" = none
  z_all : mg "all" = none
  z_any : mg "any" = none
  z_bool : mg "bool" = none
  z_enumerate : mg "enumerate" = none
  z_int : mg "int" = none
  z_isinstance : mg "isinstance" = none
  z_len : mg "len" = none
  z_list : mg "list" = none
  z_max : mg "max" = none
  z_min : mg "min" = none
  z_range : mg "range" = none
  z_reversed : mg "reversed" = none
  z_sorted : mg "sorted" = none
  z_sum : mg "sum" = none
  z_tuple : mg "tuple" = none
  z_zip : mg "zip" = none
  v_BOUND : ∃ t, mg "BOUND" = some (.int (10 ^ 60) t)
  v_RINGS : ∃ t, mg "MOST_RINGS" = some (.int 12 t)
  v_PLACES : ∃ t, mg "MOST_PLACES" = some (.int 60 t)
  v_SIDE : ∃ t, mg "MOST_SIDE" = some (.int 60 t)
  v_MAX_ORDER : ∃ t, mg "MAX_ORDER" = some (.int 60 t)
  v_MAX_BOX : ∃ t, mg "MAX_BOX" = some (.int 16 t)
  d_is_integer : ∃ f fd, DefAt K mg "is_integer" sIsInteger ["value"] f fd
  d_is_between : ∃ f fd, DefAt K mg "is_between" sIsBetween ["value", "low", "high"] f fd
  d_is_pair : ∃ f fd, DefAt K mg "is_pair" sIsPair ["value"] f fd
  d_check_between : ∃ f fd, DefAt K mg "check_between" sCheckBetween ["value", "low", "high"] f fd
  d_is_ring : ∃ f fd, DefAt K mg "is_ring" sIsRing ["value"] f fd
  d_is_chain : ∃ f fd, DefAt K mg "is_chain" sIsChain ["value"] f fd
  d_check_chain : ∃ f fd, DefAt K mg "check_chain" sCheckChain ["chain"] f fd
  d_lets : ∃ f fd, DefAt K mg "lets" sLets ["ring", "place", "diagonal"] f fd
  d_lies_told : ∃ f fd, DefAt K mg "lies_told" sLiesTold ["chain", "value"] f fd
  d_check_places : ∃ f fd, DefAt K mg "check_places" sCheckPlaces ["chain", "places"] f fd
  d_is_heap : ∃ f fd, DefAt K mg "is_heap" sIsHeap ["value"] f fd
  d_height_at : ∃ f fd, DefAt K mg "height_at" sHeightAt ["heap", "column"] f fd
  d_has_box : ∃ f fd, DefAt K mg "has_box" sHasBox ["heap", "columns", "rows"] f fd
  d_holds : ∃ f fd, DefAt K mg "holds" sHolds ["heap", "other"] f fd
  d_lengths_of : ∃ f fd, DefAt K mg "lengths_of" sLengthsOf ["heap"] f fd
  d_hook_at : ∃ f fd, DefAt K mg "hook_at" sHookAt ["heap", "lengths", "column", "row"] f fd
  d_open_columns : ∃ f fd, DefAt K mg "open_columns" sOpenColumns ["heap"] f fd
  d_heaped : ∃ f fd, DefAt K mg "heaped" sHeaped ["heap", "columns"] f fd
  d_grown_by : ∃ f fd, DefAt K mg "grown_by" sGrownBy ["heap", "ring", "place"] f fd
  d_heaps_of : ∃ f fd, DefAt K mg "heaps_of" sHeapsOf ["chain", "places"] f fd
  d_heap_of : ∃ f fd, DefAt K mg "heap_of" sHeapOf ["chain", "places"] f fd
  d_check_order : ∃ f fd, DefAt K mg "check_order" sCheckOrder ["k"] f fd
  d_beads_of : ∃ f fd, DefAt K mg "beads_of" sBeadsOf ["heap"] f fd
  d_stays_core : ∃ f fd, DefAt K mg "stays_core" sStaysCore ["k", "heap"] f fd
  d_check_core : ∃ f fd, DefAt K mg "check_core" sCheckCore ["k", "core"] f fd
  d_check_told : ∃ f fd, DefAt K mg "check_told" sCheckTold ["k", "core"] f fd
  d_parts_of : ∃ f fd, DefAt K mg "parts_of" sPartsOf ["k", "heap"] f fd
  d_letters_of : ∃ f fd, DefAt K mg "letters_of" sLettersOf ["k", "core"] f fd
  d_core_with : ∃ f fd, DefAt K mg "core_with" sCoreWith ["k", "parts"] f fd
  d_rows_with_sum : ∃ f fd, DefAt K mg "rows_with_sum" sRowsWithSum ["most", "total"] f fd
  d_cores_with_letters : ∃ f fd, DefAt K mg "cores_with_letters" sCoresWithLetters ["k", "letters"] f fd
  d_check_boxed : ∃ f fd, DefAt K mg "check_boxed" sCheckBoxed ["k", "columns", "rows"] f fd
  d_letters_for : ∃ f fd, DefAt K mg "letters_for" sLettersFor ["k", "columns", "rows"] f fd
  d_least_cores : ∃ f fd, DefAt K mg "least_cores" sLeastCores ["k", "columns", "rows"] f fd
  d_least_letters : ∃ f fd, DefAt K mg "least_letters" sLeastLetters ["k", "columns", "rows"] f fd
  d_l_dice : ∃ f fd, DefAt K mg "_law_dice" sLDice ["_law_script", "_law_at"] f fd
  d_l_roll : ∃ f fd, DefAt K mg "_law_roll" sLRoll ["_law_dice_here", "_law_total"] f fd
  d_l_one_of : ∃ f fd, DefAt K mg "_law_one_of" sLOneOf ["_law_dice_here", "_law_items"] f fd
  d_l_common : ∃ f fd, DefAt K mg "_law_common" sLCommon ["_law_one", "_law_other"] f fd
  d_l_ring_of : ∃ f fd, DefAt K mg "_law_ring_of" sLRingOf ["_law_dice_here", "_law_k", "_law_times"] f fd
  d_l_equal_chain : ∃ f fd, DefAt K mg "_law_equal_chain" sLEqualChain ["_law_dice_here", "_law_rings", "_law_k"] f fd
  d_l_tuple : ∃ f fd, DefAt K mg "_law_tuple" sLTuple ["_law_dice_here", "_law_chain"] f fd
  d_l_rests_up : ∃ f fd, DefAt K mg "_law_rests_up" sLRestsUp ["_law_heap", "_law_k"] f fd
  d_l_behind : ∃ f fd, DefAt K mg "_law_behind" sLBehind ["_law_heap", "_law_k", "_law_letter"] f fd
  d_l_holds : ∃ f fd, DefAt K mg "_law_holds" sLHolds ["_law_heap", "_law_other"] f fd
  d_l_layers : ∃ f fd, DefAt K mg "_law_layers" sLLayers ["_law_k", "_law_most"] f fd
  d_l_least : ∃ f fd, DefAt K mg "_law_least" sLLeast ["_law_k", "_law_whole", "_law_most"] f fd
  d_l_right : ∃ f fd, DefAt K mg "_law_right" sLRight ["_law_dice_here"] f fd
end K1

/-! own rules: xs[i] op= e of a list; range(n) as a value, walked later -/
namespace LX
open PySem PySem.Spec PyProof.Rows L2
section
variable {X : Cx}
/-- xs[i] by values, 0 ≤ i -/
def rGetL (K : PySem.W.Frag) : V → V → Hp → VK → Prop := fun o i H Q => ∃ (a : Addr) (ys : List V) (j : Nat) (v : V), o = .ref a ∧ i = .int (j : Int) ∧ SqL K H a ys ∧ ys[j]? = some v ∧ Q v H
theorem get_list : PGet X (rGetL X.K) := by
  intro pins s σ H o i ov iv Q I ro ri h
  obtain ⟨a, ys, j, v, rfl, rfl, hq, hv, q⟩ := h
  cases ro
  obtain ⟨t, rfl⟩ := ri
  obtain ⟨its, r, pl, hz⟩ := I.list hq
  obtain ⟨u, hu, ru⟩ := r.get hv
  have hn := line63
  have hj := (List.getElem?_eq_some_iff.mp hu).1
  have hl := r.length
  exact wpAny_getItem_list pl.isList (by omega) (by omega) (by simpa using hu) ⟨v, H, I, ru, q⟩
/-- range(n), a new range object -/
theorem cr_range1 : CallR X (.type "range") (fun vs H Q => ∃ j, vs = [V.int j] ∧ ∀ p, H p = none → Q (.ref p) (upd H p (.rng 0 j))) := by
  intro pins s σ H vs us Q I r h
  obtain ⟨j, rfl, q⟩ := h
  obtain ⟨u1, rfl, rj⟩ := vals1 r
  obtain ⟨t, rfl⟩ := rj
  have nw : ObjOk X.prog X.w (upd H s.heap.objs.size (.rng 0 j)) (s.heap.push { cls := .type "range", data := .fields #[.int 0 s.toks, .int j t, .int 1 (s.toks + 1)] }) s.heap.objs.size (.rng 0 j) := ⟨s.toks, t, s.toks + 1, Heap.get?_push_size _ rfl⟩
  exact call_range_1 ⟨.ref s.heap.objs.size, _, I.laid (t' := s.toks + 1 + 1) (fun b o e => Heap.get?_push_of_some _ e) (Nat.le_refl _) nw, rfl, q _ (I.hok.fresh (Nat.le_refl _))⟩
/-- a range object that stands, walked -/
def iRngV (te : TE) : TI := fun σ H R => te σ H fun x H1 => ∃ (p : Addr) (lo hi : Int), x = .ref p ∧ H1 p = some (.rng lo hi) ∧ (-(2 ^ 62) ≤ lo ∧ lo < 2 ^ 62 ∧ -(2 ^ 62) ≤ hi ∧ hi < 2 ^ 62) ∧ R (Itr lo (hi - lo).toNat) H1
theorem pi_rngV {tg e : Expr} {te : TE} (he : PE X e te) : PI X tg e (iRngV te) := by
  refine ⟨fun pins s σ H R I h => ?_⟩
  refine thn (he.run pins s σ H _ I h) fun u s1 ⟨x, H1, I1, r1, p, lo, hi, ex, hp, ⟨b1, b2, b3, b4⟩, q⟩ => ?_
  subst ex
  obtain rfl : u = Value.ref p := r1
  obtain ⟨t, u, v, g⟩ := (show ObjOk X.prog X.w H1 s1.heap p (.rng lo hi) from I1.hok p _ hp)
  refine wpAny_pyIter_range (s := s1) g (small_one b1 b2 b3 b4) ?_
  refine ⟨s1.heap.objs.size, [s1.heap.objs.size], _, _, H1, rfl, I1.kept (t' := s1.toks) fun b o e => Heap.get?_push_of_some _ e, turn_range _ lo (hi - lo).toNat, ?_, fun b hb => ?_, q⟩
  · have e1 : lo + ((0 : Nat) : Int) * 1 = lo := by simp
    have e2 : (((hi - lo).toNat : Nat) : Int) - ((0 : Nat) : Int) = Builtin.Range.rangeSize lo hi 1 := by
      rw [rangeSize_one]
      split <;> omega
    show IsRangeIter _ _ (lo + ((0 : Nat) : Int) * 1) ((((hi - lo).toNat : Nat) : Int) - ((0 : Nat) : Int)) 1
    rw [e1, e2]
    exact Heap.get?_push_size _ rfl
  · obtain rfl : b = s1.heap.objs.size := by simpa using hb
    exact I1.fpOk (Nat.le_refl _) (I1.hok.fresh (Nat.le_refl _))
end
end LX

/-! plain mathematics of heaps: heights of columns that do not ascend -/
namespace HM
def hAt (h : List Nat) (c : Nat) : Nat := h.getD c 0
theorem hAt_lt {h : List Nat} {c : Nat} (hc : c < h.length) : h[c]? = some (hAt h c) := by
  unfold hAt
  rw [List.getD_eq_getElem?_getD, List.getElem?_eq_getElem hc]
  rfl
theorem hAt_ge {h : List Nat} {c : Nat} (hc : h.length ≤ c) : hAt h c = 0 := by
  unfold hAt
  rw [List.getD_eq_getElem?_getD, List.getElem?_eq_none hc]
  rfl
structure IsHeap (h : List Nat) : Prop where
  pos : ∀ c, c < h.length → 0 < hAt h c
  fall : ∀ c, hAt h (c + 1) ≤ hAt h c
theorem IsHeap.nil : IsHeap [] := ⟨fun c hc => absurd hc (Nat.not_lt_zero c), fun c => by rw [hAt_ge (Nat.zero_le _), hAt_ge (Nat.zero_le _)]; exact Nat.le_refl _⟩
theorem IsHeap.le {h : List Nat} (H : IsHeap h) {c : Nat} : ∀ {d : Nat}, c ≤ d → hAt h d ≤ hAt h c
  | 0, hd => by
    have : c = 0 := by omega
    rw [this]
    exact Nat.le_refl _
  | d + 1, hd => by
    by_cases e : c = d + 1
    · rw [e]
      exact Nat.le_refl _
    · exact Nat.le_trans (H.fall d) (H.le (by omega))
/-- two heaps with the same heights are one -/
theorem heap_ext {h h' : List Nat} (H : IsHeap h) (H' : IsHeap h') (e : ∀ c, hAt h c = hAt h' c) : h = h' := by
  have l : h.length = h'.length := by
    rcases Nat.lt_trichotomy h.length h'.length with q | q | q
    · have a := H'.pos _ q
      rw [← e, hAt_ge (Nat.le_refl _)] at a
      omega
    · exact q
    · have a := H.pos _ q
      rw [e, hAt_ge (Nat.le_refl _)] at a
      omega
  refine List.ext_getElem? fun c => ?_
  by_cases hc : c < h.length
  · rw [hAt_lt hc, hAt_lt (by omega), e]
  · rw [List.getElem?_eq_none (by omega), List.getElem?_eq_none (by omega)]
/-- a square can be added on top of the column -/
def opn (h : List Nat) (c : Nat) : Bool := decide (c = 0) || decide (hAt h c < hAt h (c - 1))
theorem opn_le {h : List Nat} {c : Nat} (o : opn h c = true) : c ≤ h.length := by
  unfold opn at o
  by_cases hc : c ≤ h.length
  · exact hc
  · rw [decide_eq_false (show ¬ c = 0 by omega), hAt_ge (show h.length ≤ c by omega), hAt_ge (show h.length ≤ c - 1 by omega)] at o
    exact absurd o (by decide)
theorem opn_lt {h : List Nat} {c : Nat} (o : opn h (c + 1) = true) : hAt h (c + 1) < hAt h c := by
  unfold opn at o
  rw [decide_eq_false (show ¬ c + 1 = 0 by omega), Bool.false_or] at o
  exact of_decide_eq_true o
def b2n (b : Bool) : Nat := if b = true then 1 else 0
theorem b2n_le (b : Bool) : b2n b ≤ 1 := by cases b <;> decide
def grow (h : List Nat) (g : Nat → Bool) : List Nat := (List.range h.length).map (fun c => hAt h c + b2n (g c)) ++ (if g h.length = true then [1] else [])
theorem grow_len (h : List Nat) (g : Nat → Bool) : (grow h g).length = h.length + b2n (g h.length) := by
  unfold grow b2n
  rw [List.length_append, List.length_map, List.length_range]
  split <;> rfl
theorem hAt_grow {h : List Nat} {g : Nat → Bool} (hg : ∀ c, g c = true → opn h c = true) (c : Nat) : hAt (grow h g) c = hAt h c + b2n (g c) := by
  unfold hAt
  rw [List.getD_eq_getElem?_getD, List.getD_eq_getElem?_getD]
  unfold grow
  by_cases hc : c < h.length
  · rw [List.getElem?_append_left (by rw [List.length_map, List.length_range]; exact hc), List.getElem?_map, List.getElem?_range hc, hAt_lt hc]
    rfl
  · rw [List.getElem?_append_right (by rw [List.length_map, List.length_range]; omega), List.length_map, List.length_range, List.getElem?_eq_none (show h.length ≤ c by omega)]
    by_cases e : c = h.length
    · subst e
      rw [Nat.sub_self]
      unfold b2n
      by_cases q : g h.length = true
      · rw [if_pos q, if_pos q]
        rfl
      · rw [if_neg q, if_neg q]
        rfl
    · have q : g c = false := by
        cases q : g c with
        | false => rfl
        | true => exact absurd (opn_le (hg c q)) (by omega)
      rw [q]
      have l : (if g h.length = true then [1] else []).length ≤ 1 := by split <;> decide
      rw [List.getElem?_eq_none (by omega)]
      rfl
theorem grow_heap {h : List Nat} {g : Nat → Bool} (H : IsHeap h) (hg : ∀ c, g c = true → opn h c = true) : IsHeap (grow h g) := by
  refine ⟨fun c hc => ?_, fun c => ?_⟩
  · rw [hAt_grow hg]
    rw [grow_len] at hc
    by_cases q : c < h.length
    · have := H.pos c q
      omega
    · have : c = h.length := by
        have := b2n_le (g h.length)
        omega
      subst this
      omega
  · rw [hAt_grow hg, hAt_grow hg]
    have := H.fall c
    cases q : g (c + 1) with
    | false =>
      show hAt h (c + 1) + 0 ≤ _
      omega
    | true =>
      have := opn_lt (hg _ q)
      show hAt h (c + 1) + 1 ≤ _
      omega
/-- heights and one more, 0, with some more -/
def hts (h : List Nat) (f : Nat → Nat) : List Nat := (List.range (h.length + 1)).map fun c => hAt h c + f c
theorem hts_len (h : List Nat) (f : Nat → Nat) : (hts h f).length = h.length + 1 := by
  unfold hts
  rw [List.length_map, List.length_range]
theorem hts_get {h : List Nat} {f : Nat → Nat} {c : Nat} (hc : c ≤ h.length) : (hts h f)[c]? = some (hAt h c + f c) := by
  unfold hts
  rw [List.getElem?_map, List.getElem?_range (by omega)]
  rfl
theorem hts_zero (h : List Nat) : h ++ [0] = hts h fun _ => 0 := by
  refine List.ext_getElem? fun c => ?_
  by_cases q : c < h.length
  · rw [List.getElem?_append_left q, hAt_lt q, hts_get (by omega)]
    rfl
  · by_cases e : c = h.length
    · subst e
      rw [List.getElem?_append_right (Nat.le_refl _), Nat.sub_self, hts_get (Nat.le_refl _), hAt_ge (Nat.le_refl _)]
      rfl
    · rw [List.getElem?_eq_none (by rw [List.length_append]; show h.length + 1 ≤ c; omega), List.getElem?_eq_none (by rw [hts_len]; omega)]
def cnt (cols : List Nat) (c : Nat) : Nat := (cols.filter fun d => d == c).length
theorem cnt_snoc (cols : List Nat) (d c : Nat) : cnt (cols ++ [d]) c = cnt cols c + b2n (d == c) := by
  unfold cnt
  rw [List.filter_append, List.length_append]
  cases q : (d == c) with
  | true =>
    rw [List.filter_cons, if_pos q]
    rfl
  | false =>
    rw [List.filter_cons, if_neg (by rw [q]; decide)]
    rfl
theorem hts_set {h : List Nat} {cols : List Nat} {d : Nat} (hd : d ≤ h.length) : (hts h (cnt cols)).set d (hAt h d + cnt cols d + 1) = hts h (cnt (cols ++ [d])) := by
  refine List.ext_getElem? fun c => ?_
  rw [List.getElem?_set]
  by_cases e : d = c
  · subst e
    rw [if_pos rfl, if_pos (by rw [hts_len]; omega), hts_get hd, cnt_snoc]
    show some _ = some (hAt h d + (cnt cols d + b2n (d == d)))
    rw [beq_self_eq_true]
    rfl
  · rw [if_neg e]
    by_cases q : c ≤ h.length
    · rw [hts_get q, hts_get q, cnt_snoc]
      have : (d == c) = false := by simpa using e
      rw [this]
      rfl
    · rw [List.getElem?_eq_none (by rw [hts_len]; omega), List.getElem?_eq_none (by rw [hts_len]; omega)]
theorem range_filter_cnt (n : Nat) (g : Nat → Bool) (c : Nat) : cnt ((List.range n).filter g) c = b2n (decide (c < n) && g c) := by
  induction n with
  | zero => rfl
  | succ n ih =>
    rw [List.range_succ, List.filter_append]
    have e : cnt ((List.range n).filter g ++ [n].filter g) c = cnt ((List.range n).filter g) c + cnt ([n].filter g) c := by
      unfold cnt
      rw [List.filter_append, List.length_append]
    rw [e, ih]
    by_cases q : g n = true
    · have : [n].filter g = [n] := by
        rw [List.filter_cons, if_pos q]
        rfl
      rw [this]
      unfold cnt
      by_cases z : n = c
      · subst z
        rw [List.filter_cons, if_pos (beq_self_eq_true n), decide_eq_false (Nat.lt_irrefl n), decide_eq_true (Nat.lt_succ_self n), q]
        rfl
      · rw [List.filter_cons, if_neg (show ¬ (n == c) = true by simpa using z)]
        have : decide (c < n) = decide (c < n + 1) := decide_eq_decide.mpr (by omega)
        rw [this]
        rfl
    · have : [n].filter g = [] := by
        rw [List.filter_cons, if_neg q]
        rfl
      rw [this]
      by_cases z : c = n
      · subst z
        have : g c = false := by simpa using q
        rw [this, Bool.and_false, Bool.and_false]
        rfl
      · have : decide (c < n) = decide (c < n + 1) := decide_eq_decide.mpr (by omega)
        rw [this]
        rfl
/-- what heaped makes of columns -/
theorem hts_filter {h : List Nat} (hp : ∀ c, c < h.length → 0 < hAt h c) {g : Nat → Bool} {f : Nat → Nat} (hf : ∀ c, c ≤ h.length → f c = b2n (g c)) : (hts h f).filter (fun x => decide (0 < x)) = grow h g := by
  unfold hts grow
  rw [List.range_succ, List.map_append, List.filter_append]
  have e1 : ((List.range h.length).map fun c => hAt h c + f c).filter (fun x => decide (0 < x)) = (List.range h.length).map fun c => hAt h c + b2n (g c) := by
    have e : ((List.range h.length).map fun c => hAt h c + f c) = (List.range h.length).map fun c => hAt h c + b2n (g c) := by
      refine List.map_congr_left fun c hc => ?_
      rw [hf c (Nat.le_of_lt (List.mem_range.mp hc))]
    rw [e]
    refine List.filter_eq_self.mpr fun x hx => ?_
    obtain ⟨c, hc, rfl⟩ := List.mem_map.mp hx
    have := hp c (List.mem_range.mp hc)
    exact decide_eq_true (by omega)
  rw [e1]
  congr 1
  show [hAt h h.length + f h.length].filter _ = _
  rw [hAt_ge (Nat.le_refl _), hf _ (Nat.le_refl _)]
  unfold b2n
  by_cases q : g h.length = true
  · rw [if_pos q, if_pos q]
    rfl
  · rw [if_neg q, if_neg q]
    rfl
/-- the diagonal of the square on top -/
def dg (h : List Nat) (c : Nat) : Int := (c : Int) - (hAt h c : Int)
theorem dg_lt {h : List Nat} (H : IsHeap h) {c d : Nat} (hcd : c < d) : dg h c < dg h d := by
  unfold dg
  have := H.le (Nat.le_of_lt hcd)
  omega
theorem dg_inj {h : List Nat} (H : IsHeap h) {c d : Nat} (e : dg h c = dg h d) : c = d := by
  rcases Nat.lt_trichotomy c d with q | q | q
  · have := dg_lt H q
    omega
  · exact q
  · have := dg_lt H q
    omega
theorem dg_two {h : List Nat} (H : IsHeap h) {c d : Nat} (hcd : c < d) (o : opn h d = true) : dg h c + 2 ≤ dg h d := by
  obtain ⟨e, rfl⟩ : ∃ e, d = e + 1 := ⟨d - 1, by omega⟩
  have a := opn_lt o
  have b := H.le (show c ≤ e by omega)
  unfold dg
  omega
def oc (h : List Nat) : List Nat := (List.range (h.length + 1)).filter (opn h)
theorem oc_mem {h : List Nat} {c : Nat} : c ∈ oc h ↔ opn h c = true := by
  unfold oc
  rw [List.mem_filter, List.mem_range]
  exact ⟨fun z => z.2, fun z => ⟨Nat.lt_succ_of_le (opn_le z), z⟩⟩
end HM

/-! plain mathematics of heaps, continued: growing column by column, tries, squares added in any order -/
namespace HM
theorem range_hAt (h : List Nat) : (List.range h.length).map (hAt h) = h := by
  refine List.ext_getElem? fun c => ?_
  by_cases q : c < h.length
  · rw [List.getElem?_map, List.getElem?_range q, hAt_lt q]
    rfl
  · rw [List.getElem?_eq_none (by rw [List.length_map, List.length_range]; omega), List.getElem?_eq_none (by omega)]
/-- grown at the first columns -/
def fr (h : List Nat) (g : Nat → Bool) (i : Nat) : List Nat := (List.range h.length).map (fun c => hAt h c + b2n (decide (c < i) && g c)) ++ (if (decide (h.length < i) && g h.length) = true then [1] else [])
theorem fr_zero (h : List Nat) (g : Nat → Bool) : fr h g 0 = h := by
  unfold fr
  rw [decide_eq_false (Nat.not_lt_zero _), Bool.false_and, if_neg (by decide), List.append_nil]
  conv => rhs; rw [← range_hAt h]
  refine List.map_congr_left fun c _ => ?_
  rw [decide_eq_false (Nat.not_lt_zero _), Bool.false_and]
  rfl
theorem fr_end (h : List Nat) (g : Nat → Bool) : fr h g (h.length + 1) = grow h g := by
  unfold fr grow
  rw [decide_eq_true (Nat.lt_succ_self _), Bool.true_and]
  congr 1
  refine List.map_congr_left fun c hc => ?_
  rw [decide_eq_true (show c < h.length + 1 from Nat.lt_succ_of_lt (List.mem_range.mp hc)), Bool.true_and]
theorem fr_skip {h : List Nat} {g : Nat → Bool} {i : Nat} (q : g i = false) : fr h g (i + 1) = fr h g i := by
  have e : ∀ c, (decide (c < i + 1) && g c) = (decide (c < i) && g c) := fun c => by
    by_cases z : c = i
    · subst z
      rw [q, Bool.and_false, Bool.and_false]
    · have : decide (c < i + 1) = decide (c < i) := decide_eq_decide.mpr (by omega)
      rw [this]
  unfold fr
  rw [e]
  congr 1
  exact List.map_congr_left fun c _ => by rw [e]
theorem fr_low {h : List Nat} {g : Nat → Bool} {i : Nat} (hi : i ≤ h.length) : fr h g i = (List.range h.length).map (fun c => hAt h c + b2n (decide (c < i) && g c)) := by
  unfold fr
  rw [decide_eq_false (show ¬ h.length < i by omega), Bool.false_and, if_neg (by decide), List.append_nil]
theorem fr_low_len {h : List Nat} {g : Nat → Bool} {i : Nat} (hi : i ≤ h.length) : (fr h g i).length = h.length := by
  rw [fr_low hi, List.length_map, List.length_range]
theorem fr_set {h : List Nat} {g : Nat → Bool} {i : Nat} (hi : i < h.length) (q : g i = true) : (fr h g i).set i (hAt h i + 1) = fr h g (i + 1) := by
  rw [fr_low (show i ≤ h.length by omega), fr_low (show i + 1 ≤ h.length by omega)]
  refine List.ext_getElem? fun c => ?_
  rw [List.getElem?_set]
  by_cases e : i = c
  · subst e
    rw [if_pos rfl, if_pos (by rw [List.length_map, List.length_range]; exact hi), List.getElem?_map, List.getElem?_range hi]
    show some _ = some (hAt h i + b2n (decide (i < i + 1) && g i))
    rw [decide_eq_true (Nat.lt_succ_self i), q]
    rfl
  · rw [if_neg e, List.getElem?_map, List.getElem?_map]
    have : decide (c < i + 1) = decide (c < i) := decide_eq_decide.mpr (by omega)
    by_cases l : c < h.length
    · rw [List.getElem?_range l]
      show some (hAt h c + b2n (decide (c < i) && g c)) = some (hAt h c + b2n (decide (c < i + 1) && g c))
      rw [this]
    · rw [List.getElem?_eq_none (by rw [List.length_range]; omega)]
      rfl
theorem fr_app {h : List Nat} {g : Nat → Bool} (q : g h.length = true) : fr h g h.length ++ [1] = fr h g (h.length + 1) := by
  rw [fr_end, fr_low (Nat.le_refl _)]
  unfold grow
  rw [if_pos q]
  congr 1
  refine List.map_congr_left fun c hc => ?_
  rw [decide_eq_true (List.mem_range.mp hc), Bool.true_and]
/-! ### tries -/
def Falls (ns : List Int) : Prop := (∀ j, j + 1 < ns.length → ns.getD (j + 1) 0 ≤ ns.getD j 0) ∧ ∀ y ∈ ns, (0 : Int) ≤ y
/-- heights with 0 behind them, one changed -/
def chg (h : List Nat) (st : Int) (c : Nat) : List Int := (List.range (h.length + 1)).map fun x => (hAt h x : Int) + (if x = c then st else 0)
theorem chg_len (h : List Nat) (st : Int) (c : Nat) : (chg h st c).length = h.length + 1 := by
  unfold chg
  rw [List.length_map, List.length_range]
theorem chg_get {h : List Nat} {st : Int} {c x : Nat} (hx : x ≤ h.length) : (chg h st c).getD x 0 = (hAt h x : Int) + (if x = c then st else 0) := by
  unfold chg
  rw [List.getD_eq_getElem?_getD, List.getElem?_map, List.getElem?_range (by omega)]
  rfl
/-- columns at which a try leaves a heap -/
def tr (h : List Nat) (st : Int) (c : Nat) : Bool := if st = 1 then opn h c else decide (hAt h (c + 1) < hAt h c)
theorem chg_falls {h : List Nat} (H : IsHeap h) {st : Int} (hst : st = 1 ∨ st = -1) {c : Nat} (hc : c ≤ h.length) : Falls (chg h st c) ↔ tr h st c = true := by
  have hm : ∀ y, y ∈ chg h st c → ∃ x, x ≤ h.length ∧ y = (hAt h x : Int) + (if x = c then st else 0) := fun y hy => by
    unfold chg at hy
    obtain ⟨x, hx, rfl⟩ := List.mem_map.mp hy
    exact ⟨x, Nat.le_of_lt_succ (List.mem_range.mp hx), rfl⟩
  have hm2 : ∀ x, x ≤ h.length → (hAt h x : Int) + (if x = c then st else 0) ∈ chg h st c := fun x hx => List.mem_map.mpr ⟨x, List.mem_range.mpr (Nat.lt_succ_of_le hx), rfl⟩
  rcases hst with rfl | rfl
  · unfold tr
    rw [if_pos rfl]
    constructor
    · rintro ⟨f1, f2⟩
      unfold opn
      by_cases z : c = 0
      · rw [decide_eq_true z, Bool.true_or]
      · have a := f1 (c - 1) (by rw [chg_len]; omega)
        rw [show c - 1 + 1 = c by omega, chg_get hc, chg_get (by omega), if_pos rfl, if_neg (by omega)] at a
        rw [decide_eq_true (show hAt h c < hAt h (c - 1) by omega), Bool.or_true]
    · intro o
      refine ⟨fun j hj => ?_, fun y hy => ?_⟩
      · rw [chg_len] at hj
        rw [chg_get (show j + 1 ≤ h.length by omega), chg_get (show j ≤ h.length by omega)]
        have := H.fall j
        by_cases z : j + 1 = c
        · subst z
          have := opn_lt o
          rw [if_pos rfl, if_neg (by omega)]
          omega
        · rw [if_neg z]
          split <;> omega
      · obtain ⟨x, _, rfl⟩ := hm y hy
        split <;> omega
  · unfold tr
    rw [if_neg (by decide)]
    constructor
    · rintro ⟨f1, f2⟩
      by_cases z : c = h.length
      · have := f2 _ (hm2 c hc)
        rw [if_pos rfl, z, hAt_ge (Nat.le_refl _)] at this
        exact absurd this (by decide)
      · have a := f1 c (by rw [chg_len]; omega)
        rw [chg_get (by omega), chg_get hc, if_pos rfl, if_neg (by omega)] at a
        exact decide_eq_true (by omega)
    · intro o
      have o' := of_decide_eq_true o
      refine ⟨fun j hj => ?_, fun y hy => ?_⟩
      · rw [chg_len] at hj
        rw [chg_get (show j + 1 ≤ h.length by omega), chg_get (show j ≤ h.length by omega)]
        have := H.fall j
        by_cases z : j = c
        · subst z
          rw [if_pos rfl, if_neg (by omega)]
          omega
        · rw [if_neg z]
          split <;> omega
      · obtain ⟨x, _, rfl⟩ := hm y hy
        split
        · next z =>
          subst z
          omega
        · omega
def tv (h : List Nat) (st : Int) (c : Nat) : Int := if st = 1 then dg h c else dg h c + 1
def trs (h : List Nat) (st : Int) (i : Nat) : List Int := ((List.range i).filter (tr h st)).map (tv h st)
theorem tv_lt {h : List Nat} (H : IsHeap h) {st : Int} {c d : Nat} (hcd : c < d) : tv h st c < tv h st d := by
  have := dg_lt H hcd
  unfold tv
  split <;> omega
theorem range_lt (n : Nat) : (List.range n).Pairwise (· < ·) := List.pairwise_lt_range
theorem trs_sorted {h : List Nat} (H : IsHeap h) (st : Int) (i : Nat) : (trs h st i).Pairwise (· ≤ ·) := by
  unfold trs
  refine List.pairwise_map.mpr ?_
  refine ((range_lt i).filter _).imp fun {a b} hab => ?_
  have := tv_lt H (st := st) hab
  omega
theorem sorted_eq : ∀ {a b : List Int}, a.Perm b → a.Pairwise (· ≤ ·) → b.Pairwise (· ≤ ·) → a = b
  | [], b, p, _, _ => (List.nil_perm.mp p).symm
  | x :: a, [], p, _, _ => absurd p.length_eq (by simp)
  | x :: a, y :: b, p, ha, hb => by
    have e : x = y := by
      have h1 : y ∈ x :: a := p.mem_iff.mpr List.mem_cons_self
      have h2 : x ∈ y :: b := p.mem_iff.mp List.mem_cons_self
      rcases List.mem_cons.mp h1 with z | z
      · exact z.symm
      · rcases List.mem_cons.mp h2 with u | u
        · exact u
        · have q1 := (List.pairwise_cons.mp ha).1 y z
          have q2 := (List.pairwise_cons.mp hb).1 x u
          omega
    subst e
    rw [sorted_eq ((List.perm_cons x).mp p) (List.pairwise_cons.mp ha).2 (List.pairwise_cons.mp hb).2]
theorem trs_add (h : List Nat) : trs h 1 (h.length + 1) = (oc h).map (dg h) := by
  have e : tr h 1 = opn h := funext fun c => if_pos rfl
  have e2 : tv h 1 = dg h := funext fun c => if_pos rfl
  unfold trs oc
  rw [e, e2]
theorem trs_sub (h : List Nat) : trs h (-1) (h.length + 1) = ((List.range h.length).filter fun c => decide (hAt h (c + 1) < hAt h c)).map fun c => dg h c + 1 := by
  have e : tr h (-1) = fun c => decide (hAt h (c + 1) < hAt h c) := funext fun c => if_neg (by decide)
  have e2 : tv h (-1) = fun c => dg h c + 1 := funext fun c => if_neg (by decide)
  unfold trs
  rw [e, e2, List.range_succ, List.filter_append, List.filter_cons, if_neg (by rw [hAt_ge (Nat.le_refl h.length)]; simp)]
  simp
theorem oc_two {h : List Nat} (H : IsHeap h) : ((oc h).map (dg h)).Pairwise (fun a b => a + 2 ≤ b) := by
  refine List.pairwise_map.mpr ?_
  unfold oc
  have : ((List.range (h.length + 1)).filter (opn h)).Pairwise (fun a b => a < b) := (range_lt _).filter _
  refine (List.Pairwise.and_mem.mp this).imp fun {a b} hab => ?_
  exact dg_two H hab.2.2 (List.mem_filter.mp hab.2.1).2
theorem two_next {l : List Int} (h : l.Pairwise (fun a b => a + 2 ≤ b)) {i : Nat} {x y : Int} (hx : l[i]? = some x) (hy : l[i + 1]? = some y) : x + 2 ≤ y := by
  obtain ⟨h1, rfl⟩ := List.getElem?_eq_some_iff.mp hx
  obtain ⟨h2, rfl⟩ := List.getElem?_eq_some_iff.mp hy
  exact List.pairwise_iff_getElem.mp h i (i + 1) h1 h2 (by omega)
/-! ### squares added in any order -/
def adm (h : List Nat) (ms : List Int) (i : Nat) (c : Nat) : Bool := opn h c && decide (dg h c ∈ ms.take i)
theorem adm_opn {h : List Nat} {ms : List Int} {i : Nat} (c : Nat) (z : adm h ms i c = true) : opn h c = true := by
  unfold adm at z
  exact (Bool.and_eq_true_iff.mp z).1
theorem adm_zero (h : List Nat) (ms : List Int) : grow h (adm h ms 0) = h := by
  have e : adm h ms 0 = fun _ => false := funext fun c => by
    unfold adm
    rw [List.take_zero, decide_eq_false (by simp), Bool.and_false]
  rw [e]
  unfold grow
  rw [if_neg (show ¬ false = true by decide), List.append_nil]
  exact range_hAt h
theorem grow_opn {h : List Nat} {g : Nat → Bool} (hg : ∀ c, g c = true → opn h c = true) {c : Nat} (o : opn h c = true) (q : g c = false) : opn (grow h g) c = true := by
  unfold opn
  by_cases z : c = 0
  · rw [decide_eq_true z, Bool.true_or]
  · obtain ⟨e, rfl⟩ : ∃ e, c = e + 1 := ⟨c - 1, by omega⟩
    have a := opn_lt o
    have b : hAt (grow h g) (e + 1) < hAt (grow h g) (e + 1 - 1) := by
      rw [hAt_grow hg, hAt_grow hg, q, show e + 1 - 1 = e by omega]
      have : b2n false = 0 := rfl
      omega
    rw [decide_eq_true b, Bool.or_true]
theorem grow_dg {h : List Nat} {g : Nat → Bool} (hg : ∀ c, g c = true → opn h c = true) {c : Nat} (q : g c = false) : dg (grow h g) c = dg h c := by
  unfold dg
  rw [hAt_grow hg, q]
  rfl
theorem adm_no {h : List Nat} (_ : IsHeap h) {ms : List Int} (nd : ms.Nodup) {i c : Nat} (hi : ms[i]? = some (dg h c)) : adm h ms i c = false := by
  unfold adm
  have : ¬ dg h c ∈ ms.take i := fun z => by
    obtain ⟨j, hj, e⟩ := List.getElem_of_mem z
    rw [List.length_take] at hj
    obtain ⟨hi', e'⟩ := List.getElem?_eq_some_iff.mp hi
    rw [List.getElem_take] at e
    have := (List.nodup_iff_pairwise_ne.mp nd)
    have := List.pairwise_iff_getElem.mp this j i (by omega) hi' (by omega)
    exact this (e.trans e'.symm)
  rw [decide_eq_false this, Bool.and_false]
theorem adm_next {h : List Nat} (H : IsHeap h) {ms : List Int} (nd : ms.Nodup) {i c : Nat} (o : opn h c = true) (hi : ms[i]? = some (dg h c)) {g1 : Nat → Bool} (hg1 : ∀ x, g1 x = (c == x)) :
    grow (grow h (adm h ms i)) g1 = grow h (adm h ms (i + 1)) := by
  have no := adm_no H nd hi
  have h1 : IsHeap (grow h (adm h ms i)) := grow_heap H adm_opn
  have o1 : ∀ x, g1 x = true → opn (grow h (adm h ms i)) x = true := fun x z => by
    rw [hg1] at z
    have e : c = x := by simpa using z
    subst e
    exact grow_opn adm_opn o no
  refine heap_ext (grow_heap h1 o1) (grow_heap H adm_opn) fun x => ?_
  rw [hAt_grow o1, hAt_grow adm_opn, hAt_grow adm_opn, hg1]
  by_cases e : c = x
  · subst e
    have yes : adm h ms (i + 1) c = true := by
      unfold adm
      rw [o, List.take_add_one, hi, decide_eq_true (by simp)]
      rfl
    rw [no, yes, beq_self_eq_true]
    rfl
  · have e2 : (c == x) = false := by simpa using e
    have e3 : adm h ms (i + 1) x = adm h ms i x := by
      unfold adm
      have : (dg h x ∈ ms.take (i + 1)) ↔ dg h x ∈ ms.take i := by
        rw [List.take_add_one, hi, List.mem_append]
        constructor
        · rintro (z | z)
          · exact z
          · have : dg h x = dg h c := by simpa using z
            exact absurd (dg_inj H this).symm e
        · exact Or.inl
      rw [decide_eq_decide.mpr this]
    rw [e2, e3]
    rfl
end HM

/-! plain mathematics of heaps: what two have in common, what one holds, heaps turned over -/
namespace HM
theorem nat_ext {a b : Nat} (h : ∀ c, c < a ↔ c < b) : a = b := by
  rcases Nat.lt_trichotomy a b with q | q | q
  · exact absurd ((h a).mpr q) (Nat.lt_irrefl a)
  · exact q
  · exact absurd ((h b).mp q) (Nat.lt_irrefl b)
/-- the open columns whose diagonal is let -/
def gp (p : Int → Bool) (h : List Nat) (c : Nat) : Bool := opn h c && p (dg h c)
theorem gp_opn {p : Int → Bool} {h : List Nat} (c : Nat) (z : gp p h c = true) : opn h c = true := (Bool.and_eq_true_iff.mp z).1
/-! ### what two heaps have in common -/
def meet (a b : List Nat) : List Nat := (List.range (min a.length b.length)).map fun c => min (hAt a c) (hAt b c)
theorem hAt_meet (a b : List Nat) (c : Nat) : hAt (meet a b) c = min (hAt a c) (hAt b c) := by
  by_cases q : c < min a.length b.length
  · unfold hAt meet
    rw [List.getD_eq_getElem?_getD, List.getElem?_map, List.getElem?_range q]
    rfl
  · rw [hAt_ge (show (meet a b).length ≤ c by unfold meet; rw [List.length_map, List.length_range]; omega)]
    by_cases u : c < a.length
    · rw [hAt_ge (show b.length ≤ c by omega), Nat.min_zero]
    · rw [hAt_ge (show a.length ≤ c by omega), Nat.zero_min]
theorem meet_len (a b : List Nat) : (meet a b).length = min a.length b.length := by
  unfold meet
  rw [List.length_map, List.length_range]
theorem meet_heap {a b : List Nat} (A : IsHeap a) (B : IsHeap b) : IsHeap (meet a b) := by
  refine ⟨fun c hc => ?_, fun c => ?_⟩
  · rw [meet_len] at hc
    rw [hAt_meet]
    have := A.pos c (by omega)
    have := B.pos c (by omega)
    omega
  · rw [hAt_meet, hAt_meet]
    have := A.fall c
    have := B.fall c
    omega
theorem opn_iff {h : List Nat} {c : Nat} : opn h c = true ↔ (c = 0 ∨ hAt h c < hAt h (c - 1)) := by
  unfold opn
  rw [Bool.or_eq_true, decide_eq_true_iff, decide_eq_true_iff]
theorem bool_ext {a b : Bool} (h : a = true ↔ b = true) : a = b := by
  cases a <;> cases b <;> simp_all
theorem meet_gp {p : Int → Bool} {a b : List Nat} (B : IsHeap b) {c : Nat} (q : hAt a c < hAt b c) : gp p (meet a b) c = gp p a c := by
  have e : hAt (meet a b) c = hAt a c := by
    rw [hAt_meet]
    omega
  have d : dg (meet a b) c = dg a c := by
    unfold dg
    rw [e]
  have o : opn (meet a b) c = opn a c := bool_ext (by
    rw [opn_iff, opn_iff, e, hAt_meet]
    have := B.le (show c - 1 ≤ c by omega)
    omega)
  unfold gp
  rw [d, o]
theorem meet_comm (a b : List Nat) : meet a b = meet b a := by
  unfold meet
  rw [Nat.min_comm]
  exact List.map_congr_left fun c _ => Nat.min_comm _ _
theorem meet_gp2 {p : Int → Bool} {a b : List Nat} {c : Nat} (q : hAt a c = hAt b c) : gp p (meet a b) c = (gp p a c && gp p b c) := by
  have e : hAt (meet a b) c = hAt a c := by
    rw [hAt_meet]
    omega
  have d : dg (meet a b) c = dg a c := by
    unfold dg
    rw [e]
  have d2 : dg b c = dg a c := by
    unfold dg
    rw [q]
  have o : opn (meet a b) c = (opn a c && opn b c) := bool_ext (by
    rw [Bool.and_eq_true, opn_iff, opn_iff, opn_iff, e, hAt_meet, ← q]
    omega)
  unfold gp
  rw [d, d2, o]
  cases opn a c <;> cases opn b c <;> cases p (dg a c) <;> rfl
theorem meet_grow {p : Int → Bool} {a b : List Nat} (A : IsHeap a) (B : IsHeap b) : grow (meet a b) (gp p (meet a b)) = meet (grow a (gp p a)) (grow b (gp p b)) := by
  refine heap_ext (grow_heap (meet_heap A B) gp_opn) (meet_heap (grow_heap A gp_opn) (grow_heap B gp_opn)) fun c => ?_
  rw [hAt_grow gp_opn, hAt_meet, hAt_meet, hAt_grow gp_opn, hAt_grow gp_opn]
  rcases Nat.lt_trichotomy (hAt a c) (hAt b c) with q | q | q
  · rw [meet_gp B q]
    have := b2n_le (gp p a c)
    omega
  · rw [meet_gp2 q, q]
    cases gp p a c <;> cases gp p b c <;> (unfold b2n; simp) <;> omega
  · rw [meet_comm, meet_gp A q]
    have := b2n_le (gp p b c)
    omega
/-! ### what is held -/
def Sub (f h : List Nat) : Prop := ∀ c, hAt f c ≤ hAt h c
theorem Sub.refl (h : List Nat) : Sub h h := fun _ => Nat.le_refl _
theorem Sub.len {f h : List Nat} (F : IsHeap f) (s : Sub f h) : f.length ≤ h.length := by
  rcases Nat.lt_or_ge h.length f.length with q | q
  · have a := F.pos _ q
    have b := s h.length
    rw [hAt_ge (Nat.le_refl _)] at b
    omega
  · exact q
theorem sub_grow {p : Int → Bool} {f h : List Nat} {g : Nat → Bool} (s : Sub f h) (hg : ∀ c, g c = true → gp p f c = true) : Sub (grow f g) (grow h (gp p h)) := fun c => by
  rw [hAt_grow fun c z => gp_opn c (hg c z), hAt_grow gp_opn]
  have a := s c
  by_cases q : g c = true
  · have z := hg c q
    by_cases e : hAt f c < hAt h c
    · have := b2n_le (g c)
      omega
    · have e2 : hAt f c = hAt h c := by omega
      have : gp p h c = true := by
        unfold gp at z ⊢
        rw [Bool.and_eq_true] at z ⊢
        refine ⟨opn_iff.mpr ?_, ?_⟩
        · have := opn_iff.mp z.1
          have := s (c - 1)
          omega
        · have d : dg h c = dg f c := by
            unfold dg
            rw [e2]
          rw [d]
          exact z.2
      rw [q, this]
      omega
  · have : g c = false := by simpa using q
    rw [this]
    show _ + 0 ≤ _
    omega
theorem sub_more {f h : List Nat} {g : Nat → Bool} (s : Sub f h) (hg : ∀ c, g c = true → opn h c = true) : Sub f (grow h g) := fun c => by
  rw [hAt_grow hg]
  have := s c
  omega
/-! ### turned over -/
def conj (h : List Nat) : List Nat := (List.range (hAt h 0)).map fun r => (h.filter fun x => decide (r < x)).length
theorem IsHeap.pairs {h : List Nat} (H : IsHeap h) : h.Pairwise (fun a b => b ≤ a) := by
  refine List.pairwise_iff_getElem.mpr fun i j hi hj hij => ?_
  have := H.le (Nat.le_of_lt hij)
  have a := hAt_lt hi
  have b := hAt_lt hj
  rw [List.getElem?_eq_getElem hi] at a
  rw [List.getElem?_eq_getElem hj] at b
  rw [Option.some.inj a, Option.some.inj b]
  exact this
theorem cnt_iff : ∀ (l : List Nat), l.Pairwise (fun a b => b ≤ a) → ∀ c r, c < (l.filter fun x => decide (r < x)).length ↔ r < hAt l c
  | [], _, c, r => by
    rw [hAt_ge (Nat.zero_le _)]
    constructor
    · intro z
      exact absurd z (Nat.not_lt_zero c)
    · intro z
      exact absurd z (Nat.not_lt_zero r)
  | x :: l, hp, c, r => by
    obtain ⟨h1, h2⟩ := List.pairwise_cons.mp hp
    by_cases q : r < x
    · rw [List.filter_cons, if_pos (decide_eq_true q), List.length_cons]
      cases c with
      | zero => exact ⟨fun _ => q, fun _ => Nat.zero_lt_succ _⟩
      | succ c =>
        have := cnt_iff l h2 c r
        show c + 1 < _ + 1 ↔ r < hAt l c
        omega
    · have none : ∀ y ∈ x :: l, ¬ r < y := fun y hy => by
        rcases List.mem_cons.mp hy with rfl | hy
        · exact q
        · have := h1 y hy
          omega
      have e : ((x :: l).filter fun y => decide (r < y)) = [] := List.filter_eq_nil_iff.mpr fun y hy => by
        rw [decide_eq_false (none y hy)]
        decide
      rw [e]
      constructor
      · intro z
        exact absurd z (Nat.not_lt_zero c)
      · intro z
        by_cases u : c < (x :: l).length
        · exact absurd z (none _ (List.mem_of_getElem? (hAt_lt u)))
        · rw [hAt_ge (by omega)] at z
          exact absurd z (Nat.not_lt_zero r)
theorem conj_len (h : List Nat) : (conj h).length = hAt h 0 := by
  unfold conj
  rw [List.length_map, List.length_range]
theorem conj_iff {h : List Nat} (H : IsHeap h) (c r : Nat) : c < hAt (conj h) r ↔ r < hAt h c := by
  by_cases q : r < hAt h 0
  · have e : hAt (conj h) r = (h.filter fun x => decide (r < x)).length := by
      unfold hAt conj
      rw [List.getD_eq_getElem?_getD, List.getElem?_map, List.getElem?_range q]
      rfl
    rw [e]
    exact cnt_iff h H.pairs c r
  · rw [hAt_ge (by rw [conj_len]; omega)]
    have := H.le (Nat.zero_le c)
    constructor
    · intro z
      exact absurd z (Nat.not_lt_zero c)
    · intro z
      omega
theorem conj_heap {h : List Nat} (H : IsHeap h) : IsHeap (conj h) := by
  refine ⟨fun r hr => ?_, fun r => ?_⟩
  · rw [conj_len] at hr
    exact (conj_iff H 0 r).mpr hr
  · rcases Nat.lt_or_ge (hAt (conj h) r) (hAt (conj h) (r + 1)) with z | z
    · have a := (conj_iff H _ _).mp z
      exact absurd ((conj_iff H (hAt (conj h) r) r).mpr (by omega)) (Nat.lt_irrefl _)
    · exact z
theorem turn_sq {p p' : Int → Bool} (hp : ∀ z, p z = true → p' (-z) = true) {h k : List Nat} (hk : ∀ c r, c < hAt k r ↔ r < hAt h c) {c : Nat} (g : gp p h c = true) : c = hAt k (hAt h c) ∧ gp p' k (hAt h c) = true := by
  unfold gp at g
  obtain ⟨o, z⟩ := Bool.and_eq_true_iff.mp g
  have o' := opn_iff.mp o
  have e : hAt k (hAt h c) = c := by
    have a : ¬ c < hAt k (hAt h c) := fun z => absurd ((hk _ _).mp z) (Nat.lt_irrefl _)
    rcases Nat.lt_or_ge (hAt k (hAt h c)) c with q | q
    · have b : ¬ (c - 1 < hAt k (hAt h c)) := by omega
      rw [hk] at b
      omega
    · omega
  refine ⟨e.symm, ?_⟩
  unfold gp
  rw [Bool.and_eq_true]
  refine ⟨opn_iff.mpr ?_, ?_⟩
  · by_cases q : hAt h c = 0
    · exact .inl q
    · refine .inr ?_
      rw [e]
      exact (hk _ _).mpr (by omega)
  · have : dg k (hAt h c) = -(dg h c) := by
      unfold dg
      rw [e]
      omega
    rw [this]
    exact hp _ z
theorem conj_grow {p p' : Int → Bool} (hp : ∀ z, p' (-z) = p z) {h : List Nat} (H : IsHeap h) : conj (grow h (gp p h)) = grow (conj h) (gp p' (conj h)) := by
  have G := grow_heap H (gp_opn (p := p) (h := h))
  have C := conj_heap H
  refine heap_ext (conj_heap G) (grow_heap C gp_opn) fun r => nat_ext fun c => ?_
  rw [conj_iff G, hAt_grow gp_opn, hAt_grow gp_opn]
  have k := conj_iff H c r
  by_cases q : r < hAt h c
  · have := k.mpr q
    omega
  · have q2 : ¬ c < hAt (conj h) r := fun z => q (k.mp z)
    constructor
    · intro z
      cases u : gp p h c with
      | false =>
        rw [u] at z
        exact absurd z (by show ¬ r < hAt h c + 0; omega)
      | true =>
        rw [u] at z
        have z' : r < hAt h c + 1 := z
        have e : r = hAt h c := by omega
        obtain ⟨a, b⟩ := turn_sq (p := p) (p' := p') (fun z y => (hp z).trans y) (conj_iff H) u
        subst e
        rw [b]
        show c < _ + 1
        omega
    · intro z
      cases u : gp p' (conj h) r with
      | false =>
        rw [u] at z
        exact absurd z (by show ¬ c < hAt (conj h) r + 0; omega)
      | true =>
        rw [u] at z
        have z' : c < hAt (conj h) r + 1 := z
        have e : c = hAt (conj h) r := by omega
        have back : ∀ y, p' y = true → p (-y) = true := fun y hy => by
          have := hp (-y)
          rw [Int.neg_neg] at this
          rw [← this]
          exact hy
        obtain ⟨a, b⟩ := turn_sq (p := p') (p' := p) back (h := conj h) (k := h) (fun c r => (conj_iff H r c).symm) u
        subst e
        rw [b]
        show r < _ + 1
        omega
end HM

namespace K1
open HM
def lamr (h : List Nat) (r : Nat) : Nat := hAt (conj h) r
def bead (h : List Nat) (c : Nat) : Int := (hAt h c : Int) - (c : Int) - 1
def hk (h : List Nat) (c r : Nat) : Int := (hAt h c : Int) - (r : Int) + (lamr h r : Int) - (c : Int) - 1
def isB (h : List Nat) (z : Int) : Prop := ∃ c, c < h.length ∧ z = bead h c
def coreB (h : List Nat) (k : Int) : Prop := ∀ c, c < h.length → isB h (bead h c - k) ∨ bead h c - k < -(h.length : Int)
theorem bead_split {h : List Nat} (H : IsHeap h) (z : Int) : ∀ n : Nat, ∃ j, j ≤ n ∧ (∀ c, c < j → z < bead h c) ∧ ∀ c, j ≤ c → c < n → bead h c ≤ z
  | 0 => ⟨0, Nat.le_refl _, fun c hc => absurd hc (Nat.not_lt_zero _), fun c _ hc => absurd hc (Nat.not_lt_zero _)⟩
  | n + 1 => by
    obtain ⟨j, a, b, d⟩ := bead_split H z n
    by_cases q : z < bead h n
    · refine ⟨n + 1, Nat.le_refl _, fun c hc => ?_, fun c h1 h2 => by omega⟩
      have := H.le (show c ≤ n by omega)
      unfold bead at q ⊢
      omega
    · refine ⟨j, by omega, b, fun c h1 h2 => ?_⟩
      by_cases e : c = n
      · rw [e]
        omega
      · exact d c h1 (by omega)
theorem lam_le {h : List Nat} (H : IsHeap h) (r : Nat) : lamr h r ≤ h.length := by
  rcases Nat.lt_or_ge h.length (lamr h r) with q | q
  · have := (conj_iff H h.length r).mp q
    rw [hAt_ge (Nat.le_refl _)] at this
    omega
  · exact q
theorem hole {h : List Nat} (H : IsHeap h) {z : Int} (hz : -(h.length : Int) ≤ z) (nb : ¬ isB h z) : ∃ r : Nat, z = (r : Int) - (lamr h r : Int) := by
  obtain ⟨j, a, b, d⟩ := bead_split H z h.length
  have nn : 0 ≤ z + (j : Int) := by
    by_cases q : j < h.length
    · have h1 := d j (Nat.le_refl _) q
      have h2 : z ≠ bead h j := fun e => nb ⟨j, q, e⟩
      unfold bead at h1 h2
      omega
    · omega
  refine ⟨(z + j).toNat, ?_⟩
  have key : ∀ c, c < j ↔ (z + j).toNat < hAt h c := fun c => by
    constructor
    · intro hc
      have h1 := b (j - 1) (by omega)
      have h2 := H.le (show c ≤ j - 1 by omega)
      unfold bead at h1
      omega
    · intro hc
      rcases Nat.lt_or_ge c j with q | q
      · exact q
      · exfalso
        by_cases q2 : c < h.length
        · have h1 := d j (Nat.le_refl _) (by omega)
          have h2 : z ≠ bead h j := fun e => nb ⟨j, by omega, e⟩
          have h3 := H.le q
          unfold bead at h1 h2
          omega
        · rw [hAt_ge (by omega)] at hc
          omega
  have e : lamr h (z + j).toNat = j := by
    have k := fun c => (conj_iff H c (z + j).toNat).trans (key c).symm
    rcases Nat.lt_trichotomy (lamr h (z + j).toNat) j with q | q | q
    · exact absurd ((k _).mpr q) (Nat.lt_irrefl _)
    · exact q
    · exact absurd ((k _).mp q) (Nat.lt_irrefl _)
  rw [e]
  omega
theorem no_both {h : List Nat} (H : IsHeap h) {r : Nat} (b : isB h ((r : Int) - (lamr h r : Int))) : False := by
  obtain ⟨c, hc, e⟩ := b
  have k := conj_iff H c r
  unfold bead at e
  rcases Nat.lt_or_ge r (hAt h c) with q | q
  · have : c < lamr h r := k.mpr q
    omega
  · have : ¬ c < lamr h r := fun z => absurd (k.mp z) (by omega)
    omega
theorem not_low {h : List Nat} (H : IsHeap h) {r : Nat} : ¬ (r : Int) - (lamr h r : Int) < -(h.length : Int) := by
  have := lam_le H r
  omega
theorem core_iff {h : List Nat} (H : IsHeap h) {k : Int} (hk1 : 1 ≤ k) : coreB h k ↔ ∀ c r, r < hAt h c → hk h c r ≠ k := by
  constructor
  · intro C c r hr e
    have hc : c < h.length := by
      rcases Nat.lt_or_ge c h.length with q | q
      · exact q
      · rw [hAt_ge q] at hr
        omega
    have z : bead h c - k = (r : Int) - (lamr h r : Int) := by
      unfold hk at e
      unfold bead
      omega
    have := C c hc
    rw [z] at this
    rcases this with q | q
    · exact no_both H q
    · exact not_low H q
  · intro A c hc
    by_cases q : bead h c - k < -(h.length : Int)
    · exact .inr q
    · refine .inl ?_
      by_cases q2 : isB h (bead h c - k)
      · exact q2
      · exfalso
        obtain ⟨r, hr⟩ := hole H (by omega) q2
        have kk := conj_iff H c r
        rcases Nat.lt_or_ge r (hAt h c) with g | g
        · refine A c r g ?_
          unfold hk
          unfold bead at hr
          omega
        · have : ¬ c < lamr h r := fun z => absurd (kk.mp z) (by omega)
          unfold bead at hr
          omega
theorem core_down {h : List Nat} {k : Int} (hk1 : 1 ≤ k) (C : coreB h k) : ∀ (m : Nat) (c : Nat), c < h.length → isB h (bead h c - (m : Int) * k) ∨ bead h c - (m : Int) * k < -(h.length : Int)
  | 0, c, hc => .inl ⟨c, hc, by rw [show ((0 : Nat) : Int) = 0 from rfl, Int.zero_mul]; omega⟩
  | m + 1, c, hc => by
    rw [show ((m + 1 : Nat) : Int) = (m : Int) + 1 by omega, Int.add_mul, Int.one_mul]
    rcases core_down hk1 C m c hc with ⟨c2, h2, e⟩ | q
    · have := C c2 h2
      rw [← e] at this
      rw [show bead h c - ((m : Int) * k + k) = bead h c - (m : Int) * k - k by omega]
      exact this
    · exact .inr (by omega)
theorem core_mult {h : List Nat} (H : IsHeap h) {k : Int} (hk1 : 1 ≤ k) (C : coreB h k) {c r : Nat} (hr : r < hAt h c) : ¬ hk h c r % k = 0 := by
  intro e
  have hc : c < h.length := by
    rcases Nat.lt_or_ge c h.length with q | q
    · exact q
    · rw [hAt_ge q] at hr
      omega
  have pos : 0 ≤ hk h c r := by
    have : c < lamr h r := (conj_iff H c r).mpr hr
    unfold hk
    omega
  have d := Int.mul_ediv_add_emod (hk h c r) k
  rw [e, Int.mul_comm] at d
  have nd : 0 ≤ hk h c r / k := Int.ediv_nonneg pos (by omega)
  have := core_down hk1 C (hk h c r / k).toNat c hc
  rw [Int.toNat_of_nonneg nd] at this
  have z : bead h c - hk h c r / k * k = (r : Int) - (lamr h r : Int) := by
    have : hk h c r = (hAt h c : Int) - (r : Int) + (lamr h r : Int) - (c : Int) - 1 := rfl
    unfold bead
    omega
  rw [z] at this
  rcases this with q | q
  · exact no_both H q
  · exact not_low H q
theorem lam_count {h : List Nat} (H : IsHeap h) (r : Nat) : lamr h r = (h.filter fun x => decide (r < x)).length := by
  unfold lamr
  by_cases q : r < hAt h 0
  · unfold hAt conj
    rw [List.getD_eq_getElem?_getD, List.getElem?_map, List.getElem?_range q]
    rfl
  · rw [hAt_ge (by rw [conj_len]; omega)]
    symm
    rw [List.length_eq_zero_iff, List.filter_eq_nil_iff]
    intro x hx
    obtain ⟨i, hi, rfl⟩ := List.getElem_of_mem hx
    have := H.le (Nat.zero_le i)
    have e : hAt h i = h[i] := by
      unfold hAt
      rw [List.getD_eq_getElem?_getD, List.getElem?_eq_getElem hi]
      rfl
    rw [decide_eq_true_eq]
    omega
theorem right_count {h : List Nat} (H : IsHeap h) {c r : Nat} (hr : r < hAt h c) : (((h.drop (c + 1)).filter fun x => decide (r < x)).length : Int) = (lamr h r : Int) - (c : Int) - 1 := by
  have hc : c < h.length := by
    rcases Nat.lt_or_ge c h.length with q | q
    · exact q
    · rw [hAt_ge q] at hr
      omega
  rw [lam_count H r]
  have e : (h.filter fun x => decide (r < x)).length = ((h.take (c + 1)).filter fun x => decide (r < x)).length + ((h.drop (c + 1)).filter fun x => decide (r < x)).length := by
    rw [← List.length_append, ← List.filter_append, List.take_append_drop]
  have t : (h.take (c + 1)).filter (fun x => decide (r < x)) = h.take (c + 1) := by
    rw [List.filter_eq_self]
    intro x hx
    obtain ⟨i, hi, rfl⟩ := List.getElem_of_mem hx
    rw [List.length_take] at hi
    rw [List.getElem_take]
    have e2 : hAt h i = h[i] := by
      unfold hAt
      rw [List.getD_eq_getElem?_getD, List.getElem?_eq_getElem (by omega)]
      rfl
    have := H.le (show i ≤ c by omega)
    rw [decide_eq_true_eq]
    omega
  rw [t, List.length_take] at e
  omega
end K1

namespace K1
open HM
/-- the beads of all columns, those beyond the heap too -/
def inB (h : List Nat) (z : Int) : Prop := ∃ c : Nat, z = bead h c
theorem bead_out {h : List Nat} {c : Nat} (hc : h.length ≤ c) : bead h c = -(c : Int) - 1 := by
  unfold bead
  rw [hAt_ge hc]
  omega
theorem inB_iff {h : List Nat} (z : Int) : inB h z ↔ isB h z ∨ z < -(h.length : Int) := by
  constructor
  · rintro ⟨c, rfl⟩
    by_cases hc : c < h.length
    · exact .inl ⟨c, hc, rfl⟩
    · rw [bead_out (by omega)]
      exact .inr (by omega)
  · rintro (⟨c, _, rfl⟩ | hz)
    · exact ⟨c, rfl⟩
    · exact ⟨(-z - 1).toNat, by rw [bead_out (by omega)]; omega⟩
theorem core_inB {h : List Nat} {k : Int} (hk : 0 ≤ k) : coreB h k ↔ ∀ z, inB h z → inB h (z - k) := by
  constructor
  · intro C z hz
    rcases (inB_iff z).mp hz with ⟨c, hc, rfl⟩ | hz
    · exact (inB_iff _).mpr (C c hc)
    · exact (inB_iff _).mpr (.inr (by omega))
  · intro a c hc
    exact (inB_iff _).mp (a _ ⟨c, rfl⟩)
theorem bead_lt {h : List Nat} (IH : IsHeap h) {c d : Nat} (hcd : c < d) : bead h d < bead h c := by
  have := IH.le (show c ≤ d by omega)
  unfold bead
  omega
theorem opn_inB {h : List Nat} (IH : IsHeap h) (c : Nat) : opn h c = true ↔ ¬ inB h (bead h c + 1) := by
  have key : opn h c = true ↔ (c = 0 ∨ hAt h c < hAt h (c - 1)) := by
    unfold opn
    simp
  rw [key]
  constructor
  · rintro o ⟨d, hd⟩
    rcases Nat.lt_trichotomy d c with z | z | z
    · rcases o with o | o
      · omega
      · have := IH.le (show d ≤ c - 1 by omega)
        unfold bead at hd
        omega
    · subst z
      omega
    · have := bead_lt IH z
      omega
  · intro o
    by_cases z : c = 0
    · exact .inl z
    · refine .inr ?_
      have := IH.le (show c - 1 ≤ c by omega)
      rcases Nat.lt_or_ge (hAt h c) (hAt h (c - 1)) with y | y
      · exact y
      · exfalso
        apply o
        refine ⟨c - 1, ?_⟩
        unfold bead
        omega
theorem bead_grow {h : List Nat} {g : Nat → Bool} (hg : ∀ c, g c = true → opn h c = true) (c : Nat) : bead (grow h g) c = bead h c + (b2n (g c) : Int) := by
  unfold bead
  rw [hAt_grow hg]
  omega
theorem dg_bead (h : List Nat) (c : Nat) : dg h c = -(bead h c) - 1 := by
  unfold dg bead
  omega

/-! ### sums -/
def sm : Nat → (Nat → Int) → Int
  | 0, _ => 0
  | n + 1, f => sm n f + f n
theorem sm_congr {f g : Nat → Int} : ∀ {n : Nat}, (∀ i, i < n → f i = g i) → sm n f = sm n g
  | 0, _ => rfl
  | n + 1, h => by
    show sm n f + f n = sm n g + g n
    rw [sm_congr (n := n) (fun i hi => h i (by omega)), h n (by omega)]
theorem sm_add (f g : Nat → Int) : ∀ n : Nat, sm n (fun i => f i + g i) = sm n f + sm n g
  | 0 => rfl
  | n + 1 => by
    show sm n (fun i => f i + g i) + (f n + g n) = sm n f + f n + (sm n g + g n)
    rw [sm_add f g n]
    omega
theorem sm_zero : ∀ n : Nat, sm n (fun _ => 0) = 0
  | 0 => rfl
  | n + 1 => by
    show sm n (fun _ => 0) + 0 = 0
    rw [sm_zero n]
    rfl
theorem sm_swap (f : Nat → Nat → Int) (m : Nat) : ∀ n : Nat, sm n (fun i => sm m (fun j => f i j)) = sm m (fun j => sm n (fun i => f i j))
  | 0 => (sm_zero m).symm
  | n + 1 => by
    show sm n (fun i => sm m (fun j => f i j)) + sm m (fun j => f n j) = sm m (fun j => sm n (fun i => f i j) + f n j)
    rw [sm_swap f m n, ← sm_add]
theorem sm_pick (f : Nat → Int) {i : Nat} : ∀ {n : Nat}, i < n → sm n f = f i + sm n (fun x => if x = i then 0 else f x)
  | 0, h => absurd h (Nat.not_lt_zero _)
  | n + 1, h => by
    show sm n f + f n = f i + (sm n (fun x => if x = i then 0 else f x) + (if n = i then 0 else f n))
    by_cases e : i = n
    · subst e
      rw [if_pos rfl, sm_congr (n := i) (g := fun x => if x = i then 0 else f x) (fun j hj => (if_neg (show ¬ j = i by omega)).symm)]
      omega
    · rw [if_neg (show ¬ n = i by omega), sm_pick f (i := i) (n := n) (by omega)]
      omega
theorem sm_pick2 (f : Nat → Int) {i j n : Nat} (hi : i < n) (hj : j < n) (hij : i ≠ j) : sm n f = f i + f j + sm n (fun x => if x = i ∨ x = j then 0 else f x) := by
  rw [sm_pick f hi, sm_pick (fun x => if x = i then 0 else f x) hj]
  show f i + ((if j = i then 0 else f j) + _) = _
  rw [if_neg (by omega), sm_congr (g := fun x => if x = i ∨ x = j then 0 else f x) (fun x _ => ?_)]
  · omega
  · by_cases a : x = i <;> by_cases b : x = j <;> simp [a, b]
theorem sm_split (f : Nat → Int) (m : Nat) : ∀ n : Nat, sm (m + n) f = sm m f + sm n (fun i => f (m + i))
  | 0 => by show sm m f = sm m f + 0; omega
  | n + 1 => by
    show sm (m + n) f + f (m + n) = sm m f + (sm n (fun i => f (m + i)) + f (m + n))
    rw [sm_split f m n]
    omega
theorem sm_front (f : Nat → Int) : ∀ n : Nat, sm (n + 1) f = f 0 + sm n (fun i => f (i + 1))
  | 0 => by show 0 + f 0 = f 0 + 0; omega
  | n + 1 => by
    show sm (n + 1) f + f (n + 1) = f 0 + (sm n (fun i => f (i + 1)) + f (n + 1))
    rw [sm_front f n]
    omega
theorem sm_rev (f : Nat → Int) : ∀ n : Nat, sm n f = sm n (fun i => f (n - 1 - i))
  | 0 => rfl
  | n + 1 => by
    rw [sm_front (fun i => f (n + 1 - 1 - i)) n]
    show sm n f + f n = f (n + 1 - 1 - 0) + sm n (fun i => f (n + 1 - 1 - (i + 1)))
    rw [show n + 1 - 1 - 0 = n by omega, sm_rev f n, sm_congr (g := fun i => f (n + 1 - 1 - (i + 1))) (fun i hi => by
      show f (n - 1 - i) = f (n + 1 - 1 - (i + 1))
      rw [show n - 1 - i = n + 1 - 1 - (i + 1) by omega])]
    omega
theorem sm_cls {n k : Nat} (cls : Nat → Nat) (g : Nat → Int) (h : ∀ i, i < n → cls i < k) : sm n g = sm k (fun r => sm n (fun i => if cls i = r then g i else 0)) := by
  rw [← sm_swap (fun i r => if cls i = r then g i else 0) k n]
  refine sm_congr fun i hi => ?_
  rw [sm_pick (fun r => if cls i = r then g i else 0) (h i hi), sm_congr (g := fun _ => 0) (fun x _ => ?_), sm_zero, if_pos rfl]
  · omega
  · show (if x = cls i then 0 else if cls i = x then g i else 0) = 0
    by_cases e : x = cls i
    · rw [if_pos e]
    · rw [if_neg e, if_neg (fun z => e z.symm)]
theorem sm_cnt (p : Nat → Bool) : ∀ n : Nat, (((List.range n).filter p).length : Int) = sm n (fun i => if p i = true then 1 else 0)
  | 0 => rfl
  | n + 1 => by
    show _ = sm n (fun i => if p i = true then 1 else 0) + (if p n = true then 1 else 0)
    rw [← sm_cnt p n, List.range_succ, List.filter_append, List.length_append]
    by_cases e : p n = true
    · rw [if_pos e]
      simp [e]
    · rw [if_neg e]
      simp [e]
theorem sm_sum (f : Nat → Int) : ∀ n : Nat, ((List.range n).map f).sum = sm n f
  | 0 => rfl
  | n + 1 => by
    show _ = sm n f + f n
    rw [List.range_succ, List.map_append, List.sum_append, sm_sum f n]
    simp
theorem cnt_bij {n m : Nat} {p q : Nat → Bool} (φ : Nat → Nat) (inj : ∀ i j, i < n → j < n → p i = true → p j = true → φ i = φ j → i = j) (to : ∀ i, i < n → p i = true → φ i < m ∧ q (φ i) = true) (on : ∀ j, j < m → q j = true → ∃ i, i < n ∧ p i = true ∧ φ i = j) : ((List.range n).filter p).length = ((List.range m).filter q).length := by
  rw [← List.length_map (f := φ)]
  refine List.Perm.length_eq ((List.perm_ext_iff_of_nodup ?_ (List.nodup_range.filter _)).mpr fun j => ?_)
  · refine List.pairwise_map.mpr (List.Pairwise.imp ?_ (List.Pairwise.and_mem.mp ((List.nodup_range (n := n)).filter p)))
    rintro x y ⟨hx, hy, ne⟩ e
    obtain ⟨hx1, hx2⟩ := List.mem_filter.mp hx
    obtain ⟨hy1, hy2⟩ := List.mem_filter.mp hy
    exact ne (inj x y (List.mem_range.mp hx1) (List.mem_range.mp hy1) hx2 hy2 e)
  · rw [List.mem_map, List.mem_filter, List.mem_range]
    constructor
    · rintro ⟨i, hi, rfl⟩
      obtain ⟨h1, h2⟩ := List.mem_filter.mp hi
      exact to i (List.mem_range.mp h1) h2
    · rintro ⟨h1, h2⟩
      obtain ⟨i, hi, hp, e⟩ := on j h1 h2
      exact ⟨i, List.mem_filter.mpr ⟨List.mem_range.mpr hi, hp⟩, e⟩
theorem cnt_all (n : Nat) : ((List.range n).filter fun _ => true).length = n := by
  rw [List.filter_eq_self.mpr (fun _ _ => rfl), List.length_range]
end K1

namespace K1
open HM
/-! ### runners of a core -/
/-- the beads of each rest are those with a quotient below a number -/
def fl (h : List Nat) (k : Int) (a : Nat → Int) : Prop := ∀ z, inB h z ↔ z / k < a (z % k).toNat
theorem inB_low {h : List Nat} {z : Int} (hz : z < -(h.length : Int)) : inB h z := (inB_iff z).mpr (.inr hz)
theorem bead_top {h : List Nat} (IH : IsHeap h) (c : Nat) : bead h c < (hAt h 0 : Int) := by
  have := IH.le (Nat.zero_le c)
  unfold bead
  omega
theorem inB_top {h : List Nat} (IH : IsHeap h) {z : Int} (hz : inB h z) : z < (hAt h 0 : Int) := by
  obtain ⟨c, rfl⟩ := hz
  exact bead_top IH c
theorem inB_down {h : List Nat} {k : Int} (hk : 0 ≤ k) (C : coreB h k) {z : Int} (hz : inB h z) : ∀ m : Nat, inB h (z - (m : Int) * k)
  | 0 => by rw [show z - ((0 : Nat) : Int) * k = z by rw [show ((0 : Nat) : Int) = 0 from rfl, Int.zero_mul]; omega]; exact hz
  | m + 1 => by
    have := (core_inB hk).mp C _ (inB_down hk C hz m)
    rw [show z - ((m + 1 : Nat) : Int) * k = z - (m : Int) * k - k by rw [show ((m + 1 : Nat) : Int) = (m : Int) + 1 by omega, Int.add_mul, Int.one_mul]; omega]
    exact this
theorem fl_ex {h : List Nat} (IH : IsHeap h) {k : Int} (hk : 1 ≤ k) (C : coreB h k) : ∃ a, fl h k a := by
  have key : ∀ r : Int, ∃ t : Int, ∀ u : Int, inB h (r + u * k) ↔ u < t := fun r => by
    -- the least quotient without a bead
    have up : ∀ u : Int, inB h (r + u * k) → ∀ v, v ≤ u → inB h (r + v * k) := fun u hu v hv => by
      have := inB_down (by omega) C hu (u - v).toNat
      rw [Int.toNat_of_nonneg (by omega), Int.sub_mul] at this
      rw [show r + v * k = r + u * k - (u * k - v * k) by omega]
      exact this
    have lo : ∃ L : Int, inB h (r + L * k) := by
      refine ⟨-(h.length : Int) - 1 - r.natAbs, inB_low ?_⟩
      have : (-(h.length : Int) - 1 - (r.natAbs : Int)) * k ≤ (-(h.length : Int) - 1 - (r.natAbs : Int)) * 1 := Int.mul_le_mul_of_nonpos_left (by omega) hk
      omega
    have hi : ∃ U : Int, ¬ inB h (r + U * k) := by
      refine ⟨(hAt h 0 : Int) + r.natAbs, fun z => ?_⟩
      have := inB_top IH z
      have : ((hAt h 0 : Int) + (r.natAbs : Int)) * 1 ≤ ((hAt h 0 : Int) + (r.natAbs : Int)) * k := Int.mul_le_mul_of_nonneg_left hk (by omega)
      omega
    obtain ⟨L, hL⟩ := lo
    obtain ⟨U, hU⟩ := hi
    have lu : L < U := by
      rcases Int.lt_or_le L U with q | q
      · exact q
      · exact absurd (up L hL U q) hU
    -- go up from L
    have st : ∀ n : Nat, (∀ v : Int, v ≤ L + n → inB h (r + v * k)) ∨ ∃ t : Int, ∀ u : Int, inB h (r + u * k) ↔ u < t := fun n => by
      induction n with
      | zero => exact .inl fun v hv => up L hL v (by omega)
      | succ n ih =>
        rcases ih with ih | ih
        · by_cases b : inB h (r + (L + (n + 1 : Nat)) * k)
          · exact .inl fun v hv => up _ b v hv
          · refine .inr ⟨L + (n + 1 : Nat), fun u => ⟨fun hu => ?_, fun hu => ih u (by omega)⟩⟩
            rcases Int.lt_or_le u (L + (n + 1 : Nat)) with q | q
            · exact q
            · exact absurd (up u hu _ q) b
        · exact .inr ih
    rcases st (U - L).toNat with q | q
    · exact absurd (q U (by omega)) hU
    · exact q
  refine ⟨fun x => (key x).choose, fun z => ?_⟩
  have := (key ((z % k).toNat : Int)).choose_spec (z / k)
  rw [← this]
  have e := Int.emod_nonneg z (show k ≠ 0 by omega)
  rw [Int.toNat_of_nonneg e, Int.emod_add_ediv_mul]
theorem fl_core {h : List Nat} {k : Int} (hk : 1 ≤ k) {a : Nat → Int} (F : fl h k a) : coreB h k := by
  rw [core_inB (by omega)]
  intro z hz
  have a1 := (F z).mp hz
  refine (F _).mpr ?_
  rw [Int.sub_emod_right, Int.sub_ediv_of_dvd _ (Int.dvd_refl k), Int.ediv_self (by omega)]
  omega
def ho (k : Int) (a : Nat → Int) (z : Int) : Bool := decide (a (z % k).toNat ≤ z / k)
theorem ho_iff {h : List Nat} {k : Int} {a : Nat → Int} (F : fl h k a) (z : Int) : ho k a z = true ↔ ¬ inB h z := by
  unfold ho
  rw [decide_eq_true_eq, F z]
  omega
/-- the squares of a column with a hook below k, by its holes -/
theorem col_part {h : List Nat} (IH : IsHeap h) {k : Int} (k1 : 1 ≤ k) {a : Nat → Int} (F : fl h k a) (c : Nat) : ((List.range (hAt h c)).filter fun r => decide (hk h c r < k)).length = ((List.range k.toNat).filter fun d => ho k a (bead h c - (d : Nat))).length := by
  have hkb : ∀ r : Nat, hk h c r = bead h c - ((r : Int) - (lamr h r : Int)) := fun r => by
    unfold hk bead
    omega
  have nb : ∀ r : Nat, ¬ inB h ((r : Int) - (lamr h r : Int)) := fun r z => by
    rcases (inB_iff _).mp z with z | z
    · exact no_both IH z
    · exact not_low IH z
  refine cnt_bij (fun r => (hk h c r).toNat) (fun i j hi hj _ _ e => ?_) (fun r hr p => ?_) (fun d hd p => ?_)
  · have pi : c < lamr h i := (conj_iff IH c i).mpr hi
    have pj : c < lamr h j := (conj_iff IH c j).mpr hj
    have ei := hkb i
    have ej := hkb j
    have e' : (hk h c i).toNat = (hk h c j).toNat := e
    have li : 0 ≤ hk h c i := by unfold hk; omega
    have lj : 0 ≤ hk h c j := by unfold hk; omega
    have ee : (i : Int) - (lamr h i : Int) = (j : Int) - (lamr h j : Int) := by omega
    rcases Nat.lt_trichotomy i j with q | q | q
    · have := (conj_heap IH).le (Nat.le_of_lt q)
      unfold lamr at ee
      omega
    · exact q
    · have := (conj_heap IH).le (Nat.le_of_lt q)
      unfold lamr at ee
      omega
  · have pr : c < lamr h r := (conj_iff IH c r).mpr hr
    have l0 : 0 ≤ hk h c r := by unfold hk; omega
    have lk : hk h c r < k := of_decide_eq_true p
    refine ⟨by omega, ?_⟩
    rw [ho_iff F, Int.toNat_of_nonneg l0, hkb r, show bead h c - (bead h c - ((r : Int) - (lamr h r : Int))) = (r : Int) - (lamr h r : Int) by omega]
    exact nb r
  · rw [ho_iff F] at p
    have p2 := fun z => p ((inB_iff _).mpr z)
    obtain ⟨r, hr⟩ := hole IH (z := bead h c - (d : Int)) (by
      rcases Int.lt_or_le (bead h c - (d : Int)) (-(h.length : Int)) with q | q
      · exact absurd (.inr q) p2
      · exact q) (fun z => p2 (.inl z))
    have kk := conj_iff IH c r
    have d0 : (d : Nat) ≠ 0 := fun z => by
      apply p
      rw [z]
      exact ⟨c, by omega⟩
    have lr : r < hAt h c := by
      rcases Nat.lt_or_ge r (hAt h c) with g | g
      · exact g
      · exfalso
        have : ¬ c < lamr h r := fun z => absurd (kk.mp z) (by omega)
        unfold bead at hr
        omega
    have e := hkb r
    refine ⟨r, lr, decide_eq_true (by omega), ?_⟩
    show (hk h c r).toNat = d
    omega
/-! ### letters: the squares with hooks below k, by the charges -/
def lw (a : Nat → Int) (r s : Nat) : Int := max 0 (a r - a s - (if r < s then 1 else 0))
def LS (n : Nat) (a : Nat → Int) : Int := sm n fun r => sm n fun s => lw a r s
def rd (n r d : Nat) : Nat := if d ≤ r then r - d else r + n - d
theorem rd_lt {n r d : Nat} (hr : r < n) (hd : d < n) : rd n r d < n := by
  unfold rd
  split <;> omega
theorem rd_sm (G : Nat → Int) {n r : Nat} (hr : r < n) : sm n (fun d => G (rd n r d)) = sm n G := by
  obtain ⟨m, rfl⟩ : ∃ m, n = (r + 1) + m := ⟨n - (r + 1), by omega⟩
  rw [sm_split (fun d => G (rd (r + 1 + m) r d)), sm_split G, sm_rev G (r + 1), sm_rev (fun i => G (r + 1 + i)) m]
  congr 1
  · refine sm_congr fun d hd => ?_
    unfold rd
    rw [if_pos (by omega)]
    rfl
  · refine sm_congr fun d hd => ?_
    unfold rd
    show G _ = G _
    rw [if_neg (by omega)]
    congr 1
    omega
theorem divmod {k z t x : Int} (hk : 0 < k) (h0 : 0 ≤ x) (h1 : x < k) (e : z = x + k * t) : z / k = t ∧ z % k = x := by
  subst e
  exact ⟨by rw [Int.add_mul_ediv_left _ _ (by omega), Int.ediv_eq_zero_of_lt h0 h1, Int.zero_add], by rw [Int.add_mul_emod_self_left, Int.emod_eq_of_lt h0 h1]⟩
/-- beads at one rest whose place d below is a hole -/
theorem run_cnt {h : List Nat} (IH : IsHeap h) {k : Int} (k1 : 1 ≤ k) {a : Nat → Int} (F : fl h k a) {d r : Nat} (hd : d < k.toNat) (hr : r < k.toNat) : ((List.range h.length).filter fun c => decide ((bead h c % k).toNat = r) && ho k a (bead h c - (d : Nat))).length = (lw a r (rd k.toNat r d)).toNat := by
  have low : ∀ t : Int, (((r : Int) + k * t) - (d : Int)) / k = t - (if r < rd k.toNat r d then 1 else 0) ∧ ((((r : Int) + k * t) - (d : Int)) % k).toNat = rd k.toNat r d := fun t => by
    unfold rd
    by_cases q : d ≤ r
    · rw [if_pos q, if_neg (by omega)]
      obtain ⟨e1, e2⟩ := divmod (k := k) (z := (r : Int) + k * t - (d : Int)) (t := t) (x := (r : Int) - d) (by omega) (by omega) (by omega) (by omega)
      rw [e1, e2]
      omega
    · rw [if_neg q, if_pos (by omega)]
      obtain ⟨e1, e2⟩ := divmod (k := k) (z := (r : Int) + k * t - (d : Int)) (t := t - 1) (x := (r : Int) + k - d) (by omega) (by omega) (by omega) (by rw [Int.mul_sub]; omega)
      rw [e1, e2]
      omega
  have bd : ∀ c, (bead h c % k).toNat = r → bead h c = (r : Int) + k * (bead h c / k) := fun c e => by
    have := Int.emod_add_mul_ediv (bead h c) k
    have := Int.emod_nonneg (bead h c) (show k ≠ 0 by omega)
    omega
  have q2 := cnt_bij (n := h.length) (m := (lw a r (rd k.toNat r d)).toNat) (p := fun c => decide ((bead h c % k).toNat = r) && ho k a (bead h c - (d : Nat))) (q := fun _ => true) (fun c => (bead h c / k - (a (rd k.toNat r d) + (if r < rd k.toNat r d then 1 else 0))).toNat) ?_ ?_ ?_
  · rw [q2, cnt_all]
  · intro i j hi hj pi pj e
    obtain ⟨pi1, pi2⟩ := Bool.and_eq_true_iff.mp pi
    obtain ⟨pj1, pj2⟩ := Bool.and_eq_true_iff.mp pj
    have bi := bd i (of_decide_eq_true pi1)
    have bj := bd j (of_decide_eq_true pj1)
    have li := low (bead h i / k)
    have lj := low (bead h j / k)
    rw [← bi] at li
    rw [← bj] at lj
    have hi2 := of_decide_eq_true pi2
    have hj2 := of_decide_eq_true pj2
    rw [li.2, li.1] at hi2
    rw [lj.2, lj.1] at hj2
    have e' : (bead h i / k - (a (rd k.toNat r d) + (if r < rd k.toNat r d then 1 else 0))).toNat = (bead h j / k - (a (rd k.toNat r d) + (if r < rd k.toNat r d then 1 else 0))).toNat := e
    have ee : bead h i / k = bead h j / k := by omega
    rw [ee] at bi
    rcases Nat.lt_trichotomy i j with q | q | q
    · have := bead_lt IH q
      omega
    · exact q
    · have := bead_lt IH q
      omega
  · intro c hc p
    obtain ⟨p1, p2⟩ := Bool.and_eq_true_iff.mp p
    have p1' := of_decide_eq_true p1
    have b := bd c p1'
    have l := low (bead h c / k)
    rw [← b] at l
    have h2 := of_decide_eq_true p2
    rw [l.2, l.1] at h2
    have up := (F (bead h c)).mp ⟨c, rfl⟩
    rw [p1'] at up
    refine ⟨?_, rfl⟩
    show (bead h c / k - _).toNat < _
    unfold lw
    omega
  · intro j hj _
    unfold lw at hj
    have l := low (j + a (rd k.toNat r d) + (if r < rd k.toNat r d then 1 else 0))
    obtain ⟨m1, m2⟩ := divmod (k := k) (z := (r : Int) + k * (j + a (rd k.toNat r d) + (if r < rd k.toNat r d then 1 else 0))) (by omega) (by omega) (by omega) rfl
    have isb : inB h ((r : Int) + k * (j + a (rd k.toNat r d) + (if r < rd k.toNat r d then 1 else 0))) := by
      rw [F, m1, m2, Int.toNat_natCast]
      omega
    have ish : ho k a ((r : Int) + k * (j + a (rd k.toNat r d) + (if r < rd k.toNat r d then 1 else 0)) - (d : Int)) = true := by
      unfold ho
      rw [l.1, l.2]
      exact decide_eq_true (by omega)
    have nish := (ho_iff F _).mp ish
    obtain ⟨c, hc⟩ := isb
    have cl : c < h.length := by
      rcases Nat.lt_or_ge c h.length with q | q
      · exact q
      · exfalso
        apply nish
        refine inB_low ?_
        rw [hc, bead_out q]
        rcases Nat.eq_zero_or_pos d with z | z
        · subst z
          exfalso
          rw [hc, show bead h c - ((0 : Nat) : Int) = bead h c by omega] at nish
          exact nish ⟨c, rfl⟩
        · omega
    refine ⟨c, cl, ?_, ?_⟩
    · rw [Bool.and_eq_true_iff]
      rw [← hc]
      exact ⟨decide_eq_true (by rw [m2]; omega), ish⟩
    · show (bead h c / k - _).toNat = j
      rw [← hc, m1]
      omega
end K1

namespace K1
open HM
def lts (h : List Nat) (k : Int) : Int := sm h.length fun c => (((List.range (hAt h c)).filter fun r => decide (hk h c r < k)).length : Int)
theorem lts_LS {h : List Nat} (IH : IsHeap h) {k : Int} (k1 : 1 ≤ k) {a : Nat → Int} (F : fl h k a) : lts h k = LS k.toNat a := by
  unfold lts
  rw [sm_congr (n := h.length) (g := fun c => sm k.toNat fun d => if ho k a (bead h c - (d : Nat)) = true then 1 else 0) (fun c _ => by
    rw [col_part IH k1 F c, sm_cnt]), sm_swap]
  have step : ∀ d, d < k.toNat → sm h.length (fun c => if ho k a (bead h c - (d : Nat)) = true then 1 else 0) = sm k.toNat fun r => lw a r (rd k.toNat r d) := fun d hd => by
    rw [sm_cls (k := k.toNat) (fun c => (bead h c % k).toNat) _ (fun c _ => by
      have := Int.emod_lt_of_pos (bead h c) (show 0 < k by omega)
      have := Int.emod_nonneg (bead h c) (show k ≠ 0 by omega)
      omega)]
    refine sm_congr fun r hr => ?_
    have e := run_cnt IH k1 F hd hr
    have p0 : 0 ≤ lw a r (rd k.toNat r d) := by unfold lw; omega
    rw [← Int.toNat_of_nonneg p0, ← e, sm_cnt]
    refine sm_congr fun c _ => ?_
    show (if (bead h c % k).toNat = r then (if ho k a (bead h c - (d : Nat)) = true then (1 : Int) else 0) else 0) = _
    by_cases q : (bead h c % k).toNat = r
    · rw [if_pos q, decide_eq_true q, Bool.true_and]
    · rw [if_neg q, decide_eq_false q, Bool.false_and, if_neg (by decide)]
  rw [sm_congr step, sm_swap]
  refine sm_congr fun r hr => ?_
  exact rd_sm (fun s => lw a r s) hr
/-! ### a letter -/
/-- what a letter makes of charges: at rests p and s (the next one) -/
def lt2 (a : Nat → Int) (p s : Nat) (e : Int) (x : Nat) : Int := if x = p then min (a p) (a s - e) else if x = s then max (a p + e) (a s) else a x
theorem LS_pick (a : Nat → Int) {n p s : Nat} (hp : p < n) (hs : s < n) (ps : p ≠ s) : LS n a = lw a p p + lw a p s + lw a s p + lw a s s + sm n (fun x => if x = p ∨ x = s then 0 else lw a p x + lw a s x) + sm n (fun x => if x = p ∨ x = s then 0 else lw a x p + lw a x s) + sm n (fun x => if x = p ∨ x = s then 0 else sm n fun y => if y = p ∨ y = s then 0 else lw a x y) := by
  unfold LS
  rw [sm_pick2 _ hp hs ps, sm_pick2 (fun y => lw a p y) hp hs ps, sm_pick2 (fun y => lw a s y) hp hs ps]
  have e1 : sm n (fun x => if x = p ∨ x = s then 0 else lw a p x + lw a s x) = sm n (fun x => if x = p ∨ x = s then 0 else lw a p x) + sm n (fun x => if x = p ∨ x = s then 0 else lw a s x) := by
    rw [← sm_add]
    refine sm_congr fun x _ => ?_
    by_cases q : x = p ∨ x = s
    · simp [q]
    · simp [q]
  have e2 : sm n (fun x => if x = p ∨ x = s then 0 else sm n fun y => lw a x y) = sm n (fun x => if x = p ∨ x = s then 0 else lw a x p + lw a x s) + sm n (fun x => if x = p ∨ x = s then 0 else sm n fun y => if y = p ∨ y = s then 0 else lw a x y) := by
    rw [← sm_add]
    refine sm_congr fun x _ => ?_
    by_cases q : x = p ∨ x = s
    · simp [q]
    · simp only [q, if_false]
      exact sm_pick2 (fun y => lw a x y) hp hs ps
  rw [e1, e2]
  omega
theorem LS_step {n p s : Nat} (hp : p < n) (hs : s < n) (e : Int) (he : (s = p + 1 ∧ e = 0) ∨ (p = n - 1 ∧ s = 0 ∧ e = 1 ∧ 2 ≤ n)) (a : Nat → Int) : LS n (lt2 a p s e) = LS n a + (if a p ≤ a s - e then 0 else 1) := by
  have ps : p ≠ s := by omega
  have vp : lt2 a p s e p = min (a p) (a s - e) := if_pos rfl
  have vs : lt2 a p s e s = max (a p + e) (a s) := by unfold lt2; rw [if_neg (Ne.symm ps), if_pos rfl]
  have vo : ∀ x, x ≠ p → x ≠ s → lt2 a p s e x = a x := fun x h1 h2 => by unfold lt2; rw [if_neg h1, if_neg h2]
  rw [LS_pick (lt2 a p s e) hp hs ps, LS_pick a hp hs ps]
  have c1 : sm n (fun x => if x = p ∨ x = s then 0 else lw (lt2 a p s e) p x + lw (lt2 a p s e) s x) = sm n (fun x => if x = p ∨ x = s then 0 else lw a p x + lw a s x) := by
    refine sm_congr fun x hx => ?_
    by_cases q : x = p ∨ x = s
    · simp [q]
    · simp only [q, if_false]
      unfold lw
      rw [vp, vs, vo x (fun z => q (.inl z)) (fun z => q (.inr z))]
      rcases he with ⟨h1, h2⟩ | ⟨h1, h2, h3, h4⟩
      · subst h2
        by_cases u : p < x
        · rw [if_pos u, if_pos (show s < x by omega)]
          omega
        · rw [if_neg u, if_neg (show ¬ s < x by omega)]
          omega
      · subst h3
        rw [if_neg (show ¬ p < x by omega), if_pos (show s < x by omega)]
        omega
  have c2 : sm n (fun x => if x = p ∨ x = s then 0 else lw (lt2 a p s e) x p + lw (lt2 a p s e) x s) = sm n (fun x => if x = p ∨ x = s then 0 else lw a x p + lw a x s) := by
    refine sm_congr fun x hx => ?_
    by_cases q : x = p ∨ x = s
    · simp [q]
    · simp only [q, if_false]
      unfold lw
      rw [vp, vs, vo x (fun z => q (.inl z)) (fun z => q (.inr z))]
      rcases he with ⟨h1, h2⟩ | ⟨h1, h2, h3, h4⟩
      · subst h2
        by_cases u : x < p
        · rw [if_pos u, if_pos (show x < s by omega)]
          omega
        · rw [if_neg u, if_neg (show ¬ x < s by omega)]
          omega
      · subst h3
        rw [if_pos (show x < p by omega), if_neg (show ¬ x < s by omega)]
        omega
  have c3 : sm n (fun x => if x = p ∨ x = s then 0 else sm n fun y => if y = p ∨ y = s then 0 else lw (lt2 a p s e) x y) = sm n (fun x => if x = p ∨ x = s then 0 else sm n fun y => if y = p ∨ y = s then 0 else lw a x y) := by
    refine sm_congr fun x hx => ?_
    by_cases q : x = p ∨ x = s
    · simp [q]
    · simp only [q, if_false]
      refine sm_congr fun y hy => ?_
      by_cases q2 : y = p ∨ y = s
      · simp [q2]
      · simp only [q2, if_false]
        unfold lw
        rw [vo x (fun z => q (.inl z)) (fun z => q (.inr z)), vo y (fun z => q2 (.inl z)) (fun z => q2 (.inr z))]
  rw [c1, c2, c3]
  have c4 : lw (lt2 a p s e) p p + lw (lt2 a p s e) p s + lw (lt2 a p s e) s p + lw (lt2 a p s e) s s = lw a p p + lw a p s + lw a s p + lw a s s + (if a p ≤ a s - e then 0 else 1) := by
    unfold lw
    rw [vp, vs]
    rcases he with ⟨h1, h2⟩ | ⟨h1, h2, h3, h4⟩
    · subst h2
      rw [if_pos (show p < s by omega), if_neg (show ¬ s < p by omega), if_neg (show ¬ p < p by omega), if_neg (show ¬ s < s by omega)]
      split <;> omega
    · subst h3
      rw [if_neg (show ¬ p < s by omega), if_pos (show s < p by omega), if_neg (show ¬ p < p by omega), if_neg (show ¬ s < s by omega)]
      split <;> omega
  omega
end K1

namespace K1
open HM
/-- where a letter acts: the rest of the beads that move, the next rest, and 1 where it goes round -/
def lp (k q : Int) : Nat := (k - 1 - q).toNat
def lq (k q : Int) : Nat := if q = 0 then 0 else (k - q).toNat
def le1 (q : Int) : Int := if q = 0 then 1 else 0
theorem letter_fl {h : List Nat} (IH : IsHeap h) {k q : Int} (hk : 2 ≤ k) (q0 : 0 ≤ q) (q1 : q < k) {a : Nat → Int} (F : fl h k a) {g : Nat → Bool} (hg : ∀ c, g c = true ↔ (opn h c = true ∧ (dg h c - q) % k = 0)) : fl (grow h g) k (lt2 a (lp k q) (lq k q) (le1 q)) ∧ (grow h g = h ↔ a (lp k q) ≤ a (lq k q) - le1 q) := by
  have go : ∀ c, g c = true → opn h c = true := fun c z => ((hg c).mp z).1
  have mvg : ∀ c, g c = true ↔ (¬ inB h (bead h c + 1) ∧ (-(bead h c) - 1 - q) % k = 0) := fun c => by
    rw [hg c, opn_inB IH, dg_bead]
  have rest : ∀ x t : Int, 0 ≤ x → x < k → ((-(x + k * t) - 1 - q) % k = 0 ↔ x = k - 1 - q) := fun x t h0 h1 => by
    constructor
    · intro e
      obtain ⟨m, hm⟩ := Int.dvd_of_emod_eq_zero e
      have e2 : x + 1 + q = k * (-t - m) := by
        rw [Int.mul_sub, Int.mul_neg]
        omega
      have m1 : -t - m = 1 := by
        rcases Int.lt_or_le (-t - m) 1 with z | z
        · have := Int.mul_le_mul_of_nonneg_left (show -t - m ≤ 0 by omega) (show 0 ≤ k by omega)
          omega
        · rcases Int.lt_or_le 1 (-t - m) with z2 | z2
          · have := Int.mul_le_mul_of_nonneg_left (show 2 ≤ -t - m by omega) (show 0 ≤ k by omega)
            omega
          · omega
      rw [m1] at e2
      omega
    · intro e
      rw [e]
      refine Int.emod_eq_zero_of_dvd ⟨-t - 1, ?_⟩
      rw [Int.mul_sub, Int.mul_neg]
      omega
  have inG : ∀ z, inB (grow h g) z ↔ ((inB h z ∧ ¬ (¬ inB h (z + 1) ∧ (-z - 1 - q) % k = 0)) ∨ (inB h (z - 1) ∧ ¬ inB h z ∧ (-z - q) % k = 0)) := fun z => by
    constructor
    · rintro ⟨c, rfl⟩
      rw [bead_grow go]
      by_cases gc : g c = true
      · have m := (mvg c).mp gc
        refine .inr ?_
        rw [gc, show ((b2n true : Nat) : Int) = 1 from rfl, show bead h c + 1 - 1 = bead h c by omega, show -(bead h c + 1) - q = -(bead h c) - 1 - q by omega]
        exact ⟨⟨c, rfl⟩, m⟩
      · have gf : g c = false := by simpa using gc
        refine .inl ?_
        rw [gf, show ((b2n false : Nat) : Int) = 0 from rfl, Int.add_zero]
        exact ⟨⟨c, rfl⟩, fun z => gc ((mvg c).mpr z)⟩
    · rintro (⟨⟨c, hc⟩, n⟩ | ⟨⟨c, hc⟩, n, m⟩)
      · refine ⟨c, ?_⟩
        rw [bead_grow go]
        have gf : g c = false := by
          by_cases gc : g c = true
          · exact absurd (hc ▸ (mvg c).mp gc) n
          · simpa using gc
        rw [gf, hc]
        show _ = _ + (0 : Int)
        omega
      · refine ⟨c, ?_⟩
        have gt : g c = true := (mvg c).mpr (by
          rw [← hc, show z - 1 + 1 = z by omega, show -(z - 1) - 1 - q = -z - q by omega]
          exact ⟨n, m⟩)
        rw [bead_grow go, gt, ← hc]
        show _ = _ + (1 : Int)
        omega
  have lpk : lp k q < k.toNat := by unfold lp; omega
  have bq : ∀ x t : Int, 0 ≤ x → x < k → (inB h (x + k * t) ↔ t < a x.toNat) := fun x t h0 h1 => by
    obtain ⟨e1, e2⟩ := divmod (k := k) (z := x + k * t) (by omega) h0 h1 rfl
    rw [F, e1, e2]
  refine ⟨fun z => ?_, ?_⟩
  · have zz : z = z % k + k * (z / k) := (Int.emod_add_mul_ediv z k).symm
    have x0 := Int.emod_nonneg z (show k ≠ 0 by omega)
    have x1 := Int.emod_lt_of_pos z (show 0 < k by omega)
    revert zz x0 x1
    generalize z % k = x
    generalize z / k = t
    intro zz x0 x1
    subst zz
    rw [inG]
    have B0 := bq x t x0 x1
    have up : inB h (x + k * t + 1) ↔ (if x = k - 1 then t + 1 < a 0 else t < a (x + 1).toNat) := by
      by_cases e : x = k - 1
      · rw [if_pos e, show x + k * t + 1 = 0 + k * (t + 1) by rw [Int.mul_add]; omega, bq 0 (t + 1) (by omega) (by omega)]
        rfl
      · rw [if_neg e, show x + k * t + 1 = (x + 1) + k * t by omega, bq (x + 1) t (by omega) (by omega)]
    have dn : inB h (x + k * t - 1) ↔ (if x = 0 then t - 1 < a (k - 1).toNat else t < a (x - 1).toNat) := by
      by_cases e : x = 0
      · rw [if_pos e, show x + k * t - 1 = (k - 1) + k * (t - 1) by rw [Int.mul_sub]; omega, bq (k - 1) (t - 1) (by omega) (by omega)]
      · rw [if_neg e, show x + k * t - 1 = (x - 1) + k * t by omega, bq (x - 1) t (by omega) (by omega)]
    have r1 := rest x t x0 x1
    have r2 : (-(x + k * t) - q) % k = 0 ↔ x = (if q = 0 then 0 else k - q) := by
      by_cases e : x = 0
      · have := rest (k - 1) (t - 1) (by omega) (by omega)
        rw [show -(k - 1 + k * (t - 1)) - 1 - q = -(x + k * t) - q by rw [Int.mul_sub]; omega] at this
        rw [this]
        split <;> omega
      · have := rest (x - 1) t (by omega) (by omega)
        rw [show -(x - 1 + k * t) - 1 - q = -(x + k * t) - q by omega] at this
        rw [this]
        split <;> omega
    rw [B0, up, dn, r1, r2]
    unfold lt2 lp lq le1
    by_cases hq : q = 0
    · subst hq
      rw [if_pos rfl, if_pos rfl, if_pos rfl]
      by_cases xp : x = k - 1
      · subst xp
        rw [if_pos rfl, if_pos (show (k - 1).toNat = (k - 1 - 0).toNat by omega), if_neg (show ¬ k - 1 = 0 by omega), show (k - 1 - 0).toNat = (k - 1).toNat by omega]
        omega
      · by_cases xs : x = 0
        · subst xs
          rw [if_neg xp, if_pos rfl, if_neg (show ¬ (0 : Int).toNat = (k - 1 - 0).toNat by omega), if_pos (show (0 : Int).toNat = 0 by omega), show (k - 1 - 0).toNat = (k - 1).toNat by omega, show (0 : Int).toNat = 0 from rfl]
          omega
        · rw [if_neg xp, if_neg xs, if_neg (show ¬ x.toNat = (k - 1 - 0).toNat by omega), if_neg (show ¬ x.toNat = 0 by omega)]
          omega
    · rw [if_neg hq, if_neg hq, if_neg hq]
      by_cases xp : x = k - 1 - q
      · subst xp
        rw [if_pos rfl, if_neg (show ¬ k - 1 - q = k - 1 by omega), show (k - 1 - q + 1).toNat = (k - q).toNat by omega]
        omega
      · by_cases xs : x = k - q
        · subst xs
          rw [if_neg (show ¬ (k - q).toNat = (k - 1 - q).toNat by omega), if_pos rfl, if_neg (show ¬ k - q = 0 by omega), show (k - q - 1).toNat = (k - 1 - q).toNat by omega]
          omega
        · rw [if_neg (show ¬ x.toNat = (k - 1 - q).toNat by omega), if_neg (show ¬ x.toNat = (k - q).toNat by omega)]
          omega
  · -- idle
    have same : grow h g = h ↔ ∀ c, ¬ g c = true := by
      constructor
      · intro e c gc
        have := hAt_grow go c
        rw [e, gc] at this
        have : b2n true = 1 := rfl
        omega
      · intro n
        refine heap_ext (grow_heap IH go) IH fun c => ?_
        rw [hAt_grow go]
        have : g c = false := by simpa using n c
        rw [this]
        rfl
    rw [same]
    have nx : ∀ t : Int, inB h ((k - 1 - q) + k * t + 1) ↔ t + le1 q < a (lq k q) := fun t => by
      unfold lq le1
      by_cases hq : q = 0
      · subst hq
        rw [if_pos rfl, if_pos rfl, show k - 1 - 0 + k * t + 1 = 0 + k * (t + 1) by rw [Int.mul_add]; omega, bq 0 (t + 1) (by omega) (by omega)]
        rfl
      · rw [if_neg hq, if_neg hq, show k - 1 - q + k * t + 1 = (k - q) + k * t by omega, bq (k - q) t (by omega) (by omega), Int.add_zero]
    constructor
    · intro n
      rcases Int.lt_or_le (a (lq k q) - le1 q) (a (lp k q)) with z | z
      · exfalso
        obtain ⟨c, hc⟩ := (bq (k - 1 - q) (a (lp k q) - 1) (by omega) (by omega)).mpr (by unfold lp; omega)
        apply n c
        rw [mvg c, ← hc]
        refine ⟨fun i => ?_, (rest (k - 1 - q) (a (lp k q) - 1) (by omega) (by omega)).mpr rfl⟩
        have := (nx (a (lp k q) - 1)).mp i
        omega
      · exact z
    · intro le c gc
      obtain ⟨n, m⟩ := (mvg c).mp gc
      have zz : bead h c = bead h c % k + k * (bead h c / k) := (Int.emod_add_mul_ediv (bead h c) k).symm
      have x0 := Int.emod_nonneg (bead h c) (show k ≠ 0 by omega)
      have x1 := Int.emod_lt_of_pos (bead h c) (show 0 < k by omega)
      have e := (rest (bead h c % k) (bead h c / k) x0 x1).mp (by rw [← zz]; exact m)
      have b := (bq (bead h c % k) (bead h c / k) x0 x1).mp ⟨c, zz.symm⟩
      rw [e] at b zz
      apply n
      rw [zz, nx]
      unfold lp at le
      omega
/-- the letters of a core behind a letter -/
theorem letter_lts {h : List Nat} (IH : IsHeap h) {k q : Int} (hk : 2 ≤ k) (q0 : 0 ≤ q) (q1 : q < k) (C : coreB h k) {g : Nat → Bool} (hg : ∀ c, g c = true ↔ (opn h c = true ∧ (dg h c - q) % k = 0)) : coreB (grow h g) k ∧ lts (grow h g) k = lts h k + (if grow h g = h then 0 else 1) := by
  obtain ⟨a, F⟩ := fl_ex IH (by omega) C
  obtain ⟨F2, id⟩ := letter_fl IH hk q0 q1 F hg
  have G := grow_heap IH fun c z => ((hg c).mp z).1
  refine ⟨fl_core (by omega) F2, ?_⟩
  rw [lts_LS G (by omega) F2, lts_LS IH (by omega) F, LS_step (n := k.toNat) (p := lp k q) (s := lq k q) (by unfold lp; omega) (by unfold lq; split <;> omega) (le1 q) ?_ a]
  · by_cases z : grow h g = h
    · rw [if_pos z, if_pos (id.mp z)]
    · rw [if_neg z, if_neg (fun y => z (id.mpr y))]
  · unfold lp lq le1
    by_cases z : q = 0
    · rw [if_pos z, if_pos z]
      right
      omega
    · rw [if_neg z, if_neg z]
      left
      omega
/-! ### turned over -/
theorem conj_inB {h : List Nat} (IH : IsHeap h) (z : Int) : inB (conj h) z ↔ ¬ inB h (-1 - z) := by
  have e : ∀ r : Nat, bead (conj h) r = -1 - ((r : Int) - (lamr h r : Int)) := fun r => by
    unfold bead lamr
    omega
  constructor
  · rintro ⟨r, hr⟩ b
    rw [hr, e r, show -1 - (-1 - ((r : Int) - (lamr h r : Int))) = (r : Int) - (lamr h r : Int) by omega] at b
    rcases (inB_iff _).mp b with z | z
    · exact no_both IH z
    · exact not_low IH z
  · intro n
    have p2 := fun y => n ((inB_iff _).mpr y)
    obtain ⟨r, hr⟩ := hole IH (z := -1 - z) (by
      rcases Int.lt_or_le (-1 - z) (-(h.length : Int)) with q | q
      · exact absurd (.inr q) p2
      · exact q) (fun y => p2 (.inl y))
    exact ⟨r, by rw [e r]; omega⟩
def rva (n : Nat) (a : Nat → Int) (x : Nat) : Int := -a (n - 1 - x)
theorem conj_fl {h : List Nat} (IH : IsHeap h) {k : Int} (k1 : 1 ≤ k) {a : Nat → Int} (F : fl h k a) : fl (conj h) k (rva k.toNat a) := by
  intro z
  rw [conj_inB IH]
  have zz : z = z % k + k * (z / k) := (Int.emod_add_mul_ediv z k).symm
  have x0 := Int.emod_nonneg z (show k ≠ 0 by omega)
  have x1 := Int.emod_lt_of_pos z (show 0 < k by omega)
  obtain ⟨e1, e2⟩ := divmod (k := k) (z := -1 - z) (t := -(z / k) - 1) (x := k - 1 - z % k) (by omega) (by omega) (by omega) (by rw [Int.mul_sub, Int.mul_neg]; omega)
  rw [F, e1, e2]
  unfold rva
  rw [show k.toNat - 1 - (z % k).toNat = (k - 1 - z % k).toNat by omega]
  omega
theorem LS_rev (n : Nat) (a : Nat → Int) : LS n (rva n a) = LS n a := by
  unfold LS
  rw [sm_rev, sm_congr (n := n) (g := fun r => sm n fun s => lw (rva n a) (n - 1 - r) (n - 1 - s)) (fun r _ => sm_rev _ n), sm_swap]
  refine sm_congr fun s hs => sm_congr fun r hr => ?_
  unfold lw rva
  rw [show n - 1 - (n - 1 - r) = r by omega, show n - 1 - (n - 1 - s) = s by omega]
  by_cases q : s < r
  · rw [if_pos q, if_pos (show n - 1 - r < n - 1 - s by omega)]
    omega
  · rw [if_neg q, if_neg (show ¬ n - 1 - r < n - 1 - s by omega)]
    omega
theorem conj_lts {h : List Nat} (IH : IsHeap h) {k : Int} (k1 : 1 ≤ k) (C : coreB h k) : coreB (conj h) k ∧ lts (conj h) k = lts h k := by
  obtain ⟨a, F⟩ := fl_ex IH k1 C
  have F2 := conj_fl IH k1 F
  exact ⟨fl_core k1 F2, by rw [lts_LS (conj_heap IH) k1 F2, lts_LS IH k1 F, LS_rev]⟩
/-! ### an order above all hooks -/
theorem hk_most {h : List Nat} (IH : IsHeap h) {c r : Nat} (hr : r < hAt h c) : hk h c r ≤ (h.length : Int) + (hAt h 0 : Int) - 1 := by
  have := IH.le (Nat.zero_le c)
  have := lam_le IH r
  unfold hk
  omega
theorem great_core {h : List Nat} (IH : IsHeap h) {k : Int} (k1 : 1 ≤ k) (hk2 : (h.length : Int) + (hAt h 0 : Int) ≤ k) : coreB h k := by
  rw [core_iff IH k1]
  intro c r hr
  have := hk_most IH hr
  omega
theorem great_col {h : List Nat} (IH : IsHeap h) {k : Int} (hk2 : (h.length : Int) + (hAt h 0 : Int) ≤ k) (c : Nat) : ((List.range (hAt h c)).filter fun r => decide (hk h c r < k)).length = hAt h c := by
  rw [List.filter_eq_self.mpr (fun r hr => decide_eq_true ?_), List.length_range]
  have := hk_most IH (List.mem_range.mp hr)
  omega
end K1

namespace K1
open HM
/-! ### the sum over all pairs, in any order -/
theorem sum_perm {l l' : List Int} (p : l.Perm l') : l.sum = l'.sum := by
  induction p with
  | nil => rfl
  | cons x _ ih => simp only [List.sum_cons, ih]
  | swap x y l =>
    simp only [List.sum_cons]
    omega
  | trans _ _ a b => exact a.trans b
def gs (k : Int) (l : List Int) : Int := (l.map fun x => (l.map fun y => max 0 ((x - y) / k)).sum).sum
theorem gs_perm (k : Int) {l l' : List Int} (p : l.Perm l') : gs k l = gs k l' := by
  unfold gs
  rw [sum_perm (p.map _)]
  congr 1
  refine List.map_congr_left fun x _ => ?_
  exact sum_perm (p.map _)
theorem map_sm (f : Int → Int) : ∀ l : List Int, (l.map f).sum = sm l.length (fun i => f (l.getD i 0))
  | [] => rfl
  | x :: r => by
    rw [List.length_cons, sm_front, List.map_cons, List.sum_cons, map_sm f r]
    simp only [List.getD_cons_zero, List.getD_cons_succ]
theorem getD_mem {l : List Int} {i : Nat} (h : i < l.length) : l.getD i 0 ∈ l := by
  rw [List.getD_eq_getElem?_getD, List.getElem?_eq_getElem h]
  exact List.getElem_mem h
theorem pw_get {R : Int → Int → Prop} {l : List Int} (h : l.Pairwise R) {i j : Nat} (hij : i < j) (hj : j < l.length) : R (l.getD i 0) (l.getD j 0) := by
  rw [List.getD_eq_getElem?_getD, List.getD_eq_getElem?_getD, List.getElem?_eq_getElem hj, List.getElem?_eq_getElem (show i < l.length by omega)]
  exact List.pairwise_iff_getElem.mp h i j (by omega) hj hij
theorem gs_sorted {k : Int} (hk : 0 < k) {l : List Int} (pw : l.Pairwise (· ≤ ·)) : sm l.length (fun i => sm i fun j => (l.getD i 0 - l.getD j 0) / k) = gs k l := by
  unfold gs
  rw [map_sm]
  refine sm_congr fun i hi => ?_
  rw [map_sm]
  obtain ⟨m, hm⟩ : ∃ m, l.length = i + m := ⟨l.length - i, by omega⟩
  rw [hm, sm_split]
  have z : sm m (fun j => max 0 ((l.getD i 0 - l.getD (i + j) 0) / k)) = 0 := by
    rw [sm_congr (g := fun _ => 0) (fun j hj => ?_), sm_zero]
    show max 0 ((l.getD i 0 - l.getD (i + j) 0) / k) = 0
    have le : l.getD i 0 ≤ l.getD (i + j) 0 := by
      by_cases e : j = 0
      · subst e
        exact Int.le_refl _
      · exact pw_get pw (by omega) (by omega)
    have := Int.ediv_le_ediv hk (show l.getD i 0 - l.getD (i + j) 0 ≤ 0 by omega)
    rw [Int.zero_ediv] at this
    omega
  rw [z, Int.add_zero]
  refine sm_congr fun j hj => ?_
  have le := pw_get pw hj hi
  have := Int.ediv_nonneg (show 0 ≤ l.getD i 0 - l.getD j 0 by omega) (show 0 ≤ k by omega)
  omega
def fhA (k : Int) (a : Nat → Int) (n : Nat) : List Int := (List.range n).map fun r => k * a r + (r : Int)
theorem map_range_sum (g : Int → Int) (f : Nat → Int) (n : Nat) : (((List.range n).map f).map g).sum = sm n (fun i => g (f i)) := by
  rw [List.map_map, ← sm_sum]
  rfl
theorem gs_holes {k : Int} {n : Nat} (hn : (n : Int) = k) (a : Nat → Int) : gs k (fhA k a n) = LS n a := by
  unfold gs fhA LS
  rw [map_range_sum (fun x => (((List.range n).map fun r => k * a r + (r : Int)).map fun y => max 0 ((x - y) / k)).sum)]
  refine sm_congr fun r hr => ?_
  rw [map_range_sum]
  refine sm_congr fun s hs => ?_
  unfold lw
  have e : (k * a r + (r : Int) - (k * a s + (s : Int))) / k = a r - a s - (if r < s then 1 else 0) := by
    by_cases q : r < s
    · rw [if_pos q]
      exact (divmod (k := k) (x := k + (r : Int) - s) (by omega) (by omega) (by omega) (by rw [Int.mul_sub, Int.mul_sub]; omega)).1
    · rw [if_neg q]
      exact (divmod (k := k) (x := (r : Int) - s) (by omega) (by omega) (by omega) (by rw [Int.mul_sub, Int.mul_sub]; omega)).1
  rw [e]
/-! ### a core found again from its beads -/
theorem filt_hAt : ∀ (t : List Nat), t.Pairwise (fun a b => b ≤ a) → ∀ c, hAt (t.filter fun x => decide (0 < x)) c = t.getD c 0
  | [], _, c => by
    unfold hAt
    simp
  | x :: r, h, c => by
    rw [List.pairwise_cons] at h
    by_cases z : 0 < x
    · rw [List.filter_cons_of_pos (by simpa using z)]
      cases c with
      | zero => rfl
      | succ c =>
        unfold hAt
        rw [List.getD_cons_succ, List.getD_cons_succ]
        exact filt_hAt r h.2 c
    · rw [List.filter_cons_of_neg (by simpa using z)]
      have all0 : ∀ y ∈ r, y = 0 := fun y hy => by
        have := h.1 y hy
        omega
      have e : (r.filter fun x => decide (0 < x)) = [] := by
        rw [List.filter_eq_nil_iff]
        intro y hy
        rw [all0 y hy]
        decide
      rw [e]
      cases c with
      | zero =>
        rw [List.getD_cons_zero]
        show (0 : Nat) = x
        omega
      | succ c =>
        rw [List.getD_cons_succ]
        show (0 : Nat) = _
        rw [List.getD_eq_getElem?_getD]
        cases q : r[c]? with
        | none => rfl
        | some y => exact (all0 y (List.mem_of_getElem? q)).symm
theorem filt_heap {t : List Nat} (h : t.Pairwise (fun a b => b ≤ a)) : IsHeap (t.filter fun x => decide (0 < x)) := by
  refine ⟨fun c hc => ?_, fun c => ?_⟩
  · have := List.getElem_mem hc
    have e : hAt (t.filter fun x => decide (0 < x)) c = (t.filter fun x => decide (0 < x))[c] := by
      unfold hAt
      rw [List.getD_eq_getElem?_getD, List.getElem?_eq_getElem hc]
      rfl
    rw [e]
    exact of_decide_eq_true (List.mem_filter.mp this).2
  · rw [filt_hAt t h, filt_hAt t h, List.getD_eq_getElem?_getD, List.getD_eq_getElem?_getD]
    by_cases q : c + 1 < t.length
    · rw [List.getElem?_eq_getElem q, List.getElem?_eq_getElem (show c < t.length by omega)]
      exact List.pairwise_iff_getElem.mp h c (c + 1) (by omega) q (by omega)
    · rw [List.getElem?_eq_none (by omega)]
      exact Nat.zero_le _
/-- heights of beads, the greatest ahead -/
def hgt (s : List Int) : List Int := (List.range s.length).map fun (i : Nat) => s.getD i 0 + (i : Int) + 1
theorem from_beads {k L : Int} {a : Nat → Int} {s : List Int} (pw : s.Pairwise (· ≥ ·)) (nd : s.Nodup) (mem : ∀ z, z ∈ s ↔ (L ≤ z ∧ z / k < a (z % k).toNat)) (len : (s.length : Int) = -L) (low : ∀ z, z < L → z / k < a (z % k).toNat) :
    ∃ h : List Nat, IsHeap h ∧ fl h k a ∧ (hgt s).filter (fun x => decide (0 < x)) = h.map (fun (n : Nat) => (n : Int)) ∧ h.length ≤ s.length ∧ ((hAt h 0 : Int) = s.getD 0 0 + 1 ∨ hAt h 0 = 0) := by
  have st : ∀ i j, i < j → j < s.length → s.getD j 0 < s.getD i 0 := fun i j hij hj => by
    have h1 := pw_get pw hij hj
    have h2 := pw_get (R := fun x y => x ≠ y) nd hij hj
    omega
  have gap : ∀ n i : Nat, i + n < s.length → s.getD (i + n) 0 + (n : Int) ≤ s.getD i 0 := fun n => by
    induction n with
    | zero =>
      intro i _
      show s.getD i 0 + (0 : Int) ≤ _
      omega
    | succ n ih =>
      intro i hi
      have a1 := ih i (by omega)
      have a2 := st (i + n) (i + n + 1) (by omega) hi
      have : s.getD (i + (n + 1)) 0 = s.getD (i + n + 1) 0 := rfl
      omega
  have ge : ∀ i, i < s.length → L + (s.length : Int) - 1 - i ≤ s.getD i 0 := fun i hi => by
    have h1 := gap (s.length - 1 - i) i (by omega)
    have h2 := ((mem _).mp (getD_mem (l := s) (i := i + (s.length - 1 - i)) (by omega))).1
    omega
  have t : ∃ t : List Nat, hgt s = t.map (fun (n : Nat) => (n : Int)) ∧ t.length = s.length ∧ t.Pairwise (fun a b => b ≤ a) ∧ ∀ c, c < s.length → ((t.getD c 0 : Nat) : Int) = s.getD c 0 + c + 1 := by
    have gd : ∀ c, c < s.length → (((hgt s).map Int.toNat).getD c 0 : Nat) = (s.getD c 0 + (c : Int) + 1).toNat := fun c hc => by
      rw [List.getD_eq_getElem?_getD, List.getElem?_map]
      unfold hgt
      rw [List.getElem?_map, List.getElem?_range hc]
      rfl
    refine ⟨(hgt s).map Int.toNat, ?_, by unfold hgt; simp, ?_, fun c hc => ?_⟩
    · rw [List.map_map]
      symm
      conv => rhs; rw [← List.map_id (hgt s)]
      refine List.map_congr_left fun x hx => ?_
      unfold hgt at hx
      obtain ⟨i, hi, rfl⟩ := List.mem_map.mp hx
      have := ge i (List.mem_range.mp hi)
      show (((s.getD i 0 + (i : Int) + 1).toNat : Nat) : Int) = _
      rw [Int.toNat_of_nonneg (by omega)]
      rfl
    · refine List.pairwise_map.mpr ?_
      unfold hgt
      refine List.pairwise_map.mpr ?_
      refine (List.Pairwise.and_mem.mp (List.pairwise_lt_range (n := s.length))).imp fun {i j} hij => ?_
      have hj := List.mem_range.mp hij.2.1
      have := gap (j - i) i (by omega)
      rw [show i + (j - i) = j by omega] at this
      show (s.getD j 0 + (j : Int) + 1).toNat ≤ (s.getD i 0 + (i : Int) + 1).toNat
      omega
    · rw [gd c hc]
      have := ge c hc
      omega
  obtain ⟨t, t1, t2, t3, t4⟩ := t
  have hA := filt_hAt t t3
  refine ⟨t.filter fun x => decide (0 < x), filt_heap t3, fun z => ?_, ?_, ?_, ?_⟩
  · have b1 : ∀ c, c < s.length → bead (t.filter fun x => decide (0 < x)) c = s.getD c 0 := fun c hc => by
      unfold bead
      rw [hA c, t4 c hc]
      omega
    have b2 : ∀ c, s.length ≤ c → bead (t.filter fun x => decide (0 < x)) c = -(c : Int) - 1 := fun c hc => by
      unfold bead
      rw [hA c, List.getD_eq_getElem?_getD, List.getElem?_eq_none (by omega)]
      show (0 : Int) - c - 1 = _
      omega
    constructor
    · rintro ⟨c, rfl⟩
      by_cases hc : c < s.length
      · rw [b1 c hc]
        exact ((mem _).mp (getD_mem hc)).2
      · rw [b2 c (by omega)]
        exact low _ (by omega)
    · intro hz
      by_cases q : L ≤ z
      · obtain ⟨c, hc⟩ := List.mem_iff_getElem?.mp ((mem z).mpr ⟨q, hz⟩)
        have cl := (List.getElem?_eq_some_iff.mp hc).1
        refine ⟨c, ?_⟩
        rw [b1 c cl, List.getD_eq_getElem?_getD, hc]
        rfl
      · exact ⟨(-z - 1).toNat, by rw [b2 _ (by omega)]; omega⟩
  · rw [t1, List.filter_map]
    congr 1
    refine List.filter_congr fun x _ => ?_
    show decide ((0 : Int) < (x : Int)) = decide (0 < x)
    exact decide_eq_decide.mpr (by omega)
  · have := List.length_filter_le (fun x => decide (0 < x)) t
    omega
  · rw [hA 0]
    by_cases q : 0 < s.length
    · left
      have := t4 0 q
      omega
    · right
      rw [List.getD_eq_getElem?_getD, List.getElem?_eq_none (by omega)]
      rfl
theorem fl_unique {h h' : List Nat} (IH : IsHeap h) (IH' : IsHeap h') {k : Int} {a : Nat → Int} (F : fl h k a) (F' : fl h' k a) : h = h' := by
  have same : ∀ z, inB h z ↔ inB h' z := fun z => (F z).trans (F' z).symm
  have key : ∀ n : Nat, ∀ c, c < n → bead h c = bead h' c := fun n => by
    induction n with
    | zero => exact fun c hc => absurd hc (Nat.not_lt_zero _)
    | succ n ih =>
      intro c hc
      by_cases e : c < n
      · exact ih c e
      · have e : c = n := by omega
        subst e
        have le : ∀ {u v : List Nat}, IsHeap u → IsHeap v → (∀ z, inB u z ↔ inB v z) → (∀ d, d < c → bead u d = bead v d) → bead u c ≤ bead v c := fun {u v} U V s i => by
          obtain ⟨d, hd⟩ := (s _).mp ⟨c, rfl⟩
          rcases Nat.lt_trichotomy d c with q | q | q
          · have := i d q
            have := bead_lt U q
            omega
          · rw [hd, q]
            exact Int.le_refl _
          · have := bead_lt V q
            omega
        have l1 := le IH IH' same ih
        have l2 := le IH' IH (fun z => (same z).symm) (fun d hd => (ih d hd).symm)
        omega
  refine heap_ext IH IH' fun c => ?_
  have := key (c + 1) c (by omega)
  unfold bead at this
  omega
/-- charges of a small heap are small -/
theorem fl_small {h : List Nat} (IH : IsHeap h) {k : Int} (k1 : 1 ≤ k) {a : Nat → Int} (F : fl h k a) {r : Nat} (hr : (r : Int) < k) : a r ≤ (hAt h 0 : Int) + 1 ∧ -(h.length : Int) - 1 ≤ a r := by
  constructor
  · rcases Int.lt_or_le ((hAt h 0 : Int) + 1) (a r) with q | q
    · exfalso
      obtain ⟨m1, m2⟩ := divmod (k := k) (z := (r : Int) + k * ((hAt h 0 : Int) + 1)) (by omega) (by omega) hr rfl
      have := inB_top IH ((F _).mpr (by rw [m1, m2, Int.toNat_natCast]; exact q))
      have := Int.mul_le_mul_of_nonneg_right k1 (show 0 ≤ (hAt h 0 : Int) + 1 by omega)
      omega
    · exact q
  · rcases Int.lt_or_le (a r) (-(h.length : Int) - 1) with q | q
    · exfalso
      obtain ⟨m1, m2⟩ := divmod (k := k) (z := (r : Int) + k * (-(h.length : Int) - 2)) (by omega) (by omega) hr rfl
      have lowz : (r : Int) + k * (-(h.length : Int) - 2) < -(h.length : Int) := by
        have := Int.mul_le_mul_of_nonneg_right k1 (show 0 ≤ (h.length : Int) + 1 by omega)
        have e : k * (-(h.length : Int) - 2) = -(k * ((h.length : Int) + 1)) - k := by
          rw [show -(h.length : Int) - 2 = -((h.length : Int) + 1) - 1 by omega, Int.mul_sub, Int.mul_neg, Int.mul_one]
        omega
      have := (F _).mp (inB_low lowz)
      rw [m1, m2, Int.toNat_natCast] at this
      omega
    · exact q
end K1

namespace K1
open HM
/-! ### a letter taken away -/
def rmv (h : List Nat) (c : Nat) : Bool := decide (hAt h (c + 1) < hAt h c)
def shr (h : List Nat) (g : Nat → Bool) : List Nat := ((List.range h.length).map fun c => hAt h c - b2n (g c)).filter fun x => decide (0 < x)
theorem rmv_lt {h : List Nat} {c : Nat} (r : rmv h c = true) : c < h.length := by
  have := of_decide_eq_true r
  rcases Nat.lt_or_ge c h.length with q | q
  · exact q
  · rw [hAt_ge q] at this
    omega
theorem shr_pw {h : List Nat} (IH : IsHeap h) {g : Nat → Bool} (hg : ∀ c, g c = true → rmv h c = true) : ((List.range h.length).map fun c => hAt h c - b2n (g c)).Pairwise (fun a b => b ≤ a) := by
  refine List.pairwise_map.mpr (List.pairwise_lt_range.imp fun {c d} hcd => ?_)
  by_cases gc : g c = true
  · have r := of_decide_eq_true (hg c gc)
    have := IH.le (show c + 1 ≤ d by omega)
    have := b2n_le (g c)
    omega
  · have gf : g c = false := by simpa using gc
    rw [gf]
    have := IH.le (Nat.le_of_lt hcd)
    show hAt h d - b2n (g d) ≤ hAt h c - 0
    omega
theorem hAt_shr {h : List Nat} (IH : IsHeap h) {g : Nat → Bool} (hg : ∀ c, g c = true → rmv h c = true) (c : Nat) : hAt (shr h g) c = hAt h c - b2n (g c) := by
  unfold shr
  rw [filt_hAt _ (shr_pw IH hg), List.getD_eq_getElem?_getD, List.getElem?_map]
  by_cases q : c < h.length
  · rw [List.getElem?_range q]
    rfl
  · rw [List.getElem?_eq_none (by rw [List.length_range]; omega), hAt_ge (by omega)]
    show (0 : Nat) = 0 - _
    omega
theorem shr_heap {h : List Nat} (IH : IsHeap h) {g : Nat → Bool} (hg : ∀ c, g c = true → rmv h c = true) : IsHeap (shr h g) := filt_heap (shr_pw IH hg)
theorem shr_len (h : List Nat) (g : Nat → Bool) : (shr h g).length ≤ h.length := by
  have := List.length_filter_le (fun x => decide (0 < x)) ((List.range h.length).map fun c => hAt h c - b2n (g c))
  rw [List.length_map, List.length_range] at this
  exact this
theorem bead_shr {h : List Nat} (IH : IsHeap h) {g : Nat → Bool} (hg : ∀ c, g c = true → rmv h c = true) (c : Nat) : bead (shr h g) c = bead h c - (b2n (g c) : Int) := by
  unfold bead
  rw [hAt_shr IH hg]
  by_cases gc : g c = true
  · have := of_decide_eq_true (hg c gc)
    rw [gc]
    show ((hAt h c - 1 : Nat) : Int) - c - 1 = (hAt h c : Int) - c - 1 - (1 : Int)
    omega
  · have gf : g c = false := by simpa using gc
    rw [gf]
    show ((hAt h c - 0 : Nat) : Int) - c - 1 = (hAt h c : Int) - c - 1 - (0 : Int)
    omega
theorem rmv_inB {h : List Nat} (IH : IsHeap h) (c : Nat) : rmv h c = true ↔ ¬ inB h (bead h c - 1) := by
  unfold rmv
  rw [decide_eq_true_eq]
  constructor
  · rintro r ⟨d, hd⟩
    rcases Nat.lt_trichotomy d c with z | z | z
    · have := bead_lt IH z
      omega
    · subst z
      omega
    · have := IH.le (show c + 1 ≤ d by omega)
      unfold bead at hd
      omega
  · intro n
    rcases Nat.lt_or_ge (hAt h (c + 1)) (hAt h c) with q | q
    · exact q
    · exfalso
      have := IH.fall c
      exact n ⟨c + 1, by unfold bead; omega⟩
/-- what taking a letter away makes of charges -/
def lt3 (a : Nat → Int) (p s : Nat) (e : Int) (x : Nat) : Int := if x = p then max (a p) (a s - e) else if x = s then min (a p + e) (a s) else a x
theorem lower_fl {h : List Nat} (IH : IsHeap h) {k q : Int} (hk : 2 ≤ k) (q0 : 0 ≤ q) (q1 : q < k) {a : Nat → Int} (F : fl h k a) {g : Nat → Bool} (hg : ∀ c, g c = true ↔ (rmv h c = true ∧ (dg h c + 1 - q) % k = 0)) : fl (shr h g) k (lt3 a (lp k q) (lq k q) (le1 q)) ∧ ((∃ c, g c = true) ↔ a (lp k q) < a (lq k q) - le1 q) := by
  have go : ∀ c, g c = true → rmv h c = true := fun c z => ((hg c).mp z).1
  have mvg : ∀ c, g c = true ↔ (¬ inB h (bead h c - 1) ∧ (-(bead h c) - q) % k = 0) := fun c => by
    rw [hg c, rmv_inB IH, dg_bead, show -(bead h c) - 1 + 1 - q = -(bead h c) - q by omega]
  have rest : ∀ x t : Int, 0 ≤ x → x < k → ((-(x + k * t) - q) % k = 0 ↔ x = (if q = 0 then 0 else k - q)) := fun x t h0 h1 => by
    constructor
    · intro e
      obtain ⟨m, hm⟩ := Int.dvd_of_emod_eq_zero e
      have e2 : x + q = k * (-t - m) := by
        rw [Int.mul_sub, Int.mul_neg]
        omega
      have m1 : -t - m = 0 ∨ -t - m = 1 := by
        rcases Int.lt_or_le (-t - m) 0 with z | z
        · have := Int.mul_le_mul_of_nonneg_left (show -t - m ≤ -1 by omega) (show 0 ≤ k by omega)
          omega
        · rcases Int.lt_or_le 1 (-t - m) with z2 | z2
          · have := Int.mul_le_mul_of_nonneg_left (show 2 ≤ -t - m by omega) (show 0 ≤ k by omega)
            omega
          · omega
      rcases m1 with m1 | m1
      · rw [m1] at e2
        split <;> omega
      · rw [m1] at e2
        split <;> omega
    · intro e
      by_cases hq : q = 0
      · rw [if_pos hq] at e
        rw [e, hq]
        refine Int.emod_eq_zero_of_dvd ⟨-t, ?_⟩
        rw [Int.mul_neg]
        omega
      · rw [if_neg hq] at e
        rw [e]
        refine Int.emod_eq_zero_of_dvd ⟨-t - 1, ?_⟩
        rw [Int.mul_sub, Int.mul_neg]
        omega
  have inG : ∀ z, inB (shr h g) z ↔ ((inB h z ∧ ¬ (¬ inB h (z - 1) ∧ (-z - q) % k = 0)) ∨ (inB h (z + 1) ∧ ¬ inB h z ∧ (-z - 1 - q) % k = 0)) := fun z => by
    constructor
    · rintro ⟨c, rfl⟩
      rw [bead_shr IH go]
      by_cases gc : g c = true
      · have m := (mvg c).mp gc
        refine .inr ?_
        rw [gc, show ((b2n true : Nat) : Int) = 1 from rfl, show bead h c - 1 + 1 = bead h c by omega, show -(bead h c - 1) - 1 - q = -(bead h c) - q by omega]
        exact ⟨⟨c, rfl⟩, m⟩
      · have gf : g c = false := by simpa using gc
        refine .inl ?_
        rw [gf, show ((b2n false : Nat) : Int) = 0 from rfl, Int.sub_zero]
        exact ⟨⟨c, rfl⟩, fun z => gc ((mvg c).mpr z)⟩
    · rintro (⟨⟨c, hc⟩, n⟩ | ⟨⟨c, hc⟩, n, m⟩)
      · refine ⟨c, ?_⟩
        rw [bead_shr IH go]
        have gf : g c = false := by
          by_cases gc : g c = true
          · exact absurd (hc ▸ (mvg c).mp gc) n
          · simpa using gc
        rw [gf, hc]
        show _ = _ - (0 : Int)
        omega
      · refine ⟨c, ?_⟩
        have gt : g c = true := (mvg c).mpr (by
          rw [← hc, show z + 1 - 1 = z by omega, show -(z + 1) - q = -z - 1 - q by omega]
          exact ⟨n, m⟩)
        rw [bead_shr IH go, gt, ← hc]
        show _ = _ - (1 : Int)
        omega
  have bq : ∀ x t : Int, 0 ≤ x → x < k → (inB h (x + k * t) ↔ t < a x.toNat) := fun x t h0 h1 => by
    obtain ⟨e1, e2⟩ := divmod (k := k) (z := x + k * t) (by omega) h0 h1 rfl
    rw [F, e1, e2]
  refine ⟨fun z => ?_, ?_⟩
  · have zz : z = z % k + k * (z / k) := (Int.emod_add_mul_ediv z k).symm
    have x0 := Int.emod_nonneg z (show k ≠ 0 by omega)
    have x1 := Int.emod_lt_of_pos z (show 0 < k by omega)
    revert zz x0 x1
    generalize z % k = x
    generalize z / k = t
    intro zz x0 x1
    subst zz
    rw [inG]
    have B0 := bq x t x0 x1
    have up : inB h (x + k * t + 1) ↔ (if x = k - 1 then t + 1 < a 0 else t < a (x + 1).toNat) := by
      by_cases e : x = k - 1
      · rw [if_pos e, show x + k * t + 1 = 0 + k * (t + 1) by rw [Int.mul_add]; omega, bq 0 (t + 1) (by omega) (by omega)]
        rfl
      · rw [if_neg e, show x + k * t + 1 = (x + 1) + k * t by omega, bq (x + 1) t (by omega) (by omega)]
    have dn : inB h (x + k * t - 1) ↔ (if x = 0 then t - 1 < a (k - 1).toNat else t < a (x - 1).toNat) := by
      by_cases e : x = 0
      · rw [if_pos e, show x + k * t - 1 = (k - 1) + k * (t - 1) by rw [Int.mul_sub]; omega, bq (k - 1) (t - 1) (by omega) (by omega)]
      · rw [if_neg e, show x + k * t - 1 = (x - 1) + k * t by omega, bq (x - 1) t (by omega) (by omega)]
    have r2 := rest x t x0 x1
    have r1 : (-(x + k * t) - 1 - q) % k = 0 ↔ x = k - 1 - q := by
      by_cases e : x = k - 1
      · have := rest 0 (t + 1) (by omega) (by omega)
        rw [show -(0 + k * (t + 1)) - q = -(x + k * t) - 1 - q by rw [Int.mul_add]; omega] at this
        rw [this]
        split <;> omega
      · have := rest (x + 1) t (by omega) (by omega)
        rw [show -(x + 1 + k * t) - q = -(x + k * t) - 1 - q by omega] at this
        rw [this]
        split <;> omega
    rw [B0, up, dn, r1, r2]
    unfold lt3 lp lq le1
    by_cases hq : q = 0
    · subst hq
      rw [if_pos rfl, if_pos rfl, if_pos rfl]
      by_cases xp : x = k - 1
      · subst xp
        rw [if_pos rfl, if_pos (show (k - 1).toNat = (k - 1 - 0).toNat by omega), if_neg (show ¬ k - 1 = 0 by omega), show (k - 1 - 0).toNat = (k - 1).toNat by omega]
        omega
      · by_cases xs : x = 0
        · subst xs
          rw [if_neg xp, if_pos rfl, if_neg (show ¬ (0 : Int).toNat = (k - 1 - 0).toNat by omega), if_pos (show (0 : Int).toNat = 0 by omega), show (k - 1 - 0).toNat = (k - 1).toNat by omega, show (0 : Int).toNat = 0 from rfl]
          omega
        · rw [if_neg xp, if_neg xs, if_neg (show ¬ x.toNat = (k - 1 - 0).toNat by omega), if_neg (show ¬ x.toNat = 0 by omega)]
          omega
    · rw [if_neg hq, if_neg hq, if_neg hq]
      by_cases xp : x = k - 1 - q
      · subst xp
        rw [if_pos rfl, if_neg (show ¬ k - 1 - q = k - 1 by omega), show (k - 1 - q + 1).toNat = (k - q).toNat by omega]
        omega
      · by_cases xs : x = k - q
        · subst xs
          rw [if_neg (show ¬ (k - q).toNat = (k - 1 - q).toNat by omega), if_pos rfl, if_neg (show ¬ k - q = 0 by omega), show (k - q - 1).toNat = (k - 1 - q).toNat by omega]
          omega
        · rw [if_neg (show ¬ x.toNat = (k - 1 - q).toNat by omega), if_neg (show ¬ x.toNat = (k - q).toNat by omega)]
          omega
  · have x0 : 0 ≤ (if q = 0 then 0 else k - q) ∧ (if q = 0 then 0 else k - q) < k := by split <;> omega
    have pv : ∀ t : Int, inB h ((if q = 0 then 0 else k - q) + k * t - 1) ↔ t - le1 q < a (lp k q) := fun t => by
      unfold lp le1
      by_cases hq : q = 0
      · subst hq
        rw [if_pos rfl, if_pos rfl, show 0 + k * t - 1 = (k - 1) + k * (t - 1) by rw [Int.mul_sub]; omega, bq (k - 1) (t - 1) (by omega) (by omega), show (k - 1 - 0).toNat = (k - 1).toNat by omega]
      · rw [if_neg hq, if_neg hq, show k - q + k * t - 1 = (k - 1 - q) + k * t by omega, bq (k - 1 - q) t (by omega) (by omega), Int.sub_zero]
    have qe : (if q = 0 then 0 else k - q).toNat = lq k q := by
      unfold lq
      split <;> rfl
    constructor
    · rintro ⟨c, gc⟩
      obtain ⟨n, m⟩ := (mvg c).mp gc
      have zz : bead h c = bead h c % k + k * (bead h c / k) := (Int.emod_add_mul_ediv (bead h c) k).symm
      have y0 := Int.emod_nonneg (bead h c) (show k ≠ 0 by omega)
      have y1 := Int.emod_lt_of_pos (bead h c) (show 0 < k by omega)
      have e := (rest (bead h c % k) (bead h c / k) y0 y1).mp (by rw [← zz]; exact m)
      have b := (bq (bead h c % k) (bead h c / k) y0 y1).mp ⟨c, zz.symm⟩
      rw [e] at zz
      rw [e, qe] at b
      rw [zz, pv] at n
      omega
    · intro lt
      have b := (bq (if q = 0 then 0 else k - q) (a (lq k q) - 1) x0.1 x0.2).mpr (by rw [qe]; omega)
      obtain ⟨c, hc⟩ := b
      refine ⟨c, (mvg c).mpr ?_⟩
      rw [← hc]
      refine ⟨fun i => ?_, (rest _ (a (lq k q) - 1) x0.1 x0.2).mpr rfl⟩
      have := (pv (a (lq k q) - 1)).mp i
      omega
/-- a letter that can be taken away comes back -/
theorem lower_back {h : List Nat} (IH : IsHeap h) {k q : Int} (hk : 2 ≤ k) (q0 : 0 ≤ q) (q1 : q < k) (C : coreB h k) {g : Nat → Bool} (hg : ∀ c, g c = true ↔ (rmv h c = true ∧ (dg h c + 1 - q) % k = 0)) (ex : ∃ c, g c = true) {g2 : Nat → Bool} (hg2 : ∀ c, g2 c = true ↔ (opn (shr h g) c = true ∧ (dg (shr h g) c - q) % k = 0)) :
    coreB (shr h g) k ∧ grow (shr h g) g2 = h ∧ shr h g ≠ h ∧ lts h k = lts (shr h g) k + 1 := by
  obtain ⟨a, F⟩ := fl_ex IH (by omega) C
  obtain ⟨F2, iff⟩ := lower_fl IH hk q0 q1 F hg
  have lt := iff.mp ex
  have S := shr_heap IH fun c z => ((hg c).mp z).1
  obtain ⟨F3, id⟩ := letter_fl S hk q0 q1 F2 hg2
  have pq : lp k q ≠ lq k q := by
    unfold lp lq
    split <;> omega
  have vp : lt3 a (lp k q) (lq k q) (le1 q) (lp k q) = a (lq k q) - le1 q := by
    unfold lt3
    rw [if_pos rfl]
    omega
  have vs : lt3 a (lp k q) (lq k q) (le1 q) (lq k q) = a (lp k q) + le1 q := by
    unfold lt3
    rw [if_neg (Ne.symm pq), if_pos rfl]
    omega
  have back : ∀ x, lt2 (lt3 a (lp k q) (lq k q) (le1 q)) (lp k q) (lq k q) (le1 q) x = a x := fun x => by
    have e0 : lt2 (lt3 a (lp k q) (lq k q) (le1 q)) (lp k q) (lq k q) (le1 q) x = if x = lp k q then min (lt3 a (lp k q) (lq k q) (le1 q) (lp k q)) (lt3 a (lp k q) (lq k q) (le1 q) (lq k q) - le1 q) else if x = lq k q then max (lt3 a (lp k q) (lq k q) (le1 q) (lp k q) + le1 q) (lt3 a (lp k q) (lq k q) (le1 q) (lq k q)) else lt3 a (lp k q) (lq k q) (le1 q) x := rfl
    rw [e0, vp, vs]
    by_cases h1 : x = lp k q
    · rw [if_pos h1, h1]
      omega
    · rw [if_neg h1]
      by_cases h2 : x = lq k q
      · rw [if_pos h2, h2]
        omega
      · rw [if_neg h2]
        unfold lt3
        rw [if_neg h1, if_neg h2]
  have e : grow (shr h g) g2 = h := by
    refine fl_unique (grow_heap S fun c z => ((hg2 c).mp z).1) IH (k := k) (a := a) ?_ F
    intro z
    rw [F3 z, back]
  have C2 := fl_core (show 1 ≤ k by omega) F2
  have ne : shr h g ≠ h := fun z => by
    obtain ⟨c, gc⟩ := ex
    have h1 := hAt_shr IH (fun c z => ((hg c).mp z).1) c
    have h2 := of_decide_eq_true ((hg c).mp gc).1
    rw [z, gc] at h1
    have : b2n true = 1 := rfl
    omega
  obtain ⟨_, L⟩ := letter_lts S hk q0 q1 C2 hg2
  rw [e] at L
  rw [if_neg (fun z => ne z.symm)] at L
  exact ⟨C2, e, ne, L⟩
/-- a heap that is not empty has a letter that can be taken away -/
theorem some_tip {h : List Nat} (IH : IsHeap h) (ne : h ≠ []) : ∃ c, c < h.length ∧ rmv h c = true := by
  have l : 1 ≤ h.length := List.length_pos_iff.mpr ne
  refine ⟨h.length - 1, by omega, decide_eq_true ?_⟩
  rw [hAt_ge (show h.length ≤ h.length - 1 + 1 by omega)]
  exact IH.pos _ (by omega)
end K1

namespace K1
open HM
/-! ### cores by their parts -/
/-- a row of parts below k, none of them greater than the one before -/
def Gp (k : Nat) : List Nat → Prop
  | [] => True
  | p :: r => 1 ≤ p ∧ p < k ∧ (∀ q ∈ r, q ≤ p) ∧ Gp k r
/-- rows of a heap that reach k with p more -/
def bel (k : Nat) (t : List Nat) (p : Nat) : Nat := ((conj t).filter fun l => decide (k ≤ l + p)).length
def cw (k : Nat) : List Nat → List Nat
  | [] => []
  | p :: r => (bel k (cw k r) p + p) :: cw k r
/-- the squares of a column with a hook below k -/
def prt (h : List Nat) (k : Int) (c : Nat) : Nat := ((List.range (hAt h c)).filter fun r => decide (hk h c r < k)).length
def prts (h : List Nat) (k : Int) : List Nat := (List.range h.length).map fun c => prt h k c
theorem hAt_c0 (c : Nat) (t : List Nat) : hAt (c :: t) 0 = c := rfl
theorem hAt_cs (c : Nat) (t : List Nat) (i : Nat) : hAt (c :: t) (i + 1) = hAt t i := rfl
theorem cons_heap {c : Nat} {t : List Nat} (I : IsHeap t) (h0 : 0 < c) (h1 : hAt t 0 ≤ c) : IsHeap (c :: t) := by
  refine ⟨fun i hi => ?_, fun i => ?_⟩
  · cases i with
    | zero => exact h0
    | succ i => exact I.pos i (by simpa using hi)
  · cases i with
    | zero => exact h1
    | succ i => exact I.fall i
theorem tail_heap {c : Nat} {t : List Nat} (I : IsHeap (c :: t)) : IsHeap t ∧ 0 < c ∧ hAt t 0 ≤ c :=
  ⟨⟨fun i hi => I.pos (i + 1) (by simpa using hi), fun i => I.fall (i + 1)⟩, I.pos 0 (by simp), I.fall 0⟩
theorem lam_cons {c : Nat} {t : List Nat} (I : IsHeap (c :: t)) {r : Nat} (hr : r < c) : lamr (c :: t) r = lamr t r + 1 := by
  obtain ⟨It, _, _⟩ := tail_heap I
  have k1 := fun i => conj_iff I i r
  have k2 := fun i => conj_iff It i r
  unfold lamr
  have a := k1 (hAt (conj t) r + 1)
  have b := k2 (hAt (conj t) r)
  rw [hAt_cs] at a
  have a2 := k1 (hAt (conj t) r)
  rcases Nat.lt_trichotomy (hAt (conj (c :: t)) r) (hAt (conj t) r + 1) with q | q | q
  · -- smaller
    exfalso
    cases e : hAt (conj t) r with
    | zero =>
      have := (k1 0).mpr (by rw [hAt_c0]; exact hr)
      omega
    | succ m =>
      have h2 := (k2 m).mp (by omega)
      have := (k1 (m + 1)).mpr (by rw [hAt_cs]; exact h2)
      omega
  · exact q
  · have := b.mpr (a.mp q)
    omega
theorem lam_zero {t : List Nat} (I : IsHeap t) {r : Nat} (hr : hAt t 0 ≤ r) : lamr t r = 0 := by
  rcases Nat.eq_zero_or_pos (lamr t r) with q | q
  · exact q
  · have := (conj_iff I 0 r).mp q
    omega
theorem hk_cons0 {c : Nat} {t : List Nat} (I : IsHeap (c :: t)) {r : Nat} (hr : r < c) : hk (c :: t) 0 r = (c : Int) - r + lamr t r := by
  unfold hk
  rw [lam_cons I hr, hAt_c0]
  omega
theorem hk_cons {c : Nat} {t : List Nat} (I : IsHeap (c :: t)) {i r : Nat} (hr : r < hAt t i) : hk (c :: t) (i + 1) r = hk t i r := by
  obtain ⟨It, _, h1⟩ := tail_heap I
  have := It.le (Nat.zero_le i)
  unfold hk
  rw [lam_cons I (show r < c by omega), hAt_cs]
  omega
theorem prt_cons {c : Nat} {t : List Nat} (I : IsHeap (c :: t)) (k : Int) (i : Nat) : prt (c :: t) k (i + 1) = prt t k i := by
  unfold prt
  rw [hAt_cs]
  congr 1
  refine List.filter_congr fun r hr => ?_
  rw [hk_cons I (List.mem_range.mp hr)]
theorem prts_cons {c : Nat} {t : List Nat} (I : IsHeap (c :: t)) (k : Int) : prts (c :: t) k = prt (c :: t) k 0 :: prts t k := by
  unfold prts
  rw [List.length_cons, List.range_succ_eq_map, List.map_cons, List.map_map]
  congr 1
  refine List.map_congr_left fun i _ => ?_
  exact prt_cons I k i
theorem core_cons {c : Nat} {t : List Nat} (I : IsHeap (c :: t)) {k : Int} (k1 : 1 ≤ k) : coreB (c :: t) k ↔ coreB t k ∧ ∀ r, r < c → (c : Int) - r + lamr t r ≠ k := by
  obtain ⟨It, _, _⟩ := tail_heap I
  rw [core_iff I k1, core_iff It k1]
  constructor
  · intro A
    refine ⟨fun i r hr => ?_, fun r hr => ?_⟩
    · rw [← hk_cons I hr]
      exact A (i + 1) r hr
    · rw [← hk_cons0 I hr]
      exact A 0 r hr
  · rintro ⟨A, B⟩ i r hr
    cases i with
    | zero =>
      rw [hk_cons0 I hr]
      exact B r hr
    | succ i =>
      rw [hk_cons I hr]
      exact A i r hr
theorem bel_iff {k p : Nat} (hp : p < k) {t : List Nat} (I : IsHeap t) (i : Nat) : i < bel k t p ↔ k ≤ lamr t i + p := by
  have : bel k t p = ((conj t).filter fun x => decide (k - p - 1 < x)).length := by
    unfold bel
    congr 1
    refine List.filter_congr fun x _ => ?_
    by_cases q : k ≤ x + p
    · rw [decide_eq_true q, decide_eq_true (by omega)]
    · rw [decide_eq_false q, decide_eq_false (by omega)]
  rw [this, cnt_iff (conj t) (conj_heap I).pairs i (k - p - 1)]
  show k - p - 1 < lamr t i ↔ _
  omega
theorem cnt_ge (b : Nat) : ∀ n : Nat, ((List.range (b + n)).filter fun r => decide (b ≤ r)).length = n
  | 0 => by
    rw [List.filter_eq_nil_iff.mpr fun r hr => ?_]
    · rfl
    · have := List.mem_range.mp hr
      rw [decide_eq_true_iff]
      omega
  | n + 1 => by
    rw [← Nat.add_assoc, List.range_succ, List.filter_append, List.length_append, cnt_ge b n, List.filter_cons, if_pos (decide_eq_true (by omega))]
    rfl
theorem lam_anti {t : List Nat} (I : IsHeap t) {i j : Nat} (h : i ≤ j) : lamr t j ≤ lamr t i := (conj_heap I).le h
/-- a row of parts makes a core with just these parts -/
theorem cw_core {k : Nat} : ∀ {r : List Nat}, Gp k r → IsHeap (cw k r) ∧ coreB (cw k r) (k : Int) ∧ prts (cw k r) (k : Int) = r ∧ (cw k r).length = r.length
  | [], _ => ⟨IsHeap.nil, fun c hc => absurd hc (Nat.not_lt_zero c), rfl, rfl⟩
  | p :: r, h => by
    obtain ⟨p1, p2, p3, g⟩ := h
    obtain ⟨I, C, e, l⟩ := cw_core g
    have B := bel_iff p2 I
    have top : hAt (cw k r) 0 ≤ bel k (cw k r) p + p := by
      cases r with
      | nil => exact Nat.zero_le _
      | cons p' r' =>
        obtain ⟨q1, q2, q3, g'⟩ := g
        obtain ⟨I', _, _, _⟩ := cw_core g'
        have qp := p3 p' (List.mem_cons_self ..)
        have I2 : IsHeap ((bel k (cw k r') p' + p') :: cw k r') := I
        show bel k (cw k r') p' + p' ≤ _
        have : bel k (cw k r') p' ≤ bel k (cw k (p' :: r')) p := by
          rcases Nat.lt_or_ge (bel k (cw k (p' :: r')) p) (bel k (cw k r') p') with z | z
          · have a := (bel_iff q2 I' _).mp z
            have b := lam_cons I2 (r := bel k (cw k (p' :: r')) p) (by omega)
            have c := (B (bel k (cw k (p' :: r')) p)).mpr (by
              show k ≤ lamr ((bel k (cw k r') p' + p') :: cw k r') _ + p
              rw [b]
              omega)
            exact absurd c (Nat.lt_irrefl _)
          · exact z
        omega
    have I3 : IsHeap ((bel k (cw k r) p + p) :: cw k r) := cons_heap I (by omega) top
    have hook : ∀ i, i < bel k (cw k r) p + p → (((bel k (cw k r) p + p : Nat) : Int) - i + lamr (cw k r) i < k ↔ bel k (cw k r) p ≤ i) ∧ ((bel k (cw k r) p + p : Nat) : Int) - i + lamr (cw k r) i ≠ k := fun i hi => by
      have := B i
      omega
    refine ⟨I3, (core_cons I3 (by omega)).mpr ⟨C, fun i hi => (hook i hi).2⟩, ?_, ?_⟩
    · show prts ((bel k (cw k r) p + p) :: cw k r) (k : Int) = _
      rw [prts_cons I3, e]
      congr 1
      unfold prt
      rw [hAt_c0]
      rw [List.filter_congr (q := fun i => decide (bel k (cw k r) p ≤ i)) fun i hi => ?_]
      · exact cnt_ge _ _
      · have hi := List.mem_range.mp hi
        rw [hk_cons0 I3 hi]
        exact decide_eq_decide.mpr (hook i hi).1
    · show (cw k r).length + 1 = _
      rw [l]
      rfl
theorem prts_len (h : List Nat) (k : Int) : (prts h k).length = h.length := by
  unfold prts
  rw [List.length_map, List.length_range]
/-- each core is made by its parts -/
theorem core_cw {k : Nat} (k2 : 2 ≤ k) : ∀ {h : List Nat}, IsHeap h → coreB h (k : Int) → Gp k (prts h k) ∧ cw k (prts h k) = h
  | [], _, _ => ⟨trivial, rfl⟩
  | c :: t, I, C => by
    obtain ⟨It, c0, tc⟩ := tail_heap I
    obtain ⟨Ct, D⟩ := (core_cons I (show (1 : Int) ≤ k by omega)).mp C
    obtain ⟨g, e⟩ := core_cw k2 It Ct
    have A := core_iff It (show (1 : Int) ≤ k by omega) |>.mp Ct
    obtain ⟨p, hp⟩ : ∃ p, p = prt (c :: t) (k : Int) 0 := ⟨_, rfl⟩
    have anti := fun {i j : Nat} (h : i ≤ j) => lam_anti It h
    -- the squares with a small hook are the upper ones
    have cut : ∃ p', p' ≤ c ∧ ∀ i, i < c → ((c : Int) - i + lamr t i < k ↔ c - p' ≤ i) := by
      have : ∀ n : Nat, n ≤ c → (∀ i, i < c → c - n ≤ i → (c : Int) - i + lamr t i < k) ∨ ∃ p', p' ≤ c ∧ ∀ i, i < c → ((c : Int) - i + lamr t i < k ↔ c - p' ≤ i) := fun n => by
        induction n with
        | zero => exact fun _ => .inl fun i h1 h2 => absurd h1 (by omega)
        | succ n ih =>
          intro hn
          rcases ih (by omega) with ih | ih
          · by_cases q : (c : Int) - (c - (n + 1) : Nat) + lamr t (c - (n + 1)) < k
            · refine .inl fun i h1 h2 => ?_
              by_cases z : i = c - (n + 1)
              · rw [z]
                exact q
              · exact ih i h1 (by omega)
            · refine .inr ⟨n, by omega, fun i hi => ⟨fun z => ?_, fun z => ih i hi z⟩⟩
              rcases Nat.lt_or_ge i (c - n) with y | y
              · have := anti (show i ≤ c - (n + 1) by omega)
                omega
              · exact y
          · exact .inr ih
      rcases this c (Nat.le_refl c) with h | h
      · exact ⟨c, Nat.le_refl c, fun i hi => ⟨fun _ => by omega, fun _ => h i hi (by omega)⟩⟩
      · exact h
    obtain ⟨p', pc, cut⟩ := cut
    have pp : p = p' := by
      rw [hp]
      unfold prt
      rw [hAt_c0, List.filter_congr (q := fun i => decide (c - p' ≤ i)) fun i hi => ?_]
      · have := cnt_ge (c - p') p'
        rw [show c - p' + p' = c by omega] at this
        exact this
      · have hi := List.mem_range.mp hi
        rw [hk_cons0 I hi]
        exact decide_eq_decide.mpr (cut i hi)
    subst p'
    have p1 : 1 ≤ p := by
      rcases Nat.eq_zero_or_pos p with z | z
      · exfalso
        have h1 := cut (c - 1) (by omega)
        have h2 := D (c - 1) (by omega)
        have lk : k ≤ lamr t (c - 1) := by omega
        have cl : ∀ i, i < lamr t (c - 1) → c - 1 < hAt t i := fun i hi => (conj_iff It i (c - 1)).mp hi
        have h3 := cl (lamr t (c - 1) - k) (by omega)
        have h4 := It.le (Nat.zero_le (lamr t (c - 1) - k))
        refine A (lamr t (c - 1) - k) (c - 1) h3 ?_
        unfold hk
        omega
      · exact z
    have p2 : p < k := by
      have h1 := cut (c - p) (by omega)
      omega
    have B := bel_iff p2 It
    have be : bel k t p = c - p := by
      rcases Nat.lt_trichotomy (bel k t p) (c - p) with q | q | q
      · have h1 := cut (c - p - 1) (by omega)
        have h2 := D (c - p - 1) (by omega)
        have h3 := (B (c - p - 1)).mpr (by omega)
        omega
      · exact q
      · have h3 := (B (c - p)).mp q
        have h1 := cut (c - p) (by omega)
        omega
    have cc : cw k (prts (c :: t) k) = c :: t := by
      rw [prts_cons I, ← hp]
      show (bel k (cw k (prts t k)) p + p) :: cw k (prts t k) = _
      rw [e, be, show c - p + p = c by omega]
    refine ⟨?_, cc⟩
    rw [prts_cons I, ← hp]
    refine ⟨p1, p2, ?_, g⟩
    cases ht : prts t k with
    | nil => exact fun q hq => absurd hq (by simp)
    | cons p' r' =>
      rw [ht] at g e
      obtain ⟨q1, q2, q3, g'⟩ := g
      have hd : p' ≤ p := by
        rcases Nat.lt_or_ge p p' with z | z
        · exfalso
          obtain ⟨I', _, _, _⟩ := cw_core g'
          have e2 : t = (bel k (cw k r') p' + p') :: cw k r' := e.symm
          have It' := It
          rw [e2] at It'
          have b1 : bel k t p ≤ bel k (cw k r') p' := by
            rcases Nat.lt_or_ge (bel k (cw k r') p') (bel k t p) with y | y
            · have a := (B _).mp y
              have lt : bel k (cw k r') p' < hAt t 0 := by
                refine (conj_iff It 0 _).mp ?_
                show 0 < lamr t _
                omega
              rw [e2, hAt_c0] at lt
              have l := lam_cons It' lt
              rw [e2, l] at a
              have := (bel_iff q2 I' (bel k (cw k r') p')).mpr (by omega)
              exact absurd this (Nat.lt_irrefl _)
            · exact y
          have : hAt t 0 = bel k (cw k r') p' + p' := by rw [e2, hAt_c0]
          omega
        · exact z
      intro q hq
      rcases List.mem_cons.mp hq with rfl | hq
      · exact hd
      · exact Nat.le_trans (q3 q hq) hd
theorem Gp.pos {k : Nat} : ∀ {r : List Nat}, Gp k r → ∀ p ∈ r, 1 ≤ p ∧ p < k
  | [], _, p, hp => absurd hp (by simp)
  | a :: r, g, p, hp => by
    obtain ⟨a1, a2, _, g⟩ := g
    rcases List.mem_cons.mp hp with rfl | hp
    · exact ⟨a1, a2⟩
    · exact g.pos p hp
theorem sum_ge_len : ∀ {r : List Nat}, (∀ p ∈ r, 1 ≤ p) → r.length ≤ r.sum
  | [], _ => Nat.le_refl 0
  | a :: r, h => by
    have := sum_ge_len (r := r) fun p hp => h p (List.mem_cons_of_mem _ hp)
    have := h a (List.mem_cons_self ..)
    rw [List.length_cons, List.sum_cons]
    omega
theorem lts_prts (h : List Nat) (k : Int) : lts h k = ((prts h k).sum : Nat) := by
  have gen : ∀ n, (((List.range n).map fun c => prt h k c).sum : Nat) = sm n fun c => (prt h k c : Int) := fun n => by
    induction n with
    | zero => rfl
    | succ n ih =>
      rw [List.range_succ, List.map_append, List.sum_append]
      show ((_ + (prt h k n + 0) : Nat) : Int) = sm n (fun c => (prt h k c : Int)) + (prt h k n : Int)
      rw [← ih]
      omega
  exact (gen h.length).symm
theorem core_small {k : Nat} (k2 : 2 ≤ k) {h : List Nat} (I : IsHeap h) (C : coreB h (k : Int)) : (h.length : Int) ≤ lts h k ∧ (hAt h 0 : Int) ≤ lts h k := by
  have one : ∀ {h : List Nat}, IsHeap h → coreB h (k : Int) → (h.length : Int) ≤ lts h k := fun {h} I C => by
    obtain ⟨g, _⟩ := core_cw k2 I C
    have := sum_ge_len fun p hp => (g.pos p hp).1
    rw [prts_len] at this
    rw [lts_prts]
    omega
  refine ⟨one I C, ?_⟩
  obtain ⟨C2, e⟩ := conj_lts I (show (1 : Int) ≤ k by omega) C
  have := one (conj_heap I) C2
  rw [conj_len] at this
  omega
end K1

set_option exponentiation.threshold 400
namespace K1
open PySem PySem.Spec PyProof.Rows L2 Evl HM LX
section
variable {P : Program} {w : World} {K : PySem.W.Frag} {mg : Str → Option Value} {base : Heap}
def gq (h : List Nat) (k q : Int) (c : Nat) : Bool := opn h c && decide (dg h c % k = q)
def rq (h : List Nat) (k q : Int) (c : Nat) : Bool := rmv h c && decide ((dg h c + 1) % k = q)
theorem mod_iff {k q z : Int} (hk : 0 < k) (q0 : 0 ≤ q) (q1 : q < k) : z % k = q ↔ (z - q) % k = 0 := by
  constructor
  · intro h
    have := Int.emod_add_mul_ediv z k
    exact Int.emod_eq_zero_of_dvd ⟨z / k, by omega⟩
  · intro h
    obtain ⟨m, hm⟩ := Int.dvd_of_emod_eq_zero h
    exact (divmod hk q0 q1 (show z = q + k * m by omega)).2
theorem gq_opn {h : List Nat} {k q : Int} (c : Nat) (z : gq h k q c = true) : opn h c = true := (Bool.and_eq_true_iff.mp z).1
theorem gq_iff {h : List Nat} {k q : Int} (hk : 0 < k) (q0 : 0 ≤ q) (q1 : q < k) (c : Nat) : gq h k q c = true ↔ (opn h c = true ∧ (dg h c - q) % k = 0) := by
  unfold gq
  rw [Bool.and_eq_true_iff, decide_eq_true_eq, mod_iff hk q0 q1]
theorem rq_iff {h : List Nat} {k q : Int} (hk : 0 < k) (q0 : 0 ≤ q) (q1 : q < k) (c : Nat) : rq h k q c = true ↔ (rmv h c = true ∧ (dg h c + 1 - q) % k = 0) := by
  unfold rq
  rw [Bool.and_eq_true_iff, decide_eq_true_eq, mod_iff hk q0 q1]
def step (k : Int) (h : List Nat) (q : Int) : List Nat := grow h (gq h k q)
theorem step_core {k : Int} (hk : 2 ≤ k) {h : List Nat} (IH : IsHeap h) (C : coreB h k) {q : Int} (q0 : 0 ≤ q) (q1 : q < k) : IsHeap (step k h q) ∧ coreB (step k h q) k ∧ lts (step k h q) k = lts h k + (if step k h q = h then 0 else 1) ∧ (step k h q).length ≤ h.length + 1 ∧ hAt (step k h q) 0 ≤ hAt h 0 + 1 := by
  obtain ⟨a, b⟩ := letter_lts IH hk q0 q1 C (g := gq h k q) (gq_iff (by omega) q0 q1)
  refine ⟨grow_heap IH gq_opn, a, b, ?_, ?_⟩
  · show (grow _ _).length ≤ _
    rw [grow_len]
    have := b2n_le (gq h k q h.length)
    omega
  · show hAt (grow _ _) 0 ≤ _
    rw [hAt_grow gq_opn]
    have := b2n_le (gq h k q 0)
    omega
theorem core_nil (k : Int) : coreB [] k := fun c hc => absurd hc (Nat.not_lt_zero c)
theorem lts_nil (k : Int) : lts [] k = 0 := rfl
theorem tip_step {k : Int} (hk : 2 ≤ k) {h : List Nat} (IH : IsHeap h) (C : coreB h k) {q : Int} (ex : ∃ c, rmv h c = true ∧ (dg h c + 1) % k = q) : 0 ≤ q ∧ q < k ∧ IsHeap (shr h (rq h k q)) ∧ coreB (shr h (rq h k q)) k ∧ step k (shr h (rq h k q)) q = h ∧ shr h (rq h k q) ≠ h ∧ lts h k = lts (shr h (rq h k q)) k + 1 ∧ (shr h (rq h k q)).length ≤ h.length ∧ hAt (shr h (rq h k q)) 0 ≤ hAt h 0 := by
  obtain ⟨c, r, e⟩ := ex
  have q0 : 0 ≤ q := by rw [← e]; exact Int.emod_nonneg _ (by omega)
  have q1 : q < k := by rw [← e]; exact Int.emod_lt_of_pos _ (by omega)
  have go : ∀ c, rq h k q c = true → rmv h c = true := fun c z => (Bool.and_eq_true_iff.mp z).1
  obtain ⟨a, b, c2, d⟩ := lower_back IH hk q0 q1 C (rq_iff (by omega) q0 q1) ⟨c, by unfold rq; rw [r, decide_eq_true e]; rfl⟩ (g2 := gq (shr h (rq h k q)) k q) (gq_iff (by omega) q0 q1)
  refine ⟨q0, q1, shr_heap IH go, a, b, c2, d, shr_len _ _, ?_⟩
  rw [hAt_shr IH go]
  omega
theorem lts_pos {k : Int} (hk : 2 ≤ k) {h : List Nat} (IH : IsHeap h) (C : coreB h k) : 0 ≤ lts h k := by
  unfold lts
  have : ∀ (f : Nat → Int), (∀ i, 0 ≤ f i) → ∀ n, 0 ≤ sm n f := fun f hf n => by
    induction n with
    | zero => exact Int.le_refl 0
    | succ n ih =>
      have := hf n
      show 0 ≤ sm n f + f n
      omega
  exact this _ (fun i => by omega) _
theorem lts_zero {k : Int} (hk : 2 ≤ k) {h : List Nat} (IH : IsHeap h) (C : coreB h k) (z : lts h k = 0) : h = [] := by
  refine Classical.byContradiction fun ne => ?_
  obtain ⟨c, _, c2⟩ := some_tip IH ne
  obtain ⟨_, _, t3, t4, _, _, t7, _⟩ := tip_step hk IH C ⟨c, c2, rfl⟩
  have := lts_pos hk t3 t4
  omega
theorem nodup_perm {α : Type} [DecidableEq α] {l m : List α} (hl : l.Nodup) (hm : m.Nodup) (h : ∀ x, x ∈ l ↔ x ∈ m) : l.Perm m := (List.perm_ext_iff_of_nodup hl hm).mpr h
end
end K1

namespace K1
open HM
/-! ### all rows of parts, and all cores with so many letters -/
def cps : Nat → Nat → Nat → List (List Nat)
  | 0, _, _ => []
  | f + 1, top, rest => if rest = 0 then [[]] else (List.range (min rest top)).flatMap fun i => (cps f (i + 1) (rest - (i + 1))).map ((i + 1) :: ·)
theorem flatMap_congrL {α β : Type} {f g : α → List β} : ∀ {l : List α}, (∀ x ∈ l, f x = g x) → l.flatMap f = l.flatMap g
  | [], _ => rfl
  | x :: l, h => by
    rw [List.flatMap_cons, List.flatMap_cons, h x (List.mem_cons_self ..), flatMap_congrL fun y hy => h y (List.mem_cons_of_mem _ hy)]
theorem cps_fuel1 : ∀ (f : Nat) {top rest : Nat}, rest < f → cps (f + 1) top rest = cps f top rest
  | 0, _, _, h => absurd h (by omega)
  | f + 1, top, rest, h => by
    show (if rest = 0 then [[]] else (List.range (min rest top)).flatMap fun i => (cps (f + 1) (i + 1) (rest - (i + 1))).map ((i + 1) :: ·)) = if rest = 0 then [[]] else (List.range (min rest top)).flatMap fun i => (cps f (i + 1) (rest - (i + 1))).map ((i + 1) :: ·)
    by_cases z : rest = 0
    · rw [if_pos z, if_pos z]
    · rw [if_neg z, if_neg z]
      refine flatMap_congrL fun i hi => ?_
      rw [cps_fuel1 f (by omega)]
theorem cps_fuel {f g top rest : Nat} (h : rest < f) (h2 : f ≤ g) : cps g top rest = cps f top rest := by
  obtain ⟨n, rfl⟩ : ∃ n, g = f + n := ⟨g - f, by omega⟩
  clear h2
  induction n with
  | zero => rfl
  | succ n ih =>
    rw [← Nat.add_assoc, cps_fuel1 _ (by omega), ih]
theorem Gp.lower {k m : Nat} : ∀ {r : List Nat}, Gp k r → (∀ q ∈ r, q < m) → Gp m r
  | [], _, _ => trivial
  | p :: r, ⟨a, b, c, d⟩, h => ⟨a, h p (List.mem_cons_self ..), c, d.lower fun q hq => h q (List.mem_cons_of_mem _ hq)⟩
theorem mem_cps : ∀ (f : Nat) {top rest : Nat} {r : List Nat}, rest < f → (r ∈ cps f top rest ↔ Gp (top + 1) r ∧ r.sum = rest)
  | 0, _, _, _, h => absurd h (by omega)
  | f + 1, top, rest, r, h => by
    show r ∈ (if rest = 0 then [[]] else (List.range (min rest top)).flatMap fun i => (cps f (i + 1) (rest - (i + 1))).map ((i + 1) :: ·)) ↔ _
    by_cases z : rest = 0
    · rw [if_pos z, List.mem_singleton]
      constructor
      · rintro rfl
        exact ⟨trivial, z.symm⟩
      · rintro ⟨g, s⟩
        have := sum_ge_len fun p hp => (g.pos p hp).1
        exact List.length_eq_zero_iff.mp (by omega)
    · rw [if_neg z, List.mem_flatMap]
      constructor
      · rintro ⟨i, hi, hr⟩
        have hi := List.mem_range.mp hi
        obtain ⟨r', hr', rfl⟩ := List.mem_map.mp hr
        obtain ⟨g, s⟩ := (mem_cps f (by omega)).mp hr'
        refine ⟨⟨by omega, by omega, fun q hq => ?_, g.lower fun q hq => ?_⟩, ?_⟩
        · have := (g.pos q hq).2
          omega
        · have := (g.pos q hq).2
          omega
        · rw [List.sum_cons, s]
          omega
      · rintro ⟨g, s⟩
        cases r with
        | nil => exact absurd s (by simp; omega)
        | cons p r' =>
          obtain ⟨a, b, c, d⟩ := g
          rw [List.sum_cons] at s
          refine ⟨p - 1, List.mem_range.mpr (by omega), List.mem_map.mpr ⟨r', ?_, by rw [show p - 1 + 1 = p by omega]⟩⟩
          refine (mem_cps f (by omega)).mpr ⟨d.lower fun q hq => ?_, by omega⟩
          have := c q hq
          omega
theorem nodup_flat {α β : Type} {f : α → List β} : ∀ {l : List α}, (∀ x ∈ l, (f x).Nodup) → l.Nodup → (∀ x y, x ∈ l → y ∈ l → x ≠ y → ∀ r, r ∈ f x → r ∈ f y → False) → (l.flatMap f).Nodup
  | [], _, _, _ => List.nodup_nil
  | x :: l, h1, h2, h3 => by
    rw [List.nodup_cons] at h2
    rw [List.flatMap_cons, List.nodup_append]
    refine ⟨h1 x (List.mem_cons_self ..), nodup_flat (fun y hy => h1 y (List.mem_cons_of_mem _ hy)) h2.2 fun y z hy hz => h3 y z (List.mem_cons_of_mem _ hy) (List.mem_cons_of_mem _ hz), fun a ha b hb e => ?_⟩
    obtain ⟨y, hy, hb⟩ := List.mem_flatMap.mp hb
    exact h3 x y (List.mem_cons_self ..) (List.mem_cons_of_mem _ hy) (fun z => h2.1 (z ▸ hy)) a ha (e ▸ hb)
theorem cps_nodup : ∀ (f top rest : Nat), (cps f top rest).Nodup
  | 0, _, _ => List.nodup_nil
  | f + 1, top, rest => by
    show (if rest = 0 then [[]] else (List.range (min rest top)).flatMap fun i => (cps f (i + 1) (rest - (i + 1))).map ((i + 1) :: ·)).Nodup
    by_cases z : rest = 0
    · rw [if_pos z]
      exact (List.pairwise_singleton _ _)
    · rw [if_neg z]
      refine nodup_flat (fun i _ => ?_) List.nodup_range fun i j hi hj ne r hr hr' => ?_
      · refine List.pairwise_map.mpr ((cps_nodup f _ _).imp fun h e => h ?_)
        exact (List.cons.inj e).2
      · obtain ⟨_, _, rfl⟩ := List.mem_map.mp hr
        obtain ⟨_, _, e⟩ := List.mem_map.mp hr'
        have := (List.cons.inj e).1
        omega
/-! the stack -/
abbrev Sk := List Nat × Nat
def topOf (m : Nat) (row : List Nat) : Nat := row.getLastD m
def exts (F m : Nat) (x : Sk) : List (List Nat) := (cps F (topOf m x.1) x.2).map (x.1 ++ ·)
def kids (m : Nat) (x : Sk) : List Sk := (List.range (min x.2 (topOf m x.1))).map fun i => (x.1 ++ [i + 1], x.2 - (i + 1))
theorem exts_zero {F m : Nat} {row : List Nat} (hF : 0 < F) : exts F m (row, 0) = [row] := by
  obtain ⟨f, rfl⟩ : ∃ f, F = f + 1 := ⟨F - 1, by omega⟩
  show [row ++ []] = _
  rw [List.append_nil]
theorem map_flatMapL {α β γ : Type} (g : β → γ) (f : α → List β) : ∀ l : List α, (l.flatMap f).map g = l.flatMap fun x => (f x).map g
  | [] => rfl
  | x :: l => by rw [List.flatMap_cons, List.map_append, map_flatMapL g f l, List.flatMap_cons]
theorem flatMap_mapL {α β γ : Type} (g : α → β) (f : β → List γ) : ∀ l : List α, (l.map g).flatMap f = l.flatMap fun x => f (g x)
  | [] => rfl
  | x :: l => by rw [List.map_cons, List.flatMap_cons, List.flatMap_cons, flatMap_mapL g f l]
theorem exts_kids {F m : Nat} {x : Sk} (hx : x.2 ≠ 0) (hF : x.2 < F) : exts F m x = (kids m x).flatMap (exts F m) := by
  obtain ⟨f, rfl⟩ : ∃ f, F = f + 1 := ⟨F - 1, by omega⟩
  obtain ⟨row, rest⟩ := x
  show ((if rest = 0 then [[]] else (List.range (min rest (topOf m row))).flatMap fun i => (cps f (i + 1) (rest - (i + 1))).map ((i + 1) :: ·)).map (row ++ ·)) = _
  rw [if_neg hx, map_flatMapL]
  unfold kids
  rw [flatMap_mapL]
  refine flatMap_congrL fun i hi => ?_
  have hi := List.mem_range.mp hi
  show _ = (cps (f + 1) (topOf m (row ++ [i + 1])) (rest - (i + 1))).map ((row ++ [i + 1]) ++ ·)
  rw [show topOf m (row ++ [i + 1]) = i + 1 by unfold topOf; simp, cps_fuel1 f (by simp at hF; omega), List.map_map]
  refine List.map_congr_left fun r _ => ?_
  show row ++ (i + 1) :: r = row ++ [i + 1] ++ r
  simp
def wt (S : List Sk) : Nat := (S.map fun x => 2 ^ x.2).sum
theorem wt_app (S T : List Sk) : wt (S ++ T) = wt S + wt T := by
  unfold wt
  rw [List.map_append, List.sum_append]
theorem wt_one (x : Sk) : wt [x] = 2 ^ x.2 := by simp [wt]
theorem wt_len : ∀ S : List Sk, S.length ≤ wt S
  | [] => Nat.le_refl 0
  | x :: S => by
    have := wt_len S
    have := Nat.two_pow_pos x.2
    show S.length + 1 ≤ 2 ^ x.2 + wt S
    omega
theorem kids_wt {m : Nat} {x : Sk} : wt (kids m x) < 2 ^ x.2 := by
  obtain ⟨row, rest⟩ := x
  have gen : ∀ n, n ≤ rest → wt ((List.range n).map fun i => (row ++ [i + 1], rest - (i + 1))) + 2 ^ (rest - n) ≤ 2 ^ rest := fun n => by
    induction n with
    | zero => exact fun _ => by simp [wt]
    | succ n ih =>
      intro h
      have := ih (by omega)
      rw [List.range_succ, List.map_append, wt_app]
      show _ + wt [(row ++ [n + 1], rest - (n + 1))] + _ ≤ _
      rw [wt_one]
      have e : 2 ^ (rest - n) = 2 * 2 ^ (rest - (n + 1)) := by
        rw [show rest - n = (rest - (n + 1)) + 1 by omega, Nat.pow_succ]
        omega
      show _ + 2 ^ (rest - (n + 1)) + _ ≤ _
      omega
  have := gen (min rest (topOf m row)) (by omega)
  have := Nat.two_pow_pos (rest - min rest (topOf m row))
  unfold kids
  show wt ((List.range (min rest (topOf m row))).map fun i => (row ++ [i + 1], rest - (i + 1))) < 2 ^ rest
  omega
/-- where the stack stands -/
structure Stk (m total : Nat) (S : List Sk) (done : List (List Nat)) : Prop where
  perm : (done ++ S.flatMap (exts (total + 1) m)).Perm (cps (total + 1) m total)
  le : ∀ x ∈ S, x.1.length + x.2 ≤ total
  room : done.length + wt S ≤ 2 ^ total
theorem Stk.start (m total : Nat) : Stk m total [([], total)] [] := ⟨by
  refine List.Perm.of_eq ?_
  show [] ++ (exts (total + 1) m ([], total) ++ []) = _
  rw [List.nil_append, List.append_nil]
  show (cps (total + 1) m total).map ([] ++ ·) = _
  exact List.map_id' _, fun x hx => by rw [List.mem_singleton.mp hx]; show 0 + total ≤ total; omega, by rw [wt_one]; simp⟩
theorem Stk.done {m total : Nat} {S : List Sk} {row : List Nat} {done : List (List Nat)} (K : Stk m total (S ++ [(row, 0)]) done) : Stk m total S (done ++ [row]) := ⟨by
  refine List.Perm.trans ?_ K.perm
  rw [List.flatMap_append, List.append_assoc]
  refine List.Perm.append_left _ ?_
  show ([row] ++ _).Perm (_ ++ (exts (total + 1) m (row, 0) ++ []))
  rw [exts_zero (by omega), List.append_nil]
  exact List.perm_append_comm, fun x hx => K.le x (List.mem_append_left _ hx), by
    have := K.room
    rw [wt_app, wt_one] at this
    rw [List.length_append]
    show done.length + 1 + _ ≤ _
    simp at this
    omega⟩
theorem Stk.more {m total : Nat} {S : List Sk} {x : Sk} {done : List (List Nat)} (K : Stk m total (S ++ [x]) done) (hx : x.2 ≠ 0) : Stk m total (S ++ kids m x) done := by
  have lx := K.le x (List.mem_append_right _ (List.mem_singleton.mpr rfl))
  refine ⟨?_, fun y hy => ?_, ?_⟩
  · refine List.Perm.trans (List.Perm.of_eq ?_) K.perm
    rw [List.flatMap_append, List.flatMap_append, ← exts_kids hx (by omega)]
    show _ = _ ++ (_ ++ (exts (total + 1) m x ++ []))
    rw [List.append_nil]
  · rcases List.mem_append.mp hy with h | h
    · exact K.le y (List.mem_append_left _ h)
    · obtain ⟨i, hi, rfl⟩ := List.mem_map.mp h
      have hi := List.mem_range.mp hi
      show (x.1 ++ [i + 1]).length + (x.2 - (i + 1)) ≤ total
      rw [List.length_append]
      show x.1.length + 1 + _ ≤ _
      omega
  · have := K.room
    have := kids_wt (m := m) (x := x)
    rw [wt_app] at *
    rw [wt_one] at *
    omega
theorem Stk.end {m total : Nat} {done : List (List Nat)} (K : Stk m total [] done) : done.Perm (cps (total + 1) m total) := by
  have := K.perm
  rw [List.flatMap_nil, List.append_nil] at this
  exact this
/-! levels of cores -/
structure LvS (k n : Nat) (l : List (List Nat)) : Prop where
  nd : l.Nodup
  mem : ∀ h, h ∈ l ↔ IsHeap h ∧ coreB h (k : Int) ∧ lts h (k : Int) = (n : Int)
theorem LvS.zero {k : Nat} (k2 : 2 ≤ k) : LvS k 0 [[]] := ⟨(List.pairwise_singleton _ _), fun h => by
  rw [List.mem_singleton]
  constructor
  · rintro rfl
    exact ⟨IsHeap.nil, core_nil _, rfl⟩
  · rintro ⟨a, b, c⟩
    exact lts_zero (by omega) a b c⟩
theorem LvS.next {k n : Nat} (k2 : 2 ≤ k) {l l' : List (List Nat)} (L : LvS k n l) (nd : l'.Nodup) (h : ∀ A, A ∈ l' ↔ ∃ h ∈ l, ∃ q : Nat, q < k ∧ step k h q ≠ h ∧ A = step k h q) : LvS k (n + 1) l' := ⟨nd, fun A => by
  rw [h]
  constructor
  · rintro ⟨B, hB, q, hq, ne, rfl⟩
    obtain ⟨a, b, c⟩ := (L.mem B).mp hB
    obtain ⟨s1, s2, s3, _⟩ := step_core (k := (k : Int)) (by omega) a b (q := (q : Int)) (by omega) (by omega)
    rw [if_neg ne] at s3
    exact ⟨s1, s2, by omega⟩
  · rintro ⟨a, b, c⟩
    have ne : A ≠ [] := by
      rintro rfl
      rw [lts_nil] at c
      omega
    obtain ⟨c0, _, r⟩ := some_tip a ne
    obtain ⟨t1, t2, t3, t4, t5, t6, t7, _⟩ := tip_step (k := (k : Int)) (by omega) a b (q := (dg A c0 + 1) % k) ⟨c0, r, rfl⟩
    obtain ⟨q, hq⟩ : ∃ q : Nat, (q : Int) = (dg A c0 + 1) % k := ⟨((dg A c0 + 1) % k).toNat, by omega⟩
    rw [← hq] at t1 t2 t3 t4 t5 t6 t7
    refine ⟨shr A (rq A k q), (L.mem _).mpr ⟨t3, t4, by omega⟩, q, by omega, ?_, t5.symm⟩
    rw [t5]
    exact fun z => t6 z.symm⟩
theorem LvS.perm {k n : Nat} (k2 : 2 ≤ k) {l : List (List Nat)} (L : LvS k n l) : ((cps (n + 1) (k - 1) n).map (cw k)).Perm l := by
  have inj : ∀ r ∈ cps (n + 1) (k - 1) n, Gp k r ∧ r.sum = n := fun r hr => by
    have := (mem_cps (n + 1) (by omega)).mp hr
    rw [show k - 1 + 1 = k by omega] at this
    exact this
  refine nodup_perm ?_ L.nd fun h => ?_
  · refine List.pairwise_map.mpr ((cps_nodup _ _ _).imp_of_mem fun {a b} ha hb ne e => ne ?_)
    have := (cw_core (inj a ha).1).2.2.1
    rw [e, (cw_core (inj b hb).1).2.2.1] at this
    exact this.symm
  · rw [L.mem, List.mem_map]
    constructor
    · rintro ⟨r, hr, rfl⟩
      obtain ⟨g, s⟩ := inj r hr
      obtain ⟨a, b, c, _⟩ := cw_core g
      exact ⟨a, b, by rw [lts_prts, c, s]⟩
    · rintro ⟨a, b, c⟩
      obtain ⟨g, e⟩ := core_cw k2 a b
      refine ⟨prts h k, (mem_cps (n + 1) (by omega)).mpr ⟨by rw [show k - 1 + 1 = k by omega]; exact g, ?_⟩, e⟩
      rw [lts_prts] at c
      omega
theorem ltL_prts (h : List Nat) (k : Int) : (List.range h.length).map (fun c => ((((List.range (hAt h c)).filter fun r => decide (hk h c r < k)).length : Nat) : Int)) = (prts h k).map fun (n : Nat) => (n : Int) := by
  unfold prts
  rw [List.map_map]
  rfl
end K1

set_option exponentiation.threshold 400
namespace K1
open PySem PySem.Spec PyProof.Rows L2 Evl HM LX
section
variable {P : Program} {w : World} {K : PySem.W.Frag} {mg : Str → Option Value} {base : Heap}
def run (k : Int) (h : List Nat) : List Int → List Nat
  | [] => h
  | q :: r => run k (step k h q) r
def sub (A B : List Nat) : Prop := ∀ c, hAt A c ≤ hAt B c
theorem sub_refl (A : List Nat) : sub A A := fun _ => Nat.le_refl _
theorem sub_trans {A B C : List Nat} (h : sub A B) (g : sub B C) : sub A C := fun c => Nat.le_trans (h c) (g c)
theorem hAt_step (k : Int) (B : List Nat) (q : Int) (c : Nat) : hAt (step k B q) c = hAt B c + b2n (gq B k q c) := hAt_grow gq_opn c
theorem sub_self (k : Int) (B : List Nat) (q : Int) : sub B (step k B q) := fun c => by
  rw [hAt_step]
  omega
theorem dg_same {A B : List Nat} {c : Nat} (e : hAt A c = hAt B c) : dg A c = dg B c := by
  unfold dg
  rw [e]
theorem sub_step {k : Int} {A B : List Nat} (h : sub A B) (q : Int) : sub (step k A q) (step k B q) := fun c => by
  rw [hAt_step, hAt_step]
  have h0 := h c
  by_cases g : gq A k q c = true
  · rw [g]
    by_cases e : hAt A c = hAt B c
    · have gB : gq B k q c = true := by
        unfold gq at g ⊢
        obtain ⟨g1, g2⟩ := Bool.and_eq_true_iff.mp g
        rw [← dg_same e, g2, Bool.and_true]
        unfold opn at g1 ⊢
        by_cases z : c = 0
        · rw [decide_eq_true z]
          rfl
        · rw [decide_eq_false z, Bool.false_or] at g1 ⊢
          have := of_decide_eq_true g1
          have := h (c - 1)
          exact decide_eq_true (by omega)
      rw [gB, e]
      exact Nat.le_refl _
    · show hAt A c + 1 ≤ _
      omega
  · have : b2n (gq A k q c) = 0 := by
      unfold b2n
      rw [if_neg g]
    omega
end
end K1

namespace K1
open HM
/-! ### least cores with a box -/
/-- squares of a heap within a box -/
def bxs (r : Nat) (B : List Nat) : Nat → Nat
  | 0 => 0
  | c + 1 => bxs r B c + min r (hAt B c)
theorem bxs_le (r : Nat) {B B' : List Nat} (h : sub B B') : ∀ c, bxs r B c ≤ bxs r B' c
  | 0 => Nat.le_refl 0
  | c + 1 => by
    have := bxs_le r h c
    have := h c
    show bxs r B c + min r (hAt B c) ≤ bxs r B' c + min r (hAt B' c)
    omega
theorem bxs_eq (r : Nat) {B B' : List Nat} (h : sub B B') : ∀ c, bxs r B c = bxs r B' c → ∀ i, i < c → min r (hAt B i) = min r (hAt B' i)
  | 0, _, i, hi => absurd hi (by omega)
  | c + 1, e, i, hi => by
    have a := bxs_le r h c
    have b := h c
    have e' : bxs r B c + min r (hAt B c) = bxs r B' c + min r (hAt B' c) := e
    by_cases z : i = c
    · rw [z]
      omega
    · exact bxs_eq r h c (by omega) i (by omega)
theorem bxs_all (r : Nat) (B : List Nat) : ∀ c, bxs r B c ≤ c * r
  | 0 => Nat.zero_le _
  | c + 1 => by
    have := bxs_all r B c
    show bxs r B c + min r (hAt B c) ≤ _
    rw [Nat.succ_mul]
    omega
theorem least_ex {k : Int} (hk : 2 ≤ k) (c r : Nat) : ∀ (n : Nat) {B : List Nat}, IsHeap B → coreB B k → lts B k = (n : Int) → ∃ A, IsHeap A ∧ coreB A k ∧ sub A B ∧ lts A k ≤ (bxs r B c : Nat) ∧ ∀ i, i < c → min r (hAt B i) ≤ hAt A i
  | 0, B, IB, CB, LB => by
    have : B = [] := lts_zero hk IB CB LB
    subst this
    exact ⟨[], IsHeap.nil, core_nil k, sub_refl _, by rw [lts_nil]; omega, fun i hi => by rw [hAt_ge (Nat.zero_le _)]; omega⟩
  | n + 1, B, IB, CB, LB => by
    have ne : B ≠ [] := by
      rintro rfl
      rw [lts_nil] at LB
      omega
    obtain ⟨c0, _, rm⟩ := some_tip IB ne
    obtain ⟨t1, t2, t3, t4, t5, t6, t7, _⟩ := tip_step hk IB CB (q := (dg B c0 + 1) % k) ⟨c0, rm, rfl⟩
    generalize (dg B c0 + 1) % k = q at *
    generalize shr B (rq B k q) = B' at *
    obtain ⟨A, IA, CA, SA, LA, bA⟩ := least_ex hk c r n t3 t4 (by omega)
    have sB : sub B' B := by
      rw [← t5]
      exact sub_self k B' q
    have le := bxs_le r sB c
    by_cases e : bxs r B' c = bxs r B c
    · refine ⟨A, IA, CA, sub_trans SA sB, by omega, fun i hi => ?_⟩
      rw [← bxs_eq r sB c e i hi]
      exact bA i hi
    · obtain ⟨s1, s2, s3, _⟩ := step_core hk IA CA t1 t2
      refine ⟨step k A q, s1, s2, ?_, ?_, fun i hi => ?_⟩
      · rw [← t5]
        exact sub_step SA q
      · rw [s3]
        split <;> omega
      · have hB : hAt B i = hAt B' i + b2n (gq B' k q i) := by
          conv => lhs; rw [← t5]
          exact hAt_step k B' q i
        have hA := hAt_step k A q i
        have b := bA i hi
        have sA := SA i
        by_cases g : gq B' k q i = true
        · by_cases y : hAt B' i < r
          · have eA : hAt A i = hAt B' i := by omega
            have gA : gq A k q i = true := by
              unfold gq at g ⊢
              obtain ⟨g1, g2⟩ := Bool.and_eq_true_iff.mp g
              rw [dg_same eA, g2, Bool.and_true]
              unfold opn at g1 ⊢
              by_cases z : i = 0
              · rw [decide_eq_true z]
                rfl
              · rw [decide_eq_false z, Bool.false_or] at g1 ⊢
                have := of_decide_eq_true g1
                have := bA (i - 1) (by omega)
                exact decide_eq_true (by omega)
            rw [hA, gA]
            have : b2n true = 1 := rfl
            rw [hB, g]
            omega
          · have : b2n (gq B' k q i) = 1 := by rw [g]; rfl
            omega
        · have : b2n (gq B' k q i) = 0 := by
            unfold b2n
            rw [if_neg g]
          omega
/-! the list of least ones -/
def hb (c r : Nat) (h : List Nat) : Bool := decide (r ≤ hAt h (c - 1))
def subB (A B : List Nat) : Bool := decide (∀ i, i < A.length → hAt A i ≤ hAt B i)
theorem subB_iff {A B : List Nat} : subB A B = true ↔ sub A B := by
  unfold subB
  rw [decide_eq_true_iff]
  constructor
  · intro h i
    by_cases z : i < A.length
    · exact h i z
    · rw [hAt_ge (by omega)]
      exact Nat.zero_le _
  · exact fun h i _ => h i
def scn (p : List Nat → Bool) : List (List Nat) → List (List Nat) → List (List Nat)
  | f, [] => f
  | f, h :: l => scn p (if p h = true ∧ ¬ (f.any fun o => subB o h) = true then f ++ [h] else f) l
theorem scn_app (p : List Nat → Bool) : ∀ (l m f : List (List Nat)), scn p f (l ++ m) = scn p (scn p f l) m
  | [], m, f => rfl
  | h :: l, m, f => scn_app p l m _
theorem scn_none (p : List Nat → Bool) : ∀ (l f : List (List Nat)), (∀ h ∈ l, p h = false) → scn p f l = f
  | [], f, _ => rfl
  | h :: l, f, hp => by
    show scn p (if p h = true ∧ ¬ (f.any fun o => subB o h) = true then f ++ [h] else f) l = f
    rw [if_neg (fun z => by rw [hp h (List.mem_cons_self ..)] at z; exact absurd z.1 (by decide))]
    exact scn_none p l f fun g hg => hp g (List.mem_cons_of_mem _ hg)
theorem scn_keep (p : List Nat → Bool) : ∀ (l f : List (List Nat)) (x : List Nat), x ∈ f → x ∈ scn p f l
  | [], f, x, h => h
  | g :: l, f, x, h => by
    refine scn_keep p l _ x ?_
    split
    · exact List.mem_append_left _ h
    · exact h
theorem scn_mem (p : List Nat → Bool) : ∀ (l f : List (List Nat)) (x : List Nat), x ∈ scn p f l → x ∈ f ∨ (x ∈ l ∧ p x = true)
  | [], f, x, h => .inl h
  | g :: l, f, x, h => by
    rcases scn_mem p l _ x h with z | ⟨z1, z2⟩
    · by_cases c : p g = true ∧ ¬ (f.any fun o => subB o g) = true
      · rw [if_pos c] at z
        rcases List.mem_append.mp z with z | z
        · exact .inl z
        · rw [List.mem_singleton.mp z]
          exact .inr ⟨List.mem_cons_self .., c.1⟩
      · rw [if_neg c] at z
        exact .inl z
    · exact .inr ⟨List.mem_cons_of_mem _ z1, z2⟩
theorem scn_has (p : List Nat → Bool) : ∀ (l f : List (List Nat)) (x : List Nat), x ∈ l → p x = true → ∃ o ∈ scn p f l, sub o x
  | [], f, x, h, _ => absurd h (by simp)
  | g :: l, f, x, h, hp => by
    rcases List.mem_cons.mp h with rfl | h
    · by_cases c : (f.any fun o => subB o x) = true
      · obtain ⟨o, ho, s⟩ := List.any_eq_true.mp c
        refine ⟨o, scn_keep p l _ o ?_, subB_iff.mp s⟩
        rw [if_neg (fun z => z.2 c)]
        exact ho
      · refine ⟨x, scn_keep p l _ x ?_, sub_refl x⟩
        rw [if_pos ⟨hp, c⟩]
        exact List.mem_append_right _ (List.mem_singleton.mpr rfl)
    · exact scn_has p l _ x h hp
/-- the first one with the box is among the least -/
theorem scn_first (p : List Nat → Bool) : ∀ (l m : List (List Nat)), (∃ x ∈ l, p x = true) → ∃ o ∈ scn p [] (l ++ m), o ∈ l
  | [], m, ⟨x, h, _⟩ => absurd h (by simp)
  | g :: l, m, ⟨x, h, hp⟩ => by
    show ∃ o ∈ scn p (if p g = true ∧ ¬ (([] : List (List Nat)).any fun o => subB o g) = true then [] ++ [g] else []) (l ++ m), o ∈ g :: l
    by_cases c : p g = true
    · refine ⟨g, scn_keep p _ _ g ?_, List.mem_cons_self ..⟩
      rw [if_pos ⟨c, by simp⟩]
      exact List.mem_singleton.mpr rfl
    · rw [if_neg (fun z => c z.1)]
      rcases List.mem_cons.mp h with rfl | h
      · exact absurd hp c
      · obtain ⟨o, h1, h2⟩ := scn_first p l m ⟨x, h, hp⟩
        exact ⟨o, h1, List.mem_cons_of_mem _ h2⟩
/-! the bound, told by a decision -/
def lfL (k c r : Nat) : List Nat := (List.range (min c r)).map fun l => (c - l) * (r - l) + l * k
def lf (k c r : Nat) : Nat := (lfL k c r).foldr min 1000
def boxes : List (Nat × Nat) := [(1, 1), (1, 2), (1, 3), (2, 1), (2, 2), (2, 3), (3, 1), (3, 2)]
theorem lf_least : ∀ k, k < 7 → 2 ≤ k → ∀ x ∈ boxes, lf k x.1 x.2 ∈ lfL k x.1 x.2 ∧ (∀ y ∈ lfL k x.1 x.2, lf k x.1 x.2 ≤ y) ∧ lf k x.1 x.2 ≤ x.1 * x.2 := by decide +kernel
theorem lf_below : ∀ k, k < 7 → 2 ≤ k → ∀ x ∈ boxes, ∀ n, n < lf k x.1 x.2 → ∀ s ∈ cps (n + 1) (k - 1) n, hb x.1 x.2 (cw k s) = false := by decide +kernel
theorem lf_at : ∀ k, k < 7 → 2 ≤ k → ∀ x ∈ boxes, ∃ s ∈ cps (lf k x.1 x.2 + 1) (k - 1) (lf k x.1 x.2), hb x.1 x.2 (cw k s) = true := by decide +kernel
end K1

namespace K1
open PySem PySem.Spec PyProof.Rows L2 Evl
/-! ### great powers -/
def CPowW (i j : Int) : Prop := 0 ≤ j ∧ (Builtin.Int.intBits i : Int) * j ≤ 2 ^ 27
theorem op_powW {X : Cx} : OpR X (binaryOp .Pow) (rI CPowW fun i j => .int (i ^ j.toNat)) := opI fun _ _ _ _ _ _ _ hc q => pow_int hc.1 hc.2 q
/-! ### values that are looked at -/
/-- no int -/
inductive NotInt (K : PySem.W.Frag) (H : Hp) : V → Prop where
  | bl (b : Bool) : NotInt K H (.bl b)
  | non : NotInt K H .non
  | str (x : Str) : NotInt K H (.str x)
  | lst {a : Addr} {xs : List V} (e : H a = some (.lst xs)) : NotInt K H (.ref a)
  | tup {a : Addr} {xs : List V} (e : H a = some (.tup xs)) : NotInt K H (.ref a)
  | dK {a : Addr} {kvs : List (Key × V)} (e : H a = some (.dK kvs)) : NotInt K H (.ref a)
inductive IntB (K : PySem.W.Frag) (H : Hp) : V → Bool → Prop where
  | int (i : Int) : IntB K H (.int i) (decide (-(10 ^ 60) < i) && decide (i < 10 ^ 60))
  | no {x : V} (h : NotInt K H x) : IntB K H x false
/-- between two ints -/
inductive BtwB (K : PySem.W.Frag) (H : Hp) (lo hi : Int) : V → Bool → Prop where
  | int (i : Int) : BtwB K H lo hi (.int i) ((decide (-(10 ^ 60) < i) && decide (i < 10 ^ 60)) && (decide (lo ≤ i) && decide (i ≤ hi)))
  | no {x : V} (h : NotInt K H x) : BtwB K H lo hi x false
theorem NotInt.ty {K : PySem.W.Frag} {H : Hp} {x : V} (h : NotInt K H x) : ∃ t : Value, TyX K H x t ∧ ((PySem.W.kitOne K t (.type "int") = some false) ∨ (t = .type "bool")) := by
  cases h with
  | bl b => exact ⟨_, .base (.bl b), .inr rfl⟩
  | non => exact ⟨_, .base .non, .inl (kit_ty (by decide +kernel))⟩
  | str x => exact ⟨_, .base (.str x), .inl (kit_ty (by decide +kernel))⟩
  | lst e => exact ⟨_, .base (.lst e), .inl (kit_ty (by decide +kernel))⟩
  | tup e => exact ⟨_, .base (.tup e), .inl (kit_ty (by decide +kernel))⟩
  | dK e => exact ⟨_, .base (.dK e), .inl (kit_ty (by decide +kernel))⟩
theorem NotInt.mono {K : PySem.W.Frag} {H H' : Hp} {x : V} (e : Ex H H') (h : NotInt K H x) : NotInt K H' x := by
  cases h with
  | bl b => exact .bl b
  | non => exact .non
  | str x => exact .str x
  | lst q => exact .lst (e _ _ q)
  | tup q => exact .tup (e _ _ q)
  | dK q => exact .dK (e _ _ q)
section
variable {P : Program} {w : World} {K : PySem.W.Frag} {mg : Str → Option Value} {base : Heap}
def spIsInteger (K : PySem.W.Frag) : Sp := fun vs H Q _ => ∃ x b, vs = [x] ∧ IntB K H x b ∧ ∀ H', Ex H H' → Q (.bl b) H'
theorem ok_is_integer (T : Txt K mg) {f : Addr} {fd : FuncData} (D : DefAt K mg "is_integer" sIsInteger ["value"] f fd) : FnOk P w K mg base CX0 1 f fd ["value"] (spIsInteger K) := by
  refine D.F.ok scIsInteger (fun vs H Q E h => ?_) (fun cdv A outer s H vs Q E hr h => ?_)
  · obtain ⟨x, b, rfl, _⟩ := h
    rfl
  · obtain ⟨x, b, rfl, hb, q⟩ := h
    obtain ⟨tB, vB⟩ := T.v_BOUND
    refine ⟨_, pss_one (ps_ret (pe_and (pe_callB call_isi (by rfl) T.z_isinstance (by decide +kernel) (pa_cons (pv 0) (pa_cons (pe_bltn (v := .ty "int") (by rfl) T.z_int (by decide +kernel) rfl) pa_nil)))
      (pe_and (pe_not (pe_callB call_isi (by rfl) T.z_isinstance (by decide +kernel) (pa_cons (pv 0) (pa_cons (pe_bltn (v := .ty "bool") (by rfl) T.z_bool (by decide +kernel) rfl) pa_nil))))
      (pe_one (pe_chain op_lt op_lt (pe_un un_neg (pe_glob (v := .int (10 ^ 60)) rfl vB ⟨_, rfl⟩)) (pv 0) (pe_glob (v := .int (10 ^ 60)) rfl vB ⟨_, rfl⟩)))))), ?_⟩
    cases hb with
    | int i =>
      refine ⟨.int i, rfl, .int i, .ty "int", .type "int", .type "int", true, rfl, .ty _, .base (.int i), kit_ty (by decide +kernel), true, rfl, iteT ?_⟩
      refine ⟨.int i, rfl, .int i, .ty "bool", .type "int", .type "bool", false, rfl, .ty _, .base (.int i), kit_ty (by decide +kernel), false, rfl, true, rfl, iteT ?_⟩
      refine ⟨_, rfl, .int i, rfl, _, _, rfl, rfl, _, rfl, ite2 (fun c => ?_) (fun c => ?_)⟩
      · refine ⟨_, _, rfl, rfl, ?_⟩
        have e : decide (-(10 ^ 60) < i) = true := c
        rw [e, Bool.true_and] at q
        exact q _ (Ex.refl _)
      · have e : decide (-(10 ^ 60) < i) = false := Bool.eq_false_iff.mpr c
        rw [e, Bool.false_and] at q
        exact q _ (Ex.refl _)
    | no hn =>
      obtain ⟨t, ty, h | rfl⟩ := hn.ty
      · exact ⟨x, rfl, x, .ty "int", t, .type "int", false, rfl, .ty _, ty, h, false, rfl, iteF (q _ (Ex.refl _))⟩
      · refine ⟨x, rfl, x, .ty "int", .type "bool", .type "int", true, rfl, .ty _, ty, kit_ty (by decide +kernel), true, rfl, iteT ?_⟩
        exact ⟨x, rfl, x, .ty "bool", .type "bool", .type "bool", true, rfl, .ty _, ty, kit_ty (by decide +kernel), true, rfl, false, rfl, iteF (q _ (Ex.refl _))⟩
def spIsBetween (K : PySem.W.Frag) : Sp := fun vs H Q _ => ∃ x lo hi b, vs = [x, .int lo, .int hi] ∧ BtwB K H lo hi x b ∧ ∀ H', Ex H H' → Q (.bl b) H'
theorem ok_is_between (T : Txt K mg) {f : Addr} {fd : FuncData} (D : DefAt K mg "is_between" sIsBetween ["value", "low", "high"] f fd) : FnOk P w K mg base CX0 2 f fd ["value", "low", "high"] (spIsBetween K) := by
  refine D.F.ok scIsBetween (fun vs H Q E h => ?_) (fun cdv A outer s H vs Q E hr h => ?_)
  · obtain ⟨x, lo, hi, b, rfl, _⟩ := h
    rfl
  · obtain ⟨x, lo, hi, b, rfl, hb, q⟩ := h
    obtain ⟨f1, fd1, D1⟩ := T.d_is_integer
    refine ⟨_, pss_one (ps_ret (pe_and (pe_call (ok_is_integer T D1) hr (by rfl) D1.g D1.F.kp D1.b .nil pass0 (pa_cons (pv 0) pa_nil)) (pe_one (pe_chain op_le op_le (pv 1) (pv 0) (pv 2))))), ?_⟩
    cases hb with
    | int i =>
      refine ⟨.int i, rfl, .int i, _, rfl, .int i, fun H1 e1 => ⟨_, rfl, ite2 (fun c => ?_) (fun c => ?_)⟩⟩
      · refine ⟨.int lo, rfl, .int i, rfl, _, _, rfl, rfl, _, rfl, ?_⟩
        rw [c, Bool.true_and] at q
        refine ite2 (fun c2 => ⟨.int hi, rfl, _, _, rfl, rfl, ?_⟩) (fun c2 => ?_)
        · have e : decide (lo ≤ i) = true := c2
          rw [e, Bool.true_and] at q
          exact q _ e1
        · have e : decide (lo ≤ i) = false := Bool.eq_false_iff.mpr c2
          rw [e, Bool.false_and] at q
          exact q _ e1
      · rw [Bool.eq_false_iff.mpr c, Bool.false_and] at q
        exact q _ e1
    | no hn => exact ⟨x, rfl, x, false, rfl, .no hn, fun H1 e1 => ⟨false, rfl, iteF (q _ e1)⟩⟩
end
end K1

namespace K1
open PySem PySem.Spec PyProof.Rows L2 Evl
/-! ### the dice -/
def Dice (H : Hp) (d : Addr) : Prop := ∃ l m c : Int, H d = some (.lst [.int l, .int m, .int c])
/-- all but the dice is as it was -/
def Keep (d : Addr) (H H' : Hp) : Prop := ∀ b o, b ≠ d → H b = some o → H' b = some o
theorem Keep.refl (d : Addr) (H : Hp) : Keep d H H := fun _ _ _ h => h
theorem Keep.trans {d : Addr} {H H1 H2 : Hp} (a : Keep d H H1) (b : Keep d H1 H2) : Keep d H H2 := fun x o n h => b x o n (a x o n h)
theorem Keep.ex {d : Addr} {H H' : Hp} (e : Ex H H') : Keep d H H' := fun b o _ h => e b o h
theorem Keep.dice {d : Addr} {H : Hp} {o : HO} : Keep d H (upd H d o) := fun b u n h => by
  rw [upd_ne n]
  exact h
theorem Keep.new {d p : Addr} {H : Hp} {o : HO} (h : H p = none) : Keep d H (upd H p o) := .ex (.new h)
/-- a thing that H did not know may change -/
theorem Keep.mut {d p : Addr} {H H' : Hp} {o : HO} (e : Keep d H H') (h : H p = none) : Keep d H (upd H' p o) := fun b u n q => by
  rw [upd_ne (ne_of_none q h)]
  exact e b u n q
theorem Keep.free {d p : Addr} {H H' : Hp} (e : Keep d H H') (n : p ≠ d) (h : H' p = none) : H p = none := by
  cases q : H p with
  | none => rfl
  | some o =>
    rw [e p o n q] at h
    cases h
theorem Dice.ex {d : Addr} {H H' : Hp} (e : Ex H H') (h : Dice H d) : Dice H' d := by
  obtain ⟨l, m, c, q⟩ := h
  exact ⟨l, m, c, e _ _ q⟩
theorem Dice.upd {d p : Addr} {H : Hp} {o : HO} (n : d ≠ p) (h : Dice H d) : Dice (L2.upd H p o) d := by
  obtain ⟨l, m, c, q⟩ := h
  exact ⟨l, m, c, by rw [upd_ne n]; exact q⟩
theorem Dice.ne_new {d p : Addr} {H : Hp} (h : Dice H d) (n : H p = none) : d ≠ p := by
  obtain ⟨l, m, c, q⟩ := h
  exact ne_of_none q n
theorem Dice.ne_tup {d p : Addr} {H : Hp} {xs : List V} (h : Dice H d) (n : H p = some (.tup xs)) : p ≠ d := by
  obtain ⟨l, m, c, q⟩ := h
  exact ne_of n q (by intro z; cases z)
theorem Keep.tup {d p : Addr} {H H' : Hp} {xs : List V} (e : Keep d H H') (h : Dice H d) (n : H p = some (.tup xs)) : H' p = some (.tup xs) := e _ _ (h.ne_tup n) n
theorem wide_n {n : Int} (h : 1 ≤ n) (h2 : n ≤ 10 ^ 50) {i : Int} : CDivW i n := wide_div (b := 200) (by omega) (by omega) (by decide) (by decide)
section
variable {P : Program} {w : World} {K : PySem.W.Frag} {mg : Str → Option Value} {base : Heap}
def spRoll : Sp := fun vs H Q _ => ∃ (d : Addr) (n : Int), vs = [.ref d, .int n] ∧ Dice H d ∧ 1 ≤ n ∧ n ≤ 10 ^ 50 ∧ ∀ (r : Int) H', 0 ≤ r → r < n → Dice H' d → Keep d H H' → Q (.int r) H'
theorem ok_roll (T : Txt K mg) {f : Addr} {fd : FuncData} (D : DefAt K mg "_law_roll" sLRoll ["_law_dice_here", "_law_total"] f fd) : FnOk P w K mg base CX0 1 f fd ["_law_dice_here", "_law_total"] spRoll := by
  refine D.F.ok scLRoll (fun vs H Q E h => ?_) (fun cdv A outer s H vs Q E hr h => ?_)
  · obtain ⟨d, n, rfl, _⟩ := h
    rfl
  · obtain ⟨d, n, rfl, ⟨l, m, c, hd⟩, h1, h2, q⟩ := h
    refine ⟨_, pss_cons (ps_set (i := 2) scLRoll.nd rfl (.inl rfl) (pe_callTy call_int1 (by rfl) T.z_int (by decide +kernel) (pa_cons (pv 1) pa_nil)))
      (pss_cons (ps_if (pt_cmpR op_gt (pe_ix ix_list (pv 0) pe_int (fun _ _ => rfl)) pe_int (nomark _))
        (pss_cons (ps_set (i := 3) scLRoll.nd rfl (.inl rfl) (pe_op op_mod (pe_ix ix_list (pv 0) pe_int (fun _ _ => rfl)) (pv 2)))
        (pss_cons (ps_asg (pe_op op_fdivW (pe_ix ix_list (pv 0) pe_int (fun _ _ => rfl)) (pv 2)) (pg_sub (pv 0) pe_int set_list))
        (pss_one (ps_ret (pe_callTy call_int1 (by rfl) T.z_int (by decide +kernel) (pa_cons (pv 3) pa_nil)))))) pss_nil)
      (pss_cons (ps_asg (pe_op op_add (pe_ix ix_list (pv 0) pe_int (fun _ _ => rfl)) pe_int) (pg_sub (pv 0) pe_int set_list))
      (pss_cons (ps_set (i := 4) scLRoll.nd rfl (.inl rfl) (pe_op op_mod (pe_op op_add (pe_ix ix_list (pv 0) pe_int (fun _ _ => rfl)) (pe_op op_mul pe_int (pe_ix ix_list (pv 0) pe_int (fun _ _ => rfl)))) pe_int))
      (pss_cons (ps_set (i := 5) scLRoll.nd rfl (.inl rfl) (pe_op op_add (pe_op op_mul (pe_op op_mod (pe_op op_mul (pv 4) (pv 4)) pe_int) (pv 4)) (pe_op op_mul pe_int (pe_ix ix_list (pv 0) pe_int (fun _ _ => rfl)))))
      (pss_cons (ps_set (i := 5) scLRoll.nd rfl (.inl rfl) (pe_op op_mod (pv 5) pe_int))
      (pss_one (ps_ret (pe_callTy call_int1 (by rfl) T.z_int (by decide +kernel) (pa_cons (pe_op op_mod (pe_op op_fdiv (pv 5) pe_int) (pv 2)) pa_nil))))))))), ?_⟩
    refine ⟨.int n, rfl, .inl ⟨n, rfl, ?_⟩⟩
    have S0 : SqL K H d [.int l, .int m, .int c] := SqL.of hd
    refine ⟨.ref d, rfl, d, _, 0, .int l, rfl, rfl, S0, rfl, l, 0, rfl, rfl, _, rfl, ite2 (fun cc => ?_) (fun cc => ?_)⟩
    · refine ⟨.ref d, rfl, d, _, 0, .int l, rfl, rfl, S0, rfl, .int n, rfl, l, n, rfl, rfl, by omega, ?_⟩
      refine ⟨.ref d, rfl, d, _, 0, .int l, rfl, rfl, S0, rfl, .int n, rfl, l, n, rfl, rfl, wide_n h1 h2, .ref d, rfl, d, _, 0, 0, rfl, rfl, hd, rfl, ?_⟩
      refine ⟨_, rfl, .inl ⟨l % n, rfl, ?_⟩⟩
      exact q _ _ (Int.emod_nonneg _ (by omega)) (Int.emod_lt_of_pos _ (by omega)) ⟨_, _, _, upd_same⟩ Keep.dice
    · refine ⟨.ref d, rfl, d, _, 2, .int c, rfl, rfl, S0, rfl, c, 1, rfl, rfl, .ref d, rfl, d, _, 2, 2, rfl, rfl, hd, rfl, ?_⟩
      generalize hH1 : upd H d _ = H1
      have hd1 : H1 d = some (.lst [.int l, .int m, .int (c + 1)]) := by
        rw [← hH1]
        exact upd_same
      have k1 : Keep d H H1 := by
        rw [← hH1]
        exact Keep.dice
      have S1 : SqL K H1 d [.int l, .int m, .int (c + 1)] := SqL.of hd1
      refine ⟨.ref d, rfl, d, _, 1, .int m, rfl, rfl, S1, rfl, .ref d, rfl, d, _, 2, .int (c + 1), rfl, rfl, S1, rfl, _, _, rfl, rfl, .inl (by decide), _, _, rfl, rfl, _, _, rfl, rfl, by show (0 : Int) < _; decide, ?_⟩
      refine ⟨_, rfl, _, rfl, (m + 1000409 * (c + 1)) % 2305843009213693951, (m + 1000409 * (c + 1)) % 2305843009213693951, rfl, rfl, .inl (by constructor <;> omega), _, _, rfl, rfl, by show (0 : Int) < _; decide, _, rfl, _, (m + 1000409 * (c + 1)) % 2305843009213693951, rfl, rfl, .inr (by constructor <;> omega), ?_⟩
      refine ⟨.ref d, rfl, d, _, 2, .int (c + 1), rfl, rfl, S1, rfl, _, _, rfl, rfl, .inl (by decide), _, _, rfl, rfl, ?_⟩
      refine ⟨_, rfl, _, _, rfl, rfl, by show (0 : Int) < _; decide, ?_⟩
      refine ⟨_, rfl, _, _, rfl, rfl, ⟨by decide, by decide⟩, .int n, rfl, _, n, rfl, rfl, by omega, .inl ⟨_, rfl, ?_⟩⟩
      exact q _ _ (Int.emod_nonneg _ (by omega)) (Int.emod_lt_of_pos _ (by omega)) ⟨_, _, _, hd1⟩ k1
def spOneOf (K : PySem.W.Frag) : Sp := fun vs H Q _ => ∃ (d a : Addr) (xs : List V), vs = [.ref d, .ref a] ∧ Dice H d ∧ H a = some (.lst xs) ∧ a ≠ d ∧ 1 ≤ xs.length ∧ xs.length ≤ 1000 ∧ ∀ x H', x ∈ xs → Dice H' d → Keep d H H' → Q x H'
theorem ok_one_of (T : Txt K mg) {f : Addr} {fd : FuncData} (D : DefAt K mg "_law_one_of" sLOneOf ["_law_dice_here", "_law_items"] f fd) : FnOk P w K mg base CX0 2 f fd ["_law_dice_here", "_law_items"] (spOneOf K) := by
  refine D.F.ok scLOneOf (fun vs H Q E h => ?_) (fun cdv A outer s H vs Q E hr h => ?_)
  · obtain ⟨d, a, xs, rfl, _⟩ := h
    rfl
  · obtain ⟨d, a, xs, rfl, hd, ha, nad, h1, h2, q⟩ := h
    obtain ⟨f1, fd1, D1⟩ := T.d_l_roll
    refine ⟨_, pss_one (ps_ret (pe_ix ix_list (pv 1) (pe_call (ok_roll T D1) hr (by rfl) D1.g D1.F.kp D1.b .nil pass0 (pa_cons (pv 0) (pa_cons (pe_callB call_len_seq (by rfl) T.z_len PySem.boot_len (pa_cons (pv 1) pa_nil)) pa_nil))) (fun _ _ => rfl))), ?_⟩
    refine ⟨.ref a, rfl, .ref d, rfl, .ref a, rfl, a, xs, rfl, .inl (SqL.of ha), d, _, rfl, hd, by omega, by omega, fun r H1 r0 r1 hd1 k1 => ?_⟩
    have hx : xs[r.toNat]? = some (xs[r.toNat]'(by omega)) := List.getElem?_eq_getElem _
    refine ⟨a, xs, r, _, rfl, rfl, SqL.of (k1 _ _ nad ha), ?_, q (xs[r.toNat]'(by omega)) H1 (List.getElem_mem _) hd1 k1⟩
    exact at_of (show r = ((r.toNat : Nat) : Int) by omega) hx
/-- a drawn ring -/
def RingAt (H : Hp) (most : Int) (x : V) (n s : Int) : Prop := ∃ t, x = .ref t ∧ H t = some (.tup [.int n, .int s]) ∧ 2 ≤ n ∧ n ≤ most ∧ 1 ≤ s ∧ s < n
def spRing : Sp := fun vs H Q _ => ∃ (d : Addr) (most : Int), vs = [.ref d, .int most] ∧ Dice H d ∧ 2 ≤ most ∧ most ≤ 1000 ∧ ∀ x n s H', RingAt H' most x n s → Dice H' d → Keep d H H' → Q x H'
end
end K1

namespace K1
open PySem PySem.Spec PyProof.Rows L2 Evl
section
variable {P : Program} {w : World} {K : PySem.W.Frag} {mg : Str → Option Value} {base : Heap}
def spDice (K : PySem.W.Frag) : Sp := fun vs H Q _ => ∃ (a : Addr) (ns : List Int) (i : Nat), vs = [.ref a, .int i] ∧ SqL K H a (ns.map V.int) ∧ ∀ p H', H p = none → Ex H H' → Dice H' p → Q (.ref p) H'
theorem ok_dice (T : Txt K mg) {f : Addr} {fd : FuncData} (D : DefAt K mg "_law_dice" sLDice ["_law_script", "_law_at"] f fd) : FnOk P w K mg base CX0 1 f fd ["_law_script", "_law_at"] (spDice K) := by
  refine D.F.ok scLDice (fun vs H Q E h => ?_) (fun cdv A outer s H vs Q E hr h => ?_)
  · obtain ⟨d, n, i, rfl, _⟩ := h
    rfl
  · obtain ⟨a, ns, i, rfl, hS, q⟩ := h
    refine ⟨_, pss_cons (ps_set (i := 2) scLDice.nd rfl (.inl rfl) (pe_op op_add (pe_op op_mul pe_int (pv 1)) pe_int))
      (pss_cut (ps_if (pt_cmpR op_lt (pv 1) (pe_callB call_len_seq (by rfl) T.z_len PySem.boot_len (pa_cons (pv 0) pa_nil)) (nomark _))
        (pss_one (ps_set (i := 2) scLDice.nd rfl (.inl rfl) (pe_ix ix_list (pv 0) (pv 1) (fun _ _ => rfl)))) pss_nil)
      (pss_cons (ps_set (i := 3) scLDice.nd rfl (.inl rfl) (pe_op op_mod (pe_callTy call_int1 (by rfl) T.z_int (by decide +kernel) (pa_cons (pe_callB call_abs (by rfl) T.z_abs (by decide +kernel) (pa_cons (pv 2) pa_nil)) pa_nil)) (pe_op op_powW (pe_op op_pow pe_int pe_int) pe_int)))
      (pss_cons (ps_set (i := 4) scLDice.nd rfl (.inl rfl) (pe_op op_fdivW (pv 3) (pe_op op_pow pe_int pe_int)))
      (pss_cons (ps_set (i := 5) scLDice.nd rfl (.inl rfl) (pe_op op_add (pe_op op_add (pe_op op_add (pe_op op_mul (pe_op op_mod (pv 3) pe_int) pe_int) (pe_op op_mul pe_int (pv 1))) (pe_op op_mul pe_int (pe_callTy call_int1 (by rfl) T.z_int (by decide +kernel) (pa_cons (pe_cmpR op_lt (pv 2) pe_int (nomark _)) pa_nil)))) pe_int))
      (pss_one (ps_ret (pe_lst (pa_cons (pv 4) (pa_cons (pe_op op_mod (pv 5) pe_int) (pa_cons pe_int pa_nil))))))))) ), ?_⟩
    refine ⟨_, rfl, _, _, rfl, rfl, .inl (by decide), _, _, rfl, rfl, ?_⟩
    refine ⟨fun σ' H' => ∃ cell : Int, σ' = [some (.ref a), some (.int i), some (.int cell), none, none, none] ∧ H' = H, ?_, ?_⟩
    · refine ⟨_, rfl, .ref a, rfl, a, _, rfl, .inl hS, _, _, rfl, rfl, _, rfl, ite2 (fun c => ?_) (fun c => ⟨_, rfl, rfl⟩)⟩
      have c' : (i : Int) < ((ns.map V.int).length : Int) := of_decide_eq_true c
      rw [List.length_map] at c'
      have hx : (ns.map V.int)[i]? = some (.int (ns[i]'(by omega))) := by
        rw [List.getElem?_map, List.getElem?_eq_getElem (by omega)]
        rfl
      exact ⟨.ref a, rfl, _, rfl, a, _, _, _, rfl, rfl, hS, atI_nat hx, _, rfl, rfl⟩
    · rintro σ' H' ⟨cell, rfl, rfl⟩
      refine ⟨_, rfl, _, rfl, .inl ⟨_, rfl, _, _, rfl, rfl, ⟨by decide, by decide, by decide⟩, _, _, rfl, rfl, ⟨by decide, by decide +kernel⟩, _, _, rfl, rfl, by show (0 : Int) < (10 ^ Int.toNat 60) ^ Int.toNat 10; decide +kernel, ?_⟩⟩
      refine ⟨_, rfl, _, _, rfl, rfl, ⟨by decide, by decide, by decide⟩, _, _, rfl, rfl, wide_div (b := 60) (by decide +kernel) (by decide +kernel) (by decide) (by decide), ?_⟩
      refine ⟨_, rfl, _, _, rfl, rfl, by show (0 : Int) < _; decide, _, _, rfl, rfl, .inr (by decide), _, rfl, _, _, rfl, rfl, .inl (by decide), _, _, rfl, rfl, _, rfl, _, _, rfl, rfl, .inr ⟨_, rfl, _, _, rfl, rfl, .inl (by decide), _, _, rfl, rfl, _, _, rfl, rfl, ?_⟩⟩
      refine ⟨_, rfl, _, rfl, _, _, rfl, rfl, by show (0 : Int) < _; decide, by show 3 ≤ sizeLine; decide, fun p hp => ?_⟩
      exact q p _ hp (Ex.new hp) ⟨_, _, _, upd_same⟩
/-- the greatest common divisor -/
def spCommon : Sp := fun vs H Q _ => ∃ (a b : Nat), vs = [.int a, .int b] ∧ ∀ H', Ex H H' → Q (.int (Nat.gcd a b : Nat)) H'
theorem ok_common (T : Txt K mg) {f : Addr} {fd : FuncData} (D : DefAt K mg "_law_common" sLCommon ["_law_one", "_law_other"] f fd) : FnOk P w K mg base CX0 1 f fd ["_law_one", "_law_other"] spCommon := by
  refine D.F.ok scLCommon (fun vs H Q E h => ?_) (fun cdv A outer s H vs Q E hr h => ?_)
  · obtain ⟨d, n, rfl, _⟩ := h
    rfl
  · obtain ⟨a, b, rfl, q⟩ := h
    refine ⟨_, pss_cons (ps_while PassesOwn.never (pt_cmpR op_ne (pv 1) pe_int (nomark _))
        (pss_one (ps_par (i := 0) (j := 1) (by rfl) scLCommon.nd rfl rfl (by decide) rfl rfl (pa_cons (pv 1) (pa_cons (pe_op op_mod (pv 0) (pv 1)) pa_nil)) (by rfl))))
      (pss_one (ps_ret (pv 0))), ?_⟩
    refine q_while (fun m σ' H' => ∃ x y : Nat, σ' = [some (.int x), some (.int y)] ∧ m = y ∧ Nat.gcd x y = Nat.gcd a b ∧ Ex H H') b ⟨a, b, rfl, rfl, rfl, Ex.refl _⟩ (fun m σ' H' hW => ?_)
    obtain ⟨x, y, rfl, rfl, hg, e1⟩ := hW
    refine ⟨_, et_test (ev_op (ev_var (v := .int (m : Int)) rfl) ev_c (rv_ne rfl)), fun hb H1 e2 => ?_, fun hb H1 e2 => ?_⟩
    · have hy : m ≠ 0 := fun z => by
        subst z
        exact absurd hb (by decide)
      have hm : (x : Int) % (m : Int) = ((x % m : Nat) : Int) := by simp
      refine ⟨fun σ2 H2 => σ2 = [some (.int m), some (.int ((x % m : Nat) : Int))] ∧ H2 = H1, fun σ2 H2 hN => ?_, ?_⟩
      · obtain ⟨rfl, rfl⟩ := hN
        refine ⟨x % m, Nat.mod_lt _ (by omega), m, x % m, rfl, rfl, ?_, e1.trans e2⟩
        rw [← hg, Nat.gcd_comm m (x % m), ← Nat.gcd_rec, Nat.gcd_comm]
      · refine ⟨_, rfl, _, rfl, _, rfl, (x : Int), (m : Int), rfl, rfl, by omega, _, _, rfl, ?_⟩
        refine ⟨?_, rfl⟩
        show [some (V.int (m : Int)), some (V.int ((x : Int) % (m : Int)))] = _
        rw [hm]
    · have hy : m = 0 := by
        by_cases z : m = 0
        · exact z
        · exfalso
          have : (!decide (V.int (m : Int) = V.int 0)) = true := by
            rw [decide_eq_false (fun q => z (by have := V.int.inj q; omega))]
            rfl
          rw [this] at hb
          cases hb
      subst hy
      refine ⟨_, rfl, ?_⟩
      rw [Nat.gcd_zero_right] at hg
      rw [hg]
      exact q _ (e1.trans e2)
/-- a drawn ring of one order -/
def spRingOf : Sp := fun vs H Q _ => ∃ (d : Addr) (k t : Int), vs = [.ref d, .int k, .int t] ∧ Dice H d ∧ 2 ≤ k ∧ k ≤ 100 ∧ 1 ≤ t ∧ t ≤ 1000 ∧ ∀ x n s H', RingAt H' (k * t) x n s → Dice H' d → Keep d H H' → Q x H'
theorem ok_ring_of (T : Txt K mg) {f : Addr} {fd : FuncData} (D : DefAt K mg "_law_ring_of" sLRingOf ["_law_dice_here", "_law_k", "_law_times"] f fd) : FnOk P w K mg base CX0 3 f fd ["_law_dice_here", "_law_k", "_law_times"] spRingOf := by
  refine D.F.ok scLRingOf (fun vs H Q E h => ?_) (fun cdv A outer s H vs Q E hr h => ?_)
  · obtain ⟨d, n, t, rfl, _⟩ := h
    rfl
  · obtain ⟨d, k, t, rfl, hd, h1, h2, h3, h4, q⟩ := h
    obtain ⟨f1, fd1, D1⟩ := T.d_l_roll
    obtain ⟨f2, fd2, D2⟩ := T.d_l_common
    obtain ⟨f3, fd3, D3⟩ := T.d_l_one_of
    have hr1 : Room 1 _ := hr.mono (by decide)
    refine ⟨_, pss_cons (ps_set (i := 3) scLRingOf.nd rfl (.inl rfl) (pe_op op_add pe_int (pe_call (ok_roll T D1) hr1 (by rfl) D1.g D1.F.kp D1.b .nil pass0 (pa_cons (pv 0) (pa_cons (pv 2) pa_nil)))))
      (pss_cons (ps_setLc (i := 4) (own := [("_law_one", 5)]) (g := gName 5) (by rfl) scLRingOf.nd rfl rfl (sw_true rfl rfl rfl (by decide +kernel)) (pi_range2 (by rfl) T.z_range (pa_cons pe_int (pa_cons (pv 1) pa_nil)))
        (blkOk_by (N := nLRingOf) (sc := defScope sLRingOf) (by decide +kernel)) (fun _ _ _ _ _ => pg_name (i := 5) scLRingOf.nd rfl (Or.inl rfl))
        (fun _ _ _ _ _ => pts_one (pt_cmpR op_eq (pe_call (ok_common T D2) hr1 (by rfl) D2.g D2.F.kp D2.b .nil pass0 (pa_cons (pv 1) (pa_cons (pv 5) pa_nil))) pe_int (nomark _))) (fun _ _ _ _ _ => pv 5))
      (pss_one (ps_ret (pe_tup (pa_cons (pe_op op_mul (pv 1) (pv 3)) (pa_cons (pe_op op_mul (pv 3) (pe_call (ok_one_of T D3) hr (by rfl) D3.g D3.F.kp D3.b .nil pass0 (pa_cons (pv 0) (pa_cons (pv 4) pa_nil)))) pa_nil)))))), ?_⟩
    refine ⟨.ref d, rfl, .int t, rfl, d, _, rfl, hd, by omega, by omega, fun r H1 r0 r1 hd1 k1 => ?_⟩
    refine ⟨1, r, rfl, rfl, .int k, rfl, 1, k, rfl, by omega, fun Dl hD => ?_⟩
    have ndl : d ≠ Dl := hd1.ne_new hD
    have hD0 : H Dl = none := k1.free ndl.symm hD
    refine lc_range (lo := 1) (n := (k - 1).toNat) (fun i H' => ∃ js : List Int, H' Dl = some (.lst (js.map V.int)) ∧ js.length ≤ i ∧ (∀ j ∈ js, 1 ≤ j ∧ j < k) ∧ (1 ≤ i → 1 ≤ js.length) ∧ Keep d H H' ∧ Dice H' d)
      ⟨[], upd_same, Nat.le_refl _, by simp, by omega, k1.trans (Keep.new hD), hd1.upd (hd1.ne_new hD)⟩ (fun i H' hi hp => ?_) (fun H' hp => ?_)
    · obtain ⟨js, a1, a2, a3, a4, a5, a6⟩ := hp
      refine ⟨rfl, .int k, rfl, .int (1 + (i : Int)), rfl, k.toNat, 1 + i, ?_, fun H2 e2 => ?_⟩
      · show [V.int k, V.int (1 + (i : Int))] = [V.int ((k.toNat : Nat) : Int), V.int (((1 + i : Nat)) : Int)]
        rw [show ((k.toNat : Nat) : Int) = k by omega, show (((1 + i : Nat)) : Int) = 1 + (i : Int) by omega]
      · refine ⟨rfl, _, rfl, ite2 (fun c => ?_) (fun c => ?_)⟩
        · refine ⟨_, rfl, js.map V.int, e2 _ _ a1, ?_, js ++ [1 + (i : Int)], ?_, ?_, ?_, ?_, ?_, ?_⟩
          · rw [List.length_map]
            exact small1000 (by omega)
          · rw [List.map_append]
            exact upd_same
          · rw [List.length_append]
            exact Nat.add_le_add_right a2 1
          · intro j hj
            rcases List.mem_append.mp hj with hj | hj
            · exact a3 j hj
            · have := List.mem_singleton.mp hj
              omega
          · intro _
            rw [List.length_append]
            exact Nat.le_add_left _ _
          · exact (a5.trans (Keep.ex e2)).mut hD0
          · exact (a6.ex e2).upd ndl
        · refine ⟨js, e2 _ _ a1, by omega, a3, fun _ => ?_, a5.trans (Keep.ex e2), a6.ex e2⟩
          by_cases z : i = 0
          · subst z
            refine absurd ?_ c
            rw [show k.toNat.gcd (1 + 0) = 1 from Nat.gcd_one_right k.toNat]
            rfl
          · exact a4 (by omega)
    · obtain ⟨js, a1, a2, a3, a4, a5, a6⟩ := hp
      have hl : 1 ≤ js.length := a4 (by omega)
      have hb : 1 ≤ 1 + r ∧ 1 + r ≤ t := by omega
      have hkm : k * (1 + r) ≤ k * t := Int.mul_le_mul_of_nonneg_left hb.2 (by omega)
      have hk2 : 2 ≤ k * (1 + r) := by
        have := Int.mul_le_mul_of_nonneg_left hb.1 (show (0 : Int) ≤ k by omega)
        omega
      refine ⟨.int k, rfl, .int (1 + r), rfl, k, 1 + r, rfl, rfl, .inl (by constructor <;> omega), .int (1 + r), rfl, .ref d, rfl, .ref Dl, rfl, d, Dl, _, rfl, a6, a1, ndl.symm, by rw [List.length_map]; exact hl, by rw [List.length_map]; omega, fun x H2 hx hd2 k2 => ?_⟩
      obtain ⟨j, hj, rfl⟩ := List.mem_map.mp hx
      obtain ⟨j1, j2⟩ := a3 j hj
      refine ⟨1 + r, j, rfl, rfl, .inl (by constructor <;> omega), by show 2 ≤ sizeLine; decide, fun p hp => ?_⟩
      have c1 : 1 ≤ (1 + r) * j := by
        have := Int.mul_le_mul_of_nonneg_left j1 (show (0 : Int) ≤ 1 + r by omega)
        omega
      have c2 : (1 + r) * j < k * (1 + r) := by
        rw [Int.mul_comm k (1 + r)]
        exact Int.mul_lt_mul_of_pos_left j2 (by omega)
      exact q _ _ _ _ ⟨p, rfl, upd_same, hk2, hkm, c1, c2⟩ (hd2.upd (hd2.ne_new hp)) ((a5.trans k2).trans (Keep.new hp))
end
end K1

namespace K1
open PySem PySem.Spec PyProof.Rows L2 Evl
/-! ### chains -/
theorem RingAt.keep {d : Addr} {H H' : Hp} {most n s : Int} {x : V} (e : Keep d H H') (h : Dice H d) (r : RingAt H most x n s) : RingAt H' most x n s := by
  obtain ⟨t, rfl, ht, q⟩ := r
  exact ⟨t, rfl, e.tup h ht, q⟩
theorem RingAt.ex {H H' : Hp} {most n s : Int} {x : V} (e : Ex H H') (r : RingAt H most x n s) : RingAt H' most x n s := by
  obtain ⟨t, rfl, ht, q⟩ := r
  exact ⟨t, rfl, e _ _ ht, q⟩
theorem RingAt.upd {H : Hp} {most n s : Int} {x : V} {p : Addr} {o : HO} (h : ∀ t, x = .ref t → t ≠ p) (r : RingAt H most x n s) : RingAt (upd H p o) most x n s := by
  obtain ⟨t, rfl, ht, q⟩ := r
  exact ⟨t, rfl, by rw [upd_ne (h t rfl)]; exact ht, q⟩
theorem RingAt.most {H : Hp} {m m' n s : Int} {x : V} (h : m ≤ m') (r : RingAt H m x n s) : RingAt H m' x n s := by
  obtain ⟨t, rfl, ht, q1, q2, q3, q4⟩ := r
  exact ⟨t, rfl, ht, q1, by omega, q3, q4⟩
/-- rings at values, one by one -/
abbrev RingsAt (H : Hp) (most : Int) (xs : List V) (rs : List (Int × Int)) : Prop := Paired (fun x (r : Int × Int) => RingAt H most x r.1 r.2) xs rs
theorem paired_snoc {α β : Type} {R : α → β → Prop} {x : α} {y : β} (h : R x y) : ∀ {xs : List α} {ys : List β}, Paired R xs ys → Paired R (xs ++ [x]) (ys ++ [y])
  | _, _, .nil => .cons h .nil
  | _, _, .cons r t => .cons r (paired_snoc h t)
theorem paired_imp {α β : Type} {R S : α → β → Prop} (h : ∀ x y, R x y → S x y) : ∀ {xs : List α} {ys : List β}, Paired R xs ys → Paired S xs ys
  | _, _, .nil => .nil
  | _, _, .cons r t => .cons (h _ _ r) (paired_imp h t)
theorem paired_append {α β : Type} {R : α → β → Prop} : ∀ {xs xs' : List α} {ys ys' : List β}, Paired R xs ys → Paired R xs' ys' → Paired R (xs ++ xs') (ys ++ ys')
  | _, _, _, _, .nil, s => s
  | _, _, _, _, .cons r t, s => .cons r (paired_append t s)
theorem paired_get {α β : Type} {R : α → β → Prop} : ∀ {xs : List α} {ys : List β} {i : Nat} {x : α}, Paired R xs ys → xs[i]? = some x → ∃ y, ys[i]? = some y ∧ R x y
  | _, _, _, _, .nil, e => by simp at e
  | _, _, 0, _, .cons r _, e => by simp at e; subst e; exact ⟨_, rfl, r⟩
  | _, _, i + 1, x, .cons _ t, e => by
    obtain ⟨u, h1, h2⟩ := paired_get (i := i) (x := x) t (by simpa using e)
    exact ⟨u, by simpa using h1, h2⟩
theorem paired_len {α β : Type} {R : α → β → Prop} {xs : List α} {ys : List β} (h : Paired R xs ys) : xs.length = ys.length := Paired.length h
section
variable {P : Program} {w : World} {K : PySem.W.Frag} {mg : Str → Option Value} {base : Heap}
def spChain : Sp := fun vs H Q _ => ∃ (d : Addr) (g most : Int), vs = [.ref d, .int g, .int most] ∧ Dice H d ∧ 1 ≤ g ∧ g ≤ 100 ∧ 2 ≤ most ∧ most ≤ 60 ∧
  ∀ p xs rs H', H' p = some (.tup xs) → RingsAt H' most xs rs → (xs.length : Int) = g → Dice H' d → Keep d H H' → Q (.ref p) H'
/-- what stands behind i rings of the list at D -/
def ChW (d Dl : Addr) (H : Hp) (most : Int) (i : Nat) (H' : Hp) : Prop := ∃ xs rs, H' Dl = some (.lst xs) ∧ RingsAt H' most xs rs ∧ xs.length = i ∧ Keep d H H' ∧ Dice H' d
theorem ChW.turn {d Dl : Addr} {H H' H2 : Hp} {most n s : Int} {x : V} {i : Nat} (W : ChW d Dl H most i H') (ndl : d ≠ Dl) (hD0 : H Dl = none) (k : Keep d H' H2) (hd : Dice H2 d) (r : RingAt H2 most x n s) (hi : i < 1000) :
    ∃ acc, H2 Dl = some (.lst acc) ∧ acc.length < sizeLine ∧ ChW d Dl H most (i + 1) (upd H2 Dl (.lst (acc ++ [x]))) := by
  obtain ⟨xs, rs, a1, a2, a3, a4, a5⟩ := W
  have e1 : H2 Dl = some (.lst xs) := k _ _ ndl.symm a1
  have nt : ∀ {y : V} {n s : Int}, RingAt H2 most y n s → RingAt (upd H2 Dl (.lst (xs ++ [x]))) most y n s := fun {y n s} q => q.upd fun t ht => by
    obtain ⟨t', rfl, ht', _⟩ := q
    cases ht
    exact ne_of ht' e1 (by intro z; cases z)
  refine ⟨xs, e1, small1000 (by omega), xs ++ [x], rs ++ [(n, s)], upd_same, paired_snoc (R := fun x (r : Int × Int) => RingAt (upd H2 Dl (.lst (xs ++ [_]))) most x r.1 r.2) (y := (n, s)) (nt r) (paired_imp (R := fun x (r : Int × Int) => RingAt H' most x r.1 r.2) (fun y r' q => nt (q.keep k a5)) a2), ?_, (a4.trans k).mut hD0, hd.upd ndl⟩
  rw [List.length_append, a3]
  rfl
end
end K1

namespace K1
open PySem PySem.Spec PyProof.Rows L2 Evl
/-! ### judges of rings and chains -/
/-- no tuple -/
inductive NotTup (K : PySem.W.Frag) (H : Hp) : V → Prop where
  | bl (b : Bool) : NotTup K H (.bl b)
  | non : NotTup K H .non
  | int (i : Int) : NotTup K H (.int i)
  | str (x : Str) : NotTup K H (.str x)
  | lst {a : Addr} {xs : List V} (e : H a = some (.lst xs)) : NotTup K H (.ref a)
  | dK {a : Addr} {kvs : List (Key × V)} (e : H a = some (.dK kvs)) : NotTup K H (.ref a)
theorem NotTup.ty {K : PySem.W.Frag} {H : Hp} {x : V} (h : NotTup K H x) : ∃ t : Value, TyX K H x t ∧ PySem.W.kitOne K t (.type "tuple") = some false := by
  cases h with
  | bl b => exact ⟨_, .base (.bl b), (kit_ty (by decide +kernel))⟩
  | non => exact ⟨_, .base .non, (kit_ty (by decide +kernel))⟩
  | int x => exact ⟨_, .base (.int x), (kit_ty (by decide +kernel))⟩
  | str x => exact ⟨_, .base (.str x), (kit_ty (by decide +kernel))⟩
  | lst e => exact ⟨_, .base (.lst e), (kit_ty (by decide +kernel))⟩
  | dK e => exact ⟨_, .base (.dK e), (kit_ty (by decide +kernel))⟩
theorem NotTup.mono {K : PySem.W.Frag} {H H' : Hp} {x : V} (e : Ex H H') (h : NotTup K H x) : NotTup K H' x := by
  cases h with
  | bl b => exact .bl b
  | non => exact .non
  | int x => exact .int x
  | str x => exact .str x
  | lst q => exact .lst (e _ _ q)
  | dK q => exact .dK (e _ _ q)
theorem BtwB.mono {K : PySem.W.Frag} {H H' : Hp} {lo hi : Int} {x : V} {b : Bool} (e : Ex H H') (h : BtwB K H lo hi x b) : BtwB K H' lo hi x b := by
  cases h with
  | int i => exact .int i
  | no h => exact .no (h.mono e)
theorem BtwB.yes {K : PySem.W.Frag} {H : Hp} {lo hi i : Int} (h1 : lo ≤ i) (h2 : i ≤ hi) (h3 : -(10 ^ 60) < i) (h4 : i < 10 ^ 60) : BtwB K H lo hi (.int i) true := by
  have := BtwB.int (K := K) (H := H) (lo := lo) (hi := hi) i
  rw [decide_eq_true h1, decide_eq_true h2, decide_eq_true h3, decide_eq_true h4] at this
  exact this
theorem BtwB.out {K : PySem.W.Frag} {H : Hp} {lo hi i : Int} (h1 : ¬ (lo ≤ i ∧ i ≤ hi)) : BtwB K H lo hi (.int i) false := by
  have := BtwB.int (K := K) (H := H) (lo := lo) (hi := hi) i
  have e : (decide (lo ≤ i) && decide (i ≤ hi)) = false := by
    by_cases c : lo ≤ i
    · have c2 : ¬ i ≤ hi := fun z => h1 ⟨c, z⟩
      rw [decide_eq_false c2, Bool.and_false]
    · rw [decide_eq_false c, Bool.false_and]
  rw [e, Bool.and_false] at this
  exact this
inductive PairB (K : PySem.W.Frag) (H : Hp) : V → Bool → Prop where
  | no {x : V} (h : NotTup K H x) : PairB K H x false
  | tup {a : Addr} {xs : List V} (e : H a = some (.tup xs)) : PairB K H (.ref a) (decide (xs.length = 2))
inductive RingB (K : PySem.W.Frag) (H : Hp) : V → Bool → Prop where
  | no {x : V} (h : NotTup K H x) : RingB K H x false
  | len {a : Addr} {xs : List V} (e : H a = some (.tup xs)) (h : xs.length ≠ 2) : RingB K H (.ref a) false
  | first {a : Addr} {x y : V} (e : H a = some (.tup [x, y])) (h : BtwB K H 2 60 x false) : RingB K H (.ref a) false
  | both {a : Addr} {n : Int} {y : V} {b : Bool} (e : H a = some (.tup [.int n, y])) (h1 : 2 ≤ n) (h2 : n ≤ 60) (h : BtwB K H 1 (n - 1) y b) : RingB K H (.ref a) b
theorem RingB.mono {K : PySem.W.Frag} {H H' : Hp} {x : V} {b : Bool} (e : Ex H H') (h : RingB K H x b) : RingB K H' x b := by
  cases h with
  | no h => exact .no (h.mono e)
  | len q h => exact .len (e _ _ q) h
  | first q h => exact .first (e _ _ q) (h.mono e)
  | both q h1 h2 h => exact .both (e _ _ q) h1 h2 (h.mono e)
inductive ChainB (K : PySem.W.Frag) (H : Hp) : V → Bool → Prop where
  | no {x : V} (h : NotTup K H x) : ChainB K H x false
  | len {a : Addr} {xs : List V} (e : H a = some (.tup xs)) (h : ¬ (1 ≤ xs.length ∧ xs.length ≤ 12)) : ChainB K H (.ref a) false
  | tup {a : Addr} {xs : List V} {bs : List Bool} (e : H a = some (.tup xs)) (h : 1 ≤ xs.length ∧ xs.length ≤ 12) (hb : Paired (RingB K H) xs bs) : ChainB K H (.ref a) (bs.all id)
theorem RingAt.ring {K : PySem.W.Frag} {H : Hp} {most n s : Int} {x : V} (h : RingAt H most x n s) (hm : most ≤ 60) : RingB K H x true := by
  obtain ⟨t, rfl, ht, h1, h2, h3, h4⟩ := h
  exact .both ht h1 (by omega) (.yes h3 (by omega) (by omega) (by omega))
section
variable {P : Program} {w : World} {K : PySem.W.Frag} {mg : Str → Option Value} {base : Heap}
def spIsPair (K : PySem.W.Frag) : Sp := fun vs H Q _ => ∃ x b, vs = [x] ∧ PairB K H x b ∧ ∀ H', Ex H H' → Q (.bl b) H'
theorem ok_is_pair (T : Txt K mg) {f : Addr} {fd : FuncData} (D : DefAt K mg "is_pair" sIsPair ["value"] f fd) : FnOk P w K mg base CX0 1 f fd ["value"] (spIsPair K) := by
  refine D.F.ok scIsPair (fun vs H Q E h => ?_) (fun cdv A outer s H vs Q E hr h => ?_)
  · obtain ⟨x, b, rfl, _⟩ := h
    rfl
  · obtain ⟨x, b, rfl, hb, q⟩ := h
    refine ⟨_, pss_one (ps_ret (pe_and (pe_callB call_isi (by rfl) T.z_isinstance (by decide +kernel) (pa_cons (pv 0) (pa_cons (pe_bltn (v := .ty "tuple") (by rfl) T.z_tuple (by decide +kernel) rfl) pa_nil)))
      (pe_one (pe_cmpR op_eq (pe_callB call_len (by rfl) T.z_len PySem.boot_len (pa_cons (pv 0) pa_nil)) pe_int (nomark _))))), ?_⟩
    cases hb with
    | no hn =>
      obtain ⟨t, ty, h⟩ := hn.ty
      exact ⟨x, rfl, x, .ty "tuple", t, .type "tuple", false, rfl, .ty _, ty, h, false, rfl, iteF (q _ (Ex.refl _))⟩
    | @tup a xs e =>
      refine ⟨_, rfl, .ref a, .ty "tuple", .type "tuple", .type "tuple", true, rfl, .ty _, .base (.tup e), kit_ty (by decide +kernel), true, rfl, iteT ?_⟩
      refine ⟨_, rfl, _, xs.length, rfl, .inr ⟨_, SqT.of e, rfl⟩, rfl, ?_⟩
      have e2 : decide (V.int (xs.length : Int) = V.int 2) = decide (xs.length = 2) := by
        by_cases c : xs.length = 2
        · rw [c]
          rfl
        · rw [decide_eq_false c, decide_eq_false (fun z => c (by have := V.int.inj z; omega))]
      rw [e2]
      exact q _ (Ex.refl _)
def spIsRing (K : PySem.W.Frag) : Sp := fun vs H Q _ => ∃ x b, vs = [x] ∧ RingB K H x b ∧ ∀ H', Ex H H' → Q (.bl b) H'
theorem ok_is_ring (T : Txt K mg) {f : Addr} {fd : FuncData} (D : DefAt K mg "is_ring" sIsRing ["value"] f fd) : FnOk P w K mg base CX0 3 f fd ["value"] (spIsRing K) := by
  refine D.F.ok scIsRing (fun vs H Q E h => ?_) (fun cdv A outer s H vs Q E hr h => ?_)
  · obtain ⟨x, b, rfl, _⟩ := h
    rfl
  · obtain ⟨x, b, rfl, hb, q⟩ := h
    obtain ⟨f1, fd1, D1⟩ := T.d_is_pair
    obtain ⟨f2, fd2, D2⟩ := T.d_is_between
    obtain ⟨tM, vM⟩ := T.v_PLACES
    have hr1 : Room 1 _ := hr.mono (by decide)
    refine ⟨_, pss_cons (ps_if (pt_not (pt_val (pe_call (ok_is_pair T D1) hr1 (by rfl) D1.g D1.F.kp D1.b .nil pass0 (pa_cons (pv 0) pa_nil)))) (pss_one (ps_ret pe_bl)) pss_nil)
      (pss_cons (ps_asg (pv 0) (pg_tup (by rfl) (pgs_cons (pg_name (i := 1) scIsRing.nd rfl (.inl rfl)) (pgs_cons (pg_name (i := 2) scIsRing.nd rfl (.inl rfl)) pgs_nil))))
      (pss_one (ps_ret (pe_and (pe_call (ok_is_between T D2) hr (by rfl) D2.g D2.F.kp D2.b .nil pass0 (pa_cons (pv 1) (pa_cons pe_int (pa_cons (pe_glob (v := .int 60) rfl vM ⟨_, rfl⟩) pa_nil))))
        (pe_one (pe_call (ok_is_between T D2) hr (by rfl) D2.g D2.F.kp D2.b .nil pass0 (pa_cons (pv 2) (pa_cons pe_int (pa_cons (pe_op op_sub (pv 1) pe_int) pa_nil))))))))), ?_⟩
    cases hb with
    | no h => exact ⟨x, rfl, x, false, rfl, .no h, fun H1 e1 => ⟨false, rfl, iteT (q _ e1)⟩⟩
    | @len a xs e h => exact ⟨_, rfl, .ref a, false, rfl, by have := PairB.tup (K := K) e; rw [decide_eq_false h] at this; exact this, fun H1 e1 => ⟨false, rfl, iteT (q _ e1)⟩⟩
    | @first a x y e h =>
      refine ⟨_, rfl, .ref a, true, rfl, .tup e, fun H1 e1 => ⟨true, rfl, iteF ?_⟩⟩
      refine ⟨_, rfl, a, [x, y], rfl, SqT.of (e1 _ _ e), rfl, x, [y], rfl, y, [], rfl, rfl, ?_⟩
      exact ⟨x, rfl, x, 2, 60, false, rfl, h.mono e1, fun H2 e2 => ⟨false, rfl, iteF (q _ (e1.trans e2))⟩⟩
    | @both a n y b e h1 h2 h =>
      refine ⟨_, rfl, .ref a, true, rfl, .tup e, fun H1 e1 => ⟨true, rfl, iteF ?_⟩⟩
      refine ⟨_, rfl, a, [.int n, y], rfl, SqT.of (e1 _ _ e), rfl, .int n, [y], rfl, y, [], rfl, rfl, ?_⟩
      refine ⟨.int n, rfl, .int n, 2, 60, true, rfl, .yes h1 h2 (by omega) (by omega), fun H2 e2 => ⟨true, rfl, iteT ?_⟩⟩
      exact ⟨y, rfl, .int n, rfl, n, 1, rfl, rfl, y, 1, n - 1, b, rfl, h.mono (e1.trans e2), fun H3 e3 => q _ ((e1.trans e2).trans e3)⟩
def spIsChain (K : PySem.W.Frag) : Sp := fun vs H Q _ => ∃ x b, vs = [x] ∧ ChainB K H x b ∧ ∀ H', Ex H H' → Q (.bl b) H'
theorem ok_is_chain (T : Txt K mg) {f : Addr} {fd : FuncData} (D : DefAt K mg "is_chain" sIsChain ["value"] f fd) : FnOk P w K mg base CX0 4 f fd ["value"] (spIsChain K) := by
  refine D.F.ok scIsChain (fun vs H Q E h => ?_) (fun cdv A outer s H vs Q E hr h => ?_)
  · obtain ⟨x, b, rfl, _⟩ := h
    rfl
  · obtain ⟨x, b, rfl, hb, q⟩ := h
    obtain ⟨f1, fd1, D1⟩ := T.d_is_ring
    obtain ⟨tM, vM⟩ := T.v_RINGS
    refine ⟨_, pss_cons (ps_if (PW.pt (pw_or (pt_not (pt_val (pe_callB call_isi (by rfl) T.z_isinstance (by decide +kernel) (pa_cons (pv 0) (pa_cons (pe_bltn (v := .ty "tuple") (by rfl) T.z_tuple (by decide +kernel) rfl) pa_nil)))))
        (pw_or1 (pt_not (pt_chain op_le op_le pe_int (pe_callB call_len (by rfl) T.z_len PySem.boot_len (pa_cons (pv 0) pa_nil)) (pe_glob (v := .int 12) rfl vM ⟨_, rfl⟩)))))) (pss_one (ps_ret pe_bl)) pss_nil)
      (pss_one (ps_ret (pe_callB (cr_all rfl) (by rfl) T.z_all (by decide +kernel) (pa_cons (pe_lc (own := [("ring", 1)]) (g := gName 1) (tt := tYes) rfl scIsChain.nd (pi_tup (pv 0))
          (blkOk_by (N := nIsChain) (sc := defScope sIsChain) (by decide +kernel)) (fun _ _ _ _ _ => pg_name (i := 1) scIsChain.nd rfl (Or.inl rfl)) (fun _ _ _ _ _ => pts_nil)
          (fun _ _ _ _ _ => pe_call (ok_is_ring T D1) hr (by rfl) D1.g D1.F.kp D1.b .nil pass0 (pa_cons (pv 1) pa_nil))) pa_nil)))), ?_⟩
    cases hb with
    | no hn =>
      obtain ⟨t, ty, h⟩ := hn.ty
      exact ⟨x, rfl, x, .ty "tuple", t, .type "tuple", false, rfl, .ty _, ty, h, false, rfl, iteT (iteT (q _ (Ex.refl _)))⟩
    | @len a xs e h =>
      refine ⟨_, rfl, .ref a, .ty "tuple", .type "tuple", .type "tuple", true, rfl, .ty _, .base (.tup e), kit_ty (by decide +kernel), true, rfl, iteF ?_⟩
      refine ⟨_, rfl, _, xs.length, rfl, .inr ⟨_, SqT.of e, rfl⟩, _, _, rfl, rfl, _, rfl, ite2 (fun c => ?_) (fun c => ?_)⟩
      · refine ⟨_, _, rfl, rfl, _, rfl, ?_⟩
        have c2 : ¬ ((xs.length : Int) ≤ 12) := fun z => h ⟨by have : (1 : Int) ≤ (xs.length : Int) := of_decide_eq_true c; omega, by omega⟩
        rw [decide_eq_false c2]
        exact iteT (q _ (Ex.refl _))
      · exact ⟨_, rfl, iteT (q _ (Ex.refl _))⟩
    | @tup a xs bs e h hb =>
      refine ⟨_, rfl, .ref a, .ty "tuple", .type "tuple", .type "tuple", true, rfl, .ty _, .base (.tup e), kit_ty (by decide +kernel), true, rfl, iteF ?_⟩
      refine ⟨_, rfl, _, xs.length, rfl, .inr ⟨_, SqT.of e, rfl⟩, _, _, rfl, rfl, _, rfl, ite2 (fun c => ?_) (fun c => ?_)⟩
      · refine ⟨_, _, rfl, rfl, _, rfl, ?_⟩
        rw [decide_eq_true (show (xs.length : Int) ≤ 12 by omega)]
        refine iteF ?_
        refine ⟨_, rfl, a, rfl, ⟨_, SqT.of e⟩, fun Dl hD => ?_⟩
        refine lc_tup (K := K) (a := a) (xs := xs) (fun i H' => H' Dl = some (.lst ((bs.take i).map V.bl)) ∧ Ex H H') ⟨upd_same, Ex.new hD⟩ (fun i H' _ hp => SqT.of (hp.2 _ _ e)) (fun i x H' hx hp => ?_) (fun H' hp => ?_)
        · obtain ⟨y, hy, hR⟩ := paired_get hb hx
          refine ⟨rfl, ?_⟩
          dsimp only [tYes]
          rw [if_pos rfl]
          refine ⟨x, rfl, x, y, rfl, hR.mono hp.2, fun H2 e2 => ⟨_, e2 _ _ hp.1, ?_, ?_, ?_⟩⟩
          · have := (List.getElem?_eq_some_iff.mp hx).1
            rw [List.length_map, List.length_take]
            exact small1000 (Nat.le_trans (Nat.min_le_left _ _) (by omega))
          · rw [upd_same, List.take_add_one, hy, List.map_append]
            rfl
          · exact Ex.mut (hp.2.trans e2) hD
        · refine ⟨Dl, bs, rfl, ?_, q _ hp.2⟩
          have e3 : bs.take xs.length = bs := List.take_of_length_le (by rw [paired_len hb]; exact Nat.le_refl _)
          have h1 := hp.1
          rw [e3] at h1
          exact SqL.of h1
      · exact absurd (decide_eq_true (show (1 : Int) ≤ (xs.length : Int) by omega)) c
end
end K1

namespace K1
open PySem PySem.Spec PyProof.Rows L2 Evl
/-! ### orders and diagonals -/
section
variable {P : Program} {w : World} {K : PySem.W.Frag} {mg : Str → Option Value} {base : Heap}
def spCheckInteger (K : PySem.W.Frag) : Sp := fun vs H Q _ => ∃ i : Int, vs = [.int i] ∧ -(10 ^ 60) < i ∧ i < 10 ^ 60 ∧ ∀ H', Ex H H' → Q .non H'
def spCheckRing (K : PySem.W.Frag) : Sp := fun vs H Q _ => ∃ x, vs = [x] ∧ RingB K H x true ∧ ∀ H', Ex H H' → Q .non H'
def spCheckChain (K : PySem.W.Frag) : Sp := fun vs H Q _ => ∃ x, vs = [x] ∧ ChainB K H x true ∧ ∀ H', Ex H H' → Q .non H'
theorem ok_check_chain (T : Txt K mg) {f : Addr} {fd : FuncData} (D : DefAt K mg "check_chain" sCheckChain ["chain"] f fd) : FnOk P w K mg base CX0 5 f fd ["chain"] (spCheckChain K) := by
  refine D.F.ok scCheckChain (fun vs H Q E h => ?_) (fun cdv A outer s H vs Q E hr h => ?_)
  · obtain ⟨x, rfl, _⟩ := h
    rfl
  · obtain ⟨x, rfl, hb, q⟩ := h
    obtain ⟨f1, fd1, D1⟩ := T.d_is_chain
    refine ⟨_, pss_one (ps_if (pt_not (pt_val (pe_call (ok_is_chain T D1) hr (by rfl) D1.g D1.F.kp D1.b .nil pass0 (pa_cons (pv 0) pa_nil)))) pss_never pss_nil), ?_⟩
    exact ⟨_, rfl, x, true, rfl, hb, fun H1 e1 => ⟨true, rfl, iteF (q _ e1)⟩⟩
def spLets : Sp := fun vs H Q _ => ∃ x n s p c, vs = [x, .int p, .int c] ∧ RingAt H 60 x n s ∧ ∀ H', Ex H H' → Q (.bl (decide ((c * s - p) % n = 0))) H'
theorem ok_lets (T : Txt K mg) {f : Addr} {fd : FuncData} (D : DefAt K mg "lets" sLets ["ring", "place", "diagonal"] f fd) : FnOk P w K mg base CX0 1 f fd ["ring", "place", "diagonal"] spLets := by
  refine D.F.ok scLets (fun vs H Q E h => ?_) (fun cdv A outer s H vs Q E hr h => ?_)
  · obtain ⟨x, n, s, p, c, rfl, _⟩ := h
    rfl
  · obtain ⟨x, n, s, p, c, rfl, hx, q⟩ := h
    refine ⟨_, pss_one (ps_ret (pe_cmpR op_eq (pe_op op_mod (pe_op op_sub (pe_op op_mul (pv 2) (pe_ix ix_tup (pv 0) pe_int (fun _ _ => rfl))) (pv 1)) (pe_ix ix_tup (pv 0) pe_int (fun _ _ => rfl))) pe_int (nomark _))), ?_⟩
    obtain ⟨t, rfl, ht, h1, h2, h3, h4⟩ := hx
    have ht1 := SqT.of (K := K) ht
    refine ⟨_, rfl, _, rfl, t, _, 1, .int s, rfl, rfl, ht1, rfl, c, s, rfl, rfl, .inr (by constructor <;> omega), _, rfl, _, _, rfl, rfl, _, rfl, t, _, 0, .int n, rfl, rfl, ht1, rfl, _, n, rfl, rfl, by omega, rfl, ?_⟩
    have e : decide (V.int ((c * s - p) % n) = V.int 0) = decide ((c * s - p) % n = 0) := by
      by_cases z : (c * s - p) % n = 0
      · rw [z]
        rfl
      · rw [decide_eq_false z, decide_eq_false (fun y => z (V.int.inj y))]
    show Q (V.bl (decide (V.int ((c * s - p) % n) = V.int 0))) H
    rw [e]
    exact q _ (Ex.refl _)
def spDoesLet : Sp := fun vs H Q _ => ∃ x n s p c, vs = [x, .int p, .int c] ∧ RingAt H 60 x n s ∧ 0 ≤ p ∧ p < n ∧ -(10 ^ 60) < c ∧ c < 10 ^ 60 ∧ ∀ H', Ex H H' → Q (.bl (decide ((c * s) % n = p))) H'
end
end K1

namespace K1
open PySem PySem.Spec PyProof.Rows L2 Evl HM LX
/-! ### heaps -/
def hv (h : List Nat) : List V := h.map fun (n : Nat) => V.int (n : Int)
theorem hv_len (h : List Nat) : (hv h).length = h.length := List.length_map ..
theorem hv_get {h : List Nat} {c : Nat} (hc : c < h.length) : (hv h)[c]? = some (V.int (hAt h c : Int)) := by
  unfold hv
  rw [List.getElem?_map, hAt_lt hc]
  rfl
def HeapAt (H : Hp) (p : Addr) (h : List Nat) : Prop := H p = some (.tup (hv h))
/-- a heap that the package takes -/
structure Good (h : List Nat) : Prop where
  heap : IsHeap h
  len : h.length ≤ 60
  top : hAt h 0 ≤ 60
theorem Good.all {h : List Nat} (G : Good h) (c : Nat) : hAt h c ≤ 60 := Nat.le_trans (G.heap.le (Nat.zero_le c)) G.top
section
variable {P : Program} {w : World} {K : PySem.W.Frag} {mg : Str → Option Value} {base : Heap}
def spCheckBetween (K : PySem.W.Frag) : Sp := fun vs H Q _ => ∃ i lo hi : Int, vs = [.int i, .int lo, .int hi] ∧ lo ≤ i ∧ i ≤ hi ∧ -(10 ^ 60) < i ∧ i < 10 ^ 60 ∧ ∀ H', Ex H H' → Q .non H'
theorem ok_check_between (T : Txt K mg) {f : Addr} {fd : FuncData} (D : DefAt K mg "check_between" sCheckBetween ["value", "low", "high"] f fd) : FnOk P w K mg base CX0 3 f fd ["value", "low", "high"] (spCheckBetween K) := by
  refine D.F.ok scCheckBetween (fun vs H Q E h => ?_) (fun cdv A outer s H vs Q E hr h => ?_)
  · obtain ⟨i, lo, hi, rfl, _⟩ := h
    rfl
  · obtain ⟨i, lo, hi, rfl, h1, h2, h3, h4, q⟩ := h
    obtain ⟨f1, fd1, D1⟩ := T.d_is_between
    refine ⟨_, pss_one (ps_if (pt_not (pt_val (pe_call (ok_is_between T D1) hr (by rfl) D1.g D1.F.kp D1.b .nil pass0 (pa_cons (pv 0) (pa_cons (pv 1) (pa_cons (pv 2) pa_nil)))))) pss_never pss_nil), ?_⟩
    exact ⟨_, rfl, _, rfl, _, rfl, _, lo, hi, true, rfl, .yes h1 h2 h3 h4, fun H1 e1 => ⟨true, rfl, iteF (q _ e1)⟩⟩
def spIsHeap (K : PySem.W.Frag) : Sp := fun vs H Q _ => ∃ p h, vs = [.ref p] ∧ HeapAt H p h ∧ Good h ∧ ∀ H', Ex H H' → Q (.bl true) H'
theorem ok_is_heap (T : Txt K mg) {f : Addr} {fd : FuncData} (D : DefAt K mg "is_heap" sIsHeap ["value"] f fd) : FnOk P w K mg base CX0 3 f fd ["value"] (spIsHeap K) := by
  refine D.F.ok scIsHeap (fun vs H Q E h => ?_) (fun cdv A outer s H vs Q E hr h => ?_)
  · obtain ⟨p, h, rfl, _⟩ := h
    rfl
  · obtain ⟨p, h, rfl, hp, G, q⟩ := h
    obtain ⟨f1, fd1, D1⟩ := T.d_is_between
    obtain ⟨tM, vM⟩ := T.v_SIDE
    refine ⟨_, pss_cons (ps_if (PW.pt (pw_or (pt_not (pt_val (pe_callB call_isi (by rfl) T.z_isinstance (by decide +kernel) (pa_cons (pv 0) (pa_cons (pe_bltn (v := .ty "tuple") (by rfl) T.z_tuple (by decide +kernel) rfl) pa_nil)))))
        (pw_or1 (pt_cmpR op_gt (pe_callB call_len (by rfl) T.z_len PySem.boot_len (pa_cons (pv 0) pa_nil)) (pe_glob (v := .int 60) rfl vM ⟨_, rfl⟩) (nomark _))))) (pss_one (ps_ret pe_bl)) pss_nil)
      (pss_cons (ps_set (i := 1) scIsHeap.nd rfl (.inl rfl) (pe_glob (v := .int 60) rfl vM ⟨_, rfl⟩))
      (pss_cons (ps_for PassesOwn.never rfl (pi_tup (pv 0)) (pg_name (i := 2) scIsHeap.nd rfl (.inl rfl))
        (pss_cons (ps_if (pt_not (pt_val (pe_call (ok_is_between T D1) hr (by rfl) D1.g D1.F.kp D1.b .nil pass0 (pa_cons (pv 2) (pa_cons pe_int (pa_cons (pv 1) pa_nil)))))) (pss_one (ps_ret pe_bl)) pss_nil)
        (pss_one (ps_set (i := 1) scIsHeap.nd rfl (.inl rfl) (pv 2)))))
      (pss_one (ps_ret pe_bl)))), ?_⟩
    refine ⟨_, rfl, .ref p, .ty "tuple", .type "tuple", .type "tuple", true, rfl, .ty _, .base (.tup hp), kit_ty (by decide +kernel), true, rfl, iteF ?_⟩
    refine ⟨_, rfl, _, (hv h).length, rfl, .inr ⟨_, SqT.of hp, rfl⟩, _, _, rfl, rfl, _, rfl, ?_⟩
    rw [hv_len, decide_eq_false (show ¬ (60 : Int) < (h.length : Int) by have := G.len; omega)]
    refine iteF ?_
    refine ⟨_, rfl, p, rfl, ⟨_, SqT.of hp⟩, for_tup (K := K) (a := p) (xs := hv h) (fun i σ' H' => ∃ (a : Nat) (y : Option V), σ' = [some (.ref p), some (.int (a : Int)), y] ∧ hAt h i ≤ a ∧ a ≤ 60 ∧ Ex H H') ⟨60, none, rfl, G.all 0, Nat.le_refl _, Ex.refl _⟩ (fun i σ' H' _ hW => ?_) (fun i x σ' H' hx hW => ?_) (fun σ' H' hW => ?_)⟩
    · obtain ⟨_, _, _, _, _, e⟩ := hW
      exact SqT.of (e _ _ hp)
    · obtain ⟨a, y, rfl, h1, h2, e⟩ := hW
      have hi : i < h.length := by
        have := (List.getElem?_eq_some_iff.mp hx).1
        rw [hv_len] at this
        exact this
      rw [hv_get hi] at hx
      obtain rfl := Option.some.inj hx
      have hp0 := G.heap.pos i hi
      refine ⟨_, rfl, _, rfl, _, 1, a, true, rfl, .yes (by omega) (by omega) (by omega) (by omega), fun H1 e1 => ⟨true, rfl, iteF ?_⟩⟩
      exact ⟨_, rfl, hAt h i, _, rfl, G.heap.fall i, by omega, e.trans e1⟩
    · obtain ⟨a, y, rfl, h1, h2, e⟩ := hW
      exact q _ e
def spCheckHeap (K : PySem.W.Frag) : Sp := fun vs H Q _ => ∃ p h, vs = [.ref p] ∧ HeapAt H p h ∧ Good h ∧ ∀ H', Ex H H' → Q .non H'
def spHeightAt : Sp := fun vs H Q _ => ∃ p h, ∃ c : Nat, vs = [.ref p, .int (c : Int)] ∧ HeapAt H p h ∧ ∀ H', Ex H H' → Q (.int (hAt h c : Int)) H'
theorem ok_height_at (T : Txt K mg) {f : Addr} {fd : FuncData} (D : DefAt K mg "height_at" sHeightAt ["heap", "column"] f fd) : FnOk P w K mg base CX0 1 f fd ["heap", "column"] spHeightAt := by
  refine D.F.ok scHeightAt (fun vs H Q E h => ?_) (fun cdv A outer s H vs Q E hr h => ?_)
  · obtain ⟨p, h, c, rfl, _⟩ := h
    rfl
  · obtain ⟨p, h, c, rfl, hp, q⟩ := h
    refine ⟨_, pss_one (ps_ret (pe_ifExp (pt_cmpR op_lt (pv 1) (pe_callB call_len_seq (by rfl) T.z_len PySem.boot_len (pa_cons (pv 0) pa_nil)) (nomark _)) (pe_ix ix_tup (pv 0) (pv 1) (fun _ _ => rfl)) pe_int)), ?_⟩
    refine ⟨_, rfl, _, rfl, p, _, rfl, .inr (SqT.of hp), _, _, rfl, rfl, _, rfl, ite2 (fun cc => ?_) (fun cc => ?_)⟩
    · have hc : c < h.length := by
        have : (c : Int) < ((hv h).length : Int) := of_decide_eq_true cc
        rw [hv_len] at this
        omega
      exact ⟨_, rfl, _, rfl, p, _, _, _, rfl, rfl, SqT.of hp, atI_nat (hv_get hc), q _ (Ex.refl _)⟩
    · have hc : h.length ≤ c := by
        have : ¬ (c : Int) < ((hv h).length : Int) := fun z => cc (decide_eq_true z)
        rw [hv_len] at this
        omega
      have := hAt_ge hc
      have q2 := q _ (Ex.refl _)
      rw [this] at q2
      exact q2
/-- the list of columns -/
def spOpenColumns : Sp := fun vs H Q _ => ∃ p h, vs = [.ref p] ∧ HeapAt H p h ∧ h.length ≤ 100 ∧ ∀ a H', Ex H H' → H a = none → H' a = some (.lst (hv (oc h))) → Q (.ref a) H'
theorem oc_snoc (h : List Nat) (i : Nat) : ((List.range (i + 1)).filter (opn h)) = ((List.range i).filter (opn h)) ++ (if opn h i = true then [i] else []) := by
  rw [List.range_succ, List.filter_append]
  by_cases q : opn h i = true
  · rw [if_pos q, List.filter_cons, if_pos q]
    rfl
  · rw [if_neg q, List.filter_cons, if_neg q]
    rfl
theorem hv_snoc (l : List Nat) (c : Nat) : hv (l ++ [c]) = hv l ++ [V.int (c : Int)] := by
  unfold hv
  rw [List.map_append]
  rfl
theorem ok_open_columns (T : Txt K mg) {f : Addr} {fd : FuncData} (D : DefAt K mg "open_columns" sOpenColumns ["heap"] f fd) : FnOk P w K mg base CX0 2 f fd ["heap"] spOpenColumns := by
  refine D.F.ok scOpenColumns (fun vs H Q E h => ?_) (fun cdv A outer s H vs Q E hr h => ?_)
  · obtain ⟨p, h, rfl, _⟩ := h
    rfl
  · obtain ⟨p, h, rfl, hp, hl, q⟩ := h
    obtain ⟨f1, fd1, D1⟩ := T.d_height_at
    refine ⟨_, pss_cons (ps_set (i := 1) scOpenColumns.nd rfl (.inl rfl) (pe_callTy cr_range1 (by rfl) T.z_range (by decide +kernel) (pa_cons (pe_op op_add (pe_callB call_len_seq (by rfl) T.z_len PySem.boot_len (pa_cons (pv 0) pa_nil)) pe_int) pa_nil)))
      (pss_one (ps_ret (pe_lc (own := [("column", 2)]) (g := gName 2) rfl scOpenColumns.nd (pi_rngV (pv 1)) (blkOk_by (N := nOpenColumns) (sc := defScope sOpenColumns) (by decide +kernel)) (fun _ _ _ _ _ => pg_name (i := 2) scOpenColumns.nd rfl (Or.inl rfl))
        (fun _ _ _ _ _ => pts_one (PW.pt (pw_or (pt_cmpR op_eq (pv 2) pe_int (nomark _)) (pw_or1 (pt_cmpR op_gt (pe_ix (show IxR _ (rIxT K) from ix_tup) (pv 0) (pe_op op_sub (pv 2) pe_int) (fun _ _ => rfl)) (pe_call (ok_height_at T D1) hr (by rfl) D1.g D1.F.kp D1.b .nil pass0 (pa_cons (pv 0) (pa_cons (pv 2) pa_nil))) (nomark _))))))
        (fun _ _ _ _ _ => pv 2)))), ?_⟩
    refine ⟨_, rfl, p, _, rfl, .inr (SqT.of hp), _, _, rfl, rfl, _, rfl, fun r hr0 => ?_⟩
    have e1 := Ex.new (o := .rng 0 (((hv h).length : Int) + 1)) hr0
    have hr1 : (upd H r (.rng 0 (((hv h).length : Int) + 1))) r = some (.rng 0 (((hv h).length : Int) + 1)) := upd_same
    generalize hG : upd H r (.rng 0 (((hv h).length : Int) + 1)) = H1 at *
    have hp1 : HeapAt H1 p h := e1 _ _ hp
    refine ⟨.ref r, rfl, r, 0, _, rfl, hr1, ⟨by decide, by decide, by rw [hv_len]; omega, by rw [hv_len]; omega⟩, fun Dl hD => ?_⟩
    refine lc_range (lo := 0) (n := (((hv h).length : Int) + 1 - 0).toNat) (fun i H' => H' Dl = some (.lst (hv ((List.range i).filter (opn h)))) ∧ Ex H1 H') ⟨upd_same, Ex.new hD⟩ (fun i H' hi hW => ?_) (fun H' hW => ?_)
    · obtain ⟨w1, w2⟩ := hW
      rw [hv_len] at hi
      have hi' : i ≤ h.length := by omega
      have hp2 := w2 _ _ hp1
      have ll : (hv ((List.range i).filter (opn h))).length < sizeLine := by
        rw [hv_len]
        have := List.length_filter_le (opn h) (List.range i)
        rw [List.length_range] at this
        exact small1000 (by omega)
      have fin : ∀ H3, Ex H' H3 → opn h i = true → ∃ acc, H3 Dl = some (.lst acc) ∧ acc.length < sizeLine ∧ (upd H3 Dl (.lst (acc ++ [V.int (0 + (i : Int))]))) Dl = some (.lst (hv ((List.range (i + 1)).filter (opn h)))) ∧ Ex H1 (upd H3 Dl (.lst (acc ++ [V.int (0 + (i : Int))]))) := fun H3 e3 o => by
        refine ⟨_, e3 _ _ w1, ll, ?_, Ex.mut (w2.trans e3) hD⟩
        rw [upd_same, oc_snoc, if_pos o, hv_snoc, Int.zero_add]
      refine ⟨rfl, _, rfl, rfl, _, rfl, ite2 (fun c => ?_) (fun c => ?_)⟩
      · have c2 : i = 0 := by
          have := V.int.inj (of_decide_eq_true c)
          omega
        have o : opn h i = true := by
          unfold opn
          rw [decide_eq_true c2, Bool.true_or]
        exact ⟨_, rfl, fin H' (Ex.refl _) o⟩
      · have c2 : i ≠ 0 := fun z => c (by subst z; rfl)
        have hx : (hv h)[i - 1]? = some (V.int (hAt h (i - 1) : Int)) := hv_get (by omega)
        refine ⟨_, rfl, _, rfl, _, _, rfl, rfl, p, _, _, _, rfl, rfl, SqT.of hp2, at_of (show (0 + (i : Int)) - 1 = ((i - 1 : Nat) : Int) by omega) hx, _, rfl, _, rfl, p, h, i, by rw [Int.zero_add]; rfl, hp2, fun H3 e3 => ⟨_, _, rfl, rfl, _, rfl, ite2 (fun cc => ?_) (fun cc => ?_)⟩⟩
        · have o : opn h i = true := by
            unfold opn
            have := of_decide_eq_true cc
            rw [decide_eq_true (show hAt h i < hAt h (i - 1) by omega), Bool.or_true]
          exact ⟨_, rfl, fin H3 e3 o⟩
        · have o : ¬ opn h i = true := fun z => by
            unfold opn at z
            rw [decide_eq_false c2, Bool.false_or] at z
            have := of_decide_eq_true z
            exact cc (decide_eq_true (by omega))
          refine ⟨?_, w2.trans e3⟩
          rw [oc_snoc, if_neg o, List.append_nil]
          exact e3 _ _ w1
    · obtain ⟨w1, w2⟩ := hW
      have e : (((hv h).length : Int) + 1 - 0).toNat = h.length + 1 := by
        rw [hv_len]
        omega
      rw [e] at w1
      exact q Dl H' (e1.trans w2) (fresh_back e1 hD) w1
end
end K1

namespace K1
open PySem PySem.Spec PyProof.Rows L2 Evl HM LX
theorem hv_set {l : List Nat} {d x : Nat} : (hv l).set d (V.int (x : Int)) = hv (l.set d x) := by
  unfold hv
  rw [List.map_set]
theorem hv_at {l : List Nat} {i x : Nat} (h : l[i]? = some x) : (hv l)[i]? = some (V.int (x : Int)) := by
  unfold hv
  rw [List.getElem?_map, h]
  rfl
theorem hv_inv {l : List Nat} {i : Nat} {v : V} (h : (hv l)[i]? = some v) : ∃ x, l[i]? = some x ∧ v = V.int (x : Int) := by
  unfold hv at h
  rw [List.getElem?_map] at h
  cases e : l[i]? with
  | none =>
    rw [e] at h
    cases h
  | some x =>
    rw [e] at h
    exact ⟨x, rfl, (Option.some.inj h).symm⟩
theorem take_filter_snoc {α : Type} {l : List α} {i : Nat} {x : α} (g : α → Bool) (h : l[i]? = some x) : (l.take (i + 1)).filter g = (l.take i).filter g ++ (if g x = true then [x] else []) := by
  rw [List.take_add_one, h, List.filter_append]
  show _ ++ [x].filter g = _
  by_cases q : g x = true
  · rw [if_pos q, List.filter_cons, if_pos q]
    rfl
  · rw [if_neg q, List.filter_cons, if_neg q]
    rfl
section
variable {P : Program} {w : World} {K : PySem.W.Frag} {mg : Str → Option Value} {base : Heap}
def spHeaped : Sp := fun vs H Q _ => ∃ p a h cols, vs = [.ref p, .ref a] ∧ HeapAt H p h ∧ H a = some (.lst (hv cols)) ∧ h.length ≤ 100 ∧ (∀ c ∈ cols, c ≤ h.length) ∧
  ∀ r H', Ex H H' → HeapAt H' r ((hts h (cnt cols)).filter fun x => decide (0 < x)) → Q (.ref r) H'
theorem ok_heaped (T : Txt K mg) {f : Addr} {fd : FuncData} (D : DefAt K mg "heaped" sHeaped ["heap", "columns"] f fd) : FnOk P w K mg base CX0 1 f fd ["heap", "columns"] spHeaped := by
  refine D.F.ok scHeaped (fun vs H Q E h => ?_) (fun cdv A outer s H vs Q E hr h => ?_)
  · obtain ⟨p, a, h, cols, rfl, _⟩ := h
    rfl
  · obtain ⟨p, a, h, cols, rfl, hp, ha, hl, hc, q⟩ := h
    refine ⟨_, pss_cons (ps_set (i := 2) scHeaped.nd rfl (.inl rfl) (pe_op op_cat (pe_callTy call_list_of (by rfl) T.z_list (by decide +kernel) (pa_cons (pv 0) pa_nil)) (pe_lst (pa_cons pe_int pa_nil))))
      (pss_cons (ps_for PassesOwn.never rfl (pi_list (pv 1)) (pg_name (i := 3) scHeaped.nd rfl (.inl rfl)) (pss_one (ps_augS (pv 2) (pv 3) get_list pe_int ip_add set_list)))
      (pss_one (ps_ret (pe_callTy call_tuple_of (by rfl) T.z_tuple (by decide +kernel) (pa_cons (pe_lc (own := [("height", 4)]) (g := gName 4) rfl scHeaped.nd (pi_list (pv 2)) (blkOk_by (N := nHeaped) (sc := defScope sHeaped) (by decide +kernel)) (fun _ _ _ _ _ => pg_name (i := 4) scHeaped.nd rfl (Or.inl rfl))
        (fun _ _ _ _ _ => pts_one (pt_cmpR op_gt (pv 4) pe_int (nomark _))) (fun _ _ _ _ _ => pv 4)) pa_nil))))), ?_⟩
    refine ⟨_, rfl, p, hv h, rfl, .inr (SqT.of hp), fun l1 hl1 => ⟨by show 1 ≤ sizeLine; decide, fun l2 hl2 => ?_⟩⟩
    have e1 := Ex.new (o := .lst (hv h)) hl1
    have e2 := Ex.new (o := .lst [V.int 0]) hl2
    refine ⟨l1, l2, hv h, [V.int 0], rfl, rfl, e2 _ _ upd_same, upd_same, ?_, fun l3 hl3 => ?_⟩
    · rw [hv_len]
      exact sz_of (by show h.length + 1 ≤ _; omega)
    have e03 : Ex H (upd (upd (upd H l1 (.lst (hv h))) l2 (.lst [V.int 0])) l3 (.lst (hv h ++ [V.int 0]))) := (e1.trans e2).trans (Ex.new hl3)
    have n3 : H l3 = none := fresh_back (e1.trans e2) hl3
    have g3 : (upd (upd (upd H l1 (.lst (hv h))) l2 (.lst [V.int 0])) l3 (.lst (hv h ++ [V.int 0]))) l3 = some (.lst (hv (hts h (cnt [])))) := by
      rw [upd_same, show hts h (cnt []) = h ++ [0] from (hts_zero h).symm, hv_snoc]
      rfl
    generalize upd (upd (upd H l1 (.lst (hv h))) l2 (.lst [V.int 0])) l3 (.lst (hv h ++ [V.int 0])) = H3 at *
    refine ⟨.ref a, rfl, a, rfl, ⟨_, SqL.of (e03 _ _ ha)⟩, for_list (K := K) (a := a) (xs := hv cols) (fun i σ' H' => ∃ y, σ' = [some (.ref p), some (.ref a), some (.ref l3), y, none] ∧ H' l3 = some (.lst (hv (hts h (cnt (cols.take i))))) ∧ Ex H H') ⟨none, rfl, g3, e03⟩ (fun i σ' H' _ hW => ?_) (fun i x σ' H' hx hW => ?_) (fun σ' H' hW => ?_)⟩
    · obtain ⟨_, _, _, e⟩ := hW
      exact SqL.of (e _ _ ha)
    · obtain ⟨y, rfl, w1, w2⟩ := hW
      obtain ⟨c, hcx, rfl⟩ := hv_inv hx
      have hcl : c ≤ h.length := hc c (List.mem_of_getElem? hcx)
      have gt : (hts h (cnt (cols.take i)))[c]? = some (hAt h c + cnt (cols.take i) c) := hts_get hcl
      refine ⟨_, rfl, _, rfl, l3, _, c, _, rfl, rfl, SqL.of w1, hv_at gt, _, _, rfl, rfl, l3, _, _, c, rfl, rfl, w1, ?_, ?_⟩
      · refine ixN_nat ?_
        rw [hv_len, hts_len]
        omega
      · refine ⟨_, rfl, ?_, Ex.mut w2 n3⟩
        rw [upd_same]
        dsimp only
        rw [show ((hAt h c + cnt (cols.take i) c : Nat) : Int) + 1 = ((hAt h c + cnt (cols.take i) c + 1 : Nat) : Int) by omega, hv_set, hts_set hcl, List.take_add_one, hcx]
        rfl
    · obtain ⟨y, rfl, w1, w2⟩ := hW
      rw [hv_len, List.take_length] at w1
      refine ⟨.ref l3, rfl, l3, rfl, ⟨_, SqL.of w1⟩, fun Dl hD => ?_⟩
      refine lc_list (K := K) (a := l3) (xs := hv (hts h (cnt cols))) (fun i H2 => H2 Dl = some (.lst (hv (((hts h (cnt cols)).take i).filter fun x => decide (0 < x)))) ∧ Ex H' H2) ⟨upd_same, Ex.new hD⟩ (fun i H2 _ hp2 => SqL.of (hp2.2 _ _ w1)) (fun i x H2 hx hp2 => ?_) (fun H2 hp2 => ?_)
      · obtain ⟨v1, v2⟩ := hp2
        obtain ⟨c, hcx, rfl⟩ := hv_inv hx
        refine ⟨rfl, _, rfl, _, _, rfl, rfl, _, rfl, ite2 (fun cc => ?_) (fun cc => ?_)⟩
        · have c0 : 0 < c := by
            have := of_decide_eq_true cc
            omega
          refine ⟨_, rfl, _, v1, ?_, ?_, Ex.mut v2 hD⟩
          · rw [hv_len]
            have a1 := List.length_filter_le (fun x => decide (0 < x)) ((hts h (cnt cols)).take i)
            have a2 : ((hts h (cnt cols)).take i).length ≤ (hts h (cnt cols)).length := by
              rw [List.length_take]
              exact Nat.min_le_right _ _
            rw [hts_len] at a2
            exact small1000 (by omega)
          · rw [upd_same, take_filter_snoc _ hcx, if_pos (decide_eq_true c0), hv_snoc]
        · have c0 : ¬ 0 < c := fun z => cc (decide_eq_true (by omega))
          refine ⟨?_, v2⟩
          rw [take_filter_snoc _ hcx, if_neg (by rw [decide_eq_false c0]; decide), List.append_nil]
          exact v1
      · obtain ⟨v1, v2⟩ := hp2
        rw [hv_len, List.take_length] at v1
        exact ⟨Dl, _, rfl, .inl ⟨SqL.of v1, fun r hr => q r _ ((w2.trans v2).trans (Ex.new hr)) upd_same⟩⟩
/-- which columns a ring with a place adds to -/
def gl (h : List Nat) (n s q : Int) (c : Nat) : Bool := opn h c && decide ((dg h c * s - q) % n = 0)
theorem gl_opn {h : List Nat} {n s q : Int} (c : Nat) (z : gl h n s q c = true) : opn h c = true := by
  unfold gl at z
  exact (Bool.and_eq_true_iff.mp z).1
def spGrownBy : Sp := fun vs H Q _ => ∃ p h x n s q, vs = [.ref p, x, .int q] ∧ HeapAt H p h ∧ IsHeap h ∧ h.length ≤ 100 ∧ RingAt H 60 x n s ∧ ∀ r H', Ex H H' → HeapAt H' r (grow h (gl h n s q)) → Q (.ref r) H'
theorem ok_grown_by (T : Txt K mg) {f : Addr} {fd : FuncData} (D : DefAt K mg "grown_by" sGrownBy ["heap", "ring", "place"] f fd) : FnOk P w K mg base CX0 3 f fd ["heap", "ring", "place"] spGrownBy := by
  refine D.F.ok scGrownBy (fun vs H Q E h => ?_) (fun cdv A outer s₀ H vs Q E hr h => ?_)
  · obtain ⟨p, h, x, n, s, q, rfl, _⟩ := h
    rfl
  · obtain ⟨p, h, x, n, s, q, rfl, hp, IH, hl, hx, k⟩ := h
    obtain ⟨f1, fd1, D1⟩ := T.d_open_columns
    obtain ⟨f2, fd2, D2⟩ := T.d_heaped
    obtain ⟨f3, fd3, D3⟩ := T.d_lets
    obtain ⟨f4, fd4, D4⟩ := T.d_height_at
    have hr1 : Room 1 _ := hr.mono (by decide)
    refine ⟨_, pss_cons (ps_set (i := 3) scGrownBy.nd rfl (.inl rfl) (pe_call (ok_open_columns T D1) hr (by rfl) D1.g D1.F.kp D1.b .nil pass0 (pa_cons (pv 0) pa_nil)))
      (pss_one (ps_ret (pe_call (ok_heaped T D2) hr1 (by rfl) D2.g D2.F.kp D2.b .nil pass0 (pa_cons (pv 0) (pa_cons (pe_lc (own := [("column", 4)]) (g := gName 4) rfl scGrownBy.nd (pi_list (pv 3)) (blkOk_by (N := nGrownBy) (sc := defScope sGrownBy) (by decide +kernel)) (fun _ _ _ _ _ => pg_name (i := 4) scGrownBy.nd rfl (Or.inl rfl))
        (fun _ _ _ _ _ => pts_one (pt_val (pe_call (ok_lets T D3) hr1 (by rfl) D3.g D3.F.kp D3.b .nil pass0 (pa_cons (pv 1) (pa_cons (pv 2) (pa_cons (pe_op op_sub (pv 4) (pe_call (ok_height_at T D4) hr1 (by rfl) D4.g D4.F.kp D4.b .nil pass0 (pa_cons (pv 0) (pa_cons (pv 4) pa_nil)))) pa_nil))))))
        (fun _ _ _ _ _ => pv 4)) pa_nil))))), ?_⟩
    refine ⟨_, rfl, p, h, rfl, hp, hl, fun a H1 e1 ha0 ha => ?_⟩
    have hp1 : HeapAt H1 p h := e1 _ _ hp
    have hx1 := hx.ex e1
    let lt : Nat → Bool := fun c => decide ((dg h c * s - q) % n = 0)
    refine ⟨_, rfl, .ref a, rfl, a, rfl, ⟨_, SqL.of ha⟩, fun Dl hD => ?_⟩
    refine lc_list (K := K) (a := a) (xs := hv (oc h)) (fun i H2 => H2 Dl = some (.lst (hv (((oc h).take i).filter lt))) ∧ Ex H1 H2) ⟨upd_same, Ex.new hD⟩ (fun i H2 _ hp2 => SqL.of (hp2.2 _ _ ha)) (fun i x H2 hx2 hp2 => ?_) (fun H2 hp2 => ?_)
    · obtain ⟨v1, v2⟩ := hp2
      obtain ⟨c, hcx, rfl⟩ := hv_inv hx2
      have ol : (oc h).length ≤ 101 := by
        unfold oc
        have := List.length_filter_le (opn h) (List.range (h.length + 1))
        rw [List.length_range] at this
        omega
      refine ⟨rfl, _, rfl, _, rfl, _, rfl, _, rfl, _, rfl, p, h, c, rfl, v2 _ _ hp1, fun H3 e3 => ⟨_, _, rfl, rfl, _, n, s, q, dg h c, rfl, (hx1.ex v2).ex e3, fun H4 e4 => ⟨_, rfl, ite2 (fun cc => ?_) (fun cc => ?_)⟩⟩⟩
      · refine ⟨_, rfl, _, e4 _ _ (e3 _ _ v1), ?_, ?_, Ex.mut ((v2.trans e3).trans e4) hD⟩
        · rw [hv_len]
          have a1 := List.length_filter_le lt ((oc h).take i)
          have a2 : ((oc h).take i).length ≤ (oc h).length := by
            rw [List.length_take]
            exact Nat.min_le_right _ _
          exact small1000 (by omega)
        · rw [upd_same, take_filter_snoc lt hcx, if_pos (show lt c = true from cc), hv_snoc]
      · refine ⟨?_, (v2.trans e3).trans e4⟩
        rw [take_filter_snoc lt hcx, if_neg (show ¬ lt c = true from cc), List.append_nil]
        exact e4 _ _ (e3 _ _ v1)
    · obtain ⟨v1, v2⟩ := hp2
      rw [hv_len, List.take_length] at v1
      have ef : (oc h).filter lt = (List.range (h.length + 1)).filter (gl h n s q) := by
        unfold oc
        rw [List.filter_filter]
        refine List.filter_congr fun c _ => ?_
        unfold gl
        rw [Bool.and_comm]
      refine ⟨p, Dl, h, (oc h).filter lt, rfl, v2 _ _ hp1, v1, hl, fun c hc => opn_le (oc_mem.mp (List.mem_filter.mp hc).1), fun r H3 e3 hrr => ?_⟩
      rw [ef, hts_filter IH.pos (g := gl h n s q) (fun c hc => by rw [range_filter_cnt, decide_eq_true (show c < h.length + 1 by omega), Bool.true_and])] at hrr
      exact k r H3 ((e1.trans v2).trans e3) hrr
end
end K1

/-! own walks: comprehensions and loops over zip and enumerate of tuples, zip of lists of any lengths -/
namespace ZW
open PySem PySem.Spec PyProof.Rows L2
theorem lc_zipT {K : PySem.W.Frag} {a b : Addr} {xs ys : List V} {n : Nat} {g : TG} {tt : TT} {te : TE} {vs : List Nat} {σ : L2.St} {H1 : Hp} {D : Addr} {Qd : Hp → Prop} (hx : n ≤ xs.length) (hy : n ≤ ys.length) (hn : xs.length ≤ n ∨ ys.length ≤ n)
    (Pv : Nat → Hp → Prop) (h0 : Pv 0 (upd H1 D (.lst []))) (hq : ∀ i H, Pv i H → SqT K H a xs ∧ SqT K H b ys)
    (hs : ∀ i x y T H, i < n → xs[i]? = some x → ys[i]? = some y → Pv i H → H T = none → g (.ref T) (wipe σ vs) (upd H T (.tup [x, y])) fun σ2 H2 => wipe σ2 vs = wipe σ vs ∧ tt σ2 H2 fun c H3 =>
      if c = true then te σ2 H3 fun z H4 => ∃ acc, H4 D = some (.lst acc) ∧ acc.length < sizeLine ∧ Pv (i + 1) (upd H4 D (.lst (acc ++ [z]))) else Pv (i + 1) H3) (hd : ∀ H, Pv n H → Qd H) :
    ∃ W : Nat → Nat → Hp → Prop, (∃ m, W 0 m (upd H1 D (.lst []))) ∧ ∀ i m H, W i m H →
      ((RZ.ItzT K a b).stop i H ∧ Qd H) ∨ ((RZ.ItzT K a b).go i H ∧ ∃ Nx : Hp → Prop, (∀ H', Nx H' → ∃ m', m' < m ∧ W (i + 1) m' H') ∧ ∀ v H', (RZ.ItzT K a b).yld i H v H' → g v (wipe σ vs) H' fun σ2 H2 => wipe σ2 vs = wipe σ vs ∧ tt σ2 H2 fun c H3 =>
        if c = true then te σ2 H3 fun z H4 => ∃ acc, H4 D = some (.lst acc) ∧ acc.length < sizeLine ∧ Nx (upd H4 D (.lst (acc ++ [z]))) else Nx H3) := by
  refine ⟨fun i m H => m = n - i ∧ i ≤ n ∧ Pv i H, ⟨n, (Nat.sub_zero n).symm, Nat.zero_le _, h0⟩, ?_⟩
  rintro i m H ⟨rfl, hi, p⟩
  obtain ⟨qa, qb⟩ := hq i H p
  by_cases hlt : i < n
  · have e1 : xs[i]? = some (xs[i]'(by omega)) := List.getElem?_eq_getElem _
    have e2 : ys[i]? = some (ys[i]'(by omega)) := List.getElem?_eq_getElem _
    refine .inr ⟨⟨xs, ys, _, _, qa, qb, e1, e2⟩, Pv (i + 1), fun H' p' => ⟨n - (i + 1), by omega, rfl, hlt, p'⟩, fun v H' hy' => ?_⟩
    obtain ⟨T, x, y, rfl, nT, rfl, fx, fy⟩ := hy'
    exact hs i x y T H hlt (fx _ qa) (fy _ qb) p nT
  · have e : i = n := by omega
    subst e
    exact .inl ⟨⟨xs, ys, qa, qb, by omega⟩, hd H p⟩
theorem for_zipT {K : PySem.W.Frag} {a b : Addr} {xs ys : List V} {n : Nat} {g : TG} {tb : TS} {D : Ends} {σ : L2.St} {H : Hp} (hx : n ≤ xs.length) (hy : n ≤ ys.length) (hn : xs.length ≤ n ∨ ys.length ≤ n)
    (Pv : Nat → L2.St → Hp → Prop) (h0 : Pv 0 σ H) (hq : ∀ i σ H, Pv i σ H → SqT K H a xs ∧ SqT K H b ys)
    (hs : ∀ i x y T σ H, i < n → xs[i]? = some x → ys[i]? = some y → Pv i σ H → H T = none → g (.ref T) σ (upd H T (.tup [x, y])) fun σ2 H2 => tb { D with nx := Pv (i + 1), ct := Pv (i + 1), bk := D.nx } σ2 H2) (hd : ∀ σ H, Pv n σ H → D.nx σ H) :
    ∃ W : Nat → Nat → L2.St → Hp → Prop, (∃ m, W 0 m σ H) ∧ ∀ i m σ H, W i m σ H →
      ((RZ.ItzT K a b).stop i H ∧ D.nx σ H) ∨ ((RZ.ItzT K a b).go i H ∧ ∃ N : L2.St → Hp → Prop, (∀ σ' H', N σ' H' → ∃ m', m' < m ∧ W (i + 1) m' σ' H') ∧ ∀ v H', (RZ.ItzT K a b).yld i H v H' → g v σ H' fun σ2 H2 => tb { D with nx := N, ct := N, bk := D.nx } σ2 H2) := by
  refine ⟨fun i m σ H => m = n - i ∧ i ≤ n ∧ Pv i σ H, ⟨n, (Nat.sub_zero n).symm, Nat.zero_le _, h0⟩, ?_⟩
  rintro i m σ H ⟨rfl, hi, p⟩
  obtain ⟨qa, qb⟩ := hq i σ H p
  by_cases hlt : i < n
  · have e1 : xs[i]? = some (xs[i]'(by omega)) := List.getElem?_eq_getElem _
    have e2 : ys[i]? = some (ys[i]'(by omega)) := List.getElem?_eq_getElem _
    refine .inr ⟨⟨xs, ys, _, _, qa, qb, e1, e2⟩, Pv (i + 1), fun σ' H' p' => ⟨n - (i + 1), by omega, rfl, hlt, p'⟩, fun v H' hy' => ?_⟩
    obtain ⟨T, x, y, rfl, nT, rfl, fx, fy⟩ := hy'
    exact hs i x y T σ H hlt (fx _ qa) (fy _ qb) p nT
  · have e : i = n := by omega
    subst e
    exact .inl ⟨⟨xs, ys, qa, qb, by omega⟩, hd σ H p⟩
theorem lc_zipL {K : PySem.W.Frag} {a b : Addr} {xs ys : List V} {n : Nat} {g : TG} {tt : TT} {te : TE} {vs : List Nat} {σ : L2.St} {H1 : Hp} {D : Addr} {Qd : Hp → Prop} (hx : n ≤ xs.length) (hy : n ≤ ys.length) (hn : xs.length ≤ n ∨ ys.length ≤ n)
    (Pv : Nat → Hp → Prop) (h0 : Pv 0 (upd H1 D (.lst []))) (hq : ∀ i H, Pv i H → SqL K H a xs ∧ SqL K H b ys)
    (hs : ∀ i x y T H, i < n → xs[i]? = some x → ys[i]? = some y → Pv i H → H T = none → g (.ref T) (wipe σ vs) (upd H T (.tup [x, y])) fun σ2 H2 => wipe σ2 vs = wipe σ vs ∧ tt σ2 H2 fun c H3 =>
      if c = true then te σ2 H3 fun z H4 => ∃ acc, H4 D = some (.lst acc) ∧ acc.length < sizeLine ∧ Pv (i + 1) (upd H4 D (.lst (acc ++ [z]))) else Pv (i + 1) H3) (hd : ∀ H, Pv n H → Qd H) :
    ∃ W : Nat → Nat → Hp → Prop, (∃ m, W 0 m (upd H1 D (.lst []))) ∧ ∀ i m H, W i m H →
      ((Itz K a b).stop i H ∧ Qd H) ∨ ((Itz K a b).go i H ∧ ∃ Nx : Hp → Prop, (∀ H', Nx H' → ∃ m', m' < m ∧ W (i + 1) m' H') ∧ ∀ v H', (Itz K a b).yld i H v H' → g v (wipe σ vs) H' fun σ2 H2 => wipe σ2 vs = wipe σ vs ∧ tt σ2 H2 fun c H3 =>
        if c = true then te σ2 H3 fun z H4 => ∃ acc, H4 D = some (.lst acc) ∧ acc.length < sizeLine ∧ Nx (upd H4 D (.lst (acc ++ [z]))) else Nx H3) := by
  refine ⟨fun i m H => m = n - i ∧ i ≤ n ∧ Pv i H, ⟨n, (Nat.sub_zero n).symm, Nat.zero_le _, h0⟩, ?_⟩
  rintro i m H ⟨rfl, hi, p⟩
  obtain ⟨qa, qb⟩ := hq i H p
  by_cases hlt : i < n
  · have e1 : xs[i]? = some (xs[i]'(by omega)) := List.getElem?_eq_getElem _
    have e2 : ys[i]? = some (ys[i]'(by omega)) := List.getElem?_eq_getElem _
    refine .inr ⟨⟨xs, ys, _, _, qa, qb, e1, e2⟩, Pv (i + 1), fun H' p' => ⟨n - (i + 1), by omega, rfl, hlt, p'⟩, fun v H' hy' => ?_⟩
    obtain ⟨T, x, y, rfl, nT, rfl, fx, fy⟩ := hy'
    exact hs i x y T H hlt (fx _ qa) (fy _ qb) p nT
  · have e : i = n := by omega
    subst e
    exact .inl ⟨⟨xs, ys, qa, qb, by omega⟩, hd H p⟩
theorem for_zipL {K : PySem.W.Frag} {a b : Addr} {xs ys : List V} {n : Nat} {g : TG} {tb : TS} {D : Ends} {σ : L2.St} {H : Hp} (hx : n ≤ xs.length) (hy : n ≤ ys.length) (hn : xs.length ≤ n ∨ ys.length ≤ n)
    (Pv : Nat → L2.St → Hp → Prop) (h0 : Pv 0 σ H) (hq : ∀ i σ H, Pv i σ H → SqL K H a xs ∧ SqL K H b ys)
    (hs : ∀ i x y T σ H, i < n → xs[i]? = some x → ys[i]? = some y → Pv i σ H → H T = none → g (.ref T) σ (upd H T (.tup [x, y])) fun σ2 H2 => tb { D with nx := Pv (i + 1), ct := Pv (i + 1), bk := D.nx } σ2 H2) (hd : ∀ σ H, Pv n σ H → D.nx σ H) :
    ∃ W : Nat → Nat → L2.St → Hp → Prop, (∃ m, W 0 m σ H) ∧ ∀ i m σ H, W i m σ H →
      ((Itz K a b).stop i H ∧ D.nx σ H) ∨ ((Itz K a b).go i H ∧ ∃ N : L2.St → Hp → Prop, (∀ σ' H', N σ' H' → ∃ m', m' < m ∧ W (i + 1) m' σ' H') ∧ ∀ v H', (Itz K a b).yld i H v H' → g v σ H' fun σ2 H2 => tb { D with nx := N, ct := N, bk := D.nx } σ2 H2) := by
  refine ⟨fun i m σ H => m = n - i ∧ i ≤ n ∧ Pv i σ H, ⟨n, (Nat.sub_zero n).symm, Nat.zero_le _, h0⟩, ?_⟩
  rintro i m σ H ⟨rfl, hi, p⟩
  obtain ⟨qa, qb⟩ := hq i σ H p
  by_cases hlt : i < n
  · have e1 : xs[i]? = some (xs[i]'(by omega)) := List.getElem?_eq_getElem _
    have e2 : ys[i]? = some (ys[i]'(by omega)) := List.getElem?_eq_getElem _
    refine .inr ⟨⟨xs, ys, _, _, qa, qb, e1, e2⟩, Pv (i + 1), fun σ' H' p' => ⟨n - (i + 1), by omega, rfl, hlt, p'⟩, fun v H' hy' => ?_⟩
    obtain ⟨T, x, y, rfl, nT, rfl, fx, fy⟩ := hy'
    exact hs i x y T σ H hlt (fx _ qa) (fy _ qb) p nT
  · have e : i = n := by omega
    subst e
    exact .inl ⟨⟨xs, ys, qa, qb, by omega⟩, hd σ H p⟩
theorem for_enumT {K : PySem.W.Frag} {a : Addr} {xs : List V} {g : TG} {tb : TS} {D : Ends} {σ : L2.St} {H : Hp} (Pv : Nat → L2.St → Hp → Prop) (h0 : Pv 0 σ H) (hq : ∀ i σ H, Pv i σ H → SqT K H a xs)
    (hs : ∀ i x T σ H, xs[i]? = some x → Pv i σ H → H T = none → g (.ref T) σ (upd H T (.tup [.int (i : Nat), x])) fun σ2 H2 => tb { D with nx := Pv (i + 1), ct := Pv (i + 1), bk := D.nx } σ2 H2) (hd : ∀ σ H, Pv xs.length σ H → D.nx σ H) :
    ∃ W : Nat → Nat → L2.St → Hp → Prop, (∃ m, W 0 m σ H) ∧ ∀ i m σ H, W i m σ H →
      ((EnT.IteT K a).stop i H ∧ D.nx σ H) ∨ ((EnT.IteT K a).go i H ∧ ∃ N : L2.St → Hp → Prop, (∀ σ' H', N σ' H' → ∃ m', m' < m ∧ W (i + 1) m' σ' H') ∧ ∀ v H', (EnT.IteT K a).yld i H v H' → g v σ H' fun σ2 H2 => tb { D with nx := N, ct := N, bk := D.nx } σ2 H2) := by
  refine ⟨fun i m σ H => m = xs.length - i ∧ i ≤ xs.length ∧ Pv i σ H, ⟨xs.length, (Nat.sub_zero _).symm, Nat.zero_le _, h0⟩, ?_⟩
  rintro i m σ H ⟨rfl, hi, p⟩
  have qa := hq i σ H p
  by_cases hlt : i < xs.length
  · have e1 : xs[i]? = some (xs[i]'hlt) := List.getElem?_eq_getElem _
    refine .inr ⟨⟨xs, _, qa, e1⟩, Pv (i + 1), fun σ' H' p' => ⟨xs.length - (i + 1), by omega, rfl, hlt, p'⟩, fun v H' hy' => ?_⟩
    obtain ⟨T, x, rfl, nT, rfl, fx⟩ := hy'
    exact hs i x T σ H (fx _ qa) p nT
  · have e : i = xs.length := by omega
    subst e
    exact .inl ⟨⟨xs, qa, rfl⟩, hd σ H p⟩
theorem lc_enumT {K : PySem.W.Frag} {a : Addr} {xs : List V} {g : TG} {tt : TT} {te : TE} {vs : List Nat} {σ : L2.St} {H1 : Hp} {D : Addr} {Qd : Hp → Prop} (Pv : Nat → Hp → Prop) (h0 : Pv 0 (upd H1 D (.lst []))) (hq : ∀ i H, Pv i H → SqT K H a xs)
    (hs : ∀ i x T H, xs[i]? = some x → Pv i H → H T = none → g (.ref T) (wipe σ vs) (upd H T (.tup [.int (i : Nat), x])) fun σ2 H2 => wipe σ2 vs = wipe σ vs ∧ tt σ2 H2 fun c H3 =>
      if c = true then te σ2 H3 fun z H4 => ∃ acc, H4 D = some (.lst acc) ∧ acc.length < sizeLine ∧ Pv (i + 1) (upd H4 D (.lst (acc ++ [z]))) else Pv (i + 1) H3) (hd : ∀ H, Pv xs.length H → Qd H) :
    ∃ W : Nat → Nat → Hp → Prop, (∃ m, W 0 m (upd H1 D (.lst []))) ∧ ∀ i m H, W i m H →
      ((EnT.IteT K a).stop i H ∧ Qd H) ∨ ((EnT.IteT K a).go i H ∧ ∃ Nx : Hp → Prop, (∀ H', Nx H' → ∃ m', m' < m ∧ W (i + 1) m' H') ∧ ∀ v H', (EnT.IteT K a).yld i H v H' → g v (wipe σ vs) H' fun σ2 H2 => wipe σ2 vs = wipe σ vs ∧ tt σ2 H2 fun c H3 =>
        if c = true then te σ2 H3 fun z H4 => ∃ acc, H4 D = some (.lst acc) ∧ acc.length < sizeLine ∧ Nx (upd H4 D (.lst (acc ++ [z]))) else Nx H3) := by
  refine ⟨fun i m H => m = xs.length - i ∧ i ≤ xs.length ∧ Pv i H, ⟨xs.length, (Nat.sub_zero _).symm, Nat.zero_le _, h0⟩, ?_⟩
  rintro i m H ⟨rfl, hi, p⟩
  have qa := hq i H p
  by_cases hlt : i < xs.length
  · have e1 : xs[i]? = some (xs[i]'hlt) := List.getElem?_eq_getElem _
    refine .inr ⟨⟨xs, _, qa, e1⟩, Pv (i + 1), fun H' p' => ⟨xs.length - (i + 1), by omega, rfl, hlt, p'⟩, fun v H' hy' => ?_⟩
    obtain ⟨T, x, rfl, nT, rfl, fx⟩ := hy'
    exact hs i x T H (fx _ qa) p nT
  · have e : i = xs.length := by omega
    subst e
    exact .inl ⟨⟨xs, qa, rfl⟩, hd H p⟩
end ZW

namespace K1
open PySem PySem.Spec PyProof.Rows L2 Evl HM LX ZW
theorem grow_good {h : List Nat} {g : Nat → Bool} (G : IsHeap h) (h1 : h.length < 60) (h2 : hAt h 0 < 60) (hg : ∀ c, g c = true → opn h c = true) : Good (grow h g) := by
  refine ⟨grow_heap G hg, ?_, ?_⟩
  · rw [grow_len]
    have := b2n_le (g h.length)
    omega
  · rw [hAt_grow hg]
    have := b2n_le (g 0)
    omega
/-- ints of a tuple of places -/
def PlacesT (H : Hp) (a : Addr) (ps : List Int) : Prop := H a = some (.tup (ps.map V.int))
/-- the heaps behind each ring -/
def hseq (rs : List (Int × Int)) (ps : List Int) : Nat → List Nat
  | 0 => []
  | i + 1 => grow (hseq rs ps i) (gl (hseq rs ps i) (K1N.nAt rs i) (K1N.sAt rs i) (ps.getD i 0))
theorem hseq_ok (rs : List (Int × Int)) (ps : List Int) : ∀ i, IsHeap (hseq rs ps i) ∧ (hseq rs ps i).length ≤ i ∧ hAt (hseq rs ps i) 0 ≤ i
  | 0 => ⟨IsHeap.nil, Nat.le_refl _, Nat.le_refl _⟩
  | i + 1 => by
    obtain ⟨a, b, c⟩ := hseq_ok rs ps i
    refine ⟨grow_heap a gl_opn, ?_, ?_⟩
    · show (grow _ _).length ≤ _
      rw [grow_len]
      have := b2n_le (gl (hseq rs ps i) (K1N.nAt rs i) (K1N.sAt rs i) (ps.getD i 0) (hseq rs ps i).length)
      omega
    · show hAt (grow _ _) 0 ≤ _
      rw [hAt_grow gl_opn]
      have := b2n_le (gl (hseq rs ps i) (K1N.nAt rs i) (K1N.sAt rs i) (ps.getD i 0) 0)
      omega
theorem rings_nth4 {H : Hp} {most : Int} {xs : List V} {rs : List (Int × Int)} (h : RingsAt H most xs rs) {j : Nat} {x : V} (hx : xs[j]? = some x) : RingAt H most x (K1N.nAt rs j : Int) (K1N.sAt rs j) := by
  obtain ⟨r, hr, q⟩ := paired_get h hx
  have e : rs.getD j (0, 0) = r := by
    rw [List.getD_eq_getElem?_getD, hr]
    rfl
  obtain ⟨t, e1, e2, e3, e4, e5, e6⟩ := id q
  unfold K1N.nAt K1N.sAt
  rw [e, show ((r.1.toNat : Nat) : Int) = r.1 by omega]
  exact q
theorem rings_ex4 {H H' : Hp} {most : Int} {xs : List V} {rs : List (Int × Int)} (e : Ex H H') (h : RingsAt H most xs rs) : RingsAt H' most xs rs := paired_imp (fun _ _ z => RingAt.ex e z) h
theorem rings_chain4 {K : PySem.W.Frag} {H : Hp} {a : Addr} {xs : List V} {rs : List (Int × Int)} (h : RingsAt H 60 xs rs) (ha : H a = some (.tup xs)) (h1 : 1 ≤ xs.length) (h2 : xs.length ≤ 12) : ChainB K H (.ref a) true := by
  have p : ∀ {xs : List V} {rs : List (Int × Int)}, RingsAt H 60 xs rs → Paired (RingB K H) xs (List.replicate xs.length true) := by
    intro xs rs h
    induction h with
    | nil => exact .nil
    | cons r _ ih => exact .cons (RingAt.ring r (Int.le_refl _)) ih
  have q := ChainB.tup (K := K) ha ⟨h1, h2⟩ (p h)
  rw [show (List.replicate xs.length true).all id = true by simp] at q
  exact q
section
variable {P : Program} {w : World} {K : PySem.W.Frag} {mg : Str → Option Value} {base : Heap}
def spGrown : Sp := fun vs H Q _ => ∃ p h x n s q, vs = [.ref p, x, .int q] ∧ HeapAt H p h ∧ IsHeap h ∧ h.length < 60 ∧ hAt h 0 < 60 ∧ RingAt H 60 x n s ∧ 0 ≤ q ∧ q < n ∧ ∀ r H', Ex H H' → HeapAt H' r (grow h (gl h n s q)) → Q (.ref r) H'
def spCheckPlaces (K : PySem.W.Frag) : Sp := fun vs H Q _ => ∃ c a xs rs ps, vs = [.ref c, .ref a] ∧ H c = some (.tup xs) ∧ RingsAt H 60 xs rs ∧ xs.length ≤ 12 ∧ PlacesT H a ps ∧ ps.length = xs.length ∧ (∀ j : Nat, j < ps.length → 0 ≤ ps.getD j 0 ∧ ps.getD j 0 < (K1N.nAt rs j : Int)) ∧ ∀ H', Ex H H' → Q .non H'
def spLiesTold (K : PySem.W.Frag) : Sp := fun vs H Q E => spCheckPlaces K vs H (fun _ H' => Q (.bl true) H') E
theorem ok_lies_told (T : Txt K mg) {f : Addr} {fd : FuncData} (D : DefAt K mg "lies_told" sLiesTold ["chain", "value"] f fd) : FnOk P w K mg base CX0 3 f fd ["chain", "value"] (spLiesTold K) := by
  refine D.F.ok scLiesTold (fun vs H Q E h => ?_) (fun cdv A outer s₀ H vs Q E hr h => ?_)
  · obtain ⟨c, a, xs, rs, ps, rfl, _⟩ := h
    rfl
  · obtain ⟨c, a, xs, rs, ps, rfl, hc, hR, hl, ha, hlen, hb, q⟩ := h
    obtain ⟨f1, fd1, D1⟩ := T.d_is_between
    refine ⟨_, pss_cons (ps_if (PW.pt (pw_or (pt_not (pt_val (pe_callB call_isi (by rfl) T.z_isinstance (by decide +kernel) (pa_cons (pv 1) (pa_cons (pe_bltn (v := .ty "tuple") (by rfl) T.z_tuple (by decide +kernel) rfl) pa_nil)))))
        (pw_or1 (pt_cmpR op_ne (pe_callB call_len_seq (by rfl) T.z_len PySem.boot_len (pa_cons (pv 1) pa_nil)) (pe_callB call_len_seq (by rfl) T.z_len PySem.boot_len (pa_cons (pv 0) pa_nil)) (nomark _))))) (pss_one (ps_ret pe_bl)) pss_nil)
      (pss_one (ps_ret (pe_callB (cr_all rfl) (by rfl) T.z_all (by decide +kernel) (pa_cons (pe_lc (own := [("place", 2), ("ring", 3)]) (g := gTup K 2 (gCons (gName 2) (gCons (gName 3) gNil))) (tt := tYes) rfl scLiesTold.nd (RZ.pi_zipA (by rfl) T.z_zip (pa_cons (pv 1) (pa_cons (pv 0) pa_nil)))
          (blkOk_by (N := nLiesTold) (sc := defScope sLiesTold) (by decide +kernel)) (fun _ _ _ _ _ => pg_tup (by rfl) (pgs_cons (pg_name (i := 2) scLiesTold.nd rfl (.inl rfl)) (pgs_cons (pg_name (i := 3) scLiesTold.nd rfl (.inl rfl)) pgs_nil))) (fun _ _ _ _ _ => pts_nil)
          (fun _ _ _ _ _ => pe_call (ok_is_between T D1) hr (by rfl) D1.g D1.F.kp D1.b .nil pass0 (pa_cons (pv 2) (pa_cons pe_int (pa_cons (pe_op op_sub (pe_ix (show IxR _ (rIxT K) from ix_tup) (pv 3) pe_int (fun _ _ => rfl)) pe_int) pa_nil))))) pa_nil)))), ?_⟩
    refine ⟨_, rfl, .ref a, .ty "tuple", .type "tuple", .type "tuple", true, rfl, .ty _, .base (.tup ha), kit_ty (by decide +kernel), true, rfl, iteF ?_⟩
    refine ⟨_, rfl, a, _, rfl, .inr (SqT.of ha), _, rfl, c, _, rfl, .inr (SqT.of hc), rfl, _, rfl, ?_⟩
    rw [List.length_map, hlen, decide_eq_true (rfl : V.int (xs.length : Int) = V.int (xs.length : Int))]
    refine iteF ?_
    refine ⟨_, rfl, _, rfl, a, c, _, _, rfl, .inr ⟨SqT.of ha, SqT.of hc, fun Dl hD => ?_⟩⟩
    refine lc_zipT (K := K) (a := a) (b := c) (xs := ps.map V.int) (ys := xs) (n := xs.length) (by rw [List.length_map]; omega) (Nat.le_refl _) (.inr (Nat.le_refl _)) (fun i H' => H' Dl = some (.lst ((List.replicate i true).map V.bl)) ∧ Ex H H') ⟨upd_same, Ex.new hD⟩ (fun i H' hp => ⟨SqT.of (hp.2 _ _ ha), SqT.of (hp.2 _ _ hc)⟩) (fun i x y Tp H' hi hx hy hp nT => ?_) (fun H' hp => ?_)
    · have ex : ∃ p : Int, x = .int p ∧ ps.getD i 0 = p := by
        rw [List.getElem?_map] at hx
        cases e : ps[i]? with
        | none =>
          rw [e] at hx
          cases hx
        | some p =>
          rw [e] at hx
          refine ⟨p, (Option.some.inj hx).symm, ?_⟩
          rw [List.getD_eq_getElem?_getD, e]
          rfl
      obtain ⟨p, rfl, hpv⟩ := ex
      have eT := Ex.new (o := .tup [.int p, y]) nT
      have hy1 := rings_nth4 (rings_ex4 (hp.2.trans eT) hR) hy
      obtain ⟨t, rfl, ht, b1, b2, b3, b4⟩ := hy1
      obtain ⟨c0, c1⟩ := hb i (by omega)
      rw [hpv] at c0 c1
      refine ⟨Tp, _, rfl, SqT.of upd_same, rfl, .int p, [.ref t], rfl, .ref t, [], rfl, rfl, rfl, ?_⟩
      dsimp only [tYes]
      rw [if_pos rfl]
      refine ⟨_, rfl, _, rfl, t, _, 0, _, rfl, rfl, SqT.of ht, rfl, _, _, rfl, rfl, .int p, 0, _, true, rfl, .yes c0 (by omega) (by omega) (by omega), fun H3 e3 => ?_⟩
      refine ⟨_, e3 _ _ (eT _ _ hp.1), ?_, ?_, Ex.mut ((hp.2.trans eT).trans e3) hD⟩
      · rw [List.length_map, List.length_replicate]
        exact small1000 (by omega)
      · rw [upd_same, List.replicate_succ', List.map_append]
        rfl
    · refine ⟨Dl, List.replicate xs.length true, rfl, SqL.of hp.1, ?_⟩
      rw [show (List.replicate xs.length true).all id = true by simp]
      exact q _ hp.2
theorem ok_check_places (T : Txt K mg) {f : Addr} {fd : FuncData} (D : DefAt K mg "check_places" sCheckPlaces ["chain", "places"] f fd) : FnOk P w K mg base CX0 4 f fd ["chain", "places"] (spCheckPlaces K) := by
  refine D.F.ok scCheckPlaces (fun vs H Q E h => ?_) (fun cdv A outer s₀ H vs Q E hr h => ?_)
  · obtain ⟨c, a, xs, rs, ps, rfl, _⟩ := h
    rfl
  · obtain ⟨c, a, xs, rs, ps, rfl, hc, hR, hl, ha, hlen, hb, q⟩ := h
    obtain ⟨f1, fd1, D1⟩ := T.d_lies_told
    refine ⟨_, pss_one (ps_if (pt_not (pt_val (pe_call (ok_lies_told T D1) hr (by rfl) D1.g D1.F.kp D1.b .nil pass0 (pa_cons (pv 0) (pa_cons (pv 1) pa_nil))))) pss_never pss_nil), ?_⟩
    exact ⟨_, rfl, _, rfl, c, a, xs, rs, ps, rfl, hc, hR, hl, ha, hlen, hb, fun H1 e1 => ⟨true, rfl, iteF (q _ e1)⟩⟩
/-- the list of the heaps -/
def spHeapsOf : Sp := fun vs H Q _ => ∃ c a xs rs ps, vs = [.ref c, .ref a] ∧ H c = some (.tup xs) ∧ RingsAt H 60 xs rs ∧ xs.length ≤ 12 ∧ PlacesT H a ps ∧ ps.length = xs.length ∧
  ∀ (p : Addr) (as : List Addr) (H' : Hp), Ex H H' → H p = none → H' p = some (.lst (as.map V.ref)) → as.length = xs.length + 1 → (∀ i b, as[i]? = some b → HeapAt H' b (hseq rs ps i)) → Q (.ref p) H'
theorem ok_heaps_of (T : Txt K mg) {f : Addr} {fd : FuncData} (D : DefAt K mg "heaps_of" sHeapsOf ["chain", "places"] f fd) : FnOk P w K mg base CX0 4 f fd ["chain", "places"] spHeapsOf := by
  refine D.F.ok scHeapsOf (fun vs H Q E h => ?_) (fun cdv A outer s₀ H vs Q E hr h => ?_)
  · obtain ⟨c, a, xs, rs, ps, rfl, _⟩ := h
    rfl
  · obtain ⟨c, a, xs, rs, ps, rfl, hc, hR, hl, ha, hlen, q⟩ := h
    obtain ⟨f1, fd1, D1⟩ := T.d_grown_by
    refine ⟨_, pss_cons (ps_set (i := 2) scHeapsOf.nd rfl (.inl rfl) (pe_lst (pa_cons (pe_tup pa_nil) pa_nil)))
      (pss_cons (ps_for PassesOwn.never rfl (EnT.pi_enumT (by rfl) T.z_enumerate (pa_cons (pv 0) pa_nil)) (pg_tup rfl (pgs_cons (pg_name (i := 3) scHeapsOf.nd rfl (.inl rfl)) (pgs_cons (pg_name (i := 4) scHeapsOf.nd rfl (.inl rfl)) pgs_nil)))
        (pss_one (ps_expr (pe_bm PySem.F.plainAttrs_list PySem.F.slot_list_append PySem.F.type_list_append mt_append (pv 2) (pa_cons (pe_call (ok_grown_by T D1) hr (by rfl) D1.g D1.F.kp D1.b .nil pass0
          (pa_cons (pe_ix ix_list (pv 2) (pv 3) (fun _ _ => rfl)) (pa_cons (pv 4) (pa_cons (pe_ix ix_tup (pv 1) (pv 3) (fun _ _ => rfl)) pa_nil)))) pa_nil)))))
      (pss_one (ps_ret (pv 2)))), ?_⟩
    refine ⟨by show 0 ≤ sizeLine; decide, fun t0 ht0 => ⟨by show 1 ≤ sizeLine; decide, fun l hl0 => ?_⟩⟩
    have e1 := Ex.new (o := .tup []) ht0
    have e2 := e1.trans (Ex.new (o := .lst [V.ref t0]) hl0)
    have nl : H l = none := fresh_back e1 hl0
    have gl0 : (upd (upd H t0 (.tup [])) l (.lst [V.ref t0])) l = some (.lst ([t0].map V.ref)) := upd_same
    have gt0 : HeapAt (upd (upd H t0 (.tup [])) l (.lst [V.ref t0])) t0 (hseq rs ps 0) := by
      show (upd (upd H t0 (.tup [])) l (.lst [V.ref t0])) t0 = some (.tup (hv []))
      exact (Ex.new hl0) _ _ upd_same
    generalize upd (upd H t0 (.tup [])) l (.lst [V.ref t0]) = H2 at *
    refine ⟨_, rfl, c, xs, rfl, SqT.of (e2 _ _ hc), for_enumT (K := K) (a := c) (xs := xs) (fun i σ' H' => ∃ (y3 y4 : Option V) (as : List Addr), σ' = [some (.ref c), some (.ref a), some (.ref l), y3, y4] ∧ H' l = some (.lst (as.map V.ref)) ∧ as.length = i + 1 ∧ (∀ j b, as[j]? = some b → HeapAt H' b (hseq rs ps j)) ∧ Ex H H')
      ⟨none, none, [t0], rfl, gl0, rfl, fun j b hb => ?_, e2⟩ (fun i σ' H' hp => ?_) (fun i x Tp σ' H' hx hp nT => ?_) (fun σ' H' hp => ?_)⟩
    · cases j with
      | zero =>
        obtain rfl := Option.some.inj hb
        exact gt0
      | succ j => simp at hb
    · obtain ⟨_, _, _, _, _, _, _, e⟩ := hp
      exact SqT.of (e _ _ hc)
    · obtain ⟨y3, y4, as, rfl, w1, w2, w3, e⟩ := hp
      have eT := Ex.new (o := .tup [.int (i : Nat), x]) nT
      have hi : i < xs.length := (List.getElem?_eq_some_iff.mp hx).1
      have hx1 := rings_nth4 (rings_ex4 (e.trans eT) hR) hx
      have hasi : as[i]? = some (as[i]'(by omega)) := List.getElem?_eq_getElem _
      have hpi : (ps.map V.int)[i]? = some (.int (ps.getD i 0)) := by
        rw [List.getElem?_map, List.getD_eq_getElem?_getD, List.getElem?_eq_getElem (by omega)]
        rfl
      obtain ⟨ok1, ok2, ok3⟩ := hseq_ok rs ps i
      have hl1 := eT _ _ w1
      refine ⟨Tp, _, rfl, SqT.of upd_same, rfl, .int (i : Nat), [x], rfl, x, [], rfl, rfl, ?_⟩
      refine ⟨_, rfl, .inl ⟨rfl, _, SqL.of hl1⟩, _, rfl, _, rfl, l, _, _, .ref (as[i]'(by omega)), rfl, rfl, SqL.of hl1, atI_nat (by rw [List.getElem?_map, hasi]; rfl), _, rfl, _, rfl, _, rfl, a, _, _, _, rfl, rfl, SqT.of ((e.trans eT) _ _ ha), atI_nat hpi,
        as[i]'(by omega), hseq rs ps i, x, _, _, _, rfl, eT _ _ (w3 i _ hasi), ok1, by omega, hx1, fun r H4 e4 hr4 => ?_⟩
      have hl4 := e4 _ _ hl1
      have nlr : ∀ {b : Addr} {h : List Nat}, HeapAt H4 b h → b ≠ l := fun {b h} z => ne_of z hl4 (by intro y; cases y)
      refine ⟨l, _, _, rfl, rfl, hl4, ?_, some (.int (i : Nat)), some x, as ++ [r], rfl, ?_, ?_, ?_, Ex.mut ((e.trans eT).trans e4) nl⟩
      · rw [List.length_map]
        exact small1000 (by omega)
      · rw [upd_same, List.map_append]
        rfl
      · rw [List.length_append, w2]
        rfl
      · intro j b hb
        by_cases hj : j < as.length
        · rw [List.getElem?_append_left hj] at hb
          have z := e4 _ _ (eT _ _ (w3 j b hb))
          show (upd H4 l _) b = _
          rw [upd_ne (nlr z)]
          exact z
        · have ej : j = i + 1 := by
            have := (List.getElem?_eq_some_iff.mp hb).1
            rw [List.length_append] at this
            have h1 : ([r] : List Addr).length = 1 := rfl
            omega
          subst ej
          rw [List.getElem?_append_right (by omega), show i + 1 - as.length = 0 by omega] at hb
          obtain rfl := Option.some.inj hb
          show (upd H4 l _) _ = _
          rw [upd_ne (nlr hr4)]
          exact hr4
    · obtain ⟨y3, y4, as, rfl, w1, w2, w3, e⟩ := hp
      exact ⟨_, rfl, q l as H' e nl w1 w2 w3⟩
end
end K1

namespace K1
open PySem PySem.Spec PyProof.Rows L2 Evl HM LX ZW
theorem at_end {as : List Addr} {g : Nat} (h : as.length = g + 1) : atI (as.map V.ref) (-1) = some (V.ref (as[g]'(by omega))) := by
  have e : as = as.take g ++ [as[g]'(by omega)] := by
    have := List.take_append_getElem (l := as) (i := g) (by omega)
    rw [this, List.take_of_length_le (by omega)]
  have e2 : as.map V.ref = (as.take g).map V.ref ++ [V.ref (as[g]'(by omega))] := by
    conv => lhs; rw [e]
    rw [List.map_append]
    rfl
  rw [e2]
  exact atI_last _ _
section
variable {P : Program} {w : World} {K : PySem.W.Frag} {mg : Str → Option Value} {base : Heap}
def spHeapOf : Sp := fun vs H Q _ => ∃ c a xs rs ps, vs = [.ref c, .ref a] ∧ H c = some (.tup xs) ∧ RingsAt H 60 xs rs ∧ (1 ≤ xs.length ∧ xs.length ≤ 12) ∧ PlacesT H a ps ∧ ps.length = xs.length ∧ (∀ j : Nat, j < ps.length → 0 ≤ ps.getD j 0 ∧ ps.getD j 0 < (K1N.nAt rs j : Int)) ∧
  ∀ (b : Addr) H', Ex H H' → HeapAt H' b (hseq rs ps xs.length) → Q (.ref b) H'
theorem ok_heap_of (T : Txt K mg) {f : Addr} {fd : FuncData} (D : DefAt K mg "heap_of" sHeapOf ["chain", "places"] f fd) : FnOk P w K mg base CX0 6 f fd ["chain", "places"] spHeapOf := by
  refine D.F.ok scHeapOf (fun vs H Q E h => ?_) (fun cdv A outer s₀ H vs Q E hr h => ?_)
  · obtain ⟨c, a, xs, rs, ps, rfl, _⟩ := h
    rfl
  · obtain ⟨c, a, xs, rs, ps, rfl, hc, hR, hl, ha, hlen, hb, q⟩ := h
    obtain ⟨f1, fd1, D1⟩ := T.d_check_chain
    obtain ⟨f2, fd2, D2⟩ := T.d_check_places
    obtain ⟨f3, fd3, D3⟩ := T.d_heaps_of
    have hr4 : Room 4 _ := hr.mono (by decide)
    refine ⟨_, pss_cons (ps_expr (pe_call (ok_check_chain T D1) hr (by rfl) D1.g D1.F.kp D1.b .nil pass0 (pa_cons (pv 0) pa_nil)))
      (pss_cons (ps_expr (pe_call (ok_check_places T D2) hr4 (by rfl) D2.g D2.F.kp D2.b .nil pass0 (pa_cons (pv 0) (pa_cons (pv 1) pa_nil))))
      (pss_one (ps_ret (pe_ix ix_list (pe_call (ok_heaps_of T D3) hr4 (by rfl) D3.g D3.F.kp D3.b .nil pass0 (pa_cons (pv 0) (pa_cons (pv 1) pa_nil))) (pe_un un_neg pe_int) (fun _ _ => rfl))))), ?_⟩
    refine ⟨_, rfl, .ref c, rfl, rings_chain4 hR hc hl.1 hl.2, fun H1 e1 => ?_⟩
    refine ⟨_, rfl, _, rfl, c, a, xs, rs, ps, rfl, e1 _ _ hc, rings_ex4 e1 hR, hl.2, e1 _ _ ha, hlen, hb, fun H2 e2 => ?_⟩
    have e12 := e1.trans e2
    refine ⟨_, rfl, _, rfl, c, a, xs, rs, ps, rfl, e12 _ _ hc, rings_ex4 e12 hR, hl.2, e12 _ _ ha, hlen, fun p as H3 e3 hp0 hp hal hh => ?_⟩
    exact ⟨1, rfl, p, _, -1, _, rfl, rfl, SqL.of hp, at_end hal, q _ H3 (e12.trans e3) (hh _ _ (List.getElem?_eq_getElem _))⟩
def spHeapsAlong : Sp := fun vs H Q _ => ∃ c a xs rs ps, vs = [.ref c, .ref a] ∧ H c = some (.tup xs) ∧ RingsAt H 60 xs rs ∧ (1 ≤ xs.length ∧ xs.length ≤ 12) ∧ PlacesT H a ps ∧ ps.length = xs.length ∧ (∀ j : Nat, j < ps.length → 0 ≤ ps.getD j 0 ∧ ps.getD j 0 < (K1N.nAt rs j : Int)) ∧
  ∀ (r : Addr) (as : List Addr) H', Ex H H' → H' r = some (.tup (as.map V.ref)) → as.length = xs.length + 1 → (∀ i b, as[i]? = some b → HeapAt H' b (hseq rs ps i)) → Q (.ref r) H'
/-- how many squares the first columns have -/
def sumT (h : List Nat) : Nat → Nat
  | 0 => 0
  | i + 1 => sumT h i + hAt h i
theorem sumT_le {h : List Nat} (G : Good h) : ∀ i, sumT h i ≤ 60 * i
  | 0 => Nat.le_refl _
  | i + 1 => by
    show sumT h i + hAt h i ≤ _
    have := sumT_le G i
    have := G.all i
    omega
def spSquares : Sp := fun vs H Q _ => ∃ p h, vs = [.ref p] ∧ HeapAt H p h ∧ Good h ∧ ∀ r ys H', Ex H H' → H' r = some (.tup ys) → ys.length = sumT h h.length → Q (.ref r) H'
end
end K1

namespace K1
open PySem PySem.Spec PyProof.Rows L2 Evl HM LX ZW
/-! ### data: ints in lists and tuples -/
theorem dp_ints {K : PySem.W.Frag} {H : Hp} : ∀ ns : List Int, DpAll K H (ns.map V.int) (ns.map PyData.int)
  | [] => .nil
  | n :: r => .cons (.int n) (dp_ints r)
theorem can_ints : ∀ l : List Int, PyData.canLayAll0 (l.map PyData.int) = true
  | [] => rfl
  | b :: r => by simp [PyData.canLayAll0, PyData.canLay0, can_ints r]
theorem shaped_intsL (ns : List Int) : SeqAt.shaped (.list (ns.map PyData.int)) = true := by
  induction ns with
  | nil => rfl
  | cons b r ih => exact ih
theorem depth_ints : ∀ l : List Int, PyData.depthAll (l.map PyData.int) ≤ 60
  | [] => by decide
  | b :: r => by
    have := depth_ints r
    simp only [List.map_cons, PyData.depthAll, PyData.depth]
    omega
theorem shaped_intsT (ns : List Int) : SeqAt.shaped (.tuple (ns.map PyData.int)) = true := by
  unfold SeqAt.shaped
  have h1 : (PyData.tuple (ns.map PyData.int)).canLay0 = true := by simp [PyData.canLay0, can_ints ns]
  have h2 : (PyData.tuple (ns.map PyData.int)).depth ≤ 64 := by
    have := depth_ints ns
    simp only [PyData.depth]
    omega
  rw [h1, decide_eq_true h2]
  rfl
theorem eqv_intsL (ns : List Int) : PyData.eqv (.list (ns.map PyData.int)) (.list (ns.map PyData.int)) = true := SeqAt.eqv_refl _ (by simp [PyData.canLay0, can_ints ns])
theorem eqv_intsT (ns : List Int) : PyData.eqv (.tuple (ns.map PyData.int)) (.tuple (ns.map PyData.int)) = true := SeqAt.eqv_refl _ (by simp [PyData.canLay0, can_ints ns])
theorem eqv_nil : PyData.eqv (.list []) (.list []) = true := eqv_intsL []
theorem eqv_consnil (d : PyData) (ds : List PyData) : PyData.eqv (.list (d :: ds)) (.list []) = false := by simp [PyData.eqv, PyData.eqvAll]
theorem erase_perm {ls : List Int} {i : Nat} {y : Int} (h : ls[i]? = some y) : ls.Perm (y :: ls.eraseIdx i) := by
  induction ls generalizing i with
  | nil => simp at h
  | cons x r ih =>
    cases i with
    | zero =>
      obtain rfl := Option.some.inj h
      exact .refl _
    | succ i =>
      have := ih (i := i) h
      exact (List.Perm.cons x this).trans (List.Perm.swap y x _)
theorem map_erase {α β : Type} (g : α → β) : ∀ (ls : List α) (i : Nat), (ls.eraseIdx i).map g = (ls.map g).eraseIdx i
  | [], _ => rfl
  | _ :: _, 0 => rfl
  | x :: r, i + 1 => congrArg (g x :: ·) (map_erase g r i)
section
variable {P : Program} {w : World} {K : PySem.W.Frag} {mg : Str → Option Value} {base : Heap}
def spMixed : Sp := fun vs H Q _ => ∃ (d a : Addr) (ns : List Int), vs = [.ref d, .ref a] ∧ Dice H d ∧ H a = some (.lst (ns.map V.int)) ∧ ns.length ≤ 1000 ∧
  ∀ (p : Addr) (ms : List Int) H', ms.Perm ns → H' p = some (.lst (ms.map V.int)) → Dice H' d → Keep d H H' → Q (.ref p) H'
end
end K1

namespace K1
open PySem PySem.Spec PyProof.Rows L2 Evl HM LX ZW
theorem getD_snoc_lt {l : List Int} {x : Int} {j : Nat} (h : j < l.length) : (l ++ [x]).getD j 0 = l.getD j 0 := by
  rw [List.getD_eq_getElem?_getD, List.getD_eq_getElem?_getD, List.getElem?_append_left h]
theorem getD_snoc_eq {l : List Int} {x : Int} : (l ++ [x]).getD l.length 0 = x := by
  rw [List.getD_eq_getElem?_getD, List.getElem?_append_right (Nat.le_refl _), Nat.sub_self]
  rfl
def PlOk (rs : List (Int × Int)) (ps : List Int) : Prop := ∀ j : Nat, j < ps.length → 0 ≤ ps.getD j 0 ∧ ps.getD j 0 < (K1N.nAt rs j : Int)
theorem PlOk.snoc {rs : List (Int × Int)} {ps : List Int} {x : Int} (h : PlOk rs ps) (h0 : 0 ≤ x) (h1 : x < (K1N.nAt rs ps.length : Int)) : PlOk rs (ps ++ [x]) := by
  intro j hj
  by_cases c : j < ps.length
  · rw [getD_snoc_lt c]
    exact h j c
  · have e : j = ps.length := by
      rw [List.length_append] at hj
      have : ([x] : List Int).length = 1 := rfl
      omega
    subst e
    rw [getD_snoc_eq]
    exact ⟨h0, h1⟩
section
variable {P : Program} {w : World} {K : PySem.W.Frag} {mg : Str → Option Value} {base : Heap}
def spTuple : Sp := fun vs H Q _ => ∃ d c xs rs, vs = [.ref d, .ref c] ∧ Dice H d ∧ H c = some (.tup xs) ∧ RingsAt H 60 xs rs ∧ xs.length ≤ 12 ∧
  ∀ (a : Addr) (ps : List Int) H', PlacesT H' a ps → ps.length = xs.length → PlOk rs ps → Dice H' d → Keep d H H' → Q (.ref a) H'
theorem ok_tuple (T : Txt K mg) {f : Addr} {fd : FuncData} (D : DefAt K mg "_law_tuple" sLTuple ["_law_dice_here", "_law_chain"] f fd) : FnOk P w K mg base CX0 2 f fd ["_law_dice_here", "_law_chain"] spTuple := by
  refine D.F.ok scLTuple (fun vs H Q E h => ?_) (fun cdv A outer s₀ H vs Q E hr h => ?_)
  · obtain ⟨d, c, xs, rs, rfl, _⟩ := h
    rfl
  · obtain ⟨d, c, xs, rs, rfl, hd, hc, hR, hl, q⟩ := h
    obtain ⟨f1, fd1, D1⟩ := T.d_l_roll
    refine ⟨_, pss_cons (ps_set (i := 2) scLTuple.nd rfl (.inl rfl) (pe_lst pa_nil))
      (pss_cons (ps_for PassesOwn.never rfl (pi_tup (pv 1)) (pg_tup (by rfl) (pgs_cons (pg_name (i := 3) scLTuple.nd rfl (.inl rfl)) (pgs_cons (pg_name (i := 4) scLTuple.nd rfl (.inl rfl)) pgs_nil)))
        (pss_one (ps_expr (pe_bm PySem.F.plainAttrs_list PySem.F.slot_list_append PySem.F.type_list_append mt_append (pv 2) (pa_cons
          (pe_ifExp (pt_cmpR op_eq (pe_call (ok_roll T D1) hr (by rfl) D1.g D1.F.kp D1.b .nil pass0 (pa_cons (pv 0) (pa_cons pe_int pa_nil))) pe_int (nomark _))
            (pe_call (ok_roll T D1) hr (by rfl) D1.g D1.F.kp D1.b .nil pass0 (pa_cons (pv 0) (pa_cons (pv 3) pa_nil)))
            (pe_op op_mod (pe_op op_mul (pe_op op_sub (pe_call (ok_roll T D1) hr (by rfl) D1.g D1.F.kp D1.b .nil pass0 (pa_cons (pv 0) (pa_cons pe_int pa_nil))) pe_int) (pv 4)) (pv 3))) pa_nil)))))
      (pss_one (ps_ret (pe_callTy call_tuple_of (by rfl) T.z_tuple (by decide +kernel) (pa_cons (pv 2) pa_nil))))), ?_⟩
    refine ⟨by show 0 ≤ sizeLine; decide, fun l hl0 => ?_⟩
    have ndl : d ≠ l := hd.ne_new hl0
    refine ⟨_, rfl, c, rfl, ⟨_, SqT.of (Ex.new hl0 _ _ hc)⟩, for_tup (K := K) (a := c) (xs := xs) (fun i σ' H' => ∃ (y3 y4 : Option V) (ps : List Int), σ' = [some (.ref d), some (.ref c), some (.ref l), y3, y4] ∧ H' l = some (.lst (ps.map V.int)) ∧ ps.length = i ∧ PlOk rs ps ∧ Dice H' d ∧ Keep d H H')
      ⟨none, none, [], rfl, upd_same, rfl, fun j hj => absurd hj (Nat.not_lt_zero j), hd.upd ndl, Keep.new hl0⟩ (fun i σ' H' _ hW => ?_) (fun i x σ' H' hx hW => ?_) (fun σ' H' hW => ?_)⟩
    · obtain ⟨_, _, _, _, _, _, _, _, k⟩ := hW
      exact SqT.of (k.tup hd hc)
    · obtain ⟨y3, y4, ps, rfl, w1, w2, w3, w4, w5⟩ := hW
      have hi : i < xs.length := (List.getElem?_eq_some_iff.mp hx).1
      have hx0 := rings_nth4 hR hx
      have hx1 := hx0.keep w5 hd
      obtain ⟨t, rfl, ht, b1, b2, b3, b4⟩ := hx1
      have fin : ∀ (z : Int) H3, 0 ≤ z → z < (K1N.nAt rs i : Int) → Dice H3 d → Keep d H' H3 → ∃ l' xs' y, V.ref l = .ref l' ∧ [V.int z] = [y] ∧ H3 l' = some (.lst xs') ∧ xs'.length < sizeLine ∧
          (∃ (y3 y4 : Option V) (ps : List Int), [some (V.ref d), some (V.ref c), some (V.ref l), some (V.int (K1N.nAt rs i : Int)), some (V.int (K1N.sAt rs i))] = [some (.ref d), some (.ref c), some (.ref l), y3, y4] ∧ (upd H3 l' (.lst (xs' ++ [y]))) l = some (.lst (ps.map V.int)) ∧ ps.length = i + 1 ∧ PlOk rs ps ∧ Dice (upd H3 l' (.lst (xs' ++ [y]))) d ∧ Keep d H (upd H3 l' (.lst (xs' ++ [y])))) := fun z H3 z0 z1 hd3 k3 => by
        refine ⟨l, ps.map V.int, _, rfl, rfl, k3 _ _ ndl.symm w1, ?_, _, _, ps ++ [z], rfl, ?_, ?_, ?_, hd3.upd ndl, (w5.trans k3).mut hl0⟩
        · rw [List.length_map]
          exact small1000 (by omega)
        · rw [upd_same, List.map_append]
          rfl
        · rw [List.length_append, w2]
          rfl
        · subst w2
          exact w3.snoc z0 z1
      refine ⟨t, _, rfl, SqT.of ht, rfl, .int _, [.int _], rfl, .int _, [], rfl, rfl, ?_⟩
      refine ⟨_, rfl, .inl ⟨rfl, _, SqL.of w1⟩, _, rfl, d, 4, rfl, w4, by decide, by decide, fun r1 H1 r10 r11 hd1 k1 => ?_⟩
      refine ⟨rfl, _, rfl, ite2 (fun cc => ?_) (fun cc => ?_)⟩
      · refine ⟨_, rfl, _, rfl, d, _, rfl, hd1, by omega, by omega, fun r2 H2 r20 r21 hd2 k2 => ?_⟩
        exact fin r2 H2 r20 r21 hd2 (k1.trans k2)
      · refine ⟨_, rfl, d, 5, rfl, hd1, by decide, by decide, fun r2 H2 r20 r21 hd2 k2 => ?_⟩
        refine ⟨_, _, rfl, rfl, _, rfl, _, _, rfl, rfl, .inr (by constructor <;> omega), _, rfl, _, _, rfl, rfl, by omega, ?_⟩
        exact fin _ H2 (Int.emod_nonneg _ (by omega)) (Int.emod_lt_of_pos _ (by omega)) hd2 (k1.trans k2)
    · obtain ⟨y3, y4, ps, rfl, w1, w2, w3, w4, w5⟩ := hW
      refine ⟨_, rfl, l, _, rfl, .inl ⟨SqL.of w1, fun p hp => ?_⟩⟩
      exact q p ps _ upd_same w2 w3 (w4.upd (w4.ne_new hp)) (w5.trans (Keep.new hp))
end
end K1

namespace K1
open PySem PySem.Spec PyProof.Rows L2 Evl HM LX ZW
section
variable {P : Program} {w : World} {K : PySem.W.Frag} {mg : Str → Option Value} {base : Heap}
def spLGrown : Sp := fun vs H Q _ => ∃ p h x n s q, vs = [.ref p, x, .int q] ∧ HeapAt H p h ∧ h.length ≤ 100 ∧ RingAt H 60 x n s ∧ ∀ r H', Ex H H' → HeapAt H' r (grow h (gl h n s q)) → Q (.ref r) H'
end
end K1

namespace K1
open PySem PySem.Spec PyProof.Rows L2 Evl HM LX ZW
theorem pair_heap {l : List Nat} (hp : l.Pairwise (fun a b => b ≤ a)) (h0 : ∀ x ∈ l, 0 < x) : IsHeap l := by
  refine ⟨fun c hc => h0 _ (List.mem_of_getElem? (hAt_lt hc)), fun c => ?_⟩
  by_cases q : c + 1 < l.length
  · obtain ⟨h1, e1⟩ := List.getElem?_eq_some_iff.mp (hAt_lt q)
    obtain ⟨h2, e2⟩ := List.getElem?_eq_some_iff.mp (hAt_lt (show c < l.length by omega))
    have := List.pairwise_iff_getElem.mp hp c (c + 1) h2 h1 (by omega)
    rw [e1, e2] at this
    exact this
  · rw [hAt_ge (show l.length ≤ c + 1 by omega)]
    exact Nat.zero_le _
theorem hv_nat {js : List Int} (h : ∀ j ∈ js, 0 ≤ j) : js.map V.int = hv (js.map Int.toNat) := by
  unfold hv
  rw [List.map_map]
  refine List.map_congr_left fun j hj => ?_
  show V.int j = V.int ((j.toNat : Nat) : Int)
  rw [Int.toNat_of_nonneg (h j hj)]
theorem pl_get {ps : List Int} {i : Nat} {x : V} (hx : (ps.map V.int)[i]? = some x) : x = .int (ps.getD i 0) := by
  rw [List.getElem?_map] at hx
  rw [List.getD_eq_getElem?_getD]
  cases e : ps[i]? with
  | none =>
    rw [e] at hx
    cases hx
  | some p =>
    rw [e] at hx
    exact (Option.some.inj hx).symm
section
variable {P : Program} {w : World} {K : PySem.W.Frag} {mg : Str → Option Value} {base : Heap}
def spLHeap : Sp := fun vs H Q _ => ∃ c a xs rs ps, vs = [.ref c, .ref a] ∧ H c = some (.tup xs) ∧ RingsAt H 60 xs rs ∧ xs.length ≤ 12 ∧ PlacesT H a ps ∧ ps.length = xs.length ∧ ∀ b H', Ex H H' → HeapAt H' b (hseq rs ps xs.length) → Q (.ref b) H'
def spDrawnHeap : Sp := fun vs H Q _ => ∃ d, vs = [.ref d] ∧ Dice H d ∧ ∀ b h H', HeapAt H' b h → IsHeap h → h.length ≤ 9 → hAt h 0 ≤ 9 → Dice H' d → Keep d H H' → Q (.ref b) H'
end
end K1

/-! own walk: zip of three tuples -/
namespace Z3
open PySem PySem.Spec PyProof.Rows L2
/-- three tuples, their items in new threes -/
def It3 (K : PySem.W.Frag) (a b c : Addr) : It :=
  ⟨fun i H => ∃ (xs ys us : List V) (x y u : V), SqT K H a xs ∧ SqT K H b ys ∧ SqT K H c us ∧ xs[i]? = some x ∧ ys[i]? = some y ∧ us[i]? = some u,
    fun i H v H' => ∃ T x y u, v = .ref T ∧ H T = none ∧ H' = upd H T (.tup [x, y, u]) ∧ (∀ xs, SqT K H a xs → xs[i]? = some x) ∧ (∀ ys, SqT K H b ys → ys[i]? = some y) ∧ ∀ us, SqT K H c us → us[i]? = some u,
    fun i H => ∃ xs ys us : List V, SqT K H a xs ∧ SqT K H b ys ∧ SqT K H c us ∧ xs.length = i ∧ ys.length = i ∧ us.length = i⟩
theorem turn3 {P : Program} {w : World} {K : PySem.W.Frag} {elts : List Expr} {kk : Nat} {tpos : Pos} {a b c z TI TO i1 i2 i3 : Addr} (S : ZipSep3 z TI TO i1 i2 i3 [i1, a] [i2, b] [i3, c]) (na : a ≠ i1) (nb : b ≠ i2) (nc : c ≠ i3) (w1 : z ≠ i1 ∧ z ≠ i2 ∧ z ≠ i3) :
    Turn P w K (.Tuple elts kk tpos) (It3 K a b c) [z, TI, TO, i1, i2, i3] z (fun i h => IsZip h z TI TO .none ∧ IsTupOf3 h TI (.ref i1) (.ref i2) (.ref i3) ∧ (∃ x y u, IsTupOf3 h TO x y u) ∧ h.IsTupleIter i1 a i ∧ h.IsTupleIter i2 b i ∧ h.IsTupleIter i3 c i) where
  mem := by simp
  obj := fun i h st t ht => by
    obtain ⟨hz, hTI, ⟨x, y, u, hTO⟩, ⟨o1, e1, _, d1⟩, ⟨o2, e2, _, d2⟩, ⟨o3, e3, _, d3⟩⟩ := st
    rcases (show t = z ∨ t = TI ∨ t = TO ∨ t = i1 ∨ t = i2 ∨ t = i3 by simpa using ht) with q | q | q | q | q | q
    · rw [q]
      exact ⟨_, hz, fun v q => nomatch q⟩
    · rw [q]
      exact ⟨_, hTI, fun v q => nomatch q⟩
    · rw [q]
      exact ⟨_, hTO, fun v q => nomatch q⟩
    · exact ⟨o1, q ▸ e1, fun v q => by rw [d1] at q; cases q⟩
    · exact ⟨o2, q ▸ e2, fun v q => by rw [d2] at q; cases q⟩
    · exact ⟨o3, q ▸ e3, fun v q => by rw [d3] at q; cases q⟩
  keep := fun i h h' st k => by
    obtain ⟨hz, hTI, ⟨x, y, u, hTO⟩, h1, h2, h3⟩ := st
    exact ⟨k z (by simp) _ hz, k TI (by simp) _ hTI, ⟨x, y, u, k TO (by simp) _ hTO⟩, h1.at fun o q => k i1 (by simp) o q, h2.at fun o q => k i2 (by simp) o q, h3.at fun o q => k i3 (by simp) o q⟩
  item := by
    intro X eP eW eK hc i pins s σ H E I hf st hg
    subst eP eW eK
    obtain ⟨hz, hTI, ⟨x0, y0, u0, hTO⟩, h1, h2, h3⟩ := st
    obtain ⟨xs, ys, us, x, y, u, qx, qy, qu, gx, gy, gu⟩ := hg
    obtain ⟨t1, r1, p1, _⟩ := I.tuple qx
    obtain ⟨t2, r2, p2, _⟩ := I.tuple qy
    obtain ⟨t3, r3, p3, _⟩ := I.tuple qu
    obtain ⟨v1, m1, rv1⟩ := r1.get gx
    obtain ⟨v2, m2, rv2⟩ := r2.get gy
    obtain ⟨v3, m3, rv3⟩ := r3.get gu
    have l1 : i < t1.toArray.size := by simpa using (List.getElem?_eq_some_iff.mp m1).1
    have l2 : i < t2.toArray.size := by simpa using (List.getElem?_eq_some_iff.mp m2).1
    have l3 : i < t3.toArray.size := by simpa using (List.getElem?_eq_some_iff.mp m3).1
    have hzl : z < s.heap.objs.size := Heap.lt_size hz
    have hh : X.A.in1.handled = none := I.ok.hd hc
    refine wpAny_pyNext_zipD3_item S (Draws.tuple hh i1 a na t1.toArray) (Draws.tuple hh i2 b nb t2.toArray) (Draws.tuple hh i3 c nc t3.toArray) hz hTI hTO ⟨h1, p1⟩ ⟨h2, p2⟩ ⟨h3, p3⟩ l1 l2 l3 fun w1' w2' w3' h' tk g1 g2 g3 zz tt s1 s2 s3 hT hsz hk => ?_
    have a1 : w1' = v1 := Option.some.inj (g1.symm.trans (by simpa using m1))
    have a2 : w2' = v2 := Option.some.inj (g2.symm.trans (by simpa using m2))
    have a3 : w3' = v3 := Option.some.inj (g3.symm.trans (by simpa using m3))
    subst a1 a2 a3
    refine ⟨_, rfl, wpAny_letOwnedTupleGo_zip (s := { s with heap := h', toks := tk }) zz fun h2' z2 sb => ?_⟩
    have hT2 : h2'.get? s.heap.objs.size = some { cls := .type "tuple", data := .seq #[w1', w2', w3'] } := (sb.2 _ (Nat.ne_of_gt hzl)).trans hT
    have made : ObjOk X.prog X.w (upd H s.heap.objs.size (.tup [x, y, u])) h2' s.heap.objs.size (.tup [x, y, u]) :=
      ⟨by show 3 ≤ sizeLine; decide, [w1', w2', w3'], .cons rv1 (.cons rv2 (.cons rv3 .nil)), ⟨_, hT2, rfl, _, rfl⟩⟩
    have I2 : Inv X pins σ (upd H s.heap.objs.size (.tup [x, y, u])) { s with heap := h2', toks := tk } :=
      I.turnedNew (ch := [z, TI, TO, i1, i2, i3]) (fun t o ht q => (sb.2 t (fun e => ht (by simp [e]))).trans (hk t o (fun e => ht (by simp [e])) (fun e => ht (by simp [e])) (fun e => ht (by simp [e])) (fun e => ht (by simp [e])) (fun e => ht (by simp [e])) q)) hf (Nat.le_refl _) made
    refine ⟨.ref s.heap.objs.size, _, I2, rfl, ⟨_, x, y, u, rfl, I.hok.fresh (Nat.le_refl _), rfl, fun l hl => by rw [EnT.tup_inj I hl qx]; exact gx, fun l hl => by rw [EnT.tup_inj I hl qy]; exact gy, fun l hl => by rw [EnT.tup_inj I hl qu]; exact gu⟩,
      ⟨z2, (sb.2 _ S.TIz).trans (hk _ _ S.TIz S.TITO S.TIi1 S.TIi2 S.TIi3 hTI), ⟨w1', w2', w3', (sb.2 _ S.TOz).trans tt⟩, s1.1.at fun o q => (sb.2 _ w1.1.symm).trans q, s2.1.at fun o q => (sb.2 _ w1.2.1.symm).trans q, s3.1.at fun o q => (sb.2 _ w1.2.2.symm).trans q⟩, fun t ht => ?_⟩
    have lt : t < s.heap.objs.size := by
      rcases (show t = z ∨ t = TI ∨ t = TO ∨ t = i1 ∨ t = i2 ∨ t = i3 by simpa using ht) with q | q | q | q | q | q
      · exact q ▸ hzl
      · exact q ▸ Heap.lt_size hTI
      · exact q ▸ Heap.lt_size hTO
      · obtain ⟨_, e, _⟩ := h1
        exact q ▸ Heap.lt_size e
      · obtain ⟨_, e, _⟩ := h2
        exact q ▸ Heap.lt_size e
      · obtain ⟨_, e, _⟩ := h3
        exact q ▸ Heap.lt_size e
    rw [upd_ne (Nat.ne_of_lt lt)]
    exact (hf t ht).1
  done := by
    intro X eP eW eK hc i pins s σ H E I hf st hg
    subst eP eW eK
    obtain ⟨hz, hTI, ⟨x0, y0, u0, hTO⟩, h1, h2, h3⟩ := st
    obtain ⟨xs, ys, us, qx, qy, qu, gx, gy, gu⟩ := hg
    obtain ⟨t1, r1, p1, _⟩ := I.tuple qx
    obtain ⟨t2, r2, p2, _⟩ := I.tuple qy
    obtain ⟨t3, r3, p3, _⟩ := I.tuple qu
    have k1 := r1.length
    have k2 := r2.length
    have k3 := r3.length
    have hh : X.A.in1.handled = none := I.ok.hd hc
    exact wpAny_pyNext_zipD3_end S (Draws.tuple hh i1 a na t1.toArray) (Draws.tuple hh i2 b nb t2.toArray) (Draws.tuple hh i3 c nc t3.toArray) hz hTI hTO ⟨h1, p1⟩ ⟨h2, p2⟩ ⟨h3, p3⟩ (by rw [List.size_toArray]; omega) (by rw [List.size_toArray]; omega) (by rw [List.size_toArray]; omega) (.inl (by rw [List.size_toArray]; omega))
      fun h' tk hk => ⟨rfl, I.turnedL (ch := [z, TI, TO, i1, i2, i3]) (fun t o ht q => hk t o (fun e => ht (by simp [e])) (fun e => ht (by simp [e])) (fun e => ht (by simp [e])) (fun e => ht (by simp [e])) (fun e => ht (by simp [e])) q) hf⟩
  self := fun A i s Q E st h => wpAny_pyIter_zip st.1 h
def iZip3 (K : PySem.W.Frag) (ta : TA) : TI := fun σ H R => ta σ H fun vs H1 => ∃ a b c xs ys us, vs = [.ref a, .ref b, .ref c] ∧ SqT K H1 a xs ∧ SqT K H1 b ys ∧ SqT K H1 c us ∧ R (It3 K a b c) H1
theorem pi_zip3 {X : Cx} {e e2 e3 : Expr} {ta : TA} {p pos tpos : Pos} {elts : List Expr} {kk : Nat} (hg : Gl X "zip") (hm : X.mg "zip" = none) (ha : PA X [e, e2, e3] ta)
    (hs : starEach [e, e2, e3] X.env = (false, eval e X.env) :: starEach [e2, e3] X.env := by rfl) (hpl : (backTo pos (starEach [e2, e3] X.env)).any (·.1) = false := by rfl) :
    PI X (.Tuple elts kk tpos) (.Call (.Name "zip" p) [e, e2, e3] [] pos) (iZip3 X.K ta) := by
  refine ⟨fun pins s σ H R I h => ?_⟩
  refine Call_ (ld_blt I hg hm PyProof.Rows.boot_zip (PyProof.Rows.callWith_type1 (thn (ha.run pos pins s σ H _ I h) fun vs' s1 ⟨vs, H1, I1, r1, q1⟩ => ?_) hs hpl))
  obtain ⟨a, b, c, xs, ys, us, ex, qx, qy, qu, q⟩ := q1
  subst ex
  obtain ⟨t1, r1', p1, _⟩ := I1.tuple qx
  obtain ⟨t2, r2', p2, _⟩ := I1.tuple qy
  obtain ⟨t3, r3', p3, _⟩ := I1.tuple qu
  cases r1 with
  | cons ra rr =>
    cases rr with
    | cons rb rr =>
      cases rr with
      | cons rc rr =>
        cases rr
        cases ra
        cases rb
        cases rc
        have la : a < s1.heap.objs.size := by
          obtain ⟨_, e, _⟩ := p1
          exact Heap.lt_size e
        have lb : b < s1.heap.objs.size := by
          obtain ⟨_, e, _⟩ := p2
          exact Heap.lt_size e
        have lc : c < s1.heap.objs.size := by
          obtain ⟨_, e, _⟩ := p3
          exact Heap.lt_size e
        refine zip_begins3 (begins_tuple a t1.toArray) (begins_tuple b t2.toArray) (begins_tuple c t3.toArray) p1 p2 p3 fun h' hz hTI hTO g1 g2 g3 _ hk => wpAny_pyIter_zip hz ?_
        have I2 : Inv X pins σ H1 { s1 with heap := h' } := I1.kept (t' := s1.toks) hk
        have S : ZipSep3 (s1.heap.objs.size + 5) (s1.heap.objs.size + 3) (s1.heap.objs.size + 4) s1.heap.objs.size (s1.heap.objs.size + 1) (s1.heap.objs.size + 2) [s1.heap.objs.size, a] [s1.heap.objs.size + 1, b] [s1.heap.objs.size + 2, c] :=
          zip_sep3 (fun t ht => by rw [List.mem_singleton.mp ht]; exact la) (fun t ht => by rw [List.mem_singleton.mp ht]; exact lb) (fun t ht => by rw [List.mem_singleton.mp ht]; exact lc)
        have add : ∀ {m k : Nat}, m ≠ k → s1.heap.objs.size + m ≠ s1.heap.objs.size + k := fun n e => n (Nat.add_left_cancel e)
        refine ⟨s1.heap.objs.size + 5, [s1.heap.objs.size + 5, s1.heap.objs.size + 3, s1.heap.objs.size + 4, s1.heap.objs.size, s1.heap.objs.size + 1, s1.heap.objs.size + 2], _, _, H1, rfl, I2,
          turn3 S (Nat.ne_of_lt la) (Nat.ne_of_lt (Nat.lt_succ_of_lt lb)) (Nat.ne_of_lt (Nat.lt_succ_of_lt (Nat.lt_succ_of_lt lc))) ⟨add (m := 5) (k := 0) (by decide), add (by decide), add (by decide)⟩,
          ⟨hz, hTI, ⟨_, _, _, hTO⟩, ⟨_, g1, rfl, rfl⟩, ⟨_, g2, rfl, rfl⟩, ⟨_, g3, rfl, rfl⟩⟩, fun t ht => ?_, q⟩
        have le : s1.heap.objs.size ≤ t := by
          rcases (show t = s1.heap.objs.size + 5 ∨ t = s1.heap.objs.size + 3 ∨ t = s1.heap.objs.size + 4 ∨ t = s1.heap.objs.size ∨ t = s1.heap.objs.size + 1 ∨ t = s1.heap.objs.size + 2 by simpa using ht) with q | q | q | q | q | q
          · exact q ▸ Nat.le_add_right _ _
          · exact q ▸ Nat.le_add_right _ _
          · exact q ▸ Nat.le_add_right _ _
          · exact q ▸ Nat.le_refl _
          · exact q ▸ Nat.le_add_right _ _
          · exact q ▸ Nat.le_add_right _ _
        exact I1.fpOk le (I1.hok.fresh le)
theorem for_zip3 {K : PySem.W.Frag} {a b c : Addr} {xs ys us : List V} {n : Nat} {g : TG} {tb : TS} {D : Ends} {σ : L2.St} {H : Hp} (hx : xs.length = n) (hy : ys.length = n) (hu : us.length = n)
    (Pv : Nat → L2.St → Hp → Prop) (h0 : Pv 0 σ H) (hq : ∀ i σ H, Pv i σ H → SqT K H a xs ∧ SqT K H b ys ∧ SqT K H c us)
    (hs : ∀ i x y u T σ H, i < n → xs[i]? = some x → ys[i]? = some y → us[i]? = some u → Pv i σ H → H T = none → g (.ref T) σ (upd H T (.tup [x, y, u])) fun σ2 H2 => tb { D with nx := Pv (i + 1), ct := Pv (i + 1), bk := D.nx } σ2 H2) (hd : ∀ σ H, Pv n σ H → D.nx σ H) :
    ∃ W : Nat → Nat → L2.St → Hp → Prop, (∃ m, W 0 m σ H) ∧ ∀ i m σ H, W i m σ H →
      ((It3 K a b c).stop i H ∧ D.nx σ H) ∨ ((It3 K a b c).go i H ∧ ∃ N : L2.St → Hp → Prop, (∀ σ' H', N σ' H' → ∃ m', m' < m ∧ W (i + 1) m' σ' H') ∧ ∀ v H', (It3 K a b c).yld i H v H' → g v σ H' fun σ2 H2 => tb { D with nx := N, ct := N, bk := D.nx } σ2 H2) := by
  refine ⟨fun i m σ H => m = n - i ∧ i ≤ n ∧ Pv i σ H, ⟨n, (Nat.sub_zero n).symm, Nat.zero_le _, h0⟩, ?_⟩
  rintro i m σ H ⟨rfl, hi, p⟩
  obtain ⟨qa, qb, qc⟩ := hq i σ H p
  by_cases hlt : i < n
  · have e1 : xs[i]? = some (xs[i]'(by omega)) := List.getElem?_eq_getElem _
    have e2 : ys[i]? = some (ys[i]'(by omega)) := List.getElem?_eq_getElem _
    have e3 : us[i]? = some (us[i]'(by omega)) := List.getElem?_eq_getElem _
    refine .inr ⟨⟨xs, ys, us, _, _, _, qa, qb, qc, e1, e2, e3⟩, Pv (i + 1), fun σ' H' p' => ⟨n - (i + 1), by omega, rfl, hlt, p'⟩, fun v H' hy' => ?_⟩
    obtain ⟨T, x, y, u, rfl, nT, rfl, fx, fy, fu⟩ := hy'
    exact hs i x y u T σ H hlt (fx _ qa) (fy _ qb) (fu _ qc) p nT
  · have e : i = n := by omega
    subst e
    exact .inl ⟨⟨xs, ys, us, qa, qb, qc, hx, hy, hu⟩, hd σ H p⟩
end Z3

/-! own walk: zip of a list and a tuple -/
namespace ZM
open PySem PySem.Spec PyProof.Rows L2
/-- a list and a tuple, their items in new pairs -/
def ItM (K : PySem.W.Frag) (a b : Addr) : It :=
  ⟨fun i H => ∃ (xs ys : List V) (x y : V), SqL K H a xs ∧ SqT K H b ys ∧ xs[i]? = some x ∧ ys[i]? = some y,
    fun i H v H' => ∃ T x y, v = .ref T ∧ H T = none ∧ H' = upd H T (.tup [x, y]) ∧ (∀ xs, SqL K H a xs → xs[i]? = some x) ∧ ∀ ys, SqT K H b ys → ys[i]? = some y,
    fun i H => ∃ xs ys : List V, SqL K H a xs ∧ SqT K H b ys ∧ xs.length = i ∧ ys.length = i⟩
theorem turnM {P : Program} {w : World} {K : PySem.W.Frag} {elts : List Expr} {kk : Nat} {tpos : Pos} {a b z TI TO i1 i2 : Addr} (S : ZipSep2 z TI TO i1 i2 [i1, a] [i2, b]) (na : a ≠ i1) (nb : b ≠ i2) (w1 : z ≠ i1 ∧ z ≠ i2) :
    Turn P w K (.Tuple elts kk tpos) (ItM K a b) [z, TI, TO, i1, i2] z (fun i h => IsZip h z TI TO .none ∧ IsTupOf2 h TI (.ref i1) (.ref i2) ∧ (∃ x y, IsTupOf2 h TO x y) ∧ h.IsListIter i1 a i ∧ h.IsTupleIter i2 b i) where
  mem := by simp
  obj := fun i h st t ht => by
    obtain ⟨hz, hTI, ⟨x, y, hTO⟩, ⟨o1, e1, _, d1⟩, ⟨o2, e2, _, d2⟩⟩ := st
    rcases (show t = z ∨ t = TI ∨ t = TO ∨ t = i1 ∨ t = i2 by simpa using ht) with q | q | q | q | q
    · rw [q]
      exact ⟨_, hz, fun v q => nomatch q⟩
    · rw [q]
      exact ⟨_, hTI, fun v q => nomatch q⟩
    · rw [q]
      exact ⟨_, hTO, fun v q => nomatch q⟩
    · exact ⟨o1, q ▸ e1, fun v q => by rw [d1] at q; cases q⟩
    · exact ⟨o2, q ▸ e2, fun v q => by rw [d2] at q; cases q⟩
  keep := fun i h h' st k => by
    obtain ⟨hz, hTI, ⟨x, y, hTO⟩, h1, h2⟩ := st
    exact ⟨k z (by simp) _ hz, k TI (by simp) _ hTI, ⟨x, y, k TO (by simp) _ hTO⟩, h1.at fun o q => k i1 (by simp) o q, h2.at fun o q => k i2 (by simp) o q⟩
  item := by
    intro X eP eW eK hc i pins s σ H E I hf st hg
    subst eP eW eK
    obtain ⟨hz, hTI, ⟨x0, y0, hTO⟩, h1, h2⟩ := st
    obtain ⟨xs, ys, x, y, qx, qy, gx, gy⟩ := hg
    obtain ⟨t1, r1, p1, _⟩ := I.list qx
    obtain ⟨t2, r2, p2, _⟩ := I.tuple qy
    obtain ⟨v1, m1, rv1⟩ := r1.get gx
    obtain ⟨v2, m2, rv2⟩ := r2.get gy
    have l1 : i < t1.toArray.size := by simpa using (List.getElem?_eq_some_iff.mp m1).1
    have l2 : i < t2.toArray.size := by simpa using (List.getElem?_eq_some_iff.mp m2).1
    have hzl : z < s.heap.objs.size := Heap.lt_size hz
    have hh : X.A.in1.handled = none := I.ok.hd hc
    refine wpAny_pyNext_zipD2_item S (Draws.list hh i1 a na t1.toArray) (Draws.tuple hh i2 b nb t2.toArray) hz hTI hTO ⟨h1, p1.isList⟩ ⟨h2, p2⟩ l1 l2 fun w1' w2' h' tk g1 g2 zz tt s1 s2 hT hsz hk => ?_
    have a1 : w1' = v1 := Option.some.inj (g1.symm.trans (by simpa using m1))
    have a2 : w2' = v2 := Option.some.inj (g2.symm.trans (by simpa using m2))
    subst a1 a2
    refine ⟨_, rfl, wpAny_letOwnedTupleGo_zip (s := { s with heap := h', toks := tk }) zz fun h2' z2 sb => ?_⟩
    have hT2 : h2'.get? s.heap.objs.size = some { cls := .type "tuple", data := .seq #[w1', w2'] } := (sb.2 _ (Nat.ne_of_gt hzl)).trans hT
    have made : ObjOk X.prog X.w (upd H s.heap.objs.size (.tup [x, y])) h2' s.heap.objs.size (.tup [x, y]) :=
      ⟨by show 2 ≤ sizeLine; decide, [w1', w2'], .cons rv1 (.cons rv2 .nil), ⟨_, hT2, rfl, _, rfl⟩⟩
    have I2 : Inv X pins σ (upd H s.heap.objs.size (.tup [x, y])) { s with heap := h2', toks := tk } :=
      I.turnedNew (ch := [z, TI, TO, i1, i2]) (fun t o ht q => (sb.2 t (fun e => ht (by simp [e]))).trans (hk t o (fun e => ht (by simp [e])) (fun e => ht (by simp [e])) (fun e => ht (by simp [e])) (fun e => ht (by simp [e])) q)) hf (Nat.le_refl _) made
    refine ⟨.ref s.heap.objs.size, _, I2, rfl, ⟨_, x, y, rfl, I.hok.fresh (Nat.le_refl _), rfl, fun l hl => by rw [I.list_inj hl qx]; exact gx, fun l hl => by rw [I.tuple_inj hl qy]; exact gy⟩,
      ⟨z2, (sb.2 _ S.TIz).trans (hk _ _ S.TIz S.TITO S.TIi1 S.TIi2 hTI), ⟨w1', w2', (sb.2 _ S.TOz).trans tt⟩, s1.1.at fun o q => (sb.2 _ w1.1.symm).trans q, s2.1.at fun o q => (sb.2 _ w1.2.symm).trans q⟩, fun t ht => ?_⟩
    have lt : t < s.heap.objs.size := by
      rcases (show t = z ∨ t = TI ∨ t = TO ∨ t = i1 ∨ t = i2 by simpa using ht) with q | q | q | q | q
      · exact q ▸ hzl
      · exact q ▸ Heap.lt_size hTI
      · exact q ▸ Heap.lt_size hTO
      · obtain ⟨_, e, _⟩ := h1
        exact q ▸ Heap.lt_size e
      · obtain ⟨_, e, _⟩ := h2
        exact q ▸ Heap.lt_size e
    rw [upd_ne (Nat.ne_of_lt lt)]
    exact (hf t ht).1
  done := by
    intro X eP eW eK hc i pins s σ H E I hf st hg
    subst eP eW eK
    obtain ⟨hz, hTI, ⟨x0, y0, hTO⟩, h1, h2⟩ := st
    obtain ⟨xs, ys, qx, qy, gx, gy⟩ := hg
    obtain ⟨t1, r1, p1, _⟩ := I.list qx
    obtain ⟨t2, r2, p2, _⟩ := I.tuple qy
    have k1 := r1.length
    have k2 := r2.length
    have hh : X.A.in1.handled = none := I.ok.hd hc
    exact wpAny_pyNext_zipD2_end S (Draws.list hh i1 a na t1.toArray) (Draws.tuple hh i2 b nb t2.toArray) hz hTI hTO ⟨h1, p1.isList⟩ ⟨h2, p2⟩ (by rw [List.size_toArray]; omega) (by rw [List.size_toArray]; omega) (.inl (by rw [List.size_toArray]; omega))
      fun h' tk hk => ⟨rfl, I.turnedL (ch := [z, TI, TO, i1, i2]) (fun t o ht q => hk t o (fun e => ht (by simp [e])) (fun e => ht (by simp [e])) (fun e => ht (by simp [e])) (fun e => ht (by simp [e])) q) hf⟩
  self := fun A i s Q E st h => wpAny_pyIter_zip st.1 h
def iZipM (K : PySem.W.Frag) (ta : TA) : TI := fun σ H R => ta σ H fun vs H1 => ∃ a b xs ys, vs = [.ref a, .ref b] ∧ SqL K H1 a xs ∧ SqT K H1 b ys ∧ R (ItM K a b) H1
theorem pi_zipM {X : Cx} {e e2 : Expr} {ta : TA} {p pos tpos : Pos} {elts : List Expr} {kk : Nat} (hg : Gl X "zip") (hm : X.mg "zip" = none) (ha : PA X [e, e2] ta)
    (hs : starEach [e, e2] X.env = (false, eval e X.env) :: starEach [e2] X.env := by rfl) (hpl : (backTo pos (starEach [e2] X.env)).any (·.1) = false := by rfl) :
    PI X (.Tuple elts kk tpos) (.Call (.Name "zip" p) [e, e2] [] pos) (iZipM X.K ta) := by
  refine ⟨fun pins s σ H R I h => ?_⟩
  refine Call_ (ld_blt I hg hm PyProof.Rows.boot_zip (PyProof.Rows.callWith_type1 (thn (ha.run pos pins s σ H _ I h) fun vs' s1 ⟨vs, H1, I1, r1, q1⟩ => ?_) hs hpl))
  obtain ⟨a, b, xs, ys, ex, qx, qy, q⟩ := q1
  subst ex
  obtain ⟨t1, r1', p1, _⟩ := I1.list qx
  obtain ⟨t2, r2', p2, _⟩ := I1.tuple qy
  cases r1 with
  | cons ra rr =>
    cases rr with
    | cons rb rr =>
      cases rr
      cases ra
      cases rb
      have la : a < s1.heap.objs.size := by
        obtain ⟨_, e, _⟩ := p1.isList
        exact Heap.lt_size e
      have lb : b < s1.heap.objs.size := by
        obtain ⟨_, e, _⟩ := p2
        exact Heap.lt_size e
      refine zip_begins2 (begins_list a t1.toArray) (begins_tuple b t2.toArray) p1.isList p2 fun h' hz hTI hTO g1 g2 _ hk => wpAny_pyIter_zip hz ?_
      have I2 : Inv X pins σ H1 { s1 with heap := h' } := I1.kept (t' := s1.toks) hk
      have S : ZipSep2 (s1.heap.objs.size + 4) (s1.heap.objs.size + 2) (s1.heap.objs.size + 3) s1.heap.objs.size (s1.heap.objs.size + 1) [s1.heap.objs.size, a] [s1.heap.objs.size + 1, b] :=
        zip_sep2 (fun t ht => by rw [List.mem_singleton.mp ht]; exact la) (fun t ht => by rw [List.mem_singleton.mp ht]; exact lb)
      have add : ∀ {m k : Nat}, m ≠ k → s1.heap.objs.size + m ≠ s1.heap.objs.size + k := fun n e => n (Nat.add_left_cancel e)
      refine ⟨s1.heap.objs.size + 4, [s1.heap.objs.size + 4, s1.heap.objs.size + 2, s1.heap.objs.size + 3, s1.heap.objs.size, s1.heap.objs.size + 1], _, _, H1, rfl, I2,
        turnM S (Nat.ne_of_lt la) (Nat.ne_of_lt (Nat.lt_succ_of_lt lb)) ⟨add (m := 4) (k := 0) (by decide), add (by decide)⟩,
        ⟨hz, hTI, ⟨_, _, hTO⟩, ⟨_, g1, rfl, rfl⟩, ⟨_, g2, rfl, rfl⟩⟩, fun t ht => ?_, q⟩
      have le : s1.heap.objs.size ≤ t := by
        rcases (show t = s1.heap.objs.size + 4 ∨ t = s1.heap.objs.size + 2 ∨ t = s1.heap.objs.size + 3 ∨ t = s1.heap.objs.size ∨ t = s1.heap.objs.size + 1 by simpa using ht) with q | q | q | q | q
        · exact q ▸ Nat.le_add_right _ _
        · exact q ▸ Nat.le_add_right _ _
        · exact q ▸ Nat.le_add_right _ _
        · exact q ▸ Nat.le_refl _
        · exact q ▸ Nat.le_add_right _ _
      exact I1.fpOk le (I1.hok.fresh le)
theorem lc_zipM {K : PySem.W.Frag} {a b : Addr} {xs ys : List V} {n : Nat} {g : TG} {tt : TT} {te : TE} {vs : List Nat} {σ : L2.St} {H1 : Hp} {D : Addr} {Qd : Hp → Prop} (hx : xs.length = n) (hy : ys.length = n)
    (Pv : Nat → Hp → Prop) (h0 : Pv 0 (upd H1 D (.lst []))) (hq : ∀ i H, Pv i H → SqL K H a xs ∧ SqT K H b ys)
    (hs : ∀ i x y T H, i < n → xs[i]? = some x → ys[i]? = some y → Pv i H → H T = none → g (.ref T) (wipe σ vs) (upd H T (.tup [x, y])) fun σ2 H2 => wipe σ2 vs = wipe σ vs ∧ tt σ2 H2 fun c H3 =>
      if c = true then te σ2 H3 fun z H4 => ∃ acc, H4 D = some (.lst acc) ∧ acc.length < sizeLine ∧ Pv (i + 1) (upd H4 D (.lst (acc ++ [z]))) else Pv (i + 1) H3) (hd : ∀ H, Pv n H → Qd H) :
    ∃ W : Nat → Nat → Hp → Prop, (∃ m, W 0 m (upd H1 D (.lst []))) ∧ ∀ i m H, W i m H →
      ((ItM K a b).stop i H ∧ Qd H) ∨ ((ItM K a b).go i H ∧ ∃ Nx : Hp → Prop, (∀ H', Nx H' → ∃ m', m' < m ∧ W (i + 1) m' H') ∧ ∀ v H', (ItM K a b).yld i H v H' → g v (wipe σ vs) H' fun σ2 H2 => wipe σ2 vs = wipe σ vs ∧ tt σ2 H2 fun c H3 =>
        if c = true then te σ2 H3 fun z H4 => ∃ acc, H4 D = some (.lst acc) ∧ acc.length < sizeLine ∧ Nx (upd H4 D (.lst (acc ++ [z]))) else Nx H3) := by
  refine ⟨fun i m H => m = n - i ∧ i ≤ n ∧ Pv i H, ⟨n, (Nat.sub_zero n).symm, Nat.zero_le _, h0⟩, ?_⟩
  rintro i m H ⟨rfl, hi, p⟩
  obtain ⟨qa, qb⟩ := hq i H p
  by_cases hlt : i < n
  · have e1 : xs[i]? = some (xs[i]'(by omega)) := List.getElem?_eq_getElem _
    have e2 : ys[i]? = some (ys[i]'(by omega)) := List.getElem?_eq_getElem _
    refine .inr ⟨⟨xs, ys, _, _, qa, qb, e1, e2⟩, Pv (i + 1), fun H' p' => ⟨n - (i + 1), by omega, rfl, hlt, p'⟩, fun v H' hy' => ?_⟩
    obtain ⟨T, x, y, rfl, nT, rfl, fx, fy⟩ := hy'
    exact hs i x y T H hlt (fx _ qa) (fy _ qb) p nT
  · have e : i = n := by omega
    subst e
    exact .inl ⟨⟨xs, ys, qa, qb, hx, hy⟩, hd H p⟩
end ZM

namespace K1
open PySem PySem.Spec PyProof.Rows L2 Evl HM LX ZW Z3 ZM
section
variable {P : Program} {w : World} {K : PySem.W.Frag} {mg : Str → Option Value} {base : Heap}
theorem int_get5 {ns : List Int} {i : Nat} (h : i < ns.length) : (ns.map V.int)[i]? = some (V.int (ns.getD i 0)) := by
  rw [List.getElem?_map, List.getD_eq_getElem?_getD, List.getElem?_eq_getElem h]
  rfl
def spCheckHeaps (K : PySem.W.Frag) : Sp := fun vs H Q _ => ∃ p q h f, vs = [.ref p, .ref q] ∧ HeapAt H p h ∧ HeapAt H q f ∧ Good h ∧ Good f ∧ ∀ H', Ex H H' → Q .non H'
def spHolds (K : PySem.W.Frag) : Sp := fun vs H Q _ => ∃ p q h f, vs = [.ref p, .ref q] ∧ HeapAt H p h ∧ HeapAt H q f ∧ Good h ∧ Good f ∧ Sub f h ∧ ∀ H', Ex H H' → Q (.bl true) H'
def spIsHeld (K : PySem.W.Frag) : Sp := spHolds K
def spCommonOf (K : PySem.W.Frag) : Sp := fun vs H Q _ => ∃ p q h f, vs = [.ref p, .ref q] ∧ HeapAt H p h ∧ HeapAt H q f ∧ Good h ∧ Good f ∧ ∀ r H', Ex H H' → HeapAt H' r (meet h f) → Q (.ref r) H'
theorem meet_take {a b : List Nat} {i : Nat} (hi : i < min a.length b.length) : ((List.range (i + 1)).map fun c => min (hAt a c) (hAt b c)) = ((List.range i).map fun c => min (hAt a c) (hAt b c)) ++ [min (hAt a i) (hAt b i)] := by
  rw [List.range_succ, List.map_append]
  rfl
def rLenS (K : PySem.W.Frag) : List V → Hp → VK → Prop := fun xs H Q => ∃ (p : Addr) (ys : List V), xs = [V.ref p] ∧ (SqL K H p ys ∨ SqT K H p ys) ∧ Q (V.int (ys.length : Int)) H
def scRows : Scope := { kind := .function, names := [(".0", .local), ("row", .cell), ("len", .globalImplicit), ("heap", .free)], isGenerator := false, isCoroutine := false, more := [] }
def spLengthsOf (K : PySem.W.Frag) : Sp := fun vs H Q _ => ∃ p h, vs = [.ref p] ∧ HeapAt H p h ∧ Good h ∧ ∀ r H', Ex H H' → HeapAt H' r (conj h) → Q (.ref r) H'
theorem ok_lengths_of (T : Txt K mg) {f : Addr} {fd : FuncData} (D : DefAt K mg "lengths_of" sLengthsOf ["heap"] f fd) : FnOk P w K mg base CX0 2 f fd ["heap"] (spLengthsOf K) := by
  refine D.F.ok scLengthsOf (fun vs H Q E h => ?_) (fun cdv A outer s H vs Q E hr h => ?_)
  · obtain ⟨p, h, rfl, _⟩ := h
    rfl
  · obtain ⟨p, h, rfl, hp1, G, k⟩ := h
    obtain ⟨f1, fd1, D1⟩ := T.d_height_at
    have hr1 : Room 1 _ := hr.mono (by decide)
    refine ⟨_, pss_one (ps_ret (pe_callTy call_tuple_of (by rfl) T.z_tuple (by decide +kernel) (pa_cons (pe_lc (own := [("row", 2)]) (g := gName 2) (tt := tYes) rfl scLengthsOf.nd (pi_range1 (by rfl) T.z_range (pa_cons (pe_call (ok_height_at T D1) hr1 (by rfl) D1.g D1.F.kp D1.b .nil pass0 (pa_cons (pv 0) (pa_cons pe_int pa_nil))) pa_nil))
        (blkOk_by (N := nLengthsOf) (sc := defScope sLengthsOf) (by decide +kernel)) (fun _ _ _ _ _ => (pg_name (i := 2) scLengthsOf.nd rfl (.inr rfl))) (fun _ _ _ _ _ => pts_nil)
        (fun _ _ _ _ _ => pe_callB (show CallR _ _ (rLenS K) from call_len_seq) (by rfl) T.z_len PySem.boot_len (pa_cons (pe_lc (own := [("height", 1)]) (g := gName 1) (wi := iTup K (tVar 0)) rfl scLengthsOf.nd (pi_tup (pv 0))
          (blkOk_by (N := nLengthsOf) (sc := relS scRows (defScope sLengthsOf)) (by decide +kernel)) (fun _ _ _ _ _ => pg_name (i := 1) scLengthsOf.nd rfl (Or.inl rfl))
          (fun _ _ _ _ _ => pts_one (pt_cmpR op_gt (pv 1) (pv 2) (nomark _))) (fun _ _ _ _ _ => pv 1)) pa_nil))) pa_nil))), ?_⟩
    refine ⟨_, rfl, p, h, 0, rfl, hp1, fun H2 e2 => ?_⟩
    have hp2 := e2 _ _ hp1
    have ht := G.top
    have hl60 := G.len
    refine ⟨_, rfl, by omega, by omega, fun Dl hD => ?_⟩
    refine lc_range (lo := 0) (n := (hAt h 0 : Int).toNat) (fun i H' => H' Dl = some (.lst (hv ((List.range i).map fun r => (h.filter fun x => decide (r < x)).length))) ∧ Ex H2 H') ⟨upd_same, Ex.new hD⟩ (fun i H' hi hW => ?_) (fun H' hW => ?_)
    · obtain ⟨w1, w2⟩ := hW
      have hp4 := w2 _ _ hp2
      refine ⟨rfl, ?_⟩
      dsimp only [tYes]
      rw [if_pos rfl]
      refine ⟨_, rfl, p, rfl, ⟨_, SqT.of hp4⟩, fun D2 hD2 => ?_⟩
      refine lc_tup (K := K) (a := p) (xs := hv h) (fun j H5 => H5 D2 = some (.lst (hv ((h.take j).filter fun x => decide (i < x)))) ∧ Ex H' H5) ⟨upd_same, Ex.new hD2⟩ (fun j H5 _ hp5 => SqT.of (hp5.2 _ _ hp4)) (fun j x H5 hx hp5 => ?_) (fun H5 hp5 => ?_)
      · obtain ⟨u1, u2⟩ := hp5
        obtain ⟨y, hy, rfl⟩ := hv_inv hx
        refine ⟨rfl, _, rfl, _, rfl, _, _, rfl, rfl, _, rfl, ite2 (fun cc => ?_) (fun cc => ?_)⟩
        · have c0 : i < y := by
            have := of_decide_eq_true cc
            omega
          refine ⟨_, rfl, _, u1, ?_, ?_, Ex.mut u2 hD2⟩
          · rw [hv_len]
            have a1 := List.length_filter_le (fun x => decide (i < x)) (h.take j)
            rw [List.length_take] at a1
            exact small1000 (by omega)
          · rw [upd_same, take_filter_snoc _ hy, if_pos (decide_eq_true c0), hv_snoc]
        · have c0 : ¬ i < y := fun z => cc (decide_eq_true (by omega))
          refine ⟨?_, u2⟩
          rw [take_filter_snoc _ hy, if_neg (by rw [decide_eq_false c0]; decide), List.append_nil]
          exact u1
      · obtain ⟨u1, u2⟩ := hp5
        rw [hv_len, List.take_length] at u1
        refine ⟨D2, _, rfl, .inl (SqL.of u1), _, u2 _ _ w1, ?_, ?_, Ex.mut (w2.trans u2) hD⟩
        · rw [hv_len, List.length_map, List.length_range]
          exact small1000 (by omega)
        · rw [upd_same, List.range_succ, List.map_append, hv_len]
          show _ = some (HO.lst (hv (_ ++ [(h.filter fun x => decide (i < x)).length])))
          rw [hv_snoc]
    · obtain ⟨w1, w2⟩ := hW
      rw [show (hAt h 0 : Int).toNat = hAt h 0 by omega] at w1
      exact ⟨Dl, _, rfl, .inl ⟨SqL.of w1, fun r' hr' => k r' _ ((e2.trans w2).trans (Ex.new hr')) upd_same⟩⟩
def spTurnedOver (K : PySem.W.Frag) : Sp := spLengthsOf K
/-! ### classes with chips at the ends -/
/-- a class -/
def ClassAt (H : Hp) (v : V) (deg : Int) (ps : List Int) : Prop := ∃ t a, v = .ref t ∧ H t = some (.tup [.int deg, .ref a]) ∧ PlacesT H a ps
theorem ClassAt.ex {H H' : Hp} {v : V} {deg : Int} {ps : List Int} (e : Ex H H') (h : ClassAt H v deg ps) : ClassAt H' v deg ps := by
  obtain ⟨t, a, rfl, h1, h2⟩ := h
  exact ⟨t, a, rfl, e _ _ h1, e _ _ h2⟩
def spCheckDigits (K : PySem.W.Frag) : Sp := fun vs H Q _ => ∃ (l : Addr) (ns : List Int), vs = [.ref l] ∧ H l = some (.lst (ns.map V.int)) ∧ ns.length ≤ 1000 ∧ (∀ z ∈ ns, -(10 ^ 60) < z ∧ z < 10 ^ 60) ∧ ∀ H', Ex H H' → Q .non H'
def spCheckClass : Sp := fun vs H Q _ => ∃ c v xs rs deg ps, vs = [.ref c, v] ∧ H c = some (.tup xs) ∧ RingsAt H 60 xs rs ∧ xs.length ≤ 12 ∧ ClassAt H v deg ps ∧ -(10 ^ 60) < deg ∧ deg < 10 ^ 60 ∧ ps.length = xs.length ∧ PlOk rs ps ∧ ∀ H', Ex H H' → Q .non H'
def spIsClass : Sp := fun vs H Q _ => ∃ c v xs rs deg ps, vs = [.ref c, v] ∧ H c = some (.tup xs) ∧ RingsAt H 60 xs rs ∧ xs.length ≤ 12 ∧ ClassAt H v deg ps ∧ -(10 ^ 60) < deg ∧ deg < 10 ^ 60 ∧ ps.length = xs.length ∧ PlOk rs ps ∧ ∀ H', Ex H H' → Q (.bl true) H'
/-- rests taken modulo the places -/
def modp (rs : List (Int × Int)) (ns : List Int) : List Int := (List.range ns.length).map fun j => ns.getD j 0 % (K1N.nAt rs j : Int)
def spToldClass : Sp := fun vs H Q _ => ∃ c l xs rs deg, ∃ ns : List Int, vs = [.ref c, .int deg, .ref l] ∧ H c = some (.tup xs) ∧ RingsAt H 60 xs rs ∧ xs.length ≤ 12 ∧ H l = some (.lst (ns.map V.int)) ∧ ns.length = xs.length ∧ -(10 ^ 60) < deg ∧ deg < 10 ^ 60 ∧
  ∀ r H', Ex H H' → ClassAt H' (.ref r) deg (modp rs ns) → Q (.ref r) H'
/-- places moved by a step for each chip -/
def mv (rs : List (Int × Int)) (ps : List Int) (a : Int) : List Int := (List.range ps.length).map fun j => ps.getD j 0 + a * K1N.sAt rs j
def spWithEnds : Sp := fun vs H Q _ => ∃ c v xs rs deg ps, ∃ a b : Int, vs = [.ref c, v, .int a, .int b] ∧ H c = some (.tup xs) ∧ RingsAt H 60 xs rs ∧ (1 ≤ xs.length ∧ xs.length ≤ 12) ∧ ClassAt H v deg ps ∧ (-(10 ^ 9) < deg ∧ deg < 10 ^ 9) ∧ (-(10 ^ 9) < a ∧ a < 10 ^ 9) ∧ (-(10 ^ 9) < b ∧ b < 10 ^ 9) ∧ ps.length = xs.length ∧ PlOk rs ps ∧
  ∀ r H', Ex H H' → ClassAt H' (.ref r) (deg + a + b) (modp rs (mv rs ps a)) → Q (.ref r) H'
end
end K1

/-! own rule: a dict comprehension whose keys are tuples -/
namespace DR
open PySem PySem.Spec PyProof.Rows L2
/-- the block's own store, the key a tuple of ints and texts -/
theorem put_tup {X : Cx} {pins : List (Addr × Obj)} {σ : L2.St} {H : Hp} {s : Shared} {E : Value → Shared → Prop} {D b : Addr} {kvs : List (List Key × V)} {k : List Key} {v : V} {r : Value} {Q : Unit → Shared → Prop} (hu : X.A.units < cLine) (I : Inv X pins σ H s) (hD : H D = some (.dT kvs)) (hz : kvs.length < sizeLine)
    (hb : H b = some (.tup (k.map kV))) (rv : RelV v r) (h : ∀ s', Inv X pins σ (upd H D (.dT (putK kvs k v))) s' → Q () s') : wpAny (model X.prog X.w) X.A (dictSet D (.ref b) r) Q E s := by
  obtain ⟨z, lo, xs, rel, dd⟩ := dt_of I.hok hD
  have hx : xs.length ≤ sizeLine := by rw [← Paired.length rel]; exact z
  have hl : (putK kvs k v).length ≤ sizeLine := by have := length_putK kvs k v; omega
  refine wpAny_dictSet_heap (hsz := hx) (show (tupleKind (mixKind X.prog X.w)).room X.A from hu) (key_of I.hok hb) dd fun h' dd' hs => h _ ?_
  obtain ⟨q, es, ep, hq, h2, h3, h4, _, h5⟩ := dd'
  refine d_write I (by rw [hD]; exact True.intro) hs ⟨q, hq⟩ ⟨hl, lo, _, (rel.put k hb rv).keeps fun c ys ec => ?_, q, es, ep, hq, h2, h3, h4, h5⟩
  rw [upd_ne (ne_of ec hD (fun z => nomatch z))]
  exact ec
/-- {k: v for target in iter if ..}, the keys tuples of ints and texts; D the new dict -/
def tDcT (wi : TI) (g : TG) (tt : TT) (tk tv : TE) (vs : List Nat) : TE := fun σ H Q => wi σ H fun J H1 => ∀ D, H1 D = none → ∃ W : Nat → Nat → Hp → Prop, (∃ m, W 0 m (upd H1 D (.dT []))) ∧ ∀ i m H, W i m H →
  (J.stop i H ∧ Q (.ref D) H) ∨ (J.go i H ∧ ∃ Nx : Hp → Prop, (∀ H', Nx H' → ∃ m', m' < m ∧ W (i + 1) m' H') ∧ ∀ x H', J.yld i H x H' → g x (wipe σ vs) H' fun σ2 H2 => wipe σ2 vs = wipe σ vs ∧ tt σ2 H2 fun b H3 =>
    if b = true then tk σ2 H3 fun y H4 => tv σ2 H4 fun z H5 => ∃ kvs k c, y = .ref c ∧ H5 c = some (.tup (k.map kV)) ∧ H5 D = some (.dT kvs) ∧ kvs.length < sizeLine ∧ Nx (upd H5 D (.dT (putK kvs k z))) else Nx H3)
theorem pe_dcT {X : Cx} {kx vx tg iter : Expr} {ifs : List Expr} {scope : Scope} {own : List (Str × Nat)} {pos : Pos} {wi : TI} {g : TG} {tt : TT} {tk tv : TE} (hc : X.calm = true) (hu : X.A.units < cLine) (hN : X.N.Nodup) (hi : PI X tg iter wi) (ok : BlkOk X.N X.env.scope scope own)
    (hg : ∀ (s : Shared) (H : Hp) (C : Addr) (cl : List (Str × Addr)) (fp : List Addr), PG (X.blk s H scope (compEnvC scope cl C X.env) fp) tg g) (ht : ∀ (s : Shared) (H : Hp) (C : Addr) (cl : List (Str × Addr)) (fp : List Addr), PTs (X.blk s H scope (compEnvC scope cl C X.env) fp) ifs tt)
    (hk : ∀ (s : Shared) (H : Hp) (C : Addr) (cl : List (Str × Addr)) (fp : List Addr), PE (X.blk s H scope (compEnvC scope cl C X.env) fp) kx tk)
    (he : ∀ (s : Shared) (H : Hp) (C : Addr) (cl : List (Str × Addr)) (fp : List Addr), PE (X.blk s H scope (compEnvC scope cl C X.env) fp) vx tv) (hs : ∀ x, foldedSetIterable iter X.env x = pure x := by intro _; rfl) :
    PE X (.DictComp kx vx [⟨tg, iter, ifs, 0⟩] scope pos) (tDcT wi g tt tk tv (own.map (·.2))) := by
  refine ⟨fun pins s σ H Q I h => ?_⟩
  rw [arm_eval_DictComp]
  have cap : ∀ y ∈ scope.names, y.2 = .free → ∃ c, X.env.cells.lookup y.1 = some c := fun y hy e => (ok.free y hy e).elim (fun k => I.ok.has _ (.inl k)) fun k => I.ok.has _ (.inr k)
  refine wpAny_comprehension_free (use := none) rfl hs (closure_ok cap) ok.kind (fun y hy e => by rw [ok.uniq y hy, e])
    (thn (hi.run pins s σ H _ I h) fun xv s1 hx => thn hx fun itv s2 h2 => ?_)
  obtain ⟨it, fp, tn, J, H2, e, I2, T, st2, f2, q⟩ := h2
  subst e
  refine wpAny_newObj_type (newEnv_comp ?_)
  generalize hD : s2.heap.objs.size = D
  have nD : H2 D = none := I2.hok.fresh (Nat.le_of_eq hD)
  obtain ⟨W, ⟨m0, w0⟩, turn⟩ := q D nD
  have J3 : ∃ s3 : Shared, s3 = { s2 with heap := s2.heap.push { cls := .type "dict", data := .dict #[] } } := ⟨_, rfl⟩
  obtain ⟨s3, hs3⟩ := J3
  have h3 : s3.heap = s2.heap.push { cls := .type "dict", data := .dict #[] } := by rw [hs3]
  have I3 : Inv X pins σ (upd H2 D (.dT [])) s3 := by
    rw [hs3]
    refine I2.laid (t' := s2.toks) (fun b o e => Heap.get?_push_of_some _ e) (Nat.le_of_eq hD) ?_
    rw [← hD]
    exact dt_empty s2.heap I2.big
  have low : ∀ b ∈ fp, b < s2.heap.objs.size := fun b hb => by
    obtain ⟨o, e, _⟩ := T.obj _ _ st2 b hb
    exact Heap.lt_size e
  have f3 : ∀ b ∈ fp, FpOk X pins (upd H2 D (.dT [])) b ∧ b < s3.heap.objs.size := fun b hb => by
    have lt := low b hb
    refine ⟨⟨?_, (f2 b hb).2⟩, by rw [h3, Heap.size_push]; exact Nat.lt_succ_of_lt lt⟩
    rw [upd_ne (by rw [← hD]; exact Nat.ne_of_lt lt)]
    exact (f2 b hb).1
  have st3 : tn 0 s3.heap := T.keep _ _ _ st2 fun b _ o e => by rw [h3]; exact Heap.get?_push_of_some _ e
  have I4 := block_start I3 ok hN f3
  have pg := hg s3 (upd H2 D (.dT [])) s3.heap.objs.size (cellsFrom (s3.heap.objs.size + 1) scope.names (cloFrom X.env.cells scope.names [])) fp
  have pt := ht s3 (upd H2 D (.dT [])) s3.heap.objs.size (cellsFrom (s3.heap.objs.size + 1) scope.names (cloFrom X.env.cells scope.names [])) fp
  have pk := hk s3 (upd H2 D (.dT [])) s3.heap.objs.size (cellsFrom (s3.heap.objs.size + 1) scope.names (cloFrom X.env.cells scope.names [])) fp
  have pe := he s3 (upd H2 D (.dT [])) s3.heap.objs.size (cellsFrom (s3.heap.objs.size + 1) scope.names (cloFrom X.env.cells scope.names [])) fp
  rw [← hs3]
  show codeAny _ _ (.compStart (.DictComp kx vx [⟨tg, iter, ifs, 0⟩] scope pos) 0 (.ref it) (.ref D) (compEnvC scope (cellsFrom (s3.heap.objs.size + 1) scope.names (cloFrom X.env.cells scope.names [])) s3.heap.objs.size X.env)) (compPost (model X.prog X.w) X.A X.xe none (EP X pins σ Q) (.ref D) s3.heap.objs.size) { s3 with heap := pushCells (s3.heap.push { cls := .type "dict", data := .dict #[] }) scope.names }
  have clear : ∀ b ∈ fp, (upd H2 D (.dT [])) b = none := fun b hb => (f3 b hb).1.1
  generalize hce : compEnvC scope (cellsFrom (s3.heap.objs.size + 1) scope.names (cloFrom X.env.cells scope.names [])) s3.heap.objs.size X.env = ce at I4 pg pt pk pe ⊢
  have cL : ce.locals = s3.heap.objs.size := by subst hce; rfl
  generalize upd H2 D (.dT []) = H3 at I3 I4 pg pt pk pe w0 clear f3
  generalize hs4 : ({ s3 with heap := pushCells (s3.heap.push { cls := .type "dict", data := .dict #[] }) scope.names } : Shared) = s4 at I4 ⊢
  have st4 : tn 0 s4.heap := T.keep _ _ _ st3 fun b _ o e => by rw [← hs4]; exact pushCells_keeps _ _ _ _ (Heap.get?_push_of_some _ e)
  have stat : ∀ {σ' : L2.St} {H' : Hp} {s' : Shared}, Inv (X.blk s3 H3 scope ce fp) [] σ' H' s' → (∀ b ∈ fp, H' b = none) → ∀ b ∈ fp, FpOk (X.blk s3 H3 scope ce fp) [] H' b := fun {σ' H' s'} I' hn b hb =>
    ⟨hn b hb, (I'.ok.exf b hb).1, I'.ok.exfs b hb, .inl hb, fun x c e => (I'.ok.exf b hb).2 x c e, fun p hp => absurd (show p ∈ ([] : List (Addr × Obj)) ++ [] from hp) (by simp)⟩
  have loop : codeAny (model X.prog X.w) X.A (.compLoop (.DictComp kx vx [⟨tg, iter, ifs, 0⟩] scope pos) 0 (.ref it) (.ref D) ce) (compPost (model X.prog X.w) X.A X.xe none (EP X pins σ Q) (.ref D) s3.heap.objs.size) s4 := by
    refine compLoop_anyD (fun n s' => ∃ i H', Inv (X.blk s3 H3 scope ce fp) [] (wipe σ (own.map (·.2))) H' s' ∧ tn i s'.heap ∧ (∀ b ∈ fp, H' b = none) ∧ W i n H') ?_ m0 ⟨0, H3, I4, st4, clear, w0⟩
    rintro n s5 ⟨i, H5, I5, st5, n5, w5⟩
    rcases turn i n H5 w5 with ⟨stop, qq⟩ | ⟨go, Nx, hNx, step⟩
    · refine thnF (T.done (X.blk s3 H3 scope ce fp) rfl rfl rfl hc i [] s5 _ H5 (fun _ _ => False) I5 (stat I5 n5) st5 stop) fun r s6 ⟨hr, I6⟩ => ?_
      subst hr
      have I7 : Inv X pins σ H5 s6 := I3.call' (ch := fp) I6.os I6.base I6.hok I6.bare fun b hb => ⟨(f3 b hb).1.2.2.2.1, (f3 b hb).1.2.1, (f3 b hb).1.2.2.2.2.1, (f3 b hb).1.2.2.2.2.2⟩
      have nC : H5 s3.heap.objs.size = none := cL ▸ (show H5 ce.locals = none from I6.free)
      obtain ⟨m, hn, _⟩ := I6.loc
      have hn' : s6.heap.Ns s3.heap.objs.size m := cL ▸ (show s6.heap.Ns ce.locals m from hn)
      obtain ⟨f0, f1, f3', f4, f5, f6⟩ := I3.fpOk (Nat.le_refl _) nC
      exact ⟨m, hn', fun h'' sb => ⟨.ref D, H5, I7.turned (t' := s6.toks) (fun b o hb e => (sb.2 b hb).trans e) f0 f1 f4 f5 f6, rfl, qq⟩⟩
    · refine thnF (T.item (X.blk s3 H3 scope ce fp) rfl rfl rfl hc i [] s5 _ H5 (fun _ _ => False) I5 (stat I5 n5) st5 go) fun r s6 ⟨u, hr, h6⟩ => ?_
      subst hr
      refine thnF h6 fun _ s7 ⟨x, H7, I7, r7, y7, st7, n7⟩ => ?_
      have P7 := I7.pinned (stat I7 n7) (T.obj _ _ st7)
      refine thnF (pg.run _ s7 _ H7 x u _ P7 r7 (step x H7 y7)) fun _ s8 ⟨σ8, H8, I8, hw8, q8⟩ => ?_
      refine thnF (pt.run _ s8 σ8 H8 _ I8 q8) fun b s9 ⟨H9, I9, q9⟩ => ?_
      have over : ∀ {s' : Shared} {H' : Hp}, Inv (X.blk s3 H3 scope ce fp) ([] ++ pinsAt fp s7.heap) σ8 H' s' → Nx H' → ∃ m, m < n ∧ ∃ i H', Inv (X.blk s3 H3 scope ce fp) [] (wipe σ (own.map (·.2))) H' s' ∧ tn i s'.heap ∧ (∀ b ∈ fp, H' b = none) ∧ W i m H' := fun {s' H'} I' nx => by
        obtain ⟨m', hm, w'⟩ := hNx H' nx
        have pin' : ∀ b ∈ fp, ∀ o, s7.heap.get? b = some o → s'.heap.get? b = some o ∧ H' b = none := fun b hb o e =>
          let z := I'.pin (b, o) (List.mem_append_right _ (List.mem_append_right _ (mem_pinsAt hb e)))
          ⟨z.1, z.2.1⟩
        refine ⟨m', hm, i + 1, H', (I'.unpinned (pins := [])).weak (by rw [← hw8, wipe_length]) (fun j v e => ?_), T.keep _ _ _ st7 fun b hb o e => (pin' b hb o e).1, fun b hb => ?_, w'⟩
        · rw [← hw8] at e
          exact (wipe_some e).1
        · obtain ⟨o, e, _⟩ := T.obj _ _ st7 b hb
          exact (pin' b hb o e).2
      cases b with
      | false => exact over I9 (by simpa using q9)
      | true =>
        simp only [if_true] at q9 ⊢
        refine thnF (pk.run _ s9 σ8 H9 _ I9 q9) fun z s10 ⟨yk, H10, I10, r10, q10⟩ => ?_
        refine thnF (pe.run _ s10 σ8 H10 _ I10 q10) fun z2 s11 ⟨yv, H11, I11, r11, kvs, k, c, ek, hc11, hD11, hz11, nx⟩ => ?_
        subst ek
        cases (show z = Value.ref c from r10)
        exact put_tup (X := X.blk s3 H3 scope ce fp) hu I11 hD11 hz11 hc11 r11 fun s12 I12 => over I12 nx
  exact codeAny_compStart_dict loop (T.self X.A 0 _ _ _ st4 loop)
end DR

/-! own rules: sorted(d) of a dict whose keys are pairs of ints -/
namespace DR
open PySem PySem.Spec PyProof.Rows L2 PySem.W
/-- the pair that a reference names -/
def keyP (H : Hp) : V → Int × Int
  | .ref t => match H t with
    | some (.tup [.int i, .int j]) => (i, j)
    | _ => (0, 0)
  | _ => (0, 0)
theorem keyP_of {H : Hp} {t : Addr} {i j : Int} (h : H t = some (.tup [.int i, .int j])) : keyP H (.ref t) = (i, j) := by
  show (match H t with | some (.tup [.int i, .int j]) => (i, j) | _ => ((0 : Int), (0 : Int))) = (i, j)
  rw [h]
def rSortedDT : List V → Hp → VK → Prop := fun vs H Q => ∃ (d : Addr) (kvs : List (List Key × V)), vs = [V.ref d] ∧ Rd H d (.dT kvs) ∧ (∀ p ∈ kvs, ∃ i j : Int, p.1 = [.inl i, .inl j]) ∧
  ∀ (bs : List Addr) (ys : List V) (p : Addr), IsKeys H kvs bs → ys.Perm (bs.map V.ref) → ys.Pairwise (fun x y => SrtO.lexB (keyP H y) (keyP H x) = false) → H p = none → Q (.ref p) (upd H p (.lst ys))
theorem isKeys_mem {H : Hp} : ∀ {kvs : List (List Key × V)} {bs : List Addr}, IsKeys H kvs bs → ∀ b ∈ bs, ∃ p ∈ kvs, H b = some (.tup (p.1.map kV))
  | _, _, .nil, b, hb => absurd hb (by simp)
  | p :: kvs, c :: bs, .cons r t, b, hb => by
    rcases List.mem_cons.mp hb with e | hb
    · exact ⟨p, List.mem_cons_self, e ▸ r⟩
    · obtain ⟨q, h1, h2⟩ := isKeys_mem (kvs := kvs) (bs := bs) t b hb
      exact ⟨q, List.mem_cons_of_mem _ h1, h2⟩
theorem cr_sortedDT {X : Cx} (hc : X.calm = true) : CallR X (.builtin "sorted") rSortedDT := by
  intro pins s σ H vs us Q I r h
  obtain ⟨d, kvs, rfl, hd, hkv, q⟩ := h
  obtain ⟨u, rfl, rx⟩ := r.one
  cases rx
  obtain ⟨z, hs, ks, pr, o, es, ep, ho, hx, hdt, he, hn⟩ := (show ObjOk X.prog X.w H s.heap d (.dT kvs) from hd.ok I.hok)
  have l1 : es.size = ks.length := size_of_entries he
  have l2 : kvs.length = ks.length := Paired.length pr
  refine Calls.call_function_entry kind_sorted plain_sorted entry_sorted (args_sorted1 _) ?_
  unfold Builtin.«sorted»
  refine wpAny_bind (m := checkCount "sorted" 1 1 _) (wpAny_pure ?_)
  refine wpAny_bind (kdu_collect (A := X.A.in1) (kdl_raw hs hx hdt) (I.ok.hd hc) ho (by omega) fun h' tk acc hk it => ?_)
  have ea : acc.toList = (ks.map fun x => x.2.1).map Value.ref := by
    rw [List.map_map]
    refine List.ext_getElem? fun j => ?_
    have hl : acc.toList.length = ks.length := by rw [Array.length_toList, it.1]; exact l1
    by_cases hj : j < ks.length
    · have gj : acc[j]? = some (acc[j]'(by rw [← Array.length_toList]; omega)) := Array.getElem?_eq_getElem _
      obtain ⟨en, hen, hv⟩ := it.2 j _ gj
      have qe := entry_at he j
      rw [hen, List.getElem?_eq_getElem hj] at qe
      have e2 : en = entryOfKey (tupleKind (mixKind X.prog X.w)) ks[j] := Option.some.inj qe
      rw [Array.getElem?_toList, gj, hv, e2, List.getElem?_map, List.getElem?_eq_getElem hj]
      rfl
    · rw [List.getElem?_eq_none (by omega), List.getElem?_eq_none (by rw [List.length_map]; omega)]
  have hik := isKeys_of pr
  generalize ks.map (fun x => x.2.1) = bs at ea hik
  have lb : bs.length = ks.length := by
    have := Paired.length hik
    omega
  rw [ea]
  refine wpAny_bind (wpAny_newList ?_ (by rw [List.length_map]; omega))
  have I1 : Inv X pins σ H { s with heap := h', toks := tk } := I.kept hk
  have I2 := I1.laid (t' := tk) (o := .lst (bs.map V.ref)) (h' := h'.push { cls := .type "list", data := .seq (bs.map Value.ref).toArray }) (a := h'.objs.size) (fun b u e => Heap.get?_push_of_some _ e) (Nat.le_refl _)
    ⟨by rw [List.length_map]; omega, bs.map Value.ref, 0, vals_refs bs, Heap.get?_push_size _ rfl⟩
  have nD : H h'.objs.size = none := I1.hok.fresh (Nat.le_refl _)
  have hob : (h'.push { cls := .type "list", data := .seq (bs.map Value.ref).toArray }).get? h'.objs.size = some (seqObj "list" (bs.map Value.ref).toArray 0) := Heap.get?_push_size _ rfl
  have isp : ∀ v ∈ bs.map Value.ref, Srt.IsPair (h'.push { cls := .type "list", data := .seq (bs.map Value.ref).toArray }) v (keyP H (backV v)).1 (keyP H (backV v)).2 := fun v hv => by
    obtain ⟨b, hb, rfl⟩ := List.mem_map.mp hv
    obtain ⟨p, hp, e⟩ := isKeys_mem hik b hb
    obtain ⟨i, j, e2⟩ := hkv p hp
    rw [e2] at e
    have e3 : H b = some (.tup [.int i, .int j]) := e
    have kp : keyP H (backV (Value.ref b)) = (i, j) := keyP_of e3
    rw [kp]
    obtain ⟨_, its2, r2, o2, ho2, hc2, n2, hd2⟩ := I2.hok b _ (by rw [upd_ne (ne_of_none e3 nD)]; exact e3)
    obtain ⟨u1, u2, rfl, ri, rj⟩ := vals2 r2
    obtain ⟨t1, rfl⟩ := ri
    obtain ⟨t2, rfl⟩ := rj
    exact ⟨b, o2, t1, t2, n2, rfl, ho2, hc2, hd2⟩
  have srt : wpAny (model X.prog X.w) X.A.in1 (call (.builtin "list.sort") [.ref h'.objs.size]) (fun _ s' => EP X pins σ Q (.ref h'.objs.size) s') X.xe { s with heap := h'.push { cls := .type "list", data := .seq (bs.map Value.ref).toArray }, toks := tk } := by
    refine wpAny_call_entry PyProof.Rows.slot_list_sort ⟨_, hob, rfl⟩ PyProof.Rows.entry_list_sort
      (SrtO.list_sort_ord (SrtO.swo_lex fun u => keyP H (backV u)) hob (by rw [List.length_map]; omega) (fun h2 => SrtO.pairs_sortableO (by omega) isp fun o' e => ?_) fun out h1 h2 => ⟨.none, rfl, ?_⟩) (PyProof.Rows.args_list_sort _)
    · have e' : some o' = some (seqObj "list" (bs.map Value.ref).toArray 0) := e.symm.trans hob
      cases e'
      intro c
      exact absurd (Value.type.inj c) (by decide)
    · have h3 : ∀ u ∈ out, ∃ a, u = Value.ref a := fun u hu => by
        obtain ⟨b, _, e⟩ := List.mem_map.mp (h2.perm.mem_iff.mp hu)
        exact ⟨b, e.symm⟩
      obtain ⟨ep', he'⟩ := PyProof.Rows.sortedHeap_at (vs := bs.map Value.ref) (out := out.toArray) hob
      have hp : (out.map backV).Perm (bs.map V.ref) := by
        have := h2.perm.map backV
        rw [List.map_map] at this
        exact this
      have I3 : Inv X pins σ (upd (upd H h'.objs.size (.lst (bs.map V.ref))) h'.objs.size (.lst (out.map backV))) { s with heap := PyProof.Rows.sortedHeap (h'.push { cls := .type "list", data := .seq (bs.map Value.ref).toArray }) h'.objs.size (bs.map Value.ref) out.toArray, toks := tk } := by
        refine I2.write (e := h'.objs.size) (t' := tk) (by rw [upd_same]; trivial) (.inl rfl) (fun b u hb hu => ?_) ⟨_, he'⟩ ⟨?_, out, ep', vals_back h3, he'⟩
        · rw [PyProof.Rows.sortedHeap_old hb (Heap.lt_size hu)]
          exact hu
        · rw [hp.length_eq, List.length_map]
          omega
      rw [upd_upd] at I3
      exact ⟨.ref _, _, I3, rfl, q bs _ _ hik hp (List.pairwise_map.mpr (h1.imp fun {x y} e => e)) nD⟩
  exact wpAny_bind (wpAny_holding (wpAny_mono srt (fun _ s' x => wpAny_pure ⟨_, rfl, x⟩) fun _ _ e => e))
end DR

/-! own rules: sorted of tuples of ints of any lengths, any number of them, and of a dict with such keys: the same ones in some order -/
namespace SD
open PySem PySem.Spec PyProof.Rows L2 PySem.W Srt TS
section
variable {prog : Program} {w : World} {A : Around} {E : Value → Shared → Prop} {s : Shared}
/-- two rows of ints, place by place -/
theorem lex_go {b fin : Bool} : ∀ {us vs : List Value} {ns ms : List Int} (i : Nat), IntsAre us ns → IntsAre vs ms → ∃ r : Bool, KatLex prog w A b fin (fun x s' => s' = s ∧ x = r) (us.zip vs) i s
  | [], _, _, _, i, _, _ => ⟨fin, kat_nil ⟨rfl, rfl⟩⟩
  | _ :: _, [], _, _, i, _, _ => ⟨fin, kat_nil ⟨rfl, rfl⟩⟩
  | _ :: us, _ :: vs, _, _, i, .cons x t h, .cons y u k => by
    by_cases e : x = y
    · obtain ⟨r, hr⟩ := lex_go (fin := fin) (i + 1) h k
      refine ⟨r, kat_cons (SeqAt.EqAt.int_int x t y u prog w _ _ ?_)⟩
      refine kat_go (fun _ => kat_yes hr) (fun z => ?_)
      exact absurd e (by simpa using z)
    · refine ⟨decide (x < y), kat_cons (SeqAt.EqAt.int_int x t y u prog w _ _ ?_)⟩
      refine kat_go (fun z => ?_) (fun _ => kat_no ?_)
      · exact absurd (by simpa using z) e
      · exact oneLt_ints _ ⟨rfl, rfl⟩
/-- a tuple of ints before another, by the general way -/
theorem gen_lt {v u : Value} {ns ms : List Int} (hv : TupInts s.heap v ns) (hu : TupInts s.heap u ms) (room : A.units < cLine) : wpAny (model prog w) A (oneLt' false v u) (fun x s' => s' = s ∧ x = HT.lexLt ns ms) E s := by
  obtain ⟨a, xs, rfl, ta, ia⟩ := hv
  obtain ⟨b, ys, rfl, tb, ib⟩ := hu
  refine kat_one _ _ ?_
  exact HT.lt_tupInts ta tb ia ib room ⟨rfl, rfl⟩
/-- by the way of one type -/
theorem one_lt {v u : Value} {ns ms : List Int} (hv : TupInts s.heap v ns) (hu : TupInts s.heap u ms) (room : A.units < cLine) : wpAny (model prog w) A (oneLt' true v u) (fun x s' => s' = s ∧ x = HT.lexLt ns ms) E s := by
  obtain ⟨a, xs, rfl, ta, ia⟩ := hv
  obtain ⟨b, ys, rfl, tb, ib⟩ := hu
  obtain ⟨⟨cls, dd, data, sl⟩, ho, hc, n, hd⟩ := id ta
  obtain ⟨⟨cls2, dd2, data2, sl2⟩, ho2, hc2, n2, hd2⟩ := id tb
  simp only at hc hd hc2 hd2
  subst hc hd hc2 hd2
  rw [oneLt'_eq]
  simp only [if_true]
  refine wpAny_bind (wpAny_cRoomFor room ?_)
  refine wpAny_bind (wpAny_callSpecialIfBound?_slot ⟨_, ho, rfl⟩ PySem.F.slot_tuple_lt (call_meets PySem.F.slot_tuple_lt ⟨_, ho, rfl⟩ PySem.F.entry_tuple_lt (PySem.F.args_tuple_lt_2 _ _) (HT.tuple_lt_ints a b xs ys n n2 dd dd2 sl sl2 ns ms ia ib) ⟨ho, ho2, ?_⟩))
  exact wpAny_truthy_bool ⟨rfl, rfl⟩
/-- the first places -/
theorem firsts_any : ∀ {vs : List Value}, (∀ v ∈ vs, ∃ ns, TupInts s.heap v ns) → ∃ fs : List (Option Value), fs.length = vs.length ∧ (∀ f ∈ fs, ∀ x, f = some x → ∃ i t, x = Value.int i t) ∧
    ∀ (Q : List (Option Value) → Shared → Prop) (E : Value → Shared → Prop), Q fs s → wpAny (model prog w) A (vs.mapM firstOfTuple') Q E s
  | [], _ => ⟨[], rfl, fun f hf => absurd hf (by simp), fun Q E h => by
    rw [List.mapM_nil]
    exact wpAny_pure h⟩
  | v :: vs, t => by
    obtain ⟨ns, a, xs, rfl, ⟨o, ho, hc, n, hd⟩, hi⟩ := t v (List.mem_cons_self ..)
    obtain ⟨fs, h1, h2, h3⟩ := firsts_any (vs := vs) fun u hu => t u (List.mem_cons_of_mem _ hu)
    refine ⟨xs[0]? :: fs, by rw [List.length_cons, List.length_cons, h1], fun f hf x hx => ?_, fun Q E h => ?_⟩
    · rcases List.mem_cons.mp hf with rfl | hf
      · have : x ∈ xs.toList := by
          rw [← Array.getElem?_toList] at hx
          exact List.mem_of_getElem? hx
        exact hi.all x this
      · exact h2 f hf x hx
    · rw [List.mapM_cons]
      refine wpAny_bind ?_
      rw [kas_first_eq]
      refine wpAny_bind (Looks.here (show Looks (model prog w) s.heap (typeOf (.ref a)) o.cls from (Looks.ld ho).andThen .now) ?_)
      rw [hc, if_neg (by first | decide | simp)]
      refine wpAny_bind (listItems_at ho hd (wpAny_pure ?_))
      exact wpAny_bind (h3 _ _ (wpAny_pure h))
/-- all of one type -/
theorem one_type {vs : List Value} {T : Value} {Q : Option Value → Shared → Prop} (hne : 0 < vs.length) (hT : ∀ v ∈ vs, Looks (model prog w) s.heap (typeOf v) T) (hT2 : (T == T) = true) (h : Q (some T) s) : wpAny (model prog w) A (oneTypeOnly' vs.toArray) Q E s := by
  rw [oneTypeOnly'_eq, List.mapM_toArray, map_eq_pure_bind]
  refine wpAny_bind (wpAny_bind (kas_mapM (r := T) _ (fun v hv Q' hq => (hT v hv).here hq) (wpAny_pure ?_)))
  have hall2 : ((List.map (fun _ => T) vs).toArray.all fun x => x == T) = true := by
    simp only [List.all_toArray, List.all_map, List.all_eq_true]
    intro _ _
    exact hT2
  have h0 : (List.map (fun _ => T) vs).toArray[0]? = some T := by
    cases vs with
    | nil => exact absurd hne (by simp)
    | cons _ _ => simp
  rw [h0]
  simp only [hall2, if_true]
  exact wpAny_pure h
theorem tups_sortable {a : Addr} {vs : List Value} (h0 : 0 < vs.length) (hp : ∀ v ∈ vs, ∃ ns, TupInts s.heap v ns) (ha : ∀ o, s.heap.get? a = some o → o.cls ≠ .type "tuple") (room : A.units < cLine) : Sortable prog w A s a vs := by
  intro h' keep
  have hp' : ∀ v ∈ vs, ∃ ns, TupInts h' v ns := fun v hm => by
    obtain ⟨ns, p⟩ := hp v hm
    exact ⟨ns, p.keeps fun b o e c => keep b o (fun z => by subst z; exact ha o e c) e⟩
  obtain ⟨fs, l1, l2, l3⟩ := firsts_any (prog := prog) (w := w) (A := A) (s := { s with heap := h' }) hp'
  have lt : ∀ v ∈ vs, Looks (model prog w) h' (typeOf v) (.type "tuple") := fun v hv => by
    obtain ⟨ns, b, xs, rfl, ⟨o, ho, hc, n, hd⟩, hi⟩ := hp' v hv
    rw [← hc]
    exact (Looks.ld ho).andThen .now
  by_cases hall : (fs.toArray.all fun x => x.isSome) = true
  · refine ⟨tuples' true, fun Q E hq => ?_, fun p q hm hm' => ?_⟩
    · rw [kat_kind_eq, List.mapM_toArray, map_eq_pure_bind]
      refine wpAny_bind (wpAny_bind (l3 _ _ (wpAny_pure ?_)))
      rw [if_pos hall]
      refine wpAny_bind (wpAny_rule ?_)
      have hfm : (fs.toArray.filterMap id) = (fs.filterMap id).toArray := by simp
      rw [hfm]
      have len : (fs.filterMap id).length = fs.length := by
        simp only [List.all_toArray, List.all_eq_true] at hall
        clear l1 l2 l3 hfm
        induction fs with
        | nil => rfl
        | cons f r ih =>
          have := hall f (List.mem_cons_self ..)
          cases f with
          | none => cases this
          | some x =>
            rw [List.filterMap_cons]
            show (x :: r.filterMap id).length = _
            rw [List.length_cons, List.length_cons, ih fun g hg => hall g (List.mem_cons_of_mem _ hg)]
      refine wpAny_bind (one_type (T := .type "int") (by omega) (fun v hv => ?_) (by rfl) ?_)
      · obtain ⟨f, hf, e⟩ := List.mem_filterMap.mp hv
        obtain ⟨x, t, rfl⟩ := l2 f hf v e
        exact Looks.now
      · exact wpAny_pure hq
    · obtain ⟨ns, x, xs, e1, ⟨o, ho, hc, n, hd⟩, hi⟩ := hp' _ hm
      obtain ⟨ms, y, ys, e2, ⟨o', ho', hc', n', hd'⟩, hi'⟩ := hp' _ hm'
      obtain ⟨r, hr⟩ := lex_go (prog := prog) (w := w) (A := A) (s := { s with heap := h' }) (b := true) (fin := decide (xs.size < ys.size)) 0 hi hi'
      refine ⟨r, ?_⟩
      rw [e1, e2]
      exact kat_lt ho hd ho' hd' hr
  · have pre : ∀ (κ : SortKind), ((fs[0]?.bind id).isSome = true ∧ κ = general' ∨ ¬ (fs[0]?.bind id).isSome = true ∧ κ = oneType') → ∀ (Q : SortKind → Shared → Prop) (E : Value → Shared → Prop), Q κ { s with heap := h' } → wpAny (model prog w) A (keyKind' vs.toArray) Q E { s with heap := h' } := fun κ hk Q E hq => by
      rw [kat_kind_eq, List.mapM_toArray, map_eq_pure_bind]
      refine wpAny_bind (wpAny_bind (l3 _ _ (wpAny_pure ?_)))
      rw [if_neg hall]
      have e0 : fs.toArray[0]? = fs[0]? := by simp
      rw [e0]
      rcases hk with ⟨h1, rfl⟩ | ⟨h1, rfl⟩
      · rw [if_pos h1]
        exact wpAny_pure hq
      · rw [if_neg h1]
        refine wpAny_bind (one_type (T := .type "tuple") h0 lt (by rfl) ?_)
        exact wpAny_pure hq
    by_cases h1 : (fs[0]?.bind id).isSome = true
    · refine ⟨general', pre _ (.inl ⟨h1, rfl⟩), fun p q hm hm' => ?_⟩
      obtain ⟨ns, hn⟩ := hp' _ hm
      obtain ⟨ms, hm2⟩ := hp' _ hm'
      exact ⟨_, gen_lt (s := { s with heap := h' }) hn hm2 room⟩
    · refine ⟨oneType', pre _ (.inr ⟨h1, rfl⟩), fun p q hm hm' => ?_⟩
      obtain ⟨ns, hn⟩ := hp' _ hm
      obtain ⟨ms, hm2⟩ := hp' _ hm'
      refine ⟨HT.lexLt ns ms, ?_⟩
      rw [keyLt'_oneType]
      exact one_lt (s := { s with heap := h' }) hn hm2 room
end
/-- sorted(d), the keys tuples of ints -/
def rSortedDA : List V → Hp → VK → Prop := fun vs H Q => ∃ (d : Addr) (kvs : List (List Key × V)), vs = [V.ref d] ∧ Rd H d (.dT kvs) ∧ (∀ p ∈ kvs, ∃ ns : List Int, p.1 = ns.map Sum.inl) ∧
  ∀ (bs : List Addr) (ys : List V) (p : Addr), IsKeys H kvs bs → ys.Perm (bs.map V.ref) → H p = none → Q (.ref p) (upd H p (.lst ys))
theorem keyInts (ns : List Int) : (ns.map (Sum.inl (β := Str))).map kV = ns.map V.int := by
  rw [List.map_map]
  rfl
theorem cr_sortedDA {X : Cx} (hc : X.calm = true) (hu : X.A.units + 2 < cLine) : CallR X (.builtin "sorted") rSortedDA := by
  intro pins s σ H vs us Q I r h
  obtain ⟨d, kvs, rfl, hd, hkv, q⟩ := h
  obtain ⟨u, rfl, rx⟩ := r.one
  cases rx
  obtain ⟨z, hs, ks, pr, o, es, ep, ho, hx, hdt, he, hn⟩ := (show ObjOk X.prog X.w H s.heap d (.dT kvs) from hd.ok I.hok)
  have l1 : es.size = ks.length := size_of_entries he
  have l2 : kvs.length = ks.length := Paired.length pr
  refine Calls.call_function_entry kind_sorted plain_sorted entry_sorted (args_sorted1 _) ?_
  unfold Builtin.«sorted»
  refine wpAny_bind (m := checkCount "sorted" 1 1 _) (wpAny_pure ?_)
  refine wpAny_bind (kdu_collect (A := X.A.in1) (kdl_raw hs hx hdt) (I.ok.hd hc) ho (by omega) fun h' tk acc hk it => ?_)
  have ea : acc.toList = (ks.map fun x => x.2.1).map Value.ref := by
    rw [List.map_map]
    refine List.ext_getElem? fun j => ?_
    have hl : acc.toList.length = ks.length := by rw [Array.length_toList, it.1]; exact l1
    by_cases hj : j < ks.length
    · have gj : acc[j]? = some (acc[j]'(by rw [← Array.length_toList]; omega)) := Array.getElem?_eq_getElem _
      obtain ⟨en, hen, hv⟩ := it.2 j _ gj
      have qe := entry_at he j
      rw [hen, List.getElem?_eq_getElem hj] at qe
      have e2 : en = entryOfKey (tupleKind (mixKind X.prog X.w)) ks[j] := Option.some.inj qe
      rw [Array.getElem?_toList, gj, hv, e2, List.getElem?_map, List.getElem?_eq_getElem hj]
      rfl
    · rw [List.getElem?_eq_none (by omega), List.getElem?_eq_none (by rw [List.length_map]; omega)]
  have hik := isKeys_of pr
  generalize ks.map (fun x => x.2.1) = bs at ea hik
  have lb : bs.length = ks.length := by
    have := Paired.length hik
    omega
  rw [ea]
  refine wpAny_bind (wpAny_newList ?_ (by rw [List.length_map]; omega))
  have I1 : Inv X pins σ H { s with heap := h', toks := tk } := I.kept hk
  have I2 := I1.laid (t' := tk) (o := .lst (bs.map V.ref)) (h' := h'.push { cls := .type "list", data := .seq (bs.map Value.ref).toArray }) (a := h'.objs.size) (fun b u e => Heap.get?_push_of_some _ e) (Nat.le_refl _)
    ⟨by rw [List.length_map]; omega, bs.map Value.ref, 0, vals_refs bs, Heap.get?_push_size _ rfl⟩
  have nD : H h'.objs.size = none := I1.hok.fresh (Nat.le_refl _)
  have hob : (h'.push { cls := .type "list", data := .seq (bs.map Value.ref).toArray }).get? h'.objs.size = some (seqObj "list" (bs.map Value.ref).toArray 0) := Heap.get?_push_size _ rfl
  have isp : ∀ v ∈ bs.map Value.ref, ∃ ns, TupInts (h'.push { cls := .type "list", data := .seq (bs.map Value.ref).toArray }) v ns := fun v hv => by
    obtain ⟨b, hb, rfl⟩ := List.mem_map.mp hv
    obtain ⟨p, hp, e⟩ := DR.isKeys_mem hik b hb
    obtain ⟨ns, e2⟩ := hkv p hp
    rw [e2, keyInts] at e
    obtain ⟨_, its2, r2, o2, ho2, hc2, n2, hd2⟩ := I2.hok b _ (by rw [upd_ne (ne_of_none e nD)]; exact e)
    exact ⟨ns, b, its2.toArray, rfl, ⟨o2, ho2, hc2, n2, hd2⟩, by rw [List.toList_toArray]; exact intsAre_of r2⟩
  have srt : wpAny (model X.prog X.w) X.A.in1 (call (.builtin "list.sort") [.ref h'.objs.size]) (fun _ s' => EP X pins σ Q (.ref h'.objs.size) s') X.xe { s with heap := h'.push { cls := .type "list", data := .seq (bs.map Value.ref).toArray }, toks := tk } := by
    refine wpAny_call_entry PyProof.Rows.slot_list_sort ⟨_, hob, rfl⟩ PyProof.Rows.entry_list_sort
      (Srt.list_sort_any hob (by rw [List.length_map]; omega) (fun h2 => tups_sortable (by omega) isp (fun o' e => ?_) (show X.A.units + 1 + 1 < cLine by omega)) fun out h2 => ⟨.none, rfl, ?_⟩) (PyProof.Rows.args_list_sort _)
    · have e' : some o' = some (seqObj "list" (bs.map Value.ref).toArray 0) := e.symm.trans hob
      cases e'
      intro c
      exact absurd (Value.type.inj c) (by decide)
    · have h3 : ∀ u ∈ out, ∃ a, u = Value.ref a := fun u hu => by
        obtain ⟨b, _, e⟩ := List.mem_map.mp (h2.mem_iff.mp hu)
        exact ⟨b, e.symm⟩
      obtain ⟨ep', he'⟩ := PyProof.Rows.sortedHeap_at (vs := bs.map Value.ref) (out := out.toArray) hob
      have hp : (out.map backV).Perm (bs.map V.ref) := by
        have := h2.map backV
        rw [List.map_map] at this
        exact this
      have I3 : Inv X pins σ (upd (upd H h'.objs.size (.lst (bs.map V.ref))) h'.objs.size (.lst (out.map backV))) { s with heap := PyProof.Rows.sortedHeap (h'.push { cls := .type "list", data := .seq (bs.map Value.ref).toArray }) h'.objs.size (bs.map Value.ref) out.toArray, toks := tk } := by
        refine I2.write (e := h'.objs.size) (t' := tk) (by rw [upd_same]; trivial) (.inl rfl) (fun b u hb hu => ?_) ⟨_, he'⟩ ⟨?_, out, ep', vals_back h3, he'⟩
        · rw [PyProof.Rows.sortedHeap_old hb (Heap.lt_size hu)]
          exact hu
        · rw [hp.length_eq, List.length_map]
          omega
      rw [upd_upd] at I3
      exact ⟨.ref _, _, I3, rfl, q bs _ _ hik hp nD⟩
  exact wpAny_bind (wpAny_holding (wpAny_mono srt (fun _ s' x => wpAny_pure ⟨_, rfl, x⟩) fun _ _ e => e))
end SD

/-! own rules: sorted of tuples of ints of any lengths, any number of them, and of a dict with such keys: in their order -/
namespace SO
open PySem PySem.Spec PyProof.Rows L2 PySem.W Srt TS SrtO SD
section
variable {prog : Program} {w : World} {A : Around} {E : Value → Shared → Prop} {s : Shared}
/-- two rows of ints, place by place -/
theorem lex_goO {b : Bool} : ∀ {us vs : List Value} {ns ms : List Int} (i : Nat), IntsAre us ns → IntsAre vs ms → ∀ fin : Bool, fin = decide (ns.length < ms.length) → KatLex prog w A b fin (fun x s' => s' = s ∧ x = HT.lexLt ns ms) (us.zip vs) i s
  | [], [], _, _, i, .nil, .nil, fin, hf => kat_nil ⟨rfl, by rw [hf]; rfl⟩
  | [], _ :: _, _, _, i, .nil, .cons y u k, fin, hf => kat_nil ⟨rfl, by rw [hf]; rfl⟩
  | _ :: _, [], _, _, i, .cons x t h, .nil, fin, hf => kat_nil ⟨rfl, by rw [hf]; rfl⟩
  | _ :: us, _ :: vs, _, _, i, .cons x t h, .cons y u k, fin, hf => by
    by_cases e : x = y
    · have hr := lex_goO (b := b) (i + 1) h k fin (by rw [hf]; simp)
      refine kat_cons (SeqAt.EqAt.int_int x t y u prog w _ _ ?_)
      refine kat_go (fun z => kat_yes ?_) (fun z => ?_)
      · rw [HT.lexLt_cons, if_pos e]
        exact hr
      · exact absurd e (by simpa using z)
    · refine kat_cons (SeqAt.EqAt.int_int x t y u prog w _ _ ?_)
      refine kat_go (fun z => ?_) (fun _ => kat_no ?_)
      · exact absurd (by simpa using z) e
      · exact oneLt_ints _ ⟨rfl, by rw [HT.lexLt_cons, if_neg e]⟩
theorem tups_sortableO {a : Addr} {vs : List Value} {kk : Value → List Int} (h0 : 0 < vs.length) (hpp : ∀ v ∈ vs, TupInts s.heap v (kk v)) (ha : ∀ o, s.heap.get? a = some o → o.cls ≠ .type "tuple") (room : A.units < cLine) : SortableO prog w A s a vs (fun v u => HT.lexLt (kk v) (kk u)) := by
  intro h' keep
  have hq' : ∀ v ∈ vs, TupInts h' v (kk v) := fun v hm => (hpp v hm).keeps fun b o e c => keep b o (fun z => by subst z; exact ha o e c) e
  have hp' : ∀ v ∈ vs, ∃ ns, TupInts h' v ns := fun v hm => ⟨_, hq' v hm⟩
  obtain ⟨fs, l1, l2, l3⟩ := firsts_any (prog := prog) (w := w) (A := A) (s := { s with heap := h' }) hp'
  have lt : ∀ v ∈ vs, Looks (model prog w) h' (typeOf v) (.type "tuple") := fun v hv => by
    obtain ⟨ns, b, xs, rfl, ⟨o, ho, hc, n, hd⟩, hi⟩ := hp' v hv
    rw [← hc]
    exact (Looks.ld ho).andThen .now
  by_cases hall : (fs.toArray.all fun x => x.isSome) = true
  · refine ⟨tuples' true, fun Q E hq => ?_, fun p q hm hm' => ?_⟩
    · rw [kat_kind_eq, List.mapM_toArray, map_eq_pure_bind]
      refine wpAny_bind (wpAny_bind (l3 _ _ (wpAny_pure ?_)))
      rw [if_pos hall]
      refine wpAny_bind (wpAny_rule ?_)
      have hfm : (fs.toArray.filterMap id) = (fs.filterMap id).toArray := by simp
      rw [hfm]
      have len : (fs.filterMap id).length = fs.length := by
        simp only [List.all_toArray, List.all_eq_true] at hall
        clear l1 l2 l3 hfm
        induction fs with
        | nil => rfl
        | cons f r ih =>
          have := hall f (List.mem_cons_self ..)
          cases f with
          | none => cases this
          | some x =>
            rw [List.filterMap_cons]
            show (x :: r.filterMap id).length = _
            rw [List.length_cons, List.length_cons, ih fun g hg => hall g (List.mem_cons_of_mem _ hg)]
      refine wpAny_bind (one_type (T := .type "int") (by omega) (fun v hv => ?_) (by rfl) ?_)
      · obtain ⟨f, hf, e⟩ := List.mem_filterMap.mp hv
        obtain ⟨x, t, rfl⟩ := l2 f hf v e
        exact Looks.now
      · exact wpAny_pure hq
    · show wpAny (model prog w) A (keyLt' (tuples' true) p.1 q.1) (fun r s' => s' = _ ∧ r = HT.lexLt (kk p.1) (kk q.1)) _ _
      obtain ⟨x, xs, e1, ⟨o, ho, hc, n, hd⟩, hi⟩ := hq' _ hm
      obtain ⟨y, ys, e2, ⟨o', ho', hc', n', hd'⟩, hi'⟩ := hq' _ hm'
      have hr := lex_goO (prog := prog) (w := w) (A := A) (s := { s with heap := h' }) (b := true) 0 hi hi' (decide (xs.size < ys.size)) (by rw [← hi.length, ← hi'.length, Array.length_toList, Array.length_toList])
      generalize kk p.1 = ns at hr hi ⊢
      generalize kk q.1 = ms at hr hi' ⊢
      rw [e1, e2]
      exact kat_lt ho hd ho' hd' hr
  · have pre : ∀ (κ : SortKind), ((fs[0]?.bind id).isSome = true ∧ κ = general' ∨ ¬ (fs[0]?.bind id).isSome = true ∧ κ = oneType') → ∀ (Q : SortKind → Shared → Prop) (E : Value → Shared → Prop), Q κ { s with heap := h' } → wpAny (model prog w) A (keyKind' vs.toArray) Q E { s with heap := h' } := fun κ hk Q E hq => by
      rw [kat_kind_eq, List.mapM_toArray, map_eq_pure_bind]
      refine wpAny_bind (wpAny_bind (l3 _ _ (wpAny_pure ?_)))
      rw [if_neg hall]
      have e0 : fs.toArray[0]? = fs[0]? := by simp
      rw [e0]
      rcases hk with ⟨h1, rfl⟩ | ⟨h1, rfl⟩
      · rw [if_pos h1]
        exact wpAny_pure hq
      · rw [if_neg h1]
        refine wpAny_bind (one_type (T := .type "tuple") h0 lt (by rfl) ?_)
        exact wpAny_pure hq
    by_cases h1 : (fs[0]?.bind id).isSome = true
    · refine ⟨general', pre _ (.inl ⟨h1, rfl⟩), fun p q hm hm' => ?_⟩
      exact gen_lt (s := { s with heap := h' }) (hq' _ hm) (hq' _ hm') room
    · refine ⟨oneType', pre _ (.inr ⟨h1, rfl⟩), fun p q hm hm' => ?_⟩
      show wpAny (model prog w) A (keyLt' oneType' p.1 q.1) (fun r s' => s' = _ ∧ r = HT.lexLt (kk p.1) (kk q.1)) _ _
      rw [keyLt'_oneType]
      exact one_lt (s := { s with heap := h' }) (hq' _ hm) (hq' _ hm') room
end

/-- the ints of a tuple on the heap -/
def intV : V → Int
  | .int i => i
  | _ => 0
def adV : V → Addr
  | .ref a => a
  | _ => 0
def kH (H : Hp) : V → List Int
  | .ref a => (match H a with
    | some (.tup vs) => vs.map intV
    | _ => [])
  | _ => []
theorem kH_at {H : Hp} {a : Addr} {ns : List Int} (h : H a = some (.tup (ns.map V.int))) : kH H (.ref a) = ns := by
  show (match H a with | some (.tup vs) => vs.map intV | _ => []) = ns
  rw [h]
  show (ns.map V.int).map intV = ns
  rw [List.map_map]
  exact List.map_id' ns
abbrev Row := Addr × List Int
def refR (L : List Row) : List V := L.map fun x => V.ref x.1
def RowsAt (H : Hp) (L : List Row) : Prop := ∀ x ∈ L, H x.1 = some (.tup (x.2.map V.int))
def SrtR (L : List Row) : Prop := L.Pairwise fun x y => HT.lexLt y.2 x.2 = false
/-- sorted(xs), a list of tuples of ints -/
def rSortedTO (K : PySem.W.Frag) : List V → Hp → VK → Prop := fun vs H Q => ∃ (a : Addr) (L : List Row), vs = [V.ref a] ∧ SqL K H a (refR L) ∧ RowsAt H L ∧
  ∀ (L' : List Row) (p : Addr), L'.Perm L → SrtR L' → H p = none → Q (.ref p) (upd H p (.lst (refR L')))
/-- what came out -/
theorem rows_out {H : Hp} {L : List Row} (hL : RowsAt H L) {ys : List V} (hp : ys.Perm (refR L)) (hs : Srtd (fun x y => HT.lexLt (kH H x) (kH H y)) ys) : ∃ L' : List Row, L'.Perm L ∧ SrtR L' ∧ ys = refR L' := by
  refine ⟨ys.map fun y => (adV y, kH H y), ?_, ?_, ?_⟩
  · refine (hp.map _).trans ?_
    unfold refR
    rw [List.map_map]
    refine List.Perm.of_eq ?_
    conv => rhs; rw [← List.map_id L]
    refine List.map_congr_left fun x hx => ?_
    show (x.1, kH H (.ref x.1)) = x
    rw [kH_at (hL x hx)]
  · exact List.pairwise_map.mpr hs
  · unfold refR
    rw [List.map_map]
    conv => lhs; rw [← List.map_id ys]
    refine List.map_congr_left fun y hy => ?_
    obtain ⟨x, _, rfl⟩ := List.mem_map.mp (hp.mem_iff.mp hy)
    rfl
theorem swoH (H : Hp) : Swo (fun x y => HT.lexLt (kH H x) (kH H y)) := NtL.swo_lexL (kH H)
theorem cr_sortedTO {X : Cx} (hu : X.A.units + 2 < cLine) : CallR X (.builtin "sorted") (rSortedTO X.K) := by
  intro pins s σ H vs us Q I r h
  obtain ⟨a, L, rfl, hs, hL, q⟩ := h
  obtain ⟨its, rv, hl, hz⟩ := I.list hs
  obtain ⟨u, rfl, ru⟩ := vals1 r
  obtain rfl : u = Value.ref a := ru
  obtain ⟨e1, e2⟩ := refs_back rv fun x m => by
    obtain ⟨t, _, e⟩ := List.mem_map.mp m
    exact ⟨t.1, e.symm⟩
  have isp : ∀ v ∈ its, TupInts s.heap v (kH H (backV v)) := fun v hv => by
    obtain ⟨t, rfl⟩ := e2 v hv
    have hm : V.ref t ∈ refR L := by rw [e1]; exact List.mem_map.mpr ⟨_, hv, rfl⟩
    obtain ⟨x, hx, ex⟩ := List.mem_map.mp hm
    have ht := hL x hx
    cases ex
    show TupInts s.heap (.ref x.1) (kH H (.ref x.1))
    rw [kH_at ht]
    obtain ⟨_, its2, r2, o2, ho2, hc2, n2, hd2⟩ := I.hok _ _ ht
    exact ⟨x.1, its2.toArray, rfl, ⟨o2, ho2, hc2, n2, hd2⟩, by rw [List.toList_toArray]; exact intsAre_of r2⟩
  refine sorted_ord (ltv := fun v u => HT.lexLt (kH H (backV v)) (kH H (backV u))) (NtL.swo_lexL fun v => kH H (backV v)) hl.isList (by rw [← rv.length]; exact hz) (fun h2 h₁ a' ho' hk => ?_) fun out h1 h2 => ?_
  · refine tups_sortableO (kk := fun v => kH H (backV v)) (by omega) (fun v hv => (isp v hv).keeps fun b o e _ => (hk b o e).2) (fun o' e => ?_) (show X.A.units + 1 + 1 < cLine by omega)
    have e' : some o' = some (seqObj "list" its.toArray 0) := e.symm.trans ho'
    cases e'
    intro c
    exact absurd (Value.type.inj c) (by decide)
  · obtain ⟨ep, he'⟩ := PyProof.Rows.sortedAll_at s.heap its out.toArray
    have h3 : ∀ u ∈ out, ∃ a, u = Value.ref a := fun u hu => e2 u (h2.perm.mem_iff.mp hu)
    have hp : (out.map backV).Perm (refR L) := by
      rw [e1]
      exact h2.perm.map backV
    obtain ⟨L', p1, p2, p3⟩ := rows_out hL hp (srtd_map (lt := fun x y => HT.lexLt (kH H x) (kH H y)) h1)
    have := q L' (s.heap.objs.size + 1) p1 p2 (I.hok.fresh (Nat.le_succ _))
    rw [← p3] at this
    exact ⟨.ref _, upd H (s.heap.objs.size + 1) (.lst (out.map backV)), I.laid (t' := s.toks) (fun _ _ => PyProof.Rows.sortedAll_old) (Nat.le_succ _) ⟨by rw [hp.length_eq]; exact hz, out, ep, vals_back h3, he'⟩, rfl, this⟩
/-- sorted(d), the keys tuples of ints -/
def rSortedDO : List V → Hp → VK → Prop := fun vs H Q => ∃ (d : Addr) (kvs : List (List Key × V)), vs = [V.ref d] ∧ Rd H d (.dT kvs) ∧ (∀ p ∈ kvs, ∃ ns : List Int, p.1 = ns.map Sum.inl) ∧
  ∀ (L : List Row) (p : Addr), RowsAt H L → (L.map fun x => x.2.map (Sum.inl (β := Str))).Perm (kvs.map (·.1)) → SrtR L → H p = none → Q (.ref p) (upd H p (.lst (refR L)))
theorem rows_of {H : Hp} : ∀ {kvs : List (List Key × V)} {bs : List Addr}, (∀ p ∈ kvs, ∃ ns : List Int, p.1 = ns.map Sum.inl) → IsKeys H kvs bs → ∃ L0 : List Row, bs.map V.ref = refR L0 ∧ (L0.map fun x => x.2.map (Sum.inl (β := Str))) = kvs.map (·.1) ∧ RowsAt H L0
  | [], [], _, _ => ⟨[], rfl, rfl, fun x hx => absurd hx (by simp)⟩
  | p :: kvs, b :: bs, hk, .cons h hi => by
    obtain ⟨L0, a1, a2, a3⟩ := rows_of (fun q hq => hk q (List.mem_cons_of_mem _ hq)) hi
    obtain ⟨ns, e⟩ := hk p (List.mem_cons_self ..)
    refine ⟨(b, ns) :: L0, by rw [List.map_cons, a1]; rfl, by rw [List.map_cons, List.map_cons, a2, e], fun x hx => ?_⟩
    rcases List.mem_cons.mp hx with rfl | hx
    · rw [e, keyInts] at h
      exact h
    · exact a3 x hx
theorem cr_sortedDO {X : Cx} (hc : X.calm = true) (hu : X.A.units + 2 < cLine) : CallR X (.builtin "sorted") rSortedDO := by
  intro pins s σ H vs us Q I r h
  obtain ⟨d, kvs, rfl, hd, hkv, q⟩ := h
  obtain ⟨u, rfl, rx⟩ := r.one
  cases rx
  obtain ⟨z, hs, ks, pr, o, es, ep, ho, hx, hdt, he, hn⟩ := (show ObjOk X.prog X.w H s.heap d (.dT kvs) from hd.ok I.hok)
  have l1 : es.size = ks.length := size_of_entries he
  have l2 : kvs.length = ks.length := Paired.length pr
  refine Calls.call_function_entry kind_sorted plain_sorted entry_sorted (args_sorted1 _) ?_
  unfold Builtin.«sorted»
  refine wpAny_bind (m := checkCount "sorted" 1 1 _) (wpAny_pure ?_)
  refine wpAny_bind (kdu_collect (A := X.A.in1) (kdl_raw hs hx hdt) (I.ok.hd hc) ho (by omega) fun h' tk acc hk it => ?_)
  have ea : acc.toList = (ks.map fun x => x.2.1).map Value.ref := by
    rw [List.map_map]
    refine List.ext_getElem? fun j => ?_
    have hl : acc.toList.length = ks.length := by rw [Array.length_toList, it.1]; exact l1
    by_cases hj : j < ks.length
    · have gj : acc[j]? = some (acc[j]'(by rw [← Array.length_toList]; omega)) := Array.getElem?_eq_getElem _
      obtain ⟨en, hen, hv⟩ := it.2 j _ gj
      have qe := entry_at he j
      rw [hen, List.getElem?_eq_getElem hj] at qe
      have e2 : en = entryOfKey (tupleKind (mixKind X.prog X.w)) ks[j] := Option.some.inj qe
      rw [Array.getElem?_toList, gj, hv, e2, List.getElem?_map, List.getElem?_eq_getElem hj]
      rfl
    · rw [List.getElem?_eq_none (by omega), List.getElem?_eq_none (by rw [List.length_map]; omega)]
  have hik := isKeys_of pr
  generalize ks.map (fun x => x.2.1) = bs at ea hik
  have lb : bs.length = ks.length := by
    have := Paired.length hik
    omega
  rw [ea]
  refine wpAny_bind (wpAny_newList ?_ (by rw [List.length_map]; omega))
  have I1 : Inv X pins σ H { s with heap := h', toks := tk } := I.kept hk
  have I2 := I1.laid (t' := tk) (o := .lst (bs.map V.ref)) (h' := h'.push { cls := .type "list", data := .seq (bs.map Value.ref).toArray }) (a := h'.objs.size) (fun b u e => Heap.get?_push_of_some _ e) (Nat.le_refl _)
    ⟨by rw [List.length_map]; omega, bs.map Value.ref, 0, vals_refs bs, Heap.get?_push_size _ rfl⟩
  have nD : H h'.objs.size = none := I1.hok.fresh (Nat.le_refl _)
  have hob : (h'.push { cls := .type "list", data := .seq (bs.map Value.ref).toArray }).get? h'.objs.size = some (seqObj "list" (bs.map Value.ref).toArray 0) := Heap.get?_push_size _ rfl
  have isp : ∀ v ∈ bs.map Value.ref, TupInts (h'.push { cls := .type "list", data := .seq (bs.map Value.ref).toArray }) v (kH H (backV v)) := fun v hv => by
    obtain ⟨b, hb, rfl⟩ := List.mem_map.mp hv
    obtain ⟨p, hp, e⟩ := DR.isKeys_mem hik b hb
    obtain ⟨ns, e2⟩ := hkv p hp
    rw [e2, keyInts] at e
    obtain ⟨_, its2, r2, o2, ho2, hc2, n2, hd2⟩ := I2.hok b _ (by rw [upd_ne (ne_of_none e nD)]; exact e)
    show TupInts _ (.ref b) (kH H (.ref b))
    rw [kH_at e]
    exact ⟨b, its2.toArray, rfl, ⟨o2, ho2, hc2, n2, hd2⟩, by rw [List.toList_toArray]; exact intsAre_of r2⟩
  have srt : wpAny (model X.prog X.w) X.A.in1 (call (.builtin "list.sort") [.ref h'.objs.size]) (fun _ s' => EP X pins σ Q (.ref h'.objs.size) s') X.xe { s with heap := h'.push { cls := .type "list", data := .seq (bs.map Value.ref).toArray }, toks := tk } := by
    refine wpAny_call_entry PyProof.Rows.slot_list_sort ⟨_, hob, rfl⟩ PyProof.Rows.entry_list_sort
      (list_sort_ord (ltv := fun v u => HT.lexLt (kH H (backV v)) (kH H (backV u))) (NtL.swo_lexL fun v => kH H (backV v)) hob (by rw [List.length_map]; omega) (fun h2 => tups_sortableO (kk := fun v => kH H (backV v)) (by omega) isp (fun o' e => ?_) (show X.A.units + 1 + 1 < cLine by omega)) fun out h1 hst => ⟨.none, rfl, ?_⟩) (PyProof.Rows.args_list_sort _)
    · have e' : some o' = some (seqObj "list" (bs.map Value.ref).toArray 0) := e.symm.trans hob
      cases e'
      intro c
      exact absurd (Value.type.inj c) (by decide)
    · have h2 := hst.perm
      have h3 : ∀ u ∈ out, ∃ a, u = Value.ref a := fun u hu => by
        obtain ⟨b, _, e⟩ := List.mem_map.mp (h2.mem_iff.mp hu)
        exact ⟨b, e.symm⟩
      obtain ⟨ep', he'⟩ := PyProof.Rows.sortedHeap_at (vs := bs.map Value.ref) (out := out.toArray) hob
      have hp : (out.map backV).Perm (bs.map V.ref) := by
        have := h2.map backV
        rw [List.map_map] at this
        exact this
      have I3 : Inv X pins σ (upd (upd H h'.objs.size (.lst (bs.map V.ref))) h'.objs.size (.lst (out.map backV))) { s with heap := PyProof.Rows.sortedHeap (h'.push { cls := .type "list", data := .seq (bs.map Value.ref).toArray }) h'.objs.size (bs.map Value.ref) out.toArray, toks := tk } := by
        refine I2.write (e := h'.objs.size) (t' := tk) (by rw [upd_same]; trivial) (.inl rfl) (fun b u hb hu => ?_) ⟨_, he'⟩ ⟨?_, out, ep', vals_back h3, he'⟩
        · rw [PyProof.Rows.sortedHeap_old hb (Heap.lt_size hu)]
          exact hu
        · rw [hp.length_eq, List.length_map]
          omega
      rw [upd_upd] at I3
      obtain ⟨L0, hr, hk0, hrow⟩ : ∃ L0 : List Row, bs.map V.ref = refR L0 ∧ (L0.map fun x => x.2.map (Sum.inl (β := Str))) = kvs.map (·.1) ∧ RowsAt H L0 := rows_of hkv hik
      rw [hr] at hp
      obtain ⟨L', p1, p2, p3⟩ := rows_out hrow hp (srtd_map (lt := fun x y => HT.lexLt (kH H x) (kH H y)) h1)
      have := q L' h'.objs.size (fun x hx => hrow x (p1.mem_iff.mp hx)) (hk0 ▸ p1.map _) p2 nD
      rw [← p3] at this
      exact ⟨.ref _, _, I3, rfl, this⟩
  exact wpAny_bind (wpAny_holding (wpAny_mono srt (fun _ s' x => wpAny_pure ⟨_, rfl, x⟩) fun _ _ e => e))

theorem lex_tot : ∀ {a b : List Int}, HT.lexLt a b = false → HT.lexLt b a = false → a = b
  | [], [], _, _ => rfl
  | [], _ :: _, h, _ => by cases h
  | _ :: _, [], _, h => by cases h
  | x :: a, y :: b, h1, h2 => by
    rw [HT.lexLt_cons] at h1 h2
    by_cases e : x = y
    · rw [if_pos e] at h1
      rw [if_pos e.symm] at h2
      rw [e, lex_tot h1 h2]
    · rw [if_neg e] at h1
      rw [if_neg (fun z => e z.symm)] at h2
      have := of_decide_eq_false h1
      have := of_decide_eq_false h2
      omega
/-- sorted lists of the same rows are one -/
theorem srt_uniq : ∀ {l m : List (List Int)}, l.Pairwise (fun x y => HT.lexLt y x = false) → m.Pairwise (fun x y => HT.lexLt y x = false) → l.Perm m → l = m
  | [], m, _, _, p => (List.nil_perm.mp p).symm
  | x :: l, [], _, _, p => absurd (List.perm_nil.mp p) (by simp)
  | x :: l, y :: m, h1, h2, p => by
    rw [List.pairwise_cons] at h1 h2
    have e : x = y := by
      rcases List.mem_cons.mp (p.mem_iff.mp (List.mem_cons_self (a := x))) with e | e
      · exact e
      · rcases List.mem_cons.mp (p.mem_iff.mpr (List.mem_cons_self (a := y))) with g | g
        · exact g.symm
        · exact lex_tot (h2.1 x e) (h1.1 y g)
    subst e
    rw [srt_uniq h1.2 h2.2 ((List.perm_cons x).mp p)]
end SO

namespace K1
open PySem PySem.Spec PyProof.Rows L2 Evl
/-! own words: comprehensions that map, without a test; nothing is changed -/
section
variable {K : PySem.W.Frag} {g : TG} {te : TE} {vs : List Nat} {σ : L2.St} {H1 : Hp} {D : Addr} {Qd : Hp → Prop}
theorem lc_tupM {a : Addr} {xs : List V} (f : Nat → V) (hD : H1 D = none) (ha : H1 a = some (.tup xs)) (hl : xs.length ≤ 1000)
    (hs : ∀ i x H (Qk : VK), xs[i]? = some x → Ex H1 H → (∀ H4, Ex H H4 → Qk (f i) H4) → g x (wipe σ vs) H fun σ2 H2 => wipe σ2 vs = wipe σ vs ∧ te σ2 H2 Qk)
    (hd : ∀ H, Ex H1 H → H D = some (.lst ((List.range xs.length).map f)) → Qd H) :
    ∃ W : Nat → Nat → Hp → Prop, (∃ m, W 0 m (upd H1 D (.lst []))) ∧ ∀ i m H, W i m H →
      ((Itt K a).stop i H ∧ Qd H) ∨ ((Itt K a).go i H ∧ ∃ Nx : Hp → Prop, (∀ H', Nx H' → ∃ m', m' < m ∧ W (i + 1) m' H') ∧ ∀ x H', (Itt K a).yld i H x H' → g x (wipe σ vs) H' fun σ2 H2 => wipe σ2 vs = wipe σ vs ∧ tYes σ2 H2 fun b H3 =>
        if b = true then te σ2 H3 fun y H4 => ∃ acc, H4 D = some (.lst acc) ∧ acc.length < sizeLine ∧ Nx (upd H4 D (.lst (acc ++ [y]))) else Nx H3) := by
  refine lc_tup (K := K) (a := a) (xs := xs) (fun i H' => H' D = some (.lst ((List.range i).map f)) ∧ Ex H1 H') ⟨upd_same, Ex.new hD⟩ (fun i H' _ hp => SqT.of (hp.2 _ _ ha)) (fun i x H' hx hp => ?_) (fun H hp => hd H hp.2 hp.1)
  have hi := (List.getElem?_eq_some_iff.mp hx).1
  refine hs i x H' _ hx hp.2 fun H4 e4 => ⟨_, e4 _ _ hp.1, ?_, ?_, Ex.mut (hp.2.trans e4) hD⟩
  · rw [List.length_map, List.length_range]
    exact small1000 (by omega)
  · rw [upd_same, List.range_succ, List.map_append]
    rfl
theorem lc_listM {a : Addr} {xs : List V} (f : Nat → V) (hD : H1 D = none) (ha : H1 a = some (.lst xs)) (hl : xs.length ≤ 1000)
    (hs : ∀ i x H (Qk : VK), xs[i]? = some x → Ex H1 H → (∀ H4, Ex H H4 → Qk (f i) H4) → g x (wipe σ vs) H fun σ2 H2 => wipe σ2 vs = wipe σ vs ∧ te σ2 H2 Qk)
    (hd : ∀ H, Ex H1 H → H D = some (.lst ((List.range xs.length).map f)) → Qd H) :
    ∃ W : Nat → Nat → Hp → Prop, (∃ m, W 0 m (upd H1 D (.lst []))) ∧ ∀ i m H, W i m H →
      ((Itl K a).stop i H ∧ Qd H) ∨ ((Itl K a).go i H ∧ ∃ Nx : Hp → Prop, (∀ H', Nx H' → ∃ m', m' < m ∧ W (i + 1) m' H') ∧ ∀ x H', (Itl K a).yld i H x H' → g x (wipe σ vs) H' fun σ2 H2 => wipe σ2 vs = wipe σ vs ∧ tYes σ2 H2 fun b H3 =>
        if b = true then te σ2 H3 fun y H4 => ∃ acc, H4 D = some (.lst acc) ∧ acc.length < sizeLine ∧ Nx (upd H4 D (.lst (acc ++ [y]))) else Nx H3) := by
  refine lc_list (K := K) (a := a) (xs := xs) (fun i H' => H' D = some (.lst ((List.range i).map f)) ∧ Ex H1 H') ⟨upd_same, Ex.new hD⟩ (fun i H' _ hp => SqL.of (hp.2 _ _ ha)) (fun i x H' hx hp => ?_) (fun H hp => hd H hp.2 hp.1)
  have hi := (List.getElem?_eq_some_iff.mp hx).1
  refine hs i x H' _ hx hp.2 fun H4 e4 => ⟨_, e4 _ _ hp.1, ?_, ?_, Ex.mut (hp.2.trans e4) hD⟩
  · rw [List.length_map, List.length_range]
    exact small1000 (by omega)
  · rw [upd_same, List.range_succ, List.map_append]
    rfl
theorem lc_rangeM {lo : Int} {n : Nat} (f : Nat → V) (hD : H1 D = none) (hl : n ≤ 1000)
    (hs : ∀ i H (Qk : VK), i < n → Ex H1 H → (∀ H4, Ex H H4 → Qk (f i) H4) → g (.int (lo + i)) (wipe σ vs) H fun σ2 H2 => wipe σ2 vs = wipe σ vs ∧ te σ2 H2 Qk)
    (hd : ∀ H, Ex H1 H → H D = some (.lst ((List.range n).map f)) → Qd H) :
    ∃ W : Nat → Nat → Hp → Prop, (∃ m, W 0 m (upd H1 D (.lst []))) ∧ ∀ i m H, W i m H →
      ((Itr lo n).stop i H ∧ Qd H) ∨ ((Itr lo n).go i H ∧ ∃ Nx : Hp → Prop, (∀ H', Nx H' → ∃ m', m' < m ∧ W (i + 1) m' H') ∧ ∀ x H', (Itr lo n).yld i H x H' → g x (wipe σ vs) H' fun σ2 H2 => wipe σ2 vs = wipe σ vs ∧ tYes σ2 H2 fun b H3 =>
        if b = true then te σ2 H3 fun y H4 => ∃ acc, H4 D = some (.lst acc) ∧ acc.length < sizeLine ∧ Nx (upd H4 D (.lst (acc ++ [y]))) else Nx H3) := by
  refine lc_range (lo := lo) (n := n) (fun i H' => H' D = some (.lst ((List.range i).map f)) ∧ Ex H1 H') ⟨upd_same, Ex.new hD⟩ (fun i H' hi hp => ?_) (fun H hp => hd H hp.2 hp.1)
  refine hs i H' _ hi hp.2 fun H4 e4 => ⟨_, e4 _ _ hp.1, ?_, ?_, Ex.mut (hp.2.trans e4) hD⟩
  · rw [List.length_map, List.length_range]
    exact small1000 (by omega)
  · rw [upd_same, List.range_succ, List.map_append]
    rfl
end
theorem mapI (n : Nat) (f : Nat → Int) : (List.range n).map (fun i => V.int (f i)) = ((List.range n).map f).map V.int := by
  rw [List.map_map]
  rfl
theorem mapB (n : Nat) (b : Bool) : (List.range n).map (fun _ => V.bl b) = (List.replicate n b).map V.bl := by
  rw [List.map_replicate, List.map_const', List.length_range]
theorem all_rep (n : Nat) : (List.replicate n true).all id = true := by simp
theorem any_rep (n : Nat) : (List.replicate n false).any id = false := by simp
theorem range_getD (ns : List Int) (f : Int → Int) : (List.range ns.length).map (fun i => f (ns.getD i 0)) = ns.map f := by
  refine List.ext_getElem (by rw [List.length_map, List.length_map, List.length_range]) fun i h1 h2 => ?_
  rw [List.length_map] at h2
  rw [List.getElem_map, List.getElem_map, List.getElem_range, List.getD_eq_getElem?_getD, List.getElem?_eq_getElem h2]
  rfl
end K1

/-! own rules: slices of a tuple and sums of tuples, whole or empty ones too, by what stands afterwards -/
namespace TE
open PySem PySem.Spec PyProof.Rows L2 Evl
section
variable {X : Cx}
def rSlE : V → Option Int → Option Int → Hp → VK → Prop := fun x lo hi H Q => ∃ a xs, x = .ref a ∧ H a = some (.tup xs) ∧ ∀ p H', Ex H H' → H' p = some (.tup (cutV xs lo hi)) → Q (.ref p) H'
theorem sl_tupE : SlR X rSlE := by
  intro pins s σ H x v vl vu lo hi sl Q I rx hs pl pu h
  obtain ⟨a, xs, rfl, hx, q⟩ := h
  refine sl_tupA pins s σ H _ v vl vu lo hi sl Q I rx hs pl pu ⟨a, xs, rfl, SqT.of hx, fun w => q a H (Ex.refl _) ?_, fun _ p hp => q p _ (Ex.new hp) upd_same⟩
  obtain ⟨w1, w2⟩ := w
  have e : cutV xs lo hi = xs := by
    unfold cutV
    rw [w1, w2, List.drop_zero, Nat.sub_zero, List.take_length]
  rw [e]
  exact hx
def rCatE : R2 := fun x y H Q => ∃ a b xs ys, x = .ref a ∧ y = .ref b ∧ H a = some (.tup xs) ∧ H b = some (.tup ys) ∧ xs.length + ys.length ≤ sizeLine ∧ ∀ p H', Ex H H' → H' p = some (.tup (xs ++ ys)) → Q (.ref p) H'
theorem op_catE : OpR X (binaryOp .Add) rCatE := by
  intro pins s σ H x y v u Q I rx ry h
  obtain ⟨a, b, xs, ys, rfl, rfl, ha, hb, hz, q⟩ := h
  refine op_catA pins s σ H _ _ v u Q I rx ry ⟨a, b, xs, ys, rfl, rfl, SqT.of ha, SqT.of hb, hz, fun e => q b H (Ex.refl _) ?_, fun _ e => q a H (Ex.refl _) ?_, fun _ _ p hp => q p _ (Ex.new hp) upd_same⟩
  · rw [e, List.nil_append]
    exact hb
  · rw [e, List.append_nil]
    exact ha
end
end TE

set_option exponentiation.threshold 400
namespace K1
open PySem PySem.Spec PyProof.Rows L2 Evl HM LX
section
variable {P : Program} {w : World} {K : PySem.W.Frag} {mg : Str → Option Value} {base : Heap}
end
end K1

/-! own rule: name = {k: v for ..}, keys ints or texts -/
namespace DI
open PySem PySem.Spec PyProof.Rows L2
theorem ps_setDcK {X : Cx} {i : Nat} {y : Str} {py : Pos} {kx vx tg iter : Expr} {ifs : List Expr} {scope : Scope} {own : List (Str × Nat)} {pos spos : Pos} {wi : TI} {g : TG} {tt : TT} {tk tv : TE} (hc : X.calm = true) (hN : X.N.Nodup) (hy : X.N[i]? = some y) (hyl : X.env.scope.names.lookup y = some .local)
    (hsw : swapsWith (.DictComp kx vx [⟨tg, iter, ifs, 0⟩] scope pos) (some (.Name y py)) spos.line X.env = pure true) (hi : PI X tg iter wi) (ok : BlkOk X.N X.env.scope scope own)
    (hg : ∀ (s : Shared) (H : Hp) (C : Addr) (cl : List (Str × Addr)) (fp : List Addr), PG (X.blk s H scope (compEnvC scope cl C X.env) fp) tg g) (ht : ∀ (s : Shared) (H : Hp) (C : Addr) (cl : List (Str × Addr)) (fp : List Addr), PTs (X.blk s H scope (compEnvC scope cl C X.env) fp) ifs tt)
    (hk : ∀ (s : Shared) (H : Hp) (C : Addr) (cl : List (Str × Addr)) (fp : List Addr), PE (X.blk s H scope (compEnvC scope cl C X.env) fp) kx tk)
    (he : ∀ (s : Shared) (H : Hp) (C : Addr) (cl : List (Str × Addr)) (fp : List Addr), PE (X.blk s H scope (compEnvC scope cl C X.env) fp) vx tv) (hs : ∀ x, foldedSetIterable iter X.env x = pure x := by intro _; rfl) :
    PS X (.Assign [.Name y py] (.DictComp kx vx [⟨tg, iter, ifs, 0⟩] scope pos) spos) (tAsg (tDc wi g tt tk tv (own.map (·.2))) (gName i)) := by
  refine ⟨fun pins s σ H D I h => ?_⟩
  rw [exec_Assign_Name_used _ _ _ _ hsw]
  refine wpAny_bind (wpAny_standAt (wpAny_bind ?_))
  show wpAny _ X.A (do let _ ← comprehension (.DictComp kx vx [⟨tg, iter, ifs, 0⟩] scope pos) scope X.env (firstIterPos [⟨tg, iter, ifs, 0⟩] pos) newDict false (eval iter X.env) (some (assign (.Name y py) X.env))) _ _ s
  have h : tDc wi g tt tk tv (own.map (·.2)) σ H (fun x H1 => gName i x σ H1 D.nx) := h
  refine wpAny_bind (thn (dc_core (Qf := fun _ s' => SP X pins D .next s') hc hN I hi ok hg ht hk he hs h fun L C s' m H' I' q hn f => ?_) fun _ s' hq => wpAny_pure (wpAny_pure hq))
  show wpAny _ _ (assign (.Name y py) X.env (.ref L)) _ _ _
  refine wpAny_assign_Name (store_ok2 (v := V.ref L) I' hN hy (.inl hyl) rfl (fun s2 I2 ⟨a, sb, ha⟩ => ?_) (.inr hyl))
  obtain ⟨f0, f1, f2, f3, f4, f5⟩ := f
  have haC : C ≠ a := by
    rcases ha with z | z
    · rw [z]; exact f1
    · exact fun e => f4 y a z e.symm
  refine ⟨m, hn.sameBut sb haC, fun h3 sb3 => ?_⟩
  exact ⟨_, H', I2.turned (t' := s2.toks) (fun b o hb e => (sb3.2 b hb).trans e) f0 f1 f3 f4 f5, q⟩
theorem swd_true {kx vx : Expr} {gs : List Comprehension} {scope : Scope} {pos py : Pos} {y : Str} {l : Nat} {env : Env} (hk : env.scope.kind = .function) (hy : env.scope.names.lookup y = some .local) (hl : (py.line == pos.line) = true)
    (ha : (scope.names.any fun (n, k) => n == y && (k == .local || k == .cell)) = false) : swapsWith (.DictComp kx vx gs scope pos) (some (.Name y py)) l env = pure true := by
  have ky : env.kindOf y = some .local := hy
  have hb : env.blockKind = .function := by unfold Env.blockKind; rw [hk]; rfl
  unfold swapsWith
  simp only [hb, ky, ha, Expr.pos, hl]
  rfl
end DI
namespace DI
open PySem PySem.Spec PyProof.Rows L2
theorem dcK_it {J : It} {n : Nat} {G : Hp → Prop} {Y : Nat → Hp → V → Hp → Prop} (w : Walk J n G Y) {g : TG} {tt : TT} {tk tv : TE} {vs : List Nat} {σ : L2.St} {H1 : Hp} {D : Addr} {Qd : Hp → Prop} (Pv : Nat → Hp → Prop) (h0 : Pv 0 (upd H1 D (.dK []))) (hG : ∀ i H, i ≤ n → Pv i H → G H)
    (hs : ∀ i x H H', i < n → Pv i H → Y i H x H' → g x (wipe σ vs) H' fun σ2 H2 => wipe σ2 vs = wipe σ vs ∧ tt σ2 H2 fun b H3 =>
      if b = true then tk σ2 H3 fun y H4 => tv σ2 H4 fun z H5 => ∃ kvs k, y = kV k ∧ H5 D = some (.dK kvs) ∧ kvs.length < sizeLine ∧ Pv (i + 1) (upd H5 D (.dK (putK kvs k z))) else Pv (i + 1) H3) (hd : ∀ H, Pv n H → Qd H) :
    ∃ W : Nat → Nat → Hp → Prop, (∃ m, W 0 m (upd H1 D (.dK []))) ∧ ∀ i m H, W i m H →
      (J.stop i H ∧ Qd H) ∨ (J.go i H ∧ ∃ Nx : Hp → Prop, (∀ H', Nx H' → ∃ m', m' < m ∧ W (i + 1) m' H') ∧ ∀ x H', J.yld i H x H' → g x (wipe σ vs) H' fun σ2 H2 => wipe σ2 vs = wipe σ vs ∧ tt σ2 H2 fun b H3 =>
        if b = true then tk σ2 H3 fun y H4 => tv σ2 H4 fun z H5 => ∃ kvs k, y = kV k ∧ H5 D = some (.dK kvs) ∧ kvs.length < sizeLine ∧ Nx (upd H5 D (.dK (putK kvs k z))) else Nx H3) := by
  refine ⟨fun i m H => m = n - i ∧ i ≤ n ∧ Pv i H, ⟨n, (Nat.sub_zero n).symm, Nat.zero_le _, h0⟩, ?_⟩
  rintro i m H ⟨rfl, hi, p⟩
  by_cases c : i < n
  · exact .inr ⟨w.goes i H c (hG i H hi p), Pv (i + 1), fun H' p' => ⟨n - (i + 1), by omega, rfl, c, p'⟩, fun x H' y => hs i x H H' c p (w.yields i H x H' c (hG i H hi p) y)⟩
  · have e : i = n := by omega
    subst e
    exact .inl ⟨w.stops H (hG i H hi p), hd H p⟩
end DI

set_option exponentiation.threshold 400
namespace K1
open PySem PySem.Spec PyProof.Rows L2 Evl HM LX ZW TE
/-- what is_heap tells of a value -/
inductive HeapB (K : PySem.W.Frag) (H : Hp) : V → Bool → Prop where
  | no {x : V} (h : NotTup K H x) : HeapB K H x false
  | yes {p : Addr} {h : List Nat} (e : HeapAt H p h) (G : Good h) : HeapB K H (.ref p) true
  | bad {p : Addr} {h : List Nat} {y : V} (e : H p = some (.tup (hv h ++ [y]))) (G : Good h) (l : h.length < 60) (b : BtwB K H 1 (if h.length = 0 then 60 else (hAt h (h.length - 1) : Int)) y false) : HeapB K H (.ref p) false
theorem iteT' {b : Bool} {A B : Prop} (h : b = true) (a : A) : if b = true then A else B := by
  rw [if_pos h]
  exact a
theorem iteF' {b : Bool} {A B : Prop} (h : b = false) (a : B) : if b = true then A else B := by
  rw [if_neg (by rw [h]; decide)]
  exact a
theorem walk_enumT {K : PySem.W.Frag} {a : Addr} {xs : List V} : Walk (EnT.IteT K a) xs.length (fun H => SqT K H a xs) (YPair (fun i => some (.int (i : Nat))) (fun i => xs[i]?)) :=
  ⟨fun i _ hi q => ⟨xs, xs[i], q, by simp [hi]⟩, fun _ q => ⟨xs, q, rfl⟩, fun i H v H' _ q y => by
    obtain ⟨T, x, h1, h2, h3, h4⟩ := y
    exact ⟨T, .int (i : Nat), x, h1, h2, h3, rfl, h4 xs q⟩⟩
section
variable {P : Program} {w : World} {K : PySem.W.Frag} {mg : Str → Option Value} {base : Heap}
def spIsHeapB (K : PySem.W.Frag) : Sp := fun vs H Q _ => ∃ x b, vs = [x] ∧ HeapB K H x b ∧ ∀ H', Ex H H' → Q (.bl b) H'
theorem ok_is_heapV (T : Txt K mg) {f : Addr} {fd : FuncData} (D : DefAt K mg "is_heap" sIsHeap ["value"] f fd) : FnOk P w K mg base CX0 3 f fd ["value"] (spIsHeapB K) := by
  refine D.F.ok scIsHeap (fun vs H Q E h => ?_) (fun cdv A outer s H vs Q E hr h => ?_)
  · obtain ⟨x, b, rfl, _⟩ := h
    rfl
  · obtain ⟨x, b, rfl, hb, q⟩ := h
    obtain ⟨f1, fd1, D1⟩ := T.d_is_between
    obtain ⟨tMOST_SIDE, vMOST_SIDE⟩ := T.v_SIDE
    have hr2 : Room 2 _ := hr.mono (by decide)
    refine ⟨_, pss_cons (ps_if (PW.pt (pw_or (pt_not (pt_val (pe_callB call_isi (by rfl) T.z_isinstance (by decide +kernel) (pa_cons (pv 0) (pa_cons (pe_bltn (v := .ty "tuple") (by rfl) T.z_tuple (by decide +kernel) rfl) pa_nil)))))
          (pw_or1 (pt_cmpR op_gt (pe_callB call_len_seq (by rfl) T.z_len PySem.boot_len (pa_cons (pv 0) pa_nil)) (pe_glob (v := .int 60) rfl vMOST_SIDE ⟨_, rfl⟩) (nomark _))))) (pss_one (ps_ret pe_bl)) pss_nil)
      (pss_cons (ps_set (i := 1) scIsHeap.nd rfl (.inl rfl) (pe_glob (v := .int 60) rfl vMOST_SIDE ⟨_, rfl⟩))
      (pss_cons (ps_for PassesOwn.never rfl (pi_tup (pv 0)) (pg_name (i := 2) scIsHeap.nd rfl (.inl rfl))
        (pss_cons (ps_if (pt_not (pt_val (pe_call (ok_is_between T D1) hr2 (by rfl) D1.g D1.F.kp D1.b .nil pass0 (pa_cons (pv 2) (pa_cons pe_int (pa_cons (pv 1) pa_nil)))))) (pss_one (ps_ret pe_bl)) pss_nil)
      (pss_one (ps_set (i := 1) scIsHeap.nd rfl (.inl rfl) (pv 2)))))
      (pss_one (ps_ret pe_bl)))), ?_⟩
    cases hb with
    | no hn =>
      obtain ⟨t, ty, h⟩ := hn.ty
      exact ⟨_, rfl, x, .ty "tuple", t, .type "tuple", false, rfl, .ty _, ty, h, false, rfl, iteT (q _ (Ex.refl _))⟩
    | @yes p h e G =>
      have Gl := G.len
      refine ⟨_, rfl, .ref p, .ty "tuple", .type "tuple", .type "tuple", true, rfl, .ty _, .base (.tup e), kit_ty (by decide +kernel), true, rfl, iteF ?_⟩
      refine ⟨_, rfl, p, _, rfl, .inr (SqT.of e), _, _, rfl, rfl, _, rfl, iteF' (decide_eq_false (by rw [hv_len]; omega)) ?_⟩
      refine ⟨_, rfl, p, rfl, ⟨_, SqT.of e⟩, for_tup (K := K) (a := p) (xs := hv h) (fun i σ' H' => ∃ (a : Nat) (y : Option V), σ' = [some (.ref p), some (.int (a : Int)), y] ∧ hAt h i ≤ a ∧ a ≤ 60 ∧ Ex H H') ⟨60, none, rfl, G.all 0, Nat.le_refl _, Ex.refl _⟩ (fun i σ' H' _ hW => ?_) (fun i x σ' H' hx hW => ?_) (fun σ' H' hW => ?_)⟩
      · obtain ⟨_, _, _, _, _, e'⟩ := hW
        exact SqT.of (e' _ _ e)
      · obtain ⟨a, y, rfl, h1, h2, e'⟩ := hW
        have hi : i < h.length := by
          have := (List.getElem?_eq_some_iff.mp hx).1
          rw [hv_len] at this
          exact this
        rw [hv_get hi] at hx
        obtain rfl := Option.some.inj hx
        have hp0 := G.heap.pos i hi
        refine ⟨_, rfl, _, rfl, _, 1, a, true, rfl, .yes (by omega) (by omega) (by omega) (by omega), fun H1 e1 => ⟨true, rfl, iteF ?_⟩⟩
        exact ⟨_, rfl, hAt h i, _, rfl, G.heap.fall i, by omega, e'.trans e1⟩
      · obtain ⟨a, y, rfl, h1, h2, e'⟩ := hW
        exact q _ e'
    | @bad p h y e G l hy =>
      have ln : (hv h ++ [y]).length = h.length + 1 := by rw [List.length_append, hv_len]; rfl
      refine ⟨_, rfl, .ref p, .ty "tuple", .type "tuple", .type "tuple", true, rfl, .ty _, .base (.tup e), kit_ty (by decide +kernel), true, rfl, iteF ?_⟩
      refine ⟨_, rfl, p, _, rfl, .inr (SqT.of e), _, _, rfl, rfl, _, rfl, iteF' (decide_eq_false (by rw [ln]; omega)) ?_⟩
      refine ⟨_, rfl, p, rfl, ⟨_, SqT.of e⟩, for_tup (K := K) (a := p) (xs := hv h ++ [y]) (fun i σ' H' => ∃ y2, i ≤ h.length ∧ σ' = [some (.ref p), some (.int (if i = 0 then 60 else (hAt h (i - 1) : Int))), y2] ∧ Ex H H') ⟨none, Nat.zero_le _, rfl, Ex.refl _⟩ (fun i σ' H' _ hW => ?_) (fun i x σ' H' hx hW => ?_) (fun σ' H' hW => ?_)⟩
      · obtain ⟨_, _, _, e'⟩ := hW
        exact SqT.of (e' _ _ e)
      · obtain ⟨y2, hi, rfl, e'⟩ := hW
        by_cases c : i < h.length
        · rw [List.getElem?_append_left (by rw [hv_len]; exact c), hv_get c] at hx
          obtain rfl := Option.some.inj hx
          have hp0 := G.heap.pos i c
          have up : (hAt h i : Int) ≤ (if i = 0 then 60 else (hAt h (i - 1) : Int)) := by
            split
            · have := G.all i
              omega
            · have := G.heap.le (show i - 1 ≤ i by omega)
              omega
          refine ⟨_, rfl, _, rfl, _, 1, _, true, rfl, .yes (by omega) up (by omega) (by have := G.all i; omega), fun H1 e1 => ⟨true, rfl, iteF ?_⟩⟩
          exact ⟨_, rfl, _, by omega, by rw [if_neg (show ¬ i + 1 = 0 by omega), Nat.add_sub_cancel]; rfl, e'.trans e1⟩
        · have ei : i = h.length := by omega
          subst ei
          rw [List.getElem?_append_right (by rw [hv_len]; exact Nat.le_refl _), hv_len, Nat.sub_self] at hx
          obtain rfl := Option.some.inj hx
          exact ⟨_, rfl, _, rfl, _, 1, _, false, rfl, hy.mono e', fun H1 e1 => ⟨false, rfl, iteT (q _ (e'.trans e1))⟩⟩
      · obtain ⟨y2, hi, rfl, e'⟩ := hW
        rw [ln] at hi
        omega
def sqr (h : List Nat) (i j : Nat) : List (Int × Int) := ((List.range i).map fun (c : Nat) => (List.range (hAt h c)).map fun (r : Nat) => ((c : Int), (r : Int))).flatten ++ (List.range j).map fun (r : Nat) => ((i : Int), (r : Int))
theorem sqr_next (h : List Nat) (i : Nat) : sqr h i (hAt h i) = sqr h (i + 1) 0 := by
  unfold sqr
  rw [List.range_succ (n := i), List.map_append, List.flatten_append]
  simp
theorem sqr_one (h : List Nat) (i j : Nat) : sqr h i (j + 1) = sqr h i j ++ [((i : Int), (j : Int))] := by
  unfold sqr
  rw [List.range_succ (n := j), List.map_append, ← List.append_assoc]
  rfl
theorem sqr_le (h : List Nat) {i j : Nat} (hj : j ≤ hAt h i) : (sqr h i j).length ≤ (sqr h (i + 1) 0).length := by
  rw [← sqr_next]
  unfold sqr
  rw [List.length_append, List.length_append, List.length_map, List.length_map, List.length_range, List.length_range]
  omega
theorem sqr_mono (h : List Nat) {i : Nat} : ∀ {n : Nat}, i ≤ n → (sqr h i 0).length ≤ (sqr h n 0).length
  | 0, q => by
    have : i = 0 := by omega
    rw [this]
    exact Nat.le_refl _
  | n + 1, q => by
    by_cases c : i = n + 1
    · rw [c]
      exact Nat.le_refl _
    · exact Nat.le_trans (sqr_mono h (by omega)) (sqr_le h (Nat.zero_le _))
theorem paired_imp2 {α β : Type} {R S : α → β → Prop} (h : ∀ x y, R x y → S x y) : ∀ {xs : List α} {ys : List β}, Paired R xs ys → Paired S xs ys
  | _, _, .nil => .nil
  | _, _, .cons a r => .cons (h _ _ a) (paired_imp2 h r)
theorem paired_snoc2 {α β : Type} {R : α → β → Prop} {x : α} {y : β} (h : R x y) : ∀ {xs : List α} {ys : List β}, Paired R xs ys → Paired R (xs ++ [x]) (ys ++ [y])
  | _, _, .nil => .cons h .nil
  | _, _, .cons a r => .cons a (paired_snoc2 h r)
def sqAll (h : List Nat) : List (Int × Int) := sqr h h.length 0
def PlAt (H : Hp) (x : V) (p : Int × Int) : Prop := ∃ t, x = .ref t ∧ H t = some (.tup [.int p.1, .int p.2])
theorem PlAt.ex {H H' : Hp} {x : V} {p : Int × Int} (e : Ex H H') (h : PlAt H x p) : PlAt H' x p := by
  obtain ⟨t, h1, h2⟩ := h
  exact ⟨t, h1, e _ _ h2⟩
abbrev Pls (H : Hp) (xs : List V) (ps : List (Int × Int)) : Prop := Paired (PlAt H) xs ps
end
end K1

set_option exponentiation.threshold 400
namespace K1
open PySem PySem.Spec PyProof.Rows L2 Evl HM LX ZW TE
section
variable {P : Program} {w : World} {K : PySem.W.Frag} {mg : Str → Option Value} {base : Heap}
end
end K1

set_option exponentiation.threshold 400
namespace K1
open PySem PySem.Spec PyProof.Rows L2 Evl HM LX ZW TE
def beadsL (h : List Nat) : List Int := (List.range h.length).map fun c => bead h c
theorem beads_nd {h : List Nat} (H : IsHeap h) : (beadsL h).Nodup := by
  refine List.pairwise_map.mpr ?_
  refine List.pairwise_lt_range.imp fun {a b} q e => ?_
  have := H.le (show a ≤ b by omega)
  unfold bead at e
  omega
theorem mem_beads {h : List Nat} {z : Int} : z ∈ beadsL h ↔ isB h z := by
  unfold beadsL isB
  rw [List.mem_map]
  constructor
  · rintro ⟨c, hc, rfl⟩
    exact ⟨c, List.mem_range.mp hc, rfl⟩
  · rintro ⟨c, hc, rfl⟩
    exact ⟨c, List.mem_range.mpr hc, rfl⟩
theorem int_inv {ns : List Int} {i : Nat} {x : V} (h : (ns.map V.int)[i]? = some x) : i < ns.length ∧ ∃ n, ns[i]? = some n ∧ x = V.int n := by
  rw [List.getElem?_map] at h
  obtain ⟨n, hn, rfl⟩ := Option.map_eq_some_iff.mp h
  exact ⟨(List.getElem?_eq_some_iff.mp hn).1, n, hn, rfl⟩
theorem take_snoc1 {α : Type} {l : List α} {i : Nat} {x : α} (h : l[i]? = some x) : l.take (i + 1) = l.take i ++ [x] := by
  rw [List.take_add_one, h]
  rfl
def tst (h : List Nat) (k n : Int) : Bool := decide (n - k ∈ beadsL h) || decide (n - k < -(h.length : Int))
theorem tst_iff (h : List Nat) (k : Int) : ((beadsL h).map (tst h k)).all id = true ↔ coreB h k := by
  rw [List.all_eq_true]
  constructor
  · intro a c hc
    have := a (tst h k (bead h c)) (List.mem_map.mpr ⟨_, mem_beads.mpr ⟨c, hc, rfl⟩, rfl⟩)
    rcases Bool.or_eq_true_iff.mp this with q | q
    · exact .inl (mem_beads.mp (of_decide_eq_true q))
    · exact .inr (of_decide_eq_true q)
  · intro C x hx
    obtain ⟨n, hn, rfl⟩ := List.mem_map.mp hx
    obtain ⟨c, hc, rfl⟩ := mem_beads.mp hn
    rcases C c hc with q | q
    · exact Bool.or_eq_true_iff.mpr (.inl (decide_eq_true (mem_beads.mpr q)))
    · exact Bool.or_eq_true_iff.mpr (.inr (decide_eq_true q))
def kB (ns : List Int) : List (Key × V) := ns.map fun n => (.inl n, .bl true)
theorem valB : ∀ (ns : List Int) (z : Int), (valV (kB ns) (.inl z : Key)).isSome = decide (z ∈ ns)
  | [], z => by
    rw [decide_eq_false (by simp)]
    rfl
  | n :: r, z => by
    by_cases c : n = z
    · rw [decide_eq_true (by rw [c]; exact List.mem_cons_self ..)]
      show (valV ((Sum.inl n, V.bl true) :: kB r) (.inl z : Key)).isSome = true
      rw [valV_pos (by rw [c])]
      rfl
    · show (valV ((Sum.inl n, V.bl true) :: kB r) (.inl z : Key)).isSome = _
      rw [valV_neg (fun e => c (Sum.inl.inj e)), valB r z, decide_eq_decide]
      constructor
      · exact fun h => List.mem_cons_of_mem _ h
      · intro h
        rcases List.mem_cons.mp h with h | h
        · exact absurd h.symm c
        · exact h
theorem Ex.of_keepD {H H' : Hp} {d : Addr} {u : HO} (h : H d = some u) (k : Keep d H H') : Ex H (upd H' d u) := fun b o e => by
  by_cases z : b = d
  · rw [z] at e ⊢
    rw [upd_same, ← e, h]
  · rw [upd_ne z]
    exact k b o z e
section
variable {P : Program} {w : World} {K : PySem.W.Frag} {mg : Str → Option Value} {base : Heap}
def spHookAt : Sp := fun vs H Q _ => ∃ p l h, ∃ c r : Nat, vs = [.ref p, .ref l, .int (c : Int), .int (r : Int)] ∧ HeapAt H p h ∧ HeapAt H l (conj h) ∧ IsHeap h ∧ r < hAt h c ∧ Q (.int (hk h c r)) H
theorem ok_hook_at (T : Txt K mg) {f : Addr} {fd : FuncData} (D : DefAt K mg "hook_at" sHookAt ["heap", "lengths", "column", "row"] f fd) : FnOk P w K mg base CX0 1 f fd ["heap", "lengths", "column", "row"] spHookAt := by
  refine D.F.ok scHookAt (fun vs H Q E h => ?_) (fun cdv A outer s₀ H vs Q E hr h => ?_)
  · obtain ⟨p, l, h, c, r, rfl, _⟩ := h
    rfl
  · obtain ⟨p, l, h, c, r, rfl, hp, hl, Hh, hrc, q⟩ := h
    refine ⟨_, pss_one (ps_ret (pe_op op_sub (pe_op op_sub (pe_op op_add (pe_op op_sub (pe_ix ix_tup (pv 0) (pv 2) (fun _ _ => rfl)) (pv 3)) (pe_ix ix_tup (pv 1) (pv 3) (fun _ _ => rfl))) (pv 2)) pe_int)), ?_⟩
    have hc : c < h.length := by
      rcases Nat.lt_or_ge c h.length with z | z
      · exact z
      · rw [hAt_ge z] at hrc
        omega
    have hrl : r < (conj h).length := by
      rw [conj_len]
      have := Hh.le (Nat.zero_le c)
      omega
    exact ⟨_, rfl, _, rfl, p, _, (c : Int), .int (hAt h c : Int), rfl, rfl, SqT.of hp, atI_nat (hv_get hc), _, rfl, _, _, rfl, rfl, _, rfl, _, rfl, l, _, (r : Int), .int (hAt (conj h) r : Int), rfl, rfl, SqT.of hl, atI_nat (hv_get hrl), _, _, rfl, rfl, _, rfl, _, _, rfl, rfl, _, _, rfl, rfl, q⟩
def spHook (K : PySem.W.Frag) : Sp := fun vs H Q _ => ∃ p t h, ∃ c r : Nat, vs = [.ref p, .ref t] ∧ HeapAt H p h ∧ Good h ∧ H t = some (.tup [.int (c : Int), .int (r : Int)]) ∧ r < hAt h c ∧ ∀ H', Ex H H' → Q (.int (hk h c r)) H'
def spBeads (K : PySem.W.Frag) : Sp := fun vs H Q _ => ∃ p h, vs = [.ref p] ∧ HeapAt H p h ∧ h.length ≤ 100 ∧ ∀ l H', Ex H H' → H l = none → H' l = some (.lst ((beadsL h).map V.int)) → Q (.ref l) H'
theorem ok_beads_of (T : Txt K mg) {f : Addr} {fd : FuncData} (D : DefAt K mg "beads_of" sBeadsOf ["heap"] f fd) : FnOk P w K mg base CX0 1 f fd ["heap"] (spBeads K) := by
  refine D.F.ok scBeadsOf (fun vs H Q E h => ?_) (fun cdv A outer s₀ H vs Q E hr h => ?_)
  · obtain ⟨p, h, rfl, _⟩ := h
    rfl
  · obtain ⟨p, h, rfl, hp, hl, q⟩ := h
    refine ⟨_, pss_one (ps_ret (pe_lc (own := [("column", 1), ("height", 2)]) (g := gTup K 2 (gCons (gName 1) (gCons (gName 2) gNil))) (tt := tYes) rfl scBeadsOf.nd (EnT.pi_enumT (by rfl) T.z_enumerate (pa_cons (pv 0) pa_nil))
        (blkOk_by (N := nBeadsOf) (sc := defScope sBeadsOf) (by decide +kernel)) (fun _ _ _ _ _ => (pg_tup (by rfl) (pgs_cons (pg_name (i := 1) scBeadsOf.nd rfl (.inl rfl)) (pgs_cons (pg_name (i := 2) scBeadsOf.nd rfl (.inl rfl)) pgs_nil)))) (fun _ _ _ _ _ => pts_nil)
        (fun _ _ _ _ _ => (pe_op op_sub (pe_op op_sub (pv 2) (pv 1)) pe_int)))), ?_⟩
    refine ⟨_, rfl, p, _, rfl, SqT.of hp, fun Dl hD => ?_⟩
    refine lc_enumT (K := K) (a := p) (xs := hv h) (fun i H' => H' Dl = some (.lst (((List.range i).map fun c => bead h c).map V.int)) ∧ Ex H H') ⟨upd_same, Ex.new hD⟩ (fun i H' hp2 => SqT.of (hp2.2 _ _ hp)) (fun i x Tp H' hx hp2 nT => ?_) (fun H' hp2 => ?_)
    · obtain ⟨w1, w2⟩ := hp2
      have hi : i < h.length := by
        have := (List.getElem?_eq_some_iff.mp hx).1
        rw [hv_len] at this
        exact this
      rw [hv_get hi] at hx
      obtain rfl := Option.some.inj hx
      have eT := Ex.new (o := .tup [.int (i : Nat), .int (hAt h i : Int)]) nT
      refine ⟨Tp, _, rfl, SqT.of upd_same, rfl, .int (i : Nat), [_], rfl, _, [], rfl, rfl, rfl, ?_⟩
      dsimp only [tYes]
      rw [if_pos rfl]
      refine ⟨_, rfl, _, rfl, _, _, rfl, rfl, _, _, rfl, rfl, _, eT _ _ w1, ?_, ?_, Ex.mut (w2.trans eT) hD⟩
      · rw [List.length_map, List.length_map, List.length_range]
        exact small1000 (by omega)
      · rw [upd_same, List.range_succ, List.map_append, List.map_append]
        rfl
    · rw [hv_len] at hp2
      exact q Dl H' hp2.2 hD hp2.1
def spCheckOrder : Sp := fun vs H Q _ => ∃ k : Int, vs = [.int k] ∧ 2 ≤ k ∧ k ≤ 60 ∧ ∀ H', Ex H H' → Q .non H'
theorem ok_check_order (T : Txt K mg) {f : Addr} {fd : FuncData} (D : DefAt K mg "check_order" sCheckOrder ["k"] f fd) : FnOk P w K mg base CX0 4 f fd ["k"] spCheckOrder := by
  refine D.F.ok scCheckOrder (fun vs H Q E h => ?_) (fun cdv A outer s₀ H vs Q E hr h => ?_)
  · obtain ⟨k, rfl, _⟩ := h
    rfl
  · obtain ⟨k, rfl, h1, h2, q⟩ := h
    obtain ⟨f1, fd1, D1⟩ := T.d_check_between
    obtain ⟨tMAX_ORDER, vMAX_ORDER⟩ := T.v_MAX_ORDER
    have hr3 : Room 3 _ := hr.mono (by decide)
    refine ⟨_, pss_one (ps_expr (pe_call (ok_check_between T D1) hr3 (by rfl) D1.g D1.F.kp D1.b .nil pass0 (pa_cons (pv 0) (pa_cons pe_int (pa_cons (pe_glob (v := .int 60) rfl vMAX_ORDER ⟨_, rfl⟩) pa_nil))))), ?_⟩
    exact ⟨_, rfl, _, _, _, rfl, h1, h2, by omega, by omega, q⟩
def spStays : Sp := fun vs H Q _ => ∃ k p h, vs = [.int k, .ref p] ∧ HeapAt H p h ∧ Good h ∧ 2 ≤ k ∧ ∀ b H', (b = true ↔ coreB h k) → Ex H H' → Q (.bl b) H'
theorem ok_stays_core (T : Txt K mg) {f : Addr} {fd : FuncData} (D : DefAt K mg "stays_core" sStaysCore ["k", "heap"] f fd) : FnOk P w K mg base CX0 2 f fd ["k", "heap"] spStays := by
  refine D.F.ok scStaysCore (fun vs H Q E h => ?_) (fun cdv A outer s₀ H vs Q E hr h => ?_)
  · obtain ⟨k, p, h, rfl, _⟩ := h
    rfl
  · obtain ⟨k, p, h, rfl, hp, G, k2, q⟩ := h
    obtain ⟨f1, fd1, D1⟩ := T.d_beads_of
    have hr1 : Room 1 _ := hr.mono (by decide)
    have hu1 := Nat.lt_of_le_of_lt (Nat.add_le_add_left (show 1 ≤ 64 by decide) _) hr.units
    refine ⟨_, pss_cons (ps_set (i := 2) scStaysCore.nd rfl (.inr rfl) (pe_dc (own := [("bead", 3)]) (g := gName 3) (tt := tYes) rfl scStaysCore.nd (pi_list (pe_call (ok_beads_of T D1) hr1 (by rfl) D1.g D1.F.kp D1.b .nil pass0 (pa_cons (pv 1) pa_nil)))
        (blkOk_by (N := nStaysCore) (sc := defScope sStaysCore) (by decide +kernel)) (fun _ _ _ _ _ => (pg_name (i := 3) scStaysCore.nd rfl (.inl rfl))) (fun _ _ _ _ _ => pts_nil)
        (fun _ _ _ _ _ => (pv 3)) (fun _ _ _ _ _ => pe_bl)))
      (pss_one (ps_ret (pe_callB (cr_all rfl) (by rfl) T.z_all (by decide +kernel) (pa_cons (pe_lock (pe_lc (own := [("bead", 3)]) (g := gName 3) (tt := tYes) rfl scStaysCore.nd (pi_keys (pv 2))
        (blkOk_by (N := nStaysCore) (sc := defScope sStaysCore) (by decide +kernel)) (fun _ _ _ _ _ => (pg_name (i := 3) scStaysCore.nd rfl (.inl rfl))) (fun _ _ _ _ _ => pts_nil)
        (fun _ _ _ _ _ => (pe_or (pe_cmp (pc_din hu1 (pe_op op_sub (pv 3) (pv 0)) (pv 2)) (by rfl)) (pe_one (pe_cmpR op_lt (pe_op op_sub (pv 3) (pv 0)) (pe_un un_neg (pe_callB (show CallR _ (.builtin "len") (rLenS K) from call_len_seq) (by rfl) T.z_len PySem.boot_len (pa_cons (pv 1) pa_nil))) (nomark _))))))) pa_nil)))), ?_⟩
    have gl := G.len
    refine ⟨_, rfl, p, h, rfl, hp, by omega, fun l H1 e1 hl0 hl1 => ?_⟩
    have bl : (beadsL h).length = h.length := by unfold beadsL; rw [List.length_map, List.length_range]
    refine ⟨l, rfl, ⟨_, SqL.of hl1⟩, fun Dd hDd => ?_⟩
    refine DI.dcK_it (walk_list (K := K) (a := l) (xs := (beadsL h).map V.int)) (fun i H' => H' Dd = some (.dK (kB ((beadsL h).take i))) ∧ Ex H1 H') ⟨upd_same, Ex.new hDd⟩ (fun i H' _ hp2 => SqL.of (hp2.2 _ _ hl1)) (fun i x H2 H3 hi hp2 hy => ?_) (fun H2 hp2 => ?_)
    · obtain ⟨w1, w2⟩ := hp2
      obtain ⟨rfl, hx⟩ := hy
      obtain ⟨hi2, n, hn, rfl⟩ := int_inv hx
      refine ⟨rfl, ?_⟩
      dsimp only [tYes]
      rw [if_pos rfl]
      refine ⟨_, rfl, _, .inl n, rfl, w1, ?_, ?_, Ex.mut w2 hDd⟩
      · unfold kB
        rw [List.length_map, List.length_take]
        exact small1000 (by omega)
      · rw [upd_same, take_snoc1 hn, putK_new]
        · unfold kB
          rw [List.map_append]
          rfl
        · have nd := beads_nd G.heap
          have sp : beadsL h = (beadsL h).take i ++ [n] ++ (beadsL h).drop (i + 1) := by rw [← take_snoc1 hn, List.take_append_drop]
          have nin : ¬ n ∈ (beadsL h).take i := fun z => by
            rw [sp] at nd
            exact (List.nodup_append.mp (List.nodup_append.mp nd).1).2.2 n z n (List.mem_singleton.mpr rfl) rfl
          have := valB ((beadsL h).take i) n
          rw [decide_eq_false nin] at this
          cases hv0 : valV (kB ((beadsL h).take i)) (.inl n : Key) with
          | none => rfl
          | some v =>
            rw [hv0] at this
            cases this
    · obtain ⟨w1, w2⟩ := hp2
      rw [List.length_map, List.take_length] at w1
      refine ⟨Dd, _, w1, trivial, fun od => ?_⟩
      have hp2 := (e1.trans w2) _ _ hp
      have nDp : p ≠ Dd := ne_of hp2 w1 (by intro z; cases z)
      have g0 : (upd H2 Dd (.frz od (.dK (kB (beadsL h))))) Dd = some (.frz od (.dK (kB (beadsL h)))) := upd_same
      have gp : HeapAt (upd H2 Dd (.frz od (.dK (kB (beadsL h))))) p h := (upd_ne nDp).trans hp2
      have kp : Keep Dd H2 (upd H2 Dd (.frz od (.dK (kB (beadsL h))))) := Keep.dice
      generalize upd H2 Dd (.frz od (.dK (kB (beadsL h)))) = H3 at g0 gp kp ⊢
      refine ⟨_, rfl, Dd, od, rfl, .inl ⟨_, g0, fun Lq hLq => ?_⟩⟩
      refine lc_it walk_keys (fun i H4 => H4 Lq = some (.lst ((((beadsL h).take i).map (tst h k)).map V.bl)) ∧ Ex H3 H4) ⟨upd_same, Ex.new hLq⟩ (fun i H4 _ hp4 => hp4.2 _ _ g0) (fun i x H4 H5 hi hp4 hy => ?_) (fun H4 hp4 => ?_)
      · obtain ⟨v1, v2⟩ := hp4
        obtain ⟨rfl, ky, vv, hkv, rfl⟩ := hy
        unfold kB at hkv
        rw [List.getElem?_map] at hkv
        obtain ⟨n, hn, hkk⟩ := Option.map_eq_some_iff.mp hkv
        cases hkk
        have hi2 := (List.getElem?_eq_some_iff.mp hn).1
        have fin : ∀ b : Bool, b = tst h k n → ∃ acc, H5 Lq = some (.lst acc) ∧ acc.length < sizeLine ∧ (upd H5 Lq (.lst (acc ++ [V.bl b]))) Lq = some (.lst ((((beadsL h).take (i + 1)).map (tst h k)).map V.bl)) ∧ Ex H3 (upd H5 Lq (.lst (acc ++ [V.bl b]))) := fun b hb => by
          refine ⟨_, v1, ?_, ?_, Ex.mut v2 hLq⟩
          · rw [List.length_map, List.length_map, List.length_take]
            exact small1000 (by omega)
          · rw [upd_same, take_snoc1 hn, hb, List.map_append, List.map_append]
            rfl
        refine ⟨rfl, ?_⟩
        dsimp only [tYes]
        rw [if_pos rfl]
        refine ⟨_, rfl, _, rfl, _, _, rfl, rfl, _, rfl, Dd, valV (kB (beadsL h)) (.inl (n - k) : Key), rfl, .inl ⟨_, .inl (n - k), .inr ⟨od, v2 _ _ g0⟩, rfl, rfl⟩, ?_⟩
        rw [valB]
        by_cases c : n - k ∈ beadsL h
        · rw [decide_eq_true c]
          refine ⟨true, rfl, iteT (fin true ?_)⟩
          unfold tst
          rw [decide_eq_true c]
          rfl
        · rw [decide_eq_false c]
          refine ⟨false, rfl, iteF ⟨_, rfl, _, rfl, _, _, rfl, rfl, _, rfl, p, _, rfl, .inr (SqT.of (v2 _ _ gp)), _, rfl, _, _, rfl, rfl, fin _ ?_⟩⟩
          unfold tst
          rw [decide_eq_false c, hv_len, Bool.false_or]
      · obtain ⟨v1, v2⟩ := hp4
        have kl : (kB (beadsL h)).length = (beadsL h).length := by unfold kB; rw [List.length_map]
        rw [kl, List.take_length] at v1
        refine ⟨v2 _ _ g0, ?_⟩
        have nL : Lq ≠ Dd := fun z => by
          rw [z, g0] at hLq
          cases hLq
        refine ⟨Lq, (beadsL h).map (tst h k), rfl, SqL.of ((upd_ne nL).trans v1), ?_⟩
        refine q _ _ (tst_iff h k) ?_
        exact (e1.trans w2).trans (Ex.of_keepD w1 (kp.trans (Keep.ex v2)))
end
end K1

set_option exponentiation.threshold 400
namespace K1
open PySem PySem.Spec PyProof.Rows L2 Evl HM LX ZW TE
section
variable {P : Program} {w : World} {K : PySem.W.Frag} {mg : Str → Option Value} {base : Heap}
end
end K1

set_option exponentiation.threshold 400
namespace K1
open PySem PySem.Spec PyProof.Rows L2 Evl HM LX ZW TE
theorem inV_ints (z : Int) (ns : List Int) : inV (.int z) (ns.map V.int) = decide (z ∈ ns) := by
  unfold inV
  rw [Bool.eq_iff_iff, List.any_eq_true, decide_eq_true_eq]
  constructor
  · rintro ⟨y, hy, e⟩
    obtain ⟨n, hn, rfl⟩ := List.mem_map.mp hy
    have : n = z := eq_of_beq e
    rw [← this]
    exact hn
  · intro h
    exact ⟨.int z, List.mem_map.mpr ⟨z, h, rfl⟩, beq_self_eq_true z⟩
theorem flat_ints (ns : List Int) : (ns.map V.int).all flatV = true := List.all_eq_true.mpr fun z hz => by
  obtain ⟨i, _, rfl⟩ := List.mem_map.mp hz
  rfl
theorem eq_empty {K : PySem.W.Frag} {H : Hp} {p q : Addr} {l : List Int} {Q : VK} (h1 : H p = some (.lst (l.map V.int))) (h2 : H q = some (.lst [])) (k : Q (.bl (decide (l = []))) H) : rEqD K (.ref p) (.ref q) H Q := by
  refine ⟨.list _, .list [], .lst (SqL.of h1) (dp_ints l), .lst (SqL.of h2) .nil, shaped_intsL _, rfl, ?_⟩
  cases l with
  | nil =>
    rw [show PyData.eqv (.list (([] : List Int).map PyData.int)) (.list []) = true from eqv_nil]
    exact k
  | cons a r =>
    rw [show PyData.eqv (.list ((a :: r).map PyData.int)) (.list []) = false from eqv_consnil _ _]
    rw [decide_eq_false (by simp)] at k
    exact k
theorem ne_empty {K : PySem.W.Frag} {H : Hp} {p q : Addr} {l : List Int} {Q : VK} (h1 : H p = some (.lst (l.map V.int))) (h2 : H q = some (.lst [])) (k : Q (.bl (!decide (l = []))) H) : rNeD K (.ref p) (.ref q) H Q := by
  refine ⟨.list _, .list [], .lst (SqL.of h1) (dp_ints l), .lst (SqL.of h2) .nil, shaped_intsL _, rfl, ?_⟩
  cases l with
  | nil =>
    rw [show PyData.eqv (.list (([] : List Int).map PyData.int)) (.list []) = true from eqv_nil]
    exact k
  | cons a r =>
    rw [show PyData.eqv (.list ((a :: r).map PyData.int)) (.list []) = false from eqv_consnil _ _]
    rw [decide_eq_false (by simp)] at k
    exact k
theorem filt_snoc {ns : List Int} {i : Nat} {n : Int} (f : Int → Bool) (h : ns[i]? = some n) : (ns.take (i + 1)).filter f = (ns.take i).filter f ++ (if f n = true then [n] else []) := by
  rw [take_snoc1 h, List.filter_append]
  congr 1
  by_cases c : f n = true
  · rw [if_pos c, List.filter_cons_of_pos c]
    rfl
  · rw [if_neg c, List.filter_cons_of_neg c]
    rfl
section
variable {P : Program} {w : World} {K : PySem.W.Frag} {mg : Str → Option Value} {base : Heap}
def spIsCore (K : PySem.W.Frag) : Sp := fun vs H Q _ => ∃ k x, vs = [.int k, x] ∧ 2 ≤ k ∧ k ≤ 60 ∧ ((HeapB K H x false ∧ ∀ H', Ex H H' → Q (.bl false) H') ∨ ∃ p h, x = .ref p ∧ HeapAt H p h ∧ Good h ∧ ∀ b H', (b = true ↔ coreB h k) → Ex H H' → Q (.bl b) H')
theorem HeapB.mono {K : PySem.W.Frag} {H H' : Hp} {x : V} {b : Bool} (e : Ex H H') (h : HeapB K H x b) : HeapB K H' x b := by
  cases h with
  | no n => exact .no (n.mono e)
  | yes a G => exact .yes (e _ _ a) G
  | bad a G l bb => exact .bad (e _ _ a) G l (bb.mono e)
def lowf (h : List Nat) (k n : Int) : Bool := decide (n - k ≥ 0 - (h.length : Int)) && !decide (n - k ∈ beadsL h)
theorem lowf_iff (h : List Nat) (k : Int) : (beadsL h).filter (lowf h k) = [] ↔ coreB h k := by
  rw [List.filter_eq_nil_iff]
  constructor
  · intro a c hc
    have := a _ (mem_beads.mpr ⟨c, hc, rfl⟩)
    by_cases q : isB h (bead h c - k)
    · exact .inl q
    · by_cases r : bead h c - k < -(h.length : Int)
      · exact .inr r
      · exfalso
        apply this
        unfold lowf
        rw [decide_eq_true (by omega), decide_eq_false (fun z => q (mem_beads.mp z))]
        rfl
  · intro C n hn z
    obtain ⟨c, hc, rfl⟩ := mem_beads.mp hn
    obtain ⟨z1, z2⟩ := Bool.and_eq_true_iff.mp z
    have z1' := of_decide_eq_true z1
    rcases C c hc with q | q
    · rw [decide_eq_true (mem_beads.mpr q)] at z2
      cases z2
    · omega
def spLIsCore : Sp := fun vs H Q _ => ∃ k p h, vs = [.int k, .ref p] ∧ HeapAt H p h ∧ h.length ≤ 60 ∧ ∀ b H', (b = true ↔ coreB h k) → Ex H H' → Q (.bl b) H'
def spLHook : Sp := fun vs H Q _ => ∃ p t h, ∃ c r : Nat, vs = [.ref p, .ref t] ∧ HeapAt H p h ∧ IsHeap h ∧ h.length ≤ 60 ∧ H t = some (.tup [.int (c : Int), .int (r : Int)]) ∧ r < hAt h c ∧ ∀ H', Ex H H' → Q (.int (hk h c r)) H'
end
end K1

set_option exponentiation.threshold 400
namespace K1
open PySem PySem.Spec PyProof.Rows L2 Evl HM LX ZW TE
section
variable {P : Program} {w : World} {K : PySem.W.Frag} {mg : Str → Option Value} {base : Heap}
end
end K1

namespace K1
open PySem PySem.Spec PyProof.Rows L2 Evl HM LX ZW TE
def bump (l : List Int) (k z d : Int) : List Int := l.set (z % k).toNat (l.getD (z % k).toNat 0 + d)
theorem bump_len (l : List Int) (k z d : Int) : (bump l k z d).length = l.length := by
  unfold bump
  rw [List.length_set]
def upF (k : Int) (l : List Int) (b : Int) : List Int := if 0 ≤ b then bump l k b 1 else l
def dnF (h : List Nat) (k : Int) (l : List Int) (m : Nat) : List Int := if (m : Int) - (h.length : Int) ∈ beadsL h then l else bump l k ((m : Int) - (h.length : Int)) (-1)
def up (k : Int) (bs : List Int) (l : List Int) : List Int := bs.foldl (upF k) l
def dn (h : List Nat) (k : Int) (n : Nat) (l : List Int) : List Int := (List.range n).foldl (dnF h k) l
def zs (k : Int) : List Int := List.replicate k.toNat 0
def chL (h : List Nat) (k : Int) : List Int := dn h k h.length (up k (beadsL h) (zs k))
theorem upF_len (k : Int) (l : List Int) (b : Int) : (upF k l b).length = l.length := by
  unfold upF
  split
  · exact bump_len _ _ _ _
  · rfl
theorem dnF_len (h : List Nat) (k : Int) (l : List Int) (m : Nat) : (dnF h k l m).length = l.length := by
  unfold dnF
  split
  · rfl
  · exact bump_len _ _ _ _
theorem up_len (k : Int) : ∀ (bs : List Int) (l : List Int), (up k bs l).length = l.length
  | [], _ => rfl
  | b :: r, l => by
    show (up k r (upF k l b)).length = _
    rw [up_len k r, upF_len]
theorem dn_next (h : List Nat) (k : Int) (n : Nat) (l : List Int) : dn h k (n + 1) l = dnF h k (dn h k n l) n := by
  unfold dn
  rw [List.range_succ, List.foldl_append]
  rfl
theorem dn_len (h : List Nat) (k : Int) (l : List Int) : ∀ n : Nat, (dn h k n l).length = l.length
  | 0 => rfl
  | n + 1 => by rw [dn_next, dnF_len, dn_len h k l n]
theorem up_next {k : Int} {bs l : List Int} {i : Nat} {n : Int} (e : bs[i]? = some n) : up k (bs.take (i + 1)) l = upF k (up k (bs.take i) l) n := by
  unfold up
  rw [take_snoc1 e, List.foldl_append]
  rfl
theorem zs_len {k : Int} (h : 0 ≤ k) : ((zs k).length : Int) = k := by
  unfold zs
  rw [List.length_replicate]
  omega
theorem set_ints (l : List Int) (j : Nat) (z : Int) : (l.map V.int).set j (V.int z) = (l.set j z).map V.int := List.map_set.symm
theorem ints_at {l : List Int} {j : Nat} (h : j < l.length) : (l.map V.int)[j]? = some (V.int (l.getD j 0)) := by
  rw [List.getElem?_map, List.getD_eq_getElem?_getD, List.getElem?_eq_getElem h]
  rfl
end K1

set_option exponentiation.threshold 400
namespace K1
open PySem PySem.Spec PyProof.Rows L2 Evl HM LX ZW TE
section
variable {P : Program} {w : World} {K : PySem.W.Frag} {mg : Str → Option Value} {base : Heap}
def spCheckCore (K : PySem.W.Frag) : Sp := fun vs H Q _ => ∃ k p h, vs = [.int k, .ref p] ∧ HeapAt H p h ∧ Good h ∧ 2 ≤ k ∧ coreB h k ∧ ∀ H', Ex H H' → Q .non H'
theorem ok_check_core (T : Txt K mg) {f : Addr} {fd : FuncData} (D : DefAt K mg "check_core" sCheckCore ["k", "core"] f fd) : FnOk P w K mg base CX0 4 f fd ["k", "core"] (spCheckCore K) := by
  refine D.F.ok scCheckCore (fun vs H Q E h => ?_) (fun cdv A outer s₀ H vs Q E hr h => ?_)
  · obtain ⟨k, p, h, rfl, _⟩ := h
    rfl
  · obtain ⟨k, p, h, rfl, hp, G, k2, C, q⟩ := h
    obtain ⟨f1, fd1, D1⟩ := T.d_stays_core
    obtain ⟨f2, fd2, D2⟩ := T.d_is_heap
    have hr2 : Room 2 _ := hr.mono (by decide)
    have hr3 : Room 3 _ := hr.mono (by decide)
    refine ⟨_, pss_one (ps_if (PW.pt (pw_or (pt_not (pt_val (pe_call (ok_is_heapV T D2) hr3 (by rfl) D2.g D2.F.kp D2.b .nil pass0 (pa_cons (pv 1) pa_nil))))
          (pw_or1 (pt_not (pt_val (pe_call (ok_stays_core T D1) hr2 (by rfl) D1.g D1.F.kp D1.b .nil pass0 (pa_cons (pv 0) (pa_cons (pv 1) pa_nil)))))))) pss_never pss_nil), ?_⟩
    refine ⟨_, rfl, .ref p, true, rfl, .yes hp G, fun H1 e1 => ⟨true, rfl, iteF' rfl ?_⟩⟩
    refine ⟨_, rfl, _, rfl, k, p, h, rfl, e1 _ _ hp, G, k2, fun b H2 hb e2 => ?_⟩
    obtain rfl : b = true := hb.mpr C
    exact ⟨true, rfl, iteF' rfl (q _ (e1.trans e2))⟩
def spCheckTold (K : PySem.W.Frag) : Sp := fun vs H Q _ => ∃ k p h, vs = [.int k, .ref p] ∧ HeapAt H p h ∧ Good h ∧ 2 ≤ k ∧ k ≤ 60 ∧ coreB h k ∧ ∀ H', Ex H H' → Q .non H'
theorem ok_check_told (T : Txt K mg) {f : Addr} {fd : FuncData} (D : DefAt K mg "check_told" sCheckTold ["k", "core"] f fd) : FnOk P w K mg base CX0 5 f fd ["k", "core"] (spCheckTold K) := by
  refine D.F.ok scCheckTold (fun vs H Q E h => ?_) (fun cdv A outer s₀ H vs Q E hr h => ?_)
  · obtain ⟨k, p, h, rfl, _⟩ := h
    rfl
  · obtain ⟨k, p, h, rfl, hp, G, k2, k3, C, q⟩ := h
    obtain ⟨f1, fd1, D1⟩ := T.d_check_core
    obtain ⟨f2, fd2, D2⟩ := T.d_check_order
    have hr4 : Room 4 _ := hr.mono (by decide)
    refine ⟨_, pss_cons (ps_expr (pe_call (ok_check_order T D2) hr4 (by rfl) D2.g D2.F.kp D2.b .nil pass0 (pa_cons (pv 0) pa_nil)))
      (pss_one (ps_expr (pe_call (ok_check_core T D1) hr4 (by rfl) D1.g D1.F.kp D1.b .nil pass0 (pa_cons (pv 0) (pa_cons (pv 1) pa_nil))))), ?_⟩
    refine ⟨_, rfl, k, rfl, k2, k3, fun H1 e1 => ?_⟩
    exact ⟨_, rfl, _, rfl, k, p, h, rfl, e1 _ _ hp, G, k2, C, fun H2 e2 => q _ (e1.trans e2)⟩
def spCharges (K : PySem.W.Frag) : Sp := fun vs H Q _ => ∃ k p h, vs = [.int k, .ref p] ∧ HeapAt H p h ∧ Good h ∧ 2 ≤ k ∧ k ≤ 60 ∧ coreB h k ∧ ∀ r H', Ex H H' → H' r = some (.tup ((chL h k).map V.int)) → Q (.ref r) H'
end
end K1

set_option exponentiation.threshold 400
namespace K1
open PySem PySem.Spec PyProof.Rows L2 Evl HM LX ZW TE
section
variable {P : Program} {w : World} {K : PySem.W.Frag} {mg : Str → Option Value} {base : Heap}
def spLCharges : Sp := fun vs H Q _ => ∃ k p h, vs = [.int k, .ref p] ∧ HeapAt H p h ∧ h.length ≤ 60 ∧ 2 ≤ k ∧ k ≤ 60 ∧ ∀ r H', Ex H H' → H' r = some (.tup ((chL h k).map V.int)) → Q (.ref r) H'
end
end K1

/-! own rule: sum of a tuple of ints -/
namespace ST
open PySem PySem.Spec PyProof.Rows L2
section
variable {prog : Program} {w : World} {A : Around} {E : Value → Shared → Prop} {s : Shared} {l : Addr}
theorem sum_tup {xs : Array (Int × Tok)} {Q : Value → Shared → Prop} (hh : A.handled = none) (hl : s.heap.IsTuple l (intItems xs))
    (h : ∀ h' tk t', (∀ b o, s.heap.get? b = some o → h'.get? b = some o) → Q (.int (preSum (numAt xs) xs.size) t') { s with heap := h', toks := tk }) :
    wpAny (model prog w) A (call (.builtin "sum") [.ref l]) Q E s := by
  have hlt : l < s.heap.objs.size := by
    obtain ⟨_, e, _⟩ := hl
    exact Heap.lt_size e
  refine call_sum_walkG (wpAny_pyIter_tuple hl ?_)
  refine ⟨_, _, _, _, _, _, numAt xs, rfl, Walks.tuple (A := A.in1) hh s.heap.objs.size l (Nat.ne_of_lt hlt) (intItems xs), ⟨⟨_, Heap.get?_push_size _ rfl, rfl, rfl⟩, hl.push _⟩, fun b hb => ?_, (fun _ _ => intItems_at), fun h' tk t' hk => ?_⟩
  · show b < (s.heap.push _).objs.size
    rw [Heap.size_push]
    rcases List.mem_cons.mp hb with rfl | hb
    · exact Nat.lt_succ_self _
    · rcases List.mem_cons.mp hb with rfl | hb
      · exact Nat.lt_succ_of_lt hlt
      · cases hb
  · have := h h' tk t' fun b o e => by
      refine hk b o (fun hm => ?_) (Heap.get?_push_of_some _ e)
      rcases List.mem_cons.mp hm with e1 | hm
      · exact absurd (e1 ▸ Heap.lt_size e) (Nat.lt_irrefl _)
      · cases hm
    simpa [intItems] using this
theorem sum_tupR {its : List Value} {ns : List Int} {Q : Value → Shared → Prop} (hh : A.handled = none) (hl : s.heap.IsTuple l its.toArray) (hi : IntsAre its ns)
    (h : ∀ h' tk t', (∀ b o, s.heap.get? b = some o → h'.get? b = some o) → Q (.int ns.sum t') { s with heap := h', toks := tk }) : wpAny (model prog w) A (call (.builtin "sum") [.ref l]) Q E s := by
  obtain ⟨xs, e⟩ := hi.allInts.items
  have hn : numsOf (intItems xs).toList = ns := by rw [← e]; exact hi.numsOf
  rw [nums_intItems] at hn
  rw [e] at hl
  refine sum_tup hh hl fun h' tk t' hk => ?_
  have := h h' tk t' hk
  rw [preSum_eq, List.take_of_length_le (by simp), hn]
  exact this
end
section
variable {X : Cx}
def rSumT (K : PySem.W.Frag) : List V → Hp → VK → Prop := fun vs H Q => ∃ (a : Addr) (ns : List Int), vs = [V.ref a] ∧ SqT K H a (ns.map V.int) ∧ Q (.int ns.sum) H
theorem cr_sumT (hc : X.calm = true) : CallR X (.builtin "sum") (rSumT X.K) := by
  intro pins s σ H vs us Q I r h
  obtain ⟨a, ns, rfl, hs, q⟩ := h
  obtain ⟨its, rv, hl, _⟩ := I.tuple hs
  rw [Vals.ref1 r]
  exact sum_tupR (I.ok.hd hc) hl rv.ints fun h' tk t' hk => ⟨.int _, H, I.kept hk, ⟨_, rfl⟩, q⟩
end
end ST

set_option exponentiation.threshold 400
namespace K1
open PySem PySem.Spec PyProof.Rows L2 Evl HM LX ZW TE
/-- how many squares of a column have a hook below k -/
def lt1 (h : List Nat) (k : Int) (c : Nat) (n : Nat) : List Nat := (List.range n).filter fun r => decide (hk h c r < k)
def ltL (h : List Nat) (k : Int) (n : Nat) : List Int := (List.range n).map fun c => ((lt1 h k c (hAt h c)).length : Int)
theorem lt1_next (h : List Nat) (k : Int) (c n : Nat) : lt1 h k c (n + 1) = lt1 h k c n ++ (if hk h c n < k then [n] else []) := by
  unfold lt1
  rw [List.range_succ, List.filter_append]
  congr 1
  by_cases z : hk h c n < k
  · rw [if_pos z]
    simp [z]
  · rw [if_neg z]
    simp [z]
theorem lt1_le (h : List Nat) (k : Int) (c n : Nat) : (lt1 h k c n).length ≤ n := by
  have := List.length_filter_le (fun r => decide (hk h c r < k)) (List.range n)
  rw [List.length_range] at this
  exact this
theorem ltL_next (h : List Nat) (k : Int) (n : Nat) : ltL h k (n + 1) = ltL h k n ++ [((lt1 h k n (hAt h n)).length : Int)] := by
  unfold ltL
  rw [List.range_succ, List.map_append]
  rfl
theorem ltL_len (h : List Nat) (k : Int) (n : Nat) : (ltL h k n).length = n := by
  unfold ltL
  rw [List.length_map, List.length_range]
section
variable {P : Program} {w : World} {K : PySem.W.Frag} {mg : Str → Option Value} {base : Heap}
def spParts (K : PySem.W.Frag) : Sp := fun vs H Q _ => ∃ k p h, vs = [.int k, .ref p] ∧ HeapAt H p h ∧ Good h ∧ ∀ r H', Ex H H' → H' r = some (.tup ((ltL h k h.length).map V.int)) → Q (.ref r) H'
theorem ok_parts_of (T : Txt K mg) {f : Addr} {fd : FuncData} (D : DefAt K mg "parts_of" sPartsOf ["k", "heap"] f fd) : FnOk P w K mg base CX0 3 f fd ["k", "heap"] (spParts K) := by
  refine D.F.ok scPartsOf (fun vs H Q E h => ?_) (fun cdv A outer s₀ H vs Q E hr h => ?_)
  · obtain ⟨k, p, h, rfl, _⟩ := h
    rfl
  · obtain ⟨k, p, h, rfl, hp0, G, q⟩ := h
    obtain ⟨f1, fd1, D1⟩ := T.d_hook_at
    obtain ⟨f2, fd2, D2⟩ := T.d_lengths_of
    have hr1 : Room 1 _ := hr.mono (by decide)
    have hr2 : Room 2 _ := hr.mono (by decide)
    refine ⟨_, pss_cons (ps_set (i := 2) scPartsOf.nd rfl (.inr rfl) (pe_call (ok_lengths_of T D2) hr2 (by rfl) D2.g D2.F.kp D2.b .nil pass0 (pa_cons (pv 1) pa_nil)))
      (pss_cons (ps_set (i := 3) scPartsOf.nd rfl (.inl rfl) (pe_lst pa_nil))
      (pss_cons (ps_for PassesOwn.never rfl (EnT.pi_enumT (by rfl) T.z_enumerate (pa_cons (pv 1) pa_nil)) (pg_tup (by rfl) (pgs_cons (pg_name (i := 4) scPartsOf.nd rfl (.inr rfl)) (pgs_cons (pg_name (i := 5) scPartsOf.nd rfl (.inl rfl)) pgs_nil)))
        (pss_one (ps_expr (pe_bm PySem.F.plainAttrs_list PySem.F.slot_list_append PySem.F.type_list_append mt_append (pv 3) (pa_cons (pe_callB call_len_seq (by rfl) T.z_len PySem.boot_len (pa_cons (pe_lc (own := [("row", 6)]) (g := gName 6) rfl scPartsOf.nd (pi_range1 (by rfl) T.z_range (pa_cons (pv 5) pa_nil))
        (blkOk_by (N := nPartsOf) (sc := defScope sPartsOf) (by decide +kernel)) (fun _ _ _ _ _ => (pg_name (i := 6) scPartsOf.nd rfl (.inl rfl))) (fun _ _ _ _ _ => pts_one (pt_cmpR op_lt (pe_call (ok_hook_at T D1) hr1 (by rfl) D1.g D1.F.kp D1.b .nil pass0 (pa_cons (pv 1) (pa_cons (pv 2) (pa_cons (pv 4) (pa_cons (pv 6) pa_nil))))) (pv 0) (nomark _)))
        (fun _ _ _ _ _ => (pv 6))) pa_nil)) pa_nil)))))
      (pss_one (ps_ret (pe_callTy call_tuple_of (by rfl) T.z_tuple (by decide +kernel) (pa_cons (pv 3) pa_nil)))))), ?_⟩
    have hl60 := G.len
    refine ⟨_, rfl, p, h, rfl, hp0, G, fun ln H1 e1 hln => ?_⟩
    refine ⟨by show 0 ≤ sizeLine; decide, fun Lp hLp => ?_⟩
    have x2 := Ex.new (o := .lst []) hLp
    have nH : H Lp = none := fresh_back e1 hLp
    have h2 : (upd H1 Lp (.lst [])) Lp = some (.lst ((ltL h k 0).map V.int)) := upd_same
    have e2 := e1.trans x2
    have hln2 := x2 _ _ hln
    generalize upd H1 Lp (.lst []) = H2 at *
    refine ⟨_, rfl, p, _, rfl, SqT.of (e2 _ _ hp0), for_it (walk_enumT (K := K) (a := p) (xs := hv h)) (fun i σ' H' => ∃ y4 y5, σ' = [some (.int k), some (.ref p), some (.ref ln), some (.ref Lp), y4, y5, none] ∧ H' Lp = some (.lst ((ltL h k i).map V.int)) ∧ H' ln = some (.tup (hv (conj h))) ∧ Ex H H') ⟨none, none, rfl, h2, hln2, e2⟩ (fun i σ' H' _ hp => ?_) (fun i x σ' H' H8 hi hp hy => ?_) (fun σ' H' hp => ?_)⟩
    · obtain ⟨_, _, _, _, _, w3⟩ := hp
      exact SqT.of (w3 _ _ hp0)
    · obtain ⟨y4, y5, rfl, w1, w2, w3⟩ := hp
      obtain ⟨Tp, x1, z1, rfl, nT, rfl, hx1, hz1⟩ := hy
      obtain rfl := Option.some.inj hx1
      have hi' : i < h.length := by
        rw [hv_len] at hi
        exact hi
      have hz2 : (hv h)[i]? = some z1 := hz1
      rw [hv_get hi'] at hz2
      obtain rfl := Option.some.inj hz2
      have eT := Ex.new (o := .tup [.int (i : Nat), .int (hAt h i : Int)]) nT
      refine ⟨Tp, _, rfl, SqT.of upd_same, rfl, .int (i : Nat), [_], rfl, _, [], rfl, rfl, ?_⟩
      have w1' := eT _ _ w1
      have w2' := eT _ _ w2
      have w3' := w3.trans eT
      generalize upd H' Tp (.tup [.int (i : Nat), .int (hAt h i : Int)]) = H3 at *
      have ha := G.all i
      refine ⟨_, rfl, .inl ⟨rfl, _, SqL.of w1'⟩, ?_⟩
      refine ⟨_, rfl, _, rfl, by omega, by omega, fun Dl hD => ?_⟩
      refine lc_range (lo := 0) (n := ((hAt h i : Int)).toNat) (fun r H7 => H7 Dl = some (.lst (hv (lt1 h k i r))) ∧ Ex H3 H7) ⟨upd_same, Ex.new hD⟩ (fun r H7 hr7 hp7 => ?_) (fun H7 hp7 => ?_)
      · obtain ⟨u1, u2⟩ := hp7
        have lr := lt1_le h k i r
        rw [show (0 : Int) + (r : Int) = (r : Int) by omega]
        refine ⟨rfl, _, rfl, _, rfl, _, rfl, _, rfl, p, ln, h, i, r, rfl, (w3'.trans u2) _ _ hp0, u2 _ _ w2', G.heap, by omega, _, rfl, _, _, rfl, rfl, _, rfl, ite2 (fun cc => ?_) (fun cc => ?_)⟩
        · have c0 : hk h i r < k := of_decide_eq_true cc
          refine ⟨_, rfl, _, u1, by rw [hv_len]; exact small1000 (by omega), ?_, Ex.mut u2 hD⟩
          rw [upd_same, lt1_next, if_pos c0, hv_snoc]
        · have c0 : ¬ hk h i r < k := fun z => cc (decide_eq_true z)
          refine ⟨?_, u2⟩
          rw [lt1_next, if_neg c0, List.append_nil]
          exact u1
      · obtain ⟨u1, u2⟩ := hp7
        rw [Int.toNat_natCast] at u1
        have ne : ln ≠ Lp := fun z => by
          have a := w2'
          rw [z, w1'] at a
          cases a
        refine ⟨Dl, _, rfl, .inl (SqL.of u1), Lp, _, _, rfl, rfl, u2 _ _ w1', ?_, _, _, rfl, ?_, ?_, Ex.mut (w3'.trans u2) nH⟩
        · rw [List.length_map, ltL_len]
          exact small1000 (by omega)
        · rw [upd_same, hv_len, ltL_next, List.map_append]
          rfl
        · rw [upd_ne ne]
          exact u2 _ _ w2'
    · obtain ⟨y4, y5, rfl, w1, w2, w3⟩ := hp
      rw [hv_len] at w1
      exact ⟨_, rfl, Lp, _, rfl, .inl ⟨SqL.of w1, fun r hr' => q r _ (w3.trans (Ex.new hr')) upd_same⟩⟩
end
end K1

set_option exponentiation.threshold 400
namespace K1
open PySem PySem.Spec PyProof.Rows L2 Evl HM LX ZW TE
section
variable {P : Program} {w : World} {K : PySem.W.Frag} {mg : Str → Option Value} {base : Heap}
def spLettersOf (K : PySem.W.Frag) : Sp := fun vs H Q _ => ∃ k p h, vs = [.int k, .ref p] ∧ HeapAt H p h ∧ Good h ∧ 2 ≤ k ∧ k ≤ 60 ∧ coreB h k ∧ ∀ H', Ex H H' → Q (.int (ltL h k h.length).sum) H'
theorem ok_letters_of (T : Txt K mg) {f : Addr} {fd : FuncData} (D : DefAt K mg "letters_of" sLettersOf ["k", "core"] f fd) : FnOk P w K mg base CX0 6 f fd ["k", "core"] (spLettersOf K) := by
  refine D.F.ok scLettersOf (fun vs H Q E h => ?_) (fun cdv A outer s₀ H vs Q E hr h => ?_)
  · obtain ⟨k, p, h, rfl, _⟩ := h
    rfl
  · obtain ⟨k, p, h, rfl, hp0, G, k2, k3, C, q⟩ := h
    obtain ⟨f1, fd1, D1⟩ := T.d_parts_of
    obtain ⟨f2, fd2, D2⟩ := T.d_check_told
    have hr3 : Room 3 _ := hr.mono (by decide)
    have hr5 : Room 5 _ := hr.mono (by decide)
    refine ⟨_, pss_cons (ps_expr (pe_call (ok_check_told T D2) hr5 (by rfl) D2.g D2.F.kp D2.b .nil pass0 (pa_cons (pv 0) (pa_cons (pv 1) pa_nil))))
      (pss_one (ps_ret (pe_callB (ST.cr_sumT rfl) (by rfl) T.z_sum (by decide +kernel) (pa_cons (pe_call (ok_parts_of T D1) hr3 (by rfl) D1.g D1.F.kp D1.b .nil pass0 (pa_cons (pv 0) (pa_cons (pv 1) pa_nil))) pa_nil)))), ?_⟩
    refine ⟨_, rfl, _, rfl, k, p, h, rfl, hp0, G, k2, k3, C, fun H1 e1 => ?_⟩
    refine ⟨_, rfl, _, rfl, k, p, h, rfl, e1 _ _ hp0, G, fun r H2 e2 hr2 => ?_⟩
    exact ⟨r, _, rfl, SqT.of hr2, q _ (e1.trans e2)⟩
def spLLetters : Sp := fun vs H Q _ => ∃ k p h, vs = [.int k, .ref p] ∧ HeapAt H p h ∧ Good h ∧ ∀ r H', Ex H H' → H' r = some (.lst ((ltL h k h.length).map V.int)) → Q (.ref r) H'
end
end K1

/-! own rules: a comprehension of two clauses, by two walks -/
namespace L2
open PySem PySem.Spec PyProof.Rows
section
variable {J : It} {n : Nat} {G : Hp → Prop} {Y : Nat → Hp → V → Hp → Prop}
/-- the outer clause: Pv by the turn and the heap (the new list at D within) -/
theorem lc2_out (w : Walk J n G Y) {g g1 : TG} {tt tt1 : TT} {wi1 : TI} {te : TE} {vs vs1 : List Nat} {σ : St} {H1 : Hp} {D : Addr} {Qd : Hp → Prop} (Pv : Nat → Hp → Prop) (h0 : Pv 0 (upd H1 D (.lst []))) (hG : ∀ i H, i ≤ n → Pv i H → G H)
    (hs : ∀ i x H H', i < n → Pv i H → Y i H x H' → g x (wipe σ vs) H' fun σ2 H2 => wipe σ2 vs = wipe σ vs ∧ tt σ2 H2 fun b H3 =>
      if b = true then wi1 σ2 H3 fun J1 H4 => ∃ W1 : Nat → Nat → Hp → Prop, (∃ m, W1 0 m H4) ∧ ∀ j k H, W1 j k H →
      (J1.stop j H ∧ Pv (i + 1) H) ∨ (J1.go j H ∧ ∃ Nx1 : Hp → Prop, (∀ H', Nx1 H' → ∃ k', k' < k ∧ W1 (j + 1) k' H') ∧ ∀ x H', J1.yld j H x H' → g1 x (wipe σ2 vs1) H' fun σ3 H5 => wipe σ3 vs1 = wipe σ2 vs1 ∧ tt1 σ3 H5 fun b H6 =>
        if b = true then te σ3 H6 fun y H7 => ∃ acc, H7 D = some (.lst acc) ∧ acc.length < sizeLine ∧ Nx1 (upd H7 D (.lst (acc ++ [y]))) else Nx1 H6)
      else Pv (i + 1) H3) (hd : ∀ H, Pv n H → Qd H) :
    ∃ W : Nat → Nat → Hp → Prop, (∃ m, W 0 m (upd H1 D (.lst []))) ∧ ∀ i m H, W i m H →
      (J.stop i H ∧ Qd H) ∨ (J.go i H ∧ ∃ Nx : Hp → Prop, (∀ H', Nx H' → ∃ m', m' < m ∧ W (i + 1) m' H') ∧ ∀ x H', J.yld i H x H' → g x (wipe σ vs) H' fun σ2 H2 => wipe σ2 vs = wipe σ vs ∧ tt σ2 H2 fun b H3 =>
        if b = true then wi1 σ2 H3 fun J1 H4 => ∃ W1 : Nat → Nat → Hp → Prop, (∃ m, W1 0 m H4) ∧ ∀ j k H, W1 j k H →
      (J1.stop j H ∧ Nx H) ∨ (J1.go j H ∧ ∃ Nx1 : Hp → Prop, (∀ H', Nx1 H' → ∃ k', k' < k ∧ W1 (j + 1) k' H') ∧ ∀ x H', J1.yld j H x H' → g1 x (wipe σ2 vs1) H' fun σ3 H5 => wipe σ3 vs1 = wipe σ2 vs1 ∧ tt1 σ3 H5 fun b H6 =>
        if b = true then te σ3 H6 fun y H7 => ∃ acc, H7 D = some (.lst acc) ∧ acc.length < sizeLine ∧ Nx1 (upd H7 D (.lst (acc ++ [y]))) else Nx1 H6)
        else Nx H3) := by
  refine ⟨fun i m H => m = n - i ∧ i ≤ n ∧ Pv i H, ⟨n, by simp, Nat.zero_le _, h0⟩, ?_⟩
  rintro i m H ⟨rfl, hi, p⟩
  have q := hG i H hi p
  by_cases hlt : i < n
  · refine .inr ⟨w.goes i H hlt q, Pv (i + 1), fun H' p' => ⟨n - (i + 1), by omega, rfl, hlt, p'⟩, fun x H' y => hs i x H H' hlt p (w.yields i H x H' hlt q y)⟩
  · have e : i = n := by omega
    subst e
    exact .inl ⟨w.stops H q, hd H p⟩
/-- the inner clause -/
theorem lc2_in {J1 : It} {n1 : Nat} {G1 : Hp → Prop} {Y1 : Nat → Hp → V → Hp → Prop} (w : Walk J1 n1 G1 Y1) {g1 : TG} {tt1 : TT} {te : TE} {vs1 : List Nat} {σ2 : St} {H4 : Hp} {D : Addr} {Nx : Hp → Prop} (Pv : Nat → Hp → Prop) (h0 : Pv 0 H4) (hG : ∀ i H, i ≤ n1 → Pv i H → G1 H)
    (hs : ∀ j x H H', j < n1 → Pv j H → Y1 j H x H' → g1 x (wipe σ2 vs1) H' fun σ3 H5 => wipe σ3 vs1 = wipe σ2 vs1 ∧ tt1 σ3 H5 fun b H6 =>
        if b = true then te σ3 H6 fun y H7 => ∃ acc, H7 D = some (.lst acc) ∧ acc.length < sizeLine ∧ Pv (j + 1) (upd H7 D (.lst (acc ++ [y]))) else Pv (j + 1) H6) (hd : ∀ H, Pv n1 H → Nx H) :
    ∃ W1 : Nat → Nat → Hp → Prop, (∃ m, W1 0 m H4) ∧ ∀ j k H, W1 j k H →
      (J1.stop j H ∧ Nx H) ∨ (J1.go j H ∧ ∃ Nx1 : Hp → Prop, (∀ H', Nx1 H' → ∃ k', k' < k ∧ W1 (j + 1) k' H') ∧ ∀ x H', J1.yld j H x H' → g1 x (wipe σ2 vs1) H' fun σ3 H5 => wipe σ3 vs1 = wipe σ2 vs1 ∧ tt1 σ3 H5 fun b H6 =>
        if b = true then te σ3 H6 fun y H7 => ∃ acc, H7 D = some (.lst acc) ∧ acc.length < sizeLine ∧ Nx1 (upd H7 D (.lst (acc ++ [y]))) else Nx1 H6) := by
  refine ⟨fun i m H => m = n1 - i ∧ i ≤ n1 ∧ Pv i H, ⟨n1, by simp, Nat.zero_le _, h0⟩, ?_⟩
  rintro i m H ⟨rfl, hi, p⟩
  have q := hG i H hi p
  by_cases hlt : i < n1
  · refine .inr ⟨w.goes i H hlt q, Pv (i + 1), fun H' p' => ⟨n1 - (i + 1), by omega, rfl, hlt, p'⟩, fun x H' y => hs i x H H' hlt p (w.yields i H x H' hlt q y)⟩
  · have e : i = n1 := by omega
    subst e
    exact .inl ⟨w.stops H q, hd H p⟩
/-- both clauses without tests -/
theorem lc2_outY (w : Walk J n G Y) {g g1 : TG} {tt1 : TT} {wi1 : TI} {te : TE} {vs vs1 : List Nat} {σ : St} {H1 : Hp} {D : Addr} {Qd : Hp → Prop} (Pv : Nat → Hp → Prop) (h0 : Pv 0 (upd H1 D (.lst []))) (hG : ∀ i H, i ≤ n → Pv i H → G H)
    (hs : ∀ i x H H', i < n → Pv i H → Y i H x H' → g x (wipe σ vs) H' fun σ2 H2 => wipe σ2 vs = wipe σ vs ∧ wi1 σ2 H2 fun J1 H4 => ∃ W1 : Nat → Nat → Hp → Prop, (∃ m, W1 0 m H4) ∧ ∀ j k H, W1 j k H →
      (J1.stop j H ∧ Pv (i + 1) H) ∨ (J1.go j H ∧ ∃ Nx1 : Hp → Prop, (∀ H', Nx1 H' → ∃ k', k' < k ∧ W1 (j + 1) k' H') ∧ ∀ x H', J1.yld j H x H' → g1 x (wipe σ2 vs1) H' fun σ3 H5 => wipe σ3 vs1 = wipe σ2 vs1 ∧ tt1 σ3 H5 fun b H6 =>
        if b = true then te σ3 H6 fun y H7 => ∃ acc, H7 D = some (.lst acc) ∧ acc.length < sizeLine ∧ Nx1 (upd H7 D (.lst (acc ++ [y]))) else Nx1 H6)) (hd : ∀ H, Pv n H → Qd H) :
    ∃ W : Nat → Nat → Hp → Prop, (∃ m, W 0 m (upd H1 D (.lst []))) ∧ ∀ i m H, W i m H →
      (J.stop i H ∧ Qd H) ∨ (J.go i H ∧ ∃ Nx : Hp → Prop, (∀ H', Nx H' → ∃ m', m' < m ∧ W (i + 1) m' H') ∧ ∀ x H', J.yld i H x H' → g x (wipe σ vs) H' fun σ2 H2 => wipe σ2 vs = wipe σ vs ∧ tYes σ2 H2 fun b H3 =>
        if b = true then wi1 σ2 H3 fun J1 H4 => ∃ W1 : Nat → Nat → Hp → Prop, (∃ m, W1 0 m H4) ∧ ∀ j k H, W1 j k H →
      (J1.stop j H ∧ Nx H) ∨ (J1.go j H ∧ ∃ Nx1 : Hp → Prop, (∀ H', Nx1 H' → ∃ k', k' < k ∧ W1 (j + 1) k' H') ∧ ∀ x H', J1.yld j H x H' → g1 x (wipe σ2 vs1) H' fun σ3 H5 => wipe σ3 vs1 = wipe σ2 vs1 ∧ tt1 σ3 H5 fun b H6 =>
        if b = true then te σ3 H6 fun y H7 => ∃ acc, H7 D = some (.lst acc) ∧ acc.length < sizeLine ∧ Nx1 (upd H7 D (.lst (acc ++ [y]))) else Nx1 H6)
        else Nx H3) := lc2_out (tt := tYes) w Pv h0 hG hs hd
theorem lc2_inY {J1 : It} {n1 : Nat} {G1 : Hp → Prop} {Y1 : Nat → Hp → V → Hp → Prop} (w : Walk J1 n1 G1 Y1) {g1 : TG} {te : TE} {vs1 : List Nat} {σ2 : St} {H4 : Hp} {D : Addr} {Nx : Hp → Prop} (Pv : Nat → Hp → Prop) (h0 : Pv 0 H4) (hG : ∀ i H, i ≤ n1 → Pv i H → G1 H)
    (hs : ∀ j x H H', j < n1 → Pv j H → Y1 j H x H' → g1 x (wipe σ2 vs1) H' fun σ3 H5 => wipe σ3 vs1 = wipe σ2 vs1 ∧ te σ3 H5 fun y H7 => ∃ acc, H7 D = some (.lst acc) ∧ acc.length < sizeLine ∧ Pv (j + 1) (upd H7 D (.lst (acc ++ [y])))) (hd : ∀ H, Pv n1 H → Nx H) :
    ∃ W1 : Nat → Nat → Hp → Prop, (∃ m, W1 0 m H4) ∧ ∀ j k H, W1 j k H →
      (J1.stop j H ∧ Nx H) ∨ (J1.go j H ∧ ∃ Nx1 : Hp → Prop, (∀ H', Nx1 H' → ∃ k', k' < k ∧ W1 (j + 1) k' H') ∧ ∀ x H', J1.yld j H x H' → g1 x (wipe σ2 vs1) H' fun σ3 H5 => wipe σ3 vs1 = wipe σ2 vs1 ∧ tYes σ3 H5 fun b H6 =>
        if b = true then te σ3 H6 fun y H7 => ∃ acc, H7 D = some (.lst acc) ∧ acc.length < sizeLine ∧ Nx1 (upd H7 D (.lst (acc ++ [y]))) else Nx1 H6) := lc2_in (tt1 := tYes) w Pv h0 hG hs hd
/-- one clause without a test -/
theorem lc_itY (w : Walk J n G Y) {g : TG} {te : TE} {vs : List Nat} {σ : St} {H1 : Hp} {D : Addr} {Qd : Hp → Prop} (Pv : Nat → Hp → Prop) (h0 : Pv 0 (upd H1 D (.lst []))) (hG : ∀ i H, i ≤ n → Pv i H → G H)
    (hs : ∀ i x H H', i < n → Pv i H → Y i H x H' → g x (wipe σ vs) H' fun σ2 H2 => wipe σ2 vs = wipe σ vs ∧ te σ2 H2 fun y H4 => ∃ acc, H4 D = some (.lst acc) ∧ acc.length < sizeLine ∧ Pv (i + 1) (upd H4 D (.lst (acc ++ [y])))) (hd : ∀ H, Pv n H → Qd H) :
    ∃ W : Nat → Nat → Hp → Prop, (∃ m, W 0 m (upd H1 D (.lst []))) ∧ ∀ i m H, W i m H →
      (J.stop i H ∧ Qd H) ∨ (J.go i H ∧ ∃ Nx : Hp → Prop, (∀ H', Nx H' → ∃ m', m' < m ∧ W (i + 1) m' H') ∧ ∀ x H', J.yld i H x H' → g x (wipe σ vs) H' fun σ2 H2 => wipe σ2 vs = wipe σ vs ∧ tYes σ2 H2 fun b H3 =>
        if b = true then te σ2 H3 fun y H4 => ∃ acc, H4 D = some (.lst acc) ∧ acc.length < sizeLine ∧ Nx (upd H4 D (.lst (acc ++ [y]))) else Nx H3) := lc_it (tt := tYes) w Pv h0 hG hs hd
end
end L2

/-! own rule: x in t, t a tuple of data of any depth -/
namespace L2
open PySem PySem.Spec PyProof.Rows
section
variable {X : Cx}
def rInDT (K : PySem.W.Frag) : R2 := fun x y H Q => ∃ d ds, Dp K H x d ∧ Dp K H y (.tuple ds) ∧ SeqAt.shaped d = true ∧ SeqAt.shaped (.tuple ds) = true ∧ Q (.bl (ds.any fun z => PyData.eqv z d)) H
theorem op_inDT (hu : X.A.units + 65 < cLine) : OpR X (compareOp .In) (rInDT X.K) := by
  intro pins s σ H x y v u Q I rx ry h
  obtain ⟨d, ds, hd, he, sd, se, q⟩ := h
  obtain ⟨as, r1⟩ := Dp.reads I d x v hd rx
  obtain ⟨bs, r2⟩ := Dp.reads I (.tuple ds) y u he ry
  exact SeqAt.in_tuple_reads r2 r1 (SeqAt.canLay_of_shaped se) (SeqAt.canLay_of_shaped sd) (room_in_shaped sd hu) ⟨.bl _, H, I, rfl, q⟩
end
end L2

/-! tuples and lists of ints compared, whatever they hold -/
namespace CI
open PySem PySem.Spec PyProof.Rows L2 Evl HM LX ZW K1
theorem eqvAll_ints : ∀ a b : List Int, PyData.eqvAll (a.map PyData.int) (b.map PyData.int) = decide (a = b)
  | [], [] => by simp [PyData.eqvAll]
  | [], _ :: _ => by simp [PyData.eqvAll]
  | _ :: _, [] => by simp [PyData.eqvAll]
  | x :: a, y :: b => by
    have := eqvAll_ints a b
    simp only [List.map_cons, PyData.eqvAll, PyData.eqv, this]
    by_cases e : x = y
    · subst e
      simp
    · simp [e]
theorem eqvT (a b : List Int) : PyData.eqv (.tuple (a.map PyData.int)) (.tuple (b.map PyData.int)) = decide (a = b) := by
  rw [← eqvAll_ints]
  simp only [PyData.eqv]
theorem eqvL (a b : List Int) : PyData.eqv (.list (a.map PyData.int)) (.list (b.map PyData.int)) = decide (a = b) := by
  rw [← eqvAll_ints]
  simp only [PyData.eqv]
section
variable {K : PySem.W.Frag} {H : Hp} {p q : Addr} {Q : VK}
theorem eqT {l l' : List Int} (h1 : H p = some (.tup (l.map V.int))) (h2 : H q = some (.tup (l'.map V.int))) (k : Q (.bl (decide (l = l'))) H) : rEqD K (.ref p) (.ref q) H Q :=
  ⟨_, _, .tup (SqT.of h1) (dp_ints l), .tup (SqT.of h2) (dp_ints l'), shaped_intsT _, shaped_intsT _, by rw [eqvT]; exact k⟩
theorem neT {l l' : List Int} (h1 : H p = some (.tup (l.map V.int))) (h2 : H q = some (.tup (l'.map V.int))) (k : Q (.bl (!decide (l = l'))) H) : rNeD K (.ref p) (.ref q) H Q :=
  ⟨_, _, .tup (SqT.of h1) (dp_ints l), .tup (SqT.of h2) (dp_ints l'), shaped_intsT _, shaped_intsT _, by rw [eqvT]; exact k⟩
theorem eqL {l l' : List Int} (h1 : H p = some (.lst (l.map V.int))) (h2 : H q = some (.lst (l'.map V.int))) (k : Q (.bl (decide (l = l'))) H) : rEqD K (.ref p) (.ref q) H Q :=
  ⟨_, _, .lst (SqL.of h1) (dp_ints l), .lst (SqL.of h2) (dp_ints l'), shaped_intsL _, shaped_intsL _, by rw [eqvL]; exact k⟩
theorem neL {l l' : List Int} (h1 : H p = some (.lst (l.map V.int))) (h2 : H q = some (.lst (l'.map V.int))) (k : Q (.bl (!decide (l = l'))) H) : rNeD K (.ref p) (.ref q) H Q :=
  ⟨_, _, .lst (SqL.of h1) (dp_ints l), .lst (SqL.of h2) (dp_ints l'), shaped_intsL _, shaped_intsL _, by rw [eqvL]; exact k⟩
theorem hvI2 (h : List Nat) : hv h = (h.map fun (n : Nat) => (n : Int)).map V.int := by
  unfold hv
  rw [List.map_map]
  rfl
theorem nat_inj : ∀ {h h' : List Nat}, (h.map fun (n : Nat) => (n : Int)) = (h'.map fun (n : Nat) => (n : Int)) → h = h'
  | [], [], _ => rfl
  | [], _ :: _, e => by simp at e
  | _ :: _, [], e => by simp at e
  | a :: r, b :: t, e => by
    simp only [List.map_cons, List.cons.injEq] at e
    rw [nat_inj e.2, show a = b by omega]
theorem nat_ints {h h' : List Nat} : (h.map fun (n : Nat) => (n : Int)) = (h'.map fun (n : Nat) => (n : Int)) ↔ h = h' := ⟨nat_inj, fun e => by rw [e]⟩
theorem eqH {h h' : List Nat} (h1 : HeapAt H p h) (h2 : HeapAt H q h') (k : Q (.bl (decide (h = h'))) H) : rEqD K (.ref p) (.ref q) H Q := by
  unfold HeapAt at h1 h2
  rw [hvI2] at h1 h2
  refine eqT h1 h2 ?_
  rw [show decide ((h.map fun (n : Nat) => (n : Int)) = (h'.map fun (n : Nat) => (n : Int))) = decide (h = h') from decide_eq_decide.mpr nat_ints]
  exact k
theorem neH {h h' : List Nat} (h1 : HeapAt H p h) (h2 : HeapAt H q h') (k : Q (.bl (!decide (h = h'))) H) : rNeD K (.ref p) (.ref q) H Q := by
  unfold HeapAt at h1 h2
  rw [hvI2] at h1 h2
  refine neT h1 h2 ?_
  rw [show decide ((h.map fun (n : Nat) => (n : Int)) = (h'.map fun (n : Nat) => (n : Int))) = decide (h = h') from decide_eq_decide.mpr nat_ints]
  exact k
end
end CI

namespace K1
open PySem PySem.Spec PyProof.Rows L2 Evl HM LX ZW TE
theorem set_sum : ∀ (l : List Int) (j : Nat) (x : Int), j < l.length → (l.set j x).sum = l.sum - l.getD j 0 + x
  | [], _, _, h => absurd h (Nat.not_lt_zero _)
  | a :: r, 0, x, _ => by
    simp only [List.set_cons_zero, List.sum_cons, List.getD_cons_zero]
    omega
  | a :: r, j + 1, x, h => by
    have := set_sum r j x (by simpa using h)
    simp only [List.set_cons_succ, List.sum_cons, List.getD_cons_succ]
    omega
theorem mod_lt {k n : Int} {m : Nat} (hk : 0 < k) (hm : (m : Int) = k) : (n % k).toNat < m := by
  have := Int.emod_lt_of_pos n hk
  have := Int.emod_nonneg n (show k ≠ 0 by omega)
  omega
theorem bump_sum {l : List Int} {k : Int} (z d : Int) (hk : 0 < k) (hl : (l.length : Int) = k) : (bump l k z d).sum = l.sum + d := by
  unfold bump
  rw [set_sum _ _ _ (mod_lt hk hl)]
  omega
theorem up_sum {k : Int} (hk : 0 < k) : ∀ (bs l : List Int), (l.length : Int) = k → (up k bs l).sum = l.sum + ((bs.filter fun b => decide (0 ≤ b)).length : Int)
  | [], l, _ => by
    show l.sum = _
    simp
  | b :: r, l, hl => by
    show (up k r (upF k l b)).sum = _
    rw [up_sum hk r (upF k l b) (by rw [upF_len]; exact hl)]
    unfold upF
    by_cases c : 0 ≤ b
    · rw [if_pos c, bump_sum _ _ hk hl]
      simp [c]
      omega
    · rw [if_neg c]
      simp [c]
theorem dn_sum {h : List Nat} {k : Int} (hk : 0 < k) {l : List Int} (hl : (l.length : Int) = k) : ∀ n : Nat, (dn h k n l).sum = l.sum - (((List.range n).filter fun (m : Nat) => !decide ((m : Int) - (h.length : Int) ∈ beadsL h)).length : Int)
  | 0 => by
    show l.sum = _
    simp
  | n + 1 => by
    rw [dn_next]
    unfold dnF
    rw [List.range_succ, List.filter_append, List.length_append]
    have ih := dn_sum (h := h) hk hl n
    by_cases c : (n : Int) - (h.length : Int) ∈ beadsL h
    · rw [if_pos c, ih]
      simp [c]
    · rw [if_neg c, bump_sum _ _ hk (by rw [dn_len]; exact hl), ih]
      simp [c]
      omega
theorem bead_count {h : List Nat} (IH : IsHeap h) : ((beadsL h).filter fun b => decide (0 ≤ b)).length = ((List.range h.length).filter fun (m : Nat) => !decide ((m : Int) - (h.length : Int) ∈ beadsL h)).length := by
  have bl : (beadsL h).length = h.length := by unfold beadsL; rw [List.length_map, List.length_range]
  have p1 : ∀ (l : List Int) (f : Int → Bool), (l.filter f).length + (l.filter fun b => !f b).length = l.length := fun l f => by
    induction l with
    | nil => rfl
    | cons a r ih =>
      cases e : f a <;> simp [e] <;> omega
  have p2 : ∀ (l : List Nat) (f : Nat → Bool), (l.filter f).length + (l.filter fun b => !f b).length = l.length := fun l f => by
    induction l with
    | nil => rfl
    | cons a r ih =>
      cases e : f a <;> simp [e] <;> omega
  have a1 := p1 (beadsL h) (fun b => decide (0 ≤ b))
  have a2 := p2 (List.range h.length) (fun (m : Nat) => decide ((m : Int) - (h.length : Int) ∈ beadsL h))
  rw [bl] at a1
  rw [List.length_range] at a2
  have e : ((beadsL h).filter fun b => !decide (0 ≤ b)).Perm (((List.range h.length).filter fun (m : Nat) => decide ((m : Int) - (h.length : Int) ∈ beadsL h)).map fun (m : Nat) => (m : Int) - (h.length : Int)) := by
    refine (List.perm_ext_iff_of_nodup ((beads_nd IH).filter _) ?_).mpr fun b => ?_
    · refine List.pairwise_map.mpr ((List.nodup_range.filter _).imp fun {x y} hne e => hne ?_)
      have e' : (x : Int) - (h.length : Int) = (y : Int) - (h.length : Int) := e
      omega
    · rw [List.mem_filter, List.mem_map]
      constructor
      · rintro ⟨hb, hn⟩
        obtain ⟨c, hc, rfl⟩ := mem_beads.mp hb
        have pos := IH.1 c hc
        have lt : ¬ 0 ≤ bead h c := by simpa using hn
        have ge : -(h.length : Int) ≤ bead h c := by
          unfold bead
          omega
        refine ⟨(bead h c + h.length).toNat, List.mem_filter.mpr ⟨List.mem_range.mpr (by omega), ?_⟩, by omega⟩
        rw [show (((bead h c + h.length).toNat : Nat) : Int) - (h.length : Int) = bead h c by omega]
        exact decide_eq_true hb
      · rintro ⟨m, hm, rfl⟩
        obtain ⟨h1, h2⟩ := List.mem_filter.mp hm
        have := List.mem_range.mp h1
        refine ⟨of_decide_eq_true h2, ?_⟩
        rw [decide_eq_false (by omega)]
        rfl
  have l1 := e.length_eq
  rw [List.length_map] at l1
  omega
theorem ch_len {h : List Nat} {k : Int} (hk : 0 ≤ k) : ((chL h k).length : Int) = k := by
  unfold chL
  rw [dn_len, up_len]
  exact zs_len hk
theorem ch_sum {h : List Nat} (IH : IsHeap h) {k : Int} (hk : 0 < k) : (chL h k).sum = 0 := by
  have z0 : (zs k).sum = 0 := by
    unfold zs
    simp
  have zl := zs_len (k := k) (by omega)
  unfold chL
  rw [dn_sum hk (by rw [up_len]; exact zl), up_sum hk _ _ zl, z0, bead_count IH]
  omega
end K1

namespace K1
open PySem PySem.Spec PyProof.Rows L2 Evl HM LX ZW TE
theorem bump_get (l : List Int) (k z d : Int) {x : Nat} (hx : x < l.length) : (bump l k z d).getD x 0 = l.getD x 0 + (if (z % k).toNat = x then d else 0) := by
  unfold bump
  rw [List.getD_eq_getElem?_getD, List.getElem?_set]
  by_cases e : (z % k).toNat = x
  · rw [if_pos e, if_pos (by omega), if_pos e, e]
    rfl
  · rw [if_neg e, if_neg e, ← List.getD_eq_getElem?_getD]
    omega
theorem up_get {k : Int} {x : Nat} : ∀ (bs l : List Int), x < l.length → (up k bs l).getD x 0 = l.getD x 0 + ((bs.filter fun b => decide (0 ≤ b) && decide ((b % k).toNat = x)).length : Int)
  | [], l, _ => by
    show l.getD x 0 = _
    simp
  | b :: r, l, h => by
    show (up k r (upF k l b)).getD x 0 = _
    rw [up_get r _ (by rw [upF_len]; exact h)]
    unfold upF
    by_cases c : 0 ≤ b
    · rw [if_pos c, bump_get _ _ _ _ h]
      by_cases e : (b % k).toNat = x
      · rw [if_pos e]
        simp [c, e]
        omega
      · rw [if_neg e]
        simp [c, e]
    · rw [if_neg c]
      simp [c]
theorem dn_get {h : List Nat} {k : Int} {x : Nat} {l : List Int} (hx : x < l.length) : ∀ n : Nat, (dn h k n l).getD x 0 = l.getD x 0 - (((List.range n).filter fun (m : Nat) => !decide ((m : Int) - (h.length : Int) ∈ beadsL h) && decide ((((m : Int) - (h.length : Int)) % k).toNat = x)).length : Int)
  | 0 => by
    show l.getD x 0 = _
    simp
  | n + 1 => by
    rw [dn_next]
    unfold dnF
    rw [List.range_succ, List.filter_append, List.length_append]
    have ih := dn_get (h := h) (k := k) hx n
    by_cases c : (n : Int) - (h.length : Int) ∈ beadsL h
    · rw [if_pos c, ih]
      simp [c]
    · rw [if_neg c, bump_get _ _ _ _ (by rw [dn_len]; exact hx), ih]
      by_cases e : (((n : Int) - (h.length : Int)) % k).toNat = x
      · rw [if_pos e]
        simp [c, e]
        omega
      · rw [if_neg e]
        simp [c, e]
theorem beads_filter (h : List Nat) (f : Int → Bool) : ((beadsL h).filter f).length = ((List.range h.length).filter fun c => f (bead h c)).length := by
  unfold beadsL
  rw [List.filter_map, List.length_map]
  rfl
theorem ch_fl {h : List Nat} (IH : IsHeap h) {k : Int} (k1 : 1 ≤ k) {a : Nat → Int} (F : fl h k a) : chL h k = (List.range k.toNat).map a := by
  have cl := ch_len (h := h) (k := k) (by omega)
  refine List.ext_getElem? fun x => ?_
  by_cases hx : x < k.toNat
  · rw [List.getElem?_map, List.getElem?_range hx, List.getElem?_eq_getElem (by omega)]
    show some _ = some (a x)
    congr 1
    have e : (chL h k)[x]'(by omega) = (chL h k).getD x 0 := by
      rw [List.getD_eq_getElem?_getD, List.getElem?_eq_getElem (by omega)]
      rfl
    rw [e]
    have zl := zs_len (k := k) (by omega)
    have xz : x < (zs k).length := by omega
    unfold chL
    rw [dn_get (by rw [up_len]; exact xz), up_get _ _ xz, beads_filter]
    have z0 : (zs k).getD x 0 = 0 := by
      unfold zs
      rw [List.getD_eq_getElem?_getD, List.getElem?_replicate]
      split <;> rfl
    have d0 : 0 < k := by omega
    have c1 := cnt_bij (n := h.length) (m := (a x).toNat) (p := fun c => decide (0 ≤ bead h c) && decide ((bead h c % k).toNat = x)) (q := fun _ => true) (fun c => (bead h c / k).toNat) ?_ ?_ ?_
    have c2 := cnt_bij (n := h.length) (m := (-a x).toNat) (p := fun (m : Nat) => !decide ((m : Int) - (h.length : Int) ∈ beadsL h) && decide ((((m : Int) - (h.length : Int)) % k).toNat = x)) (q := fun _ => true) (fun m => (-(((m : Int) - (h.length : Int)) / k) - 1).toNat) ?_ ?_ ?_
    · rw [cnt_all] at c1 c2
      rw [c1, c2, z0]
      omega
    · intro i j hi hj pi pj e
      obtain ⟨pi1, pi2⟩ := Bool.and_eq_true_iff.mp pi
      obtain ⟨pj1, pj2⟩ := Bool.and_eq_true_iff.mp pj
      have pi2 := of_decide_eq_true pi2
      have pj2 := of_decide_eq_true pj2
      have mi := Int.emod_add_mul_ediv ((i : Int) - (h.length : Int)) k
      have mj := Int.emod_add_mul_ediv ((j : Int) - (h.length : Int)) k
      have ri := Int.emod_nonneg ((i : Int) - (h.length : Int)) (show k ≠ 0 by omega)
      have rj := Int.emod_nonneg ((j : Int) - (h.length : Int)) (show k ≠ 0 by omega)
      have ni := Int.ediv_neg_of_neg_of_pos (show (i : Int) - (h.length : Int) < 0 by omega) d0
      have nj := Int.ediv_neg_of_neg_of_pos (show (j : Int) - (h.length : Int) < 0 by omega) d0
      have e' : (-(((i : Int) - (h.length : Int)) / k) - 1).toNat = (-(((j : Int) - (h.length : Int)) / k) - 1).toNat := e
      have ee : ((i : Int) - (h.length : Int)) / k = ((j : Int) - (h.length : Int)) / k := by omega
      rw [ee] at mi
      omega
    · intro i hi p
      obtain ⟨p1, p2⟩ := Bool.and_eq_true_iff.mp p
      have p2 := of_decide_eq_true p2
      have nb : ¬ inB h ((i : Int) - (h.length : Int)) := fun b => by
        rcases (inB_iff _).mp b with z | z
        · rw [decide_eq_true (mem_beads.mpr z)] at p1
          cases p1
        · omega
      have ni := Int.ediv_neg_of_neg_of_pos (show (i : Int) - (h.length : Int) < 0 by omega) d0
      rw [F, p2] at nb
      refine ⟨?_, rfl⟩
      show (-(((i : Int) - (h.length : Int)) / k) - 1).toNat < _
      omega
    · intro j hj _
      obtain ⟨m1, m2⟩ := divmod (k := k) (z := (x : Int) + k * (-(j : Int) - 1)) d0 (by omega) (by omega) rfl
      have nb : ¬ inB h ((x : Int) + k * (-(j : Int) - 1)) := by
        rw [F, m1, m2, Int.toNat_natCast]
        omega
      have ge : -(h.length : Int) ≤ (x : Int) + k * (-(j : Int) - 1) := by
        rcases Int.lt_or_le ((x : Int) + k * (-(j : Int) - 1)) (-(h.length : Int)) with z | z
        · exact absurd (inB_low z) nb
        · exact z
      have lt0 : (x : Int) + k * (-(j : Int) - 1) < 0 := by
        have := Int.mul_le_mul_of_nonneg_left (show -(j : Int) - 1 ≤ -1 by omega) (show 0 ≤ k by omega)
        omega
      have ez : (((((x : Int) + k * (-(j : Int) - 1)) + (h.length : Int)).toNat : Nat) : Int) - (h.length : Int) = (x : Int) + k * (-(j : Int) - 1) := by omega
      refine ⟨(((x : Int) + k * (-(j : Int) - 1)) + (h.length : Int)).toNat, by omega, ?_, ?_⟩
      · rw [ez, Bool.and_eq_true_iff]
        refine ⟨?_, decide_eq_true (by rw [m2, Int.toNat_natCast])⟩
        rw [decide_eq_false (fun z => nb ((inB_iff _).mpr (.inl (mem_beads.mp z))))]
        rfl
      · show (-(((((((x : Int) + k * (-(j : Int) - 1)) + (h.length : Int)).toNat : Nat) : Int) - (h.length : Int)) / k) - 1).toNat = j
        rw [ez, m1]
        omega
    · intro i j hi hj pi pj e
      obtain ⟨pi1, pi2⟩ := Bool.and_eq_true_iff.mp pi
      obtain ⟨pj1, pj2⟩ := Bool.and_eq_true_iff.mp pj
      have pi1 := of_decide_eq_true pi1
      have pj1 := of_decide_eq_true pj1
      have pi2 := of_decide_eq_true pi2
      have pj2 := of_decide_eq_true pj2
      have mi := Int.emod_add_mul_ediv (bead h i) k
      have mj := Int.emod_add_mul_ediv (bead h j) k
      have ri := Int.emod_nonneg (bead h i) (show k ≠ 0 by omega)
      have rj := Int.emod_nonneg (bead h j) (show k ≠ 0 by omega)
      have ni := Int.ediv_nonneg pi1 (show 0 ≤ k by omega)
      have nj := Int.ediv_nonneg pj1 (show 0 ≤ k by omega)
      have e' : (bead h i / k).toNat = (bead h j / k).toNat := e
      have ee : bead h i / k = bead h j / k := by omega
      rw [ee] at mi
      rcases Nat.lt_trichotomy i j with q | q | q
      · have := bead_lt IH q
        omega
      · exact q
      · have := bead_lt IH q
        omega
    · intro c hc p
      obtain ⟨p1, p2⟩ := Bool.and_eq_true_iff.mp p
      have p1 := of_decide_eq_true p1
      have p2 := of_decide_eq_true p2
      have b := (F (bead h c)).mp ⟨c, rfl⟩
      rw [p2] at b
      have := Int.ediv_nonneg p1 (show 0 ≤ k by omega)
      refine ⟨?_, rfl⟩
      show (bead h c / k).toNat < _
      omega
    · intro j hj _
      obtain ⟨m1, m2⟩ := divmod (k := k) (z := (x : Int) + k * (j : Int)) d0 (by omega) (by omega) rfl
      have pos : 0 ≤ k * (j : Int) := Int.mul_nonneg (by omega) (by omega)
      obtain ⟨c, hc⟩ : inB h ((x : Int) + k * (j : Int)) := by
        rw [F, m1, m2, Int.toNat_natCast]
        omega
      refine ⟨c, ?_, ?_, ?_⟩
      · rcases Nat.lt_or_ge c h.length with q | q
        · exact q
        · rw [bead_out q] at hc
          omega
      · rw [Bool.and_eq_true_iff, ← hc]
        exact ⟨decide_eq_true (by omega), decide_eq_true (by rw [m2, Int.toNat_natCast])⟩
      · show (bead h c / k).toNat = j
        rw [← hc, m1, Int.toNat_natCast]
  · rw [List.getElem?_eq_none (by omega), List.getElem?_eq_none (by rw [List.length_map, List.length_range]; omega)]
theorem ltL_lts (h : List Nat) (k : Int) : (ltL h k h.length).sum = lts h k := by
  unfold ltL lts lt1
  rw [sm_sum]
end K1

set_option exponentiation.threshold 400
namespace K1
open PySem PySem.Spec PyProof.Rows L2 Evl HM LX
section
variable {P : Program} {w : World} {K : PySem.W.Frag} {mg : Str → Option Value} {base : Heap}
def Eqo (rs : List (Int × Int)) (m k : Nat) : Prop := ∀ j, j < m → K1M.ord (K1N.nAt rs j) (K1N.sAt rs j).natAbs = k
theorem ord_times {k m j : Nat} (hm : 0 < m) (h : Nat.gcd k j = 1) : K1M.ord (k * m) (m * j) = k := by
  unfold K1M.ord
  rw [Nat.mul_comm k m, Nat.gcd_mul_left, h, Nat.mul_one, Nat.mul_div_cancel_left _ hm]
theorem Eqo.snoc {rs : List (Int × Int)} {i k : Nat} {n s : Int} (h : Eqo rs i k) (hl : rs.length = i) (hn : K1M.ord n.toNat s.natAbs = k) : Eqo (rs ++ [(n, s)]) (i + 1) k := fun j hj => by
  by_cases z : j < i
  · have h1 : K1N.nAt (rs ++ [(n, s)]) j = K1N.nAt rs j := K1N.nAt_left (by omega)
    have h2 : K1N.sAt (rs ++ [(n, s)]) j = K1N.sAt rs j := by
      unfold K1N.sAt
      rw [List.getD_eq_getElem?_getD, List.getElem?_append_left (by omega), ← List.getD_eq_getElem?_getD]
    rw [h1, h2]
    exact h j z
  · have : j = i := by omega
    subst this
    unfold K1N.nAt K1N.sAt
    rw [List.getD_eq_getElem?_getD, List.getElem?_append_right (by omega), hl, Nat.sub_self]
    exact hn
def EW (d Dl : Addr) (H : Hp) (most : Int) (k i : Nat) (H' : Hp) : Prop := ∃ xs rs, H' Dl = some (.lst xs) ∧ RingsAt H' most xs rs ∧ xs.length = i ∧ Keep d H H' ∧ Dice H' d ∧ Eqo rs i k
theorem EW.turn {d Dl : Addr} {H H' H2 : Hp} {most n s : Int} {x : V} {k i : Nat} (W : EW d Dl H most k i H') (ndl : d ≠ Dl) (hD0 : H Dl = none) (kp : Keep d H' H2) (hd : Dice H2 d) (r : RingAt H2 most x n s) (ho : K1M.ord n.toNat s.natAbs = k) (hi : i < 1000) :
    ∃ acc, H2 Dl = some (.lst acc) ∧ acc.length < sizeLine ∧ EW d Dl H most k (i + 1) (upd H2 Dl (.lst (acc ++ [x]))) := by
  obtain ⟨xs, rs, a1, a2, a3, a4, a5, a6⟩ := W
  have e1 : H2 Dl = some (.lst xs) := kp _ _ ndl.symm a1
  have nt : ∀ {y : V} {n s : Int}, RingAt H2 most y n s → RingAt (upd H2 Dl (.lst (xs ++ [x]))) most y n s := fun {y n s} q => q.upd fun t ht => by
    obtain ⟨t', rfl, ht', _⟩ := q
    cases ht
    exact ne_of ht' e1 (by intro z; cases z)
  refine ⟨xs, e1, small1000 (by omega), xs ++ [x], rs ++ [(n, s)], upd_same, paired_snoc (R := fun x (r : Int × Int) => RingAt (upd H2 Dl (.lst (xs ++ [_]))) most x r.1 r.2) (y := (n, s)) (nt r) (paired_imp (R := fun x (r : Int × Int) => RingAt H' most x r.1 r.2) (fun y r' q => nt (q.keep kp a5)) a2), ?_, (a4.trans kp).mut hD0, hd.upd ndl, a6.snoc ((paired_len a2).symm.trans a3) ho⟩
  rw [List.length_append, a3]
  rfl
def spRingOfO : Sp := fun vs H Q _ => ∃ (d : Addr) (k t : Int), vs = [.ref d, .int k, .int t] ∧ Dice H d ∧ 2 ≤ k ∧ k ≤ 100 ∧ 1 ≤ t ∧ t ≤ 1000 ∧ ∀ x n s H', RingAt H' (k * t) x n s → K1M.ord n.toNat s.natAbs = k.toNat → Dice H' d → Keep d H H' → Q x H'
theorem ok_ring_ofO (T : Txt K mg) {f : Addr} {fd : FuncData} (D : DefAt K mg "_law_ring_of" sLRingOf ["_law_dice_here", "_law_k", "_law_times"] f fd) : FnOk P w K mg base CX0 3 f fd ["_law_dice_here", "_law_k", "_law_times"] spRingOfO := by
  refine D.F.ok scLRingOf (fun vs H Q E h => ?_) (fun cdv A outer s H vs Q E hr h => ?_)
  · obtain ⟨d, n, t, rfl, _⟩ := h
    rfl
  · obtain ⟨d, k, t, rfl, hd, h1, h2, h3, h4, q⟩ := h
    obtain ⟨f1, fd1, D1⟩ := T.d_l_roll
    obtain ⟨f2, fd2, D2⟩ := T.d_l_common
    obtain ⟨f3, fd3, D3⟩ := T.d_l_one_of
    have hr1 : Room 1 _ := hr.mono (by decide)
    refine ⟨_, pss_cons (ps_set (i := 3) scLRingOf.nd rfl (.inl rfl) (pe_op op_add pe_int (pe_call (ok_roll T D1) hr1 (by rfl) D1.g D1.F.kp D1.b .nil pass0 (pa_cons (pv 0) (pa_cons (pv 2) pa_nil)))))
      (pss_cons (ps_setLc (i := 4) (own := [("_law_one", 5)]) (g := gName 5) (by rfl) scLRingOf.nd rfl rfl (sw_true rfl rfl rfl (by decide +kernel)) (pi_range2 (by rfl) T.z_range (pa_cons pe_int (pa_cons (pv 1) pa_nil)))
        (blkOk_by (N := nLRingOf) (sc := defScope sLRingOf) (by decide +kernel)) (fun _ _ _ _ _ => pg_name (i := 5) scLRingOf.nd rfl (Or.inl rfl))
        (fun _ _ _ _ _ => pts_one (pt_cmpR op_eq (pe_call (ok_common T D2) hr1 (by rfl) D2.g D2.F.kp D2.b .nil pass0 (pa_cons (pv 1) (pa_cons (pv 5) pa_nil))) pe_int (nomark _))) (fun _ _ _ _ _ => pv 5))
      (pss_one (ps_ret (pe_tup (pa_cons (pe_op op_mul (pv 1) (pv 3)) (pa_cons (pe_op op_mul (pv 3) (pe_call (ok_one_of T D3) hr (by rfl) D3.g D3.F.kp D3.b .nil pass0 (pa_cons (pv 0) (pa_cons (pv 4) pa_nil)))) pa_nil)))))), ?_⟩
    refine ⟨.ref d, rfl, .int t, rfl, d, _, rfl, hd, by omega, by omega, fun r H1 r0 r1 hd1 k1 => ?_⟩
    refine ⟨1, r, rfl, rfl, .int k, rfl, 1, k, rfl, by omega, fun Dl hD => ?_⟩
    have ndl : d ≠ Dl := hd1.ne_new hD
    have hD0 : H Dl = none := k1.free ndl.symm hD
    refine lc_range (lo := 1) (n := (k - 1).toNat) (fun i H' => ∃ js : List Int, H' Dl = some (.lst (js.map V.int)) ∧ js.length ≤ i ∧ (∀ j ∈ js, 1 ≤ j ∧ j < k ∧ Nat.gcd k.toNat j.toNat = 1) ∧ (1 ≤ i → 1 ≤ js.length) ∧ Keep d H H' ∧ Dice H' d)
      ⟨[], upd_same, Nat.le_refl _, by simp, by omega, k1.trans (Keep.new hD), hd1.upd (hd1.ne_new hD)⟩ (fun i H' hi hp => ?_) (fun H' hp => ?_)
    · obtain ⟨js, a1, a2, a3, a4, a5, a6⟩ := hp
      refine ⟨rfl, .int k, rfl, .int (1 + (i : Int)), rfl, k.toNat, 1 + i, ?_, fun H2 e2 => ?_⟩
      · show [V.int k, V.int (1 + (i : Int))] = [V.int ((k.toNat : Nat) : Int), V.int (((1 + i : Nat)) : Int)]
        rw [show ((k.toNat : Nat) : Int) = k by omega, show (((1 + i : Nat)) : Int) = 1 + (i : Int) by omega]
      · refine ⟨rfl, _, rfl, ite2 (fun c => ?_) (fun c => ?_)⟩
        · have c1 : Nat.gcd k.toNat (1 + i) = 1 := by
            have := V.int.inj (of_decide_eq_true c)
            omega
          refine ⟨_, rfl, js.map V.int, e2 _ _ a1, ?_, js ++ [1 + (i : Int)], ?_, ?_, ?_, ?_, ?_, ?_⟩
          · rw [List.length_map]
            exact small1000 (by omega)
          · rw [List.map_append]
            exact upd_same
          · rw [List.length_append]
            exact Nat.add_le_add_right a2 1
          · intro j hj
            rcases List.mem_append.mp hj with hj | hj
            · exact a3 j hj
            · have hj := List.mem_singleton.mp hj
              subst hj
              refine ⟨by omega, by omega, ?_⟩
              rw [show (1 + (i : Int)).toNat = 1 + i by omega]
              exact c1
          · intro _
            rw [List.length_append]
            exact Nat.le_add_left _ _
          · exact (a5.trans (Keep.ex e2)).mut hD0
          · exact (a6.ex e2).upd ndl
        · refine ⟨js, e2 _ _ a1, by omega, a3, fun _ => ?_, a5.trans (Keep.ex e2), a6.ex e2⟩
          by_cases z : i = 0
          · subst z
            refine absurd ?_ c
            rw [show k.toNat.gcd (1 + 0) = 1 from Nat.gcd_one_right k.toNat]
            rfl
          · exact a4 (by omega)
    · obtain ⟨js, a1, a2, a3, a4, a5, a6⟩ := hp
      have hl : 1 ≤ js.length := a4 (by omega)
      have hb : 1 ≤ 1 + r ∧ 1 + r ≤ t := by omega
      have hkm : k * (1 + r) ≤ k * t := Int.mul_le_mul_of_nonneg_left hb.2 (by omega)
      have hk2 : 2 ≤ k * (1 + r) := by
        have := Int.mul_le_mul_of_nonneg_left hb.1 (show (0 : Int) ≤ k by omega)
        omega
      refine ⟨.int k, rfl, .int (1 + r), rfl, k, 1 + r, rfl, rfl, .inl (by constructor <;> omega), .int (1 + r), rfl, .ref d, rfl, .ref Dl, rfl, d, Dl, _, rfl, a6, a1, ndl.symm, by rw [List.length_map]; exact hl, by rw [List.length_map]; omega, fun x H2 hx hd2 k2 => ?_⟩
      obtain ⟨j, hj, rfl⟩ := List.mem_map.mp hx
      obtain ⟨j1, j2, j3⟩ := a3 j hj
      refine ⟨1 + r, j, rfl, rfl, .inl (by constructor <;> omega), by show 2 ≤ sizeLine; decide, fun p hp => ?_⟩
      have c1 : 1 ≤ (1 + r) * j := by
        have := Int.mul_le_mul_of_nonneg_left j1 (show (0 : Int) ≤ 1 + r by omega)
        omega
      have c2 : (1 + r) * j < k * (1 + r) := by
        rw [Int.mul_comm k (1 + r)]
        exact Int.mul_lt_mul_of_pos_left j2 (by omega)
      refine q _ _ _ _ ⟨p, rfl, upd_same, hk2, hkm, c1, c2⟩ ?_ (hd2.upd (hd2.ne_new hp)) ((a5.trans k2).trans (Keep.new hp))
      have m1 : (k * (1 + r)).toNat = k.toNat * (1 + r).toNat := Int.toNat_mul (by omega) (by omega)
      have m2 : ((1 + r) * j).natAbs = (1 + r).toNat * j.toNat := by
        rw [Int.natAbs_mul]
        congr 1 <;> omega
      rw [m1, m2]
      exact ord_times (by omega) j3
def spEqualChain : Sp := fun vs H Q _ => ∃ (d : Addr) (g k : Int), vs = [.ref d, .int g, .int k] ∧ Dice H d ∧ 1 ≤ g ∧ g ≤ 100 ∧ 2 ≤ k ∧ k ≤ 30 ∧
  ∀ p xs rs H', H' p = some (.tup xs) → RingsAt H' 60 xs rs → (xs.length : Int) = g → Eqo rs xs.length k.toNat → Dice H' d → Keep d H H' → Q (.ref p) H'
theorem ok_equal_chain (T : Txt K mg) {f : Addr} {fd : FuncData} (D : DefAt K mg "_law_equal_chain" sLEqualChain ["_law_dice_here", "_law_rings", "_law_k"] f fd) : FnOk P w K mg base CX0 4 f fd ["_law_dice_here", "_law_rings", "_law_k"] spEqualChain := by
  refine D.F.ok scLEqualChain (fun vs H Q E h => ?_) (fun cdv A outer s₀ H vs Q E hr h => ?_)
  · obtain ⟨d, g, k, rfl, _⟩ := h
    rfl
  · obtain ⟨d, g, k, rfl, hd, g1, g2, h1, h2, q⟩ := h
    obtain ⟨f1, fd1, D1⟩ := T.d_l_ring_of
    have hr3 : Room 3 _ := hr.mono (by decide)
    refine ⟨_, pss_one (ps_ret (pe_callTy call_tuple_of (by rfl) T.z_tuple (by decide +kernel) (pa_cons (pe_lc (own := [("_law_turn", 3)]) (g := gName 3) (tt := tYes) rfl scLEqualChain.nd (pi_range1 (by rfl) T.z_range (pa_cons (pv 1) pa_nil))
        (blkOk_by (N := nLEqualChain) (sc := defScope sLEqualChain) (by decide +kernel)) (fun _ _ _ _ _ => (pg_name (i := 3) scLEqualChain.nd rfl (.inl rfl))) (fun _ _ _ _ _ => pts_nil)
        (fun _ _ _ _ _ => (pe_call (ok_ring_ofO T D1) hr3 (by rfl) D1.g D1.F.kp D1.b .nil pass0 (pa_cons (pv 0) (pa_cons (pv 2) (pa_cons pe_int pa_nil)))))) pa_nil))), ?_⟩
    refine ⟨_, rfl, g, rfl, by omega, by omega, fun Dl hD => ?_⟩
    have ndl : d ≠ Dl := hd.ne_new hD
    refine lc_range (lo := 0) (n := g.toNat) (EW d Dl H 60 k.toNat) ⟨[], [], upd_same, .nil, rfl, Keep.new hD, hd.upd ndl, fun j hj => absurd hj (Nat.not_lt_zero j)⟩ (fun i H' hi W => ?_) (fun H' W => ?_)
    · have hd' := W.choose_spec.choose_spec.2.2.2.2.1
      refine ⟨rfl, ?_⟩
      dsimp only [tYes]
      rw [if_pos rfl]
      refine ⟨_, rfl, _, rfl, d, k, 2, rfl, hd', by omega, by omega, by decide, by decide, fun x n s H3 hx ho hd3 k3 => ?_⟩
      exact W.turn ndl hD k3 hd3 (hx.most (by omega)) ho (by omega)
    · obtain ⟨xs, rs, a1, a2, a3, a4, a5, a6⟩ := W
      refine ⟨Dl, xs, rfl, .inl ⟨SqL.of a1, fun p hp => q p xs rs _ upd_same (paired_imp (fun y r' z => RingAt.ex (.new hp) z) a2) (by omega) (by rw [a3]; exact a6) (a5.upd (a5.ne_new hp)) (a4.trans (Keep.new hp))⟩⟩
end
end K1

/-! own rules: max and min of a tuple of ints -/
namespace MT
open PySem PySem.Spec PyProof.Rows L2
section
variable {prog : Program} {w : World} {A : Around} {E : Value → Shared → Prop} {s : Shared} {l : Addr}
theorem max_tup {xs : Array (Int × Tok)} {Q : Value → Shared → Prop} (hh : A.handled = none) (hl : s.heap.IsTuple l (intItems xs)) (hne : 0 < xs.size)
    (h : ∀ v h' tk, (intItems xs)[argBest (fun i j => decide (numAt xs i > numAt xs j)) (xs.size - 1)]? = some v → (∀ b o, s.heap.get? b = some o → h'.get? b = some o) → Q v { s with heap := h', toks := tk }) :
    wpAny (model prog w) A (call (.builtin "max") [.ref l]) Q E s := by
  have hlt : l < s.heap.objs.size := by
    obtain ⟨_, e, _⟩ := hl
    exact Heap.lt_size e
  refine call_max_walk (wpAny_pyIter_tuple hl ?_)
  refine ⟨_, _, _, _, _, _, _, rfl, Walks.tuple (A := A.in1) hh s.heap.objs.size l (Nat.ne_of_lt hlt) (intItems xs), ⟨⟨_, Heap.get?_push_size _ rfl, rfl, rfl⟩, hl.push _⟩, fun b hb => ?_, by simpa [intItems] using hne, CmpOf.ints_gt (numAt xs) (fun _ _ => intItems_at), fun v h' tk hP hk => ?_⟩
  · show b < (s.heap.push _).objs.size
    rw [Heap.size_push]
    rcases List.mem_cons.mp hb with rfl | hb
    · exact Nat.lt_succ_self _
    · rcases List.mem_cons.mp hb with rfl | hb
      · exact Nat.lt_succ_of_lt hlt
      · cases hb
  · exact h v h' tk (by simpa [intItems] using hP) fun b o e => by
      refine hk b o (fun hm => ?_) (Heap.get?_push_of_some _ e)
      rcases List.mem_cons.mp hm with e1 | hm
      · exact absurd (e1 ▸ Heap.lt_size e) (Nat.lt_irrefl _)
      · cases hm
theorem min_tup {xs : Array (Int × Tok)} {Q : Value → Shared → Prop} (hh : A.handled = none) (hl : s.heap.IsTuple l (intItems xs)) (hne : 0 < xs.size)
    (h : ∀ v h' tk, (intItems xs)[argBest (fun i j => decide (numAt xs i < numAt xs j)) (xs.size - 1)]? = some v → (∀ b o, s.heap.get? b = some o → h'.get? b = some o) → Q v { s with heap := h', toks := tk }) :
    wpAny (model prog w) A (call (.builtin "min") [.ref l]) Q E s := by
  have hlt : l < s.heap.objs.size := by
    obtain ⟨_, e, _⟩ := hl
    exact Heap.lt_size e
  refine call_min_walk (wpAny_pyIter_tuple hl ?_)
  refine ⟨_, _, _, _, _, _, _, rfl, Walks.tuple (A := A.in1) hh s.heap.objs.size l (Nat.ne_of_lt hlt) (intItems xs), ⟨⟨_, Heap.get?_push_size _ rfl, rfl, rfl⟩, hl.push _⟩, fun b hb => ?_, by simpa [intItems] using hne, CmpOf.ints_lt (numAt xs) (fun _ _ => intItems_at), fun v h' tk hP hk => ?_⟩
  · show b < (s.heap.push _).objs.size
    rw [Heap.size_push]
    rcases List.mem_cons.mp hb with rfl | hb
    · exact Nat.lt_succ_self _
    · rcases List.mem_cons.mp hb with rfl | hb
      · exact Nat.lt_succ_of_lt hlt
      · cases hb
  · exact h v h' tk (by simpa [intItems] using hP) fun b o e => by
      refine hk b o (fun hm => ?_) (Heap.get?_push_of_some _ e)
      rcases List.mem_cons.mp hm with e1 | hm
      · exact absurd (e1 ▸ Heap.lt_size e) (Nat.lt_irrefl _)
      · cases hm
theorem max_tupR {its : List Value} {ns : List Int} {Q : Value → Shared → Prop} (hh : A.handled = none) (hl : s.heap.IsTuple l its.toArray) (hi : IntsAre its ns) (hne : 0 < ns.length)
    (h : ∀ h' tk M t', (∀ b o, s.heap.get? b = some o → h'.get? b = some o) → M ∈ ns → (∀ a, a ∈ ns → a ≤ M) → Q (.int M t') { s with heap := h', toks := tk }) : wpAny (model prog w) A (call (.builtin "max") [.ref l]) Q E s := by
  obtain ⟨xs, e⟩ := hi.allInts.items
  have hn : numsOf (intItems xs).toList = ns := by rw [← e]; exact hi.numsOf
  rw [nums_intItems] at hn
  subst hn
  rw [e] at hl
  have hsz : 0 < xs.size := by simpa using hne
  refine max_tup hh hl hsz fun v h' tk hv hk => ?_
  obtain ⟨t, rfl⟩ := intItems_at hv
  obtain ⟨h1, h2⟩ := argBest_gt (numAt xs) (xs.size - 1)
  refine h h' tk _ t hk ?_ fun a ha => ?_
  · rw [numAt_eq]; exact PySem.getD_mem (by rw [List.length_map, Array.length_toList]; omega)
  · obtain ⟨j, hj, rfl⟩ := mem_getD ha
    rw [List.length_map, Array.length_toList] at hj
    rw [← numAt_eq]; exact h2 j (by omega)
theorem min_tupR {its : List Value} {ns : List Int} {Q : Value → Shared → Prop} (hh : A.handled = none) (hl : s.heap.IsTuple l its.toArray) (hi : IntsAre its ns) (hne : 0 < ns.length)
    (h : ∀ h' tk M t', (∀ b o, s.heap.get? b = some o → h'.get? b = some o) → M ∈ ns → (∀ a, a ∈ ns → M ≤ a) → Q (.int M t') { s with heap := h', toks := tk }) : wpAny (model prog w) A (call (.builtin "min") [.ref l]) Q E s := by
  obtain ⟨xs, e⟩ := hi.allInts.items
  have hn : numsOf (intItems xs).toList = ns := by rw [← e]; exact hi.numsOf
  rw [nums_intItems] at hn
  subst hn
  rw [e] at hl
  have hsz : 0 < xs.size := by simpa using hne
  refine min_tup hh hl hsz fun v h' tk hv hk => ?_
  obtain ⟨t, rfl⟩ := intItems_at hv
  obtain ⟨h1, h2⟩ := argBest_lt (numAt xs) (xs.size - 1)
  refine h h' tk _ t hk ?_ fun a ha => ?_
  · rw [numAt_eq]; exact PySem.getD_mem (by rw [List.length_map, Array.length_toList]; omega)
  · obtain ⟨j, hj, rfl⟩ := mem_getD ha
    rw [List.length_map, Array.length_toList] at hj
    rw [← numAt_eq]; exact h2 j (by omega)
end
section
variable {X : Cx}
def rMaxT (K : PySem.W.Frag) : List V → Hp → VK → Prop := fun vs H Q => ∃ (a : Addr) (ns : List Int), vs = [V.ref a] ∧ SqT K H a (ns.map V.int) ∧ 0 < ns.length ∧ ∀ m, m ∈ ns → (∀ y, y ∈ ns → y ≤ m) → Q (.int m) H
def rMinT (K : PySem.W.Frag) : List V → Hp → VK → Prop := fun vs H Q => ∃ (a : Addr) (ns : List Int), vs = [V.ref a] ∧ SqT K H a (ns.map V.int) ∧ 0 < ns.length ∧ ∀ m, m ∈ ns → (∀ y, y ∈ ns → m ≤ y) → Q (.int m) H
theorem cr_maxT (hc : X.calm = true) : CallR X (.builtin "max") (rMaxT X.K) := by
  intro pins s σ H vs us Q I r h
  obtain ⟨a, ns, rfl, hs, hne, q⟩ := h
  obtain ⟨its, rv, hl, _⟩ := I.tuple hs
  rw [Vals.ref1 r]
  exact max_tupR (I.ok.hd hc) hl rv.ints hne fun h' tk m t' hk h1 h2 => ⟨.int _, H, I.kept hk, ⟨_, rfl⟩, q m h1 h2⟩
theorem cr_minT (hc : X.calm = true) : CallR X (.builtin "min") (rMinT X.K) := by
  intro pins s σ H vs us Q I r h
  obtain ⟨a, ns, rfl, hs, hne, q⟩ := h
  obtain ⟨its, rv, hl, _⟩ := I.tuple hs
  rw [Vals.ref1 r]
  exact min_tupR (I.ok.hd hc) hl rv.ints hne fun h' tk m t' hk h1 h2 => ⟨.int _, H, I.kept hk, ⟨_, rfl⟩, q m h1 h2⟩
end
end MT

set_option exponentiation.threshold 400
namespace K1
open PySem PySem.Spec PyProof.Rows L2 Evl HM LX
section
variable {P : Program} {w : World} {K : PySem.W.Frag} {mg : Str → Option Value} {base : Heap}
theorem big6 {n : Nat} (h : n ≤ 12000000) : n < sizeLine := by
  rw [sizeLine_eq]
  omega
theorem keep_lock {d : Addr} {H : Hp} {u : HO} : Keep d H (upd H d u) := fun b _ n q => (upd_ne n).trans q
theorem erase_permV {ls : List V} {i : Nat} {y : V} (h : ls[i]? = some y) : ls.Perm (y :: ls.eraseIdx i) := by
  induction ls generalizing i with
  | nil => simp at h
  | cons x r ih =>
    cases i with
    | zero =>
      obtain rfl := Option.some.inj h
      exact .refl _
    | succ i =>
      have := ih (i := i) h
      exact (List.Perm.cons x this).trans (List.Perm.swap y x _)
theorem dp_heaps {K : PySem.W.Frag} {H : Hp} : ∀ {ls : List V}, (∀ v ∈ ls, ∃ b h, v = V.ref b ∧ HeapAt H b h) → ∃ ds, DpAll K H ls ds ∧ PyData.canLayAll0 ds = true ∧ PyData.depthAll ds ≤ 61 ∧ ds.length = ls.length
  | [], _ => ⟨[], .nil, rfl, by decide, rfl⟩
  | v :: r, h => by
    obtain ⟨ds, d1, d2, d3, d4⟩ := dp_heaps (ls := r) fun u hu => h u (List.mem_cons_of_mem _ hu)
    obtain ⟨b, g, rfl, hb⟩ := h v (List.mem_cons_self ..)
    unfold HeapAt at hb
    rw [CI.hvI2] at hb
    generalize (g.map fun (n : Nat) => (n : Int)) = l at hb
    refine ⟨_ :: ds, .cons (.tup (SqT.of hb) (dp_ints _)) d1, ?_, ?_, by rw [List.length_cons, List.length_cons, d4]⟩
    · simp [PyData.canLayAll0, PyData.canLay0, can_ints, d2]
    · have := depth_ints l
      simp only [PyData.depthAll, PyData.depth]
      omega
theorem shaped_ds {ds : List PyData} (h1 : PyData.canLayAll0 ds = true) (h2 : PyData.depthAll ds ≤ 61) : SeqAt.shaped (.list ds) = true := by
  unfold SeqAt.shaped
  have a : (PyData.list ds).canLay0 = true := by simp [PyData.canLay0, h1]
  have b : (PyData.list ds).depth ≤ 64 := by
    simp only [PyData.depth]
    omega
  rw [a, decide_eq_true b]
  rfl
def keyW (h : List Nat) : List Key := h.map fun (n : Nat) => Sum.inl (n : Int)
theorem keyW_hv (h : List Nat) : (keyW h).map kV = hv h := by
  unfold keyW hv
  rw [List.map_map]
  rfl
theorem keyW_inj : ∀ {a b : List Nat}, keyW a = keyW b → a = b
  | [], [], _ => rfl
  | [], _ :: _, e => by simp [keyW] at e
  | _ :: _, [], e => by simp [keyW] at e
  | x :: a, y :: b, e => by
    simp only [keyW, List.map_cons, List.cons.injEq, Sum.inl.injEq] at e
    rw [keyW_inj (a := a) (b := b) e.2, show x = y by omega]
def kvW (ks : List (List Nat)) : List (List Key × V) := ks.map fun h => (keyW h, V.bl true)
theorem valW (A : List Nat) : ∀ ks : List (List Nat), (valV (kvW ks) (keyW A)).isSome = decide (A ∈ ks)
  | [] => rfl
  | x :: t => by
    show (valV ((keyW x, V.bl true) :: kvW t) (keyW A)).isSome = _
    by_cases e : x = A
    · rw [valV_pos (by rw [e]), decide_eq_true (by rw [e]; exact List.mem_cons_self ..)]
      rfl
    · rw [valV_neg (fun z => e (keyW_inj z)), valW A t]
      refine decide_eq_decide.mpr ⟨fun h => List.mem_cons_of_mem _ h, fun h => ?_⟩
      rcases List.mem_cons.mp h with z | z
      · exact absurd z.symm e
      · exact z
theorem putW (ks : List (List Nat)) (A : List Nat) : ∃ ks', putK (kvW ks) (keyW A) (V.bl true) = kvW ks' ∧ (∀ B, B ∈ ks' ↔ (B ∈ ks ∨ B = A)) ∧ ks'.length ≤ ks.length + 1 := by
  have hs := valW A ks
  by_cases c : A ∈ ks
  · refine ⟨ks, ?_, fun y => ⟨fun h => .inl h, fun h => h.elim id (fun e => by rw [e]; exact c)⟩, by omega⟩
    rw [decide_eq_true c] at hs
    unfold putK
    rw [valV_any, if_pos hs]
    unfold kvW
    rw [List.map_map]
    refine List.map_congr_left fun n _ => ?_
    show (if (keyW n, V.bl true).1 = keyW A then ((keyW n, V.bl true).1, V.bl true) else (keyW n, V.bl true)) = _
    split <;> rfl
  · refine ⟨ks ++ [A], ?_, fun y => by rw [List.mem_append, List.mem_singleton], by rw [List.length_append]; exact Nat.le_refl _⟩
    rw [decide_eq_false c] at hs
    rw [putK_new]
    · unfold kvW
      rw [List.map_append]
      rfl
    · cases hv0 : valV (kvW ks) (keyW A) with
      | none => rfl
      | some v =>
        rw [hv0] at hs
        cases hs
end
end K1

set_option exponentiation.threshold 400
namespace K1
open PySem PySem.Spec PyProof.Rows L2 Evl HM LX ZW TE
theorem gp_fall {k : Nat} : ∀ {r : List Nat}, Gp k r → ∀ i, i + 1 < r.length → hAt r (i + 1) ≤ hAt r i
  | [], _, i, h => absurd h (by simp)
  | p :: r, ⟨_, _, c, d⟩, 0, h => by
    have h' : 0 < r.length := by simpa using h
    exact c _ (List.mem_of_getElem? (hAt_lt h'))
  | p :: r, ⟨_, _, _, d⟩, i + 1, h => gp_fall d i (by simpa using h)
theorem gp_drop {k : Nat} : ∀ {r : List Nat} (i : Nat), Gp k r → Gp k (r.drop i)
  | [], i, _ => by simp; trivial
  | p :: r, 0, g => g
  | p :: r, i + 1, ⟨_, _, _, d⟩ => gp_drop i d
theorem drop_sum (r : List Nat) (i : Nat) : (r.drop i).sum ≤ r.sum := by
  have := congrArg List.sum (List.take_append_drop i r)
  rw [List.sum_append] at this
  omega
theorem cw_good {k : Nat} (k2 : 2 ≤ k) {r : List Nat} (g : Gp k r) (s : r.sum ≤ 30) : Good (cw k r) ∧ (cw k r).length ≤ 30 ∧ hAt (cw k r) 0 ≤ 30 := by
  obtain ⟨a, b, c, _⟩ := cw_core g
  have h := core_small k2 a b
  rw [lts_prts, c] at h
  exact ⟨⟨a, by omega, by omega⟩, by omega, by omega⟩
theorem last_drop {l : List Nat} {n : Nat} (h : n < l.length) : l.drop n = hAt l n :: l.drop (n + 1) := by
  rw [List.drop_eq_getElem_cons h]
  congr 1
  exact Option.some.inj ((List.getElem?_eq_getElem h).symm.trans (hAt_lt h))
theorem hvI {h : List Nat} {c : Nat} (hc : c < h.length) {j : Int} (e : j = (c : Int)) : atI (hv h) j = some (V.int (hAt h c : Int)) := by rw [e]; exact atI_nat (hv_get hc)
section
variable {P : Program} {w : World} {K : PySem.W.Frag} {mg : Str → Option Value} {base : Heap}
def spAreParts (K : PySem.W.Frag) : Sp := fun vs H Q _ => ∃ (k : Nat) (p : Addr) (r : List Nat), vs = [.int (k : Int), .ref p] ∧ HeapAt H p r ∧ Gp k r ∧ k ≤ 60 ∧ r.length ≤ 60 ∧ ∀ H', Ex H H' → Q (.bl true) H'
def spCoreWith : Sp := fun vs H Q _ => ∃ (k : Nat) (p : Addr) (r : List Nat), vs = [.int (k : Int), .ref p] ∧ HeapAt H p r ∧ Gp k r ∧ 2 ≤ k ∧ k ≤ 60 ∧ r.sum ≤ 30 ∧ ∀ (a : Addr) H', Ex H H' → HeapAt H' a (cw k r) → Q (.ref a) H'
theorem ok_core_with (T : Txt K mg) {f : Addr} {fd : FuncData} (D : DefAt K mg "core_with" sCoreWith ["k", "parts"] f fd) : FnOk P w K mg base CX0 3 f fd ["k", "parts"] spCoreWith := by
  refine D.F.ok scCoreWith (fun vs H Q E h => ?_) (fun cdv A outer s₀ H vs Q E hr h => ?_)
  · obtain ⟨k, p, r, rfl, _⟩ := h
    rfl
  · obtain ⟨k, p, r, rfl, hp, g, k2, k60, s30, q⟩ := h
    obtain ⟨f1, fd1, D1⟩ := T.d_lengths_of
    have hr2 : Room 2 _ := hr.mono (by decide)
    refine ⟨_, pss_cons (ps_set (i := 2) scCoreWith.nd rfl (.inl rfl) (pe_tup pa_nil))
      (pss_cons (ps_for PassesOwn.never rfl (RT.pi_revA (by rfl) T.z_reversed (pv 1)) (pg_name (i := 3) scCoreWith.nd rfl (.inr rfl))
        (pss_cons (ps_set (i := 4) scCoreWith.nd rfl (.inl rfl) (pe_call (ok_lengths_of T D1) hr2 (by rfl) D1.g D1.F.kp D1.b .nil pass0 (pa_cons (pv 2) pa_nil)))
      (pss_cons (ps_set (i := 5) scCoreWith.nd rfl (.inl rfl) (pe_callB call_len_seq (by rfl) T.z_len PySem.boot_len (pa_cons (pe_lc (own := [("length", 6)]) (g := gName 6) rfl scCoreWith.nd (pi_tup (pv 4))
        (blkOk_by (N := nCoreWith) (sc := defScope sCoreWith) (by decide +kernel)) (fun _ _ _ _ _ => (pg_name (i := 6) scCoreWith.nd rfl (.inl rfl))) (fun _ _ _ _ _ => pts_one (pt_cmpR op_ge (pe_op op_add (pv 6) (pv 3)) (pv 0) (nomark _)))
        (fun _ _ _ _ _ => (pv 6))) pa_nil)))
      (pss_one (ps_set (i := 2) scCoreWith.nd rfl (.inl rfl) (pe_op op_catE (pe_tup (pa_cons (pe_op op_add (pv 5) (pv 3)) pa_nil)) (pv 2)))))))
      (pss_one (ps_ret (pv 2)))), ?_⟩
    refine ⟨by show 0 ≤ sizeLine; decide, fun t0 nt0 => ?_⟩
    have hp1 := Ex.new (o := .tup []) nt0 _ _ hp
    refine ⟨_, rfl, p, _, rfl, .inr ⟨SqT.of hp1, ?_⟩⟩
    refine RT.for_ItvT (K := K) (a := p) (xs := hv r) (fun i σ' H' => ∃ y3 y4 y5 t, σ' = [some (.int (k : Int)), some (.ref p), some (.ref t), y3, y4, y5, none] ∧ Ex H H' ∧ HeapAt H' t (cw k (r.drop (r.length - i)))) ⟨none, none, none, t0, rfl, Ex.new nt0, by rw [Nat.sub_zero, List.drop_length]; exact upd_same⟩ (fun i σ' H' hW => ?_) (fun i v σ' H' hi hv' hW => ?_) (fun σ' H' hW => ?_)
    · obtain ⟨y3, y4, y5, t, rfl, e, ht⟩ := hW
      exact SqT.of (e _ _ hp)
    · obtain ⟨y3, y4, y5, t, rfl, e, ht⟩ := hW
      rw [hv_len] at hi hv'
      obtain ⟨n, hn⟩ : ∃ n, n = r.length - 1 - i := ⟨_, rfl⟩
      rw [← hn, hv_get (show n < r.length by omega)] at hv'
      obtain rfl := Option.some.inj hv'
      have dr : r.drop (r.length - (i + 1)) = hAt r n :: r.drop (r.length - i) := by
        rw [show r.length - (i + 1) = n by omega, show r.length - i = n + 1 by omega]
        exact last_drop (by omega)
      have g1 := gp_drop (r.length - i) g
      have s1 := drop_sum r (r.length - i)
      obtain ⟨G, l1, t1⟩ := cw_good k2 g1 (by omega)
      have g2 := gp_drop (r.length - (i + 1)) g
      have s2 := drop_sum r (r.length - (i + 1))
      rw [dr] at g2 s2
      generalize hAt r n = pt at dr g2 s2 ⊢
      generalize hD2 : r.drop (r.length - i) = rr at *
      generalize hC : cw k rr = h at *
      refine ⟨_, rfl, t, h, rfl, ht, G, fun r1 H1 e1 hr1 => ?_⟩
      have hr1' : H1 r1 = some (.tup (hv (conj h))) := hr1
      refine ⟨_, rfl, r1, rfl, ⟨_, SqT.of hr1'⟩, fun Dl hD => ?_⟩
      refine lc_tup (K := K) (a := r1) (xs := hv (conj h)) (fun j H' => H' Dl = some (.lst (hv (((conj h).take j).filter fun l => decide (k ≤ l + pt)))) ∧ Ex H1 H') ⟨upd_same, Ex.new hD⟩ (fun j H' _ hp5 => SqT.of (hp5.2 _ _ hr1')) (fun j x H' hx hp5 => ?_) (fun H2 hp5 => ?_)
      · obtain ⟨w1, w2⟩ := hp5
        obtain ⟨y, hy, rfl⟩ := hv_inv hx
        have hj := (List.getElem?_eq_some_iff.mp hx).1
        rw [hv_len] at hj
        have tk : (conj h).take (j + 1) = (conj h).take j ++ [y] := by
          rw [List.take_succ, hy]
          rfl
        have c60 : (conj h).length ≤ 60 := by
          rw [conj_len]
          omega
        refine ⟨rfl, _, rfl, _, rfl, _, _, rfl, rfl, _, rfl, _, _, rfl, rfl, _, rfl, ite2 (fun cc => ?_) (fun cc => ?_)⟩
        · have c0 : k ≤ y + pt := by
            have := of_decide_eq_true cc
            omega
          refine ⟨_, rfl, _, w1, ?_, ?_, Ex.mut w2 hD⟩
          · rw [hv_len]
            have a1 := List.length_filter_le (fun l => decide (k ≤ l + pt)) ((conj h).take j)
            rw [List.length_take] at a1
            exact small1000 (by omega)
          · rw [upd_same, tk, List.filter_append]
            rw [List.filter_cons, if_pos (decide_eq_true c0)]
            unfold hv
            rw [List.map_append]
            rfl
        · have c0 : ¬ k ≤ y + pt := by
            have := of_decide_eq_false (Bool.eq_false_iff.mpr cc)
            omega
          refine ⟨?_, w2⟩
          rw [tk, List.filter_append, List.filter_cons, if_neg (by rw [decide_eq_false c0]; decide), List.filter_nil, List.append_nil]
          exact w1
      · obtain ⟨w1, w2⟩ := hp5
        rw [hv_len, List.take_length] at w1
        have ht2 := (e1.trans w2) _ _ ht
        refine ⟨Dl, _, rfl, .inl (SqL.of w1), ?_⟩
        rw [hv_len]
        refine ⟨_, rfl, _, rfl, _, _, rfl, rfl, by show 1 ≤ sizeLine; decide, fun t2 nt2 => ?_⟩
        have ht3 := Ex.new (o := .tup [V.int (((bel k h pt : Nat) : Int) + (pt : Int))]) nt2 _ _ ht2
        refine ⟨_, rfl, t2, t, _, _, rfl, rfl, upd_same, ht3, ?_, fun t4 H4 e4 ht4 => ?_⟩
        · rw [hv_len]
          show 1 + h.length ≤ _
          exact Nat.le_of_lt (small1000 (by omega))
        · refine ⟨_, _, _, t4, rfl, (((e.trans e1).trans w2).trans (Ex.new nt2)).trans e4, ?_⟩
          rw [dr]
          show H4 t4 = some (.tup (hv ((bel k (cw k rr) pt + pt) :: cw k rr)))
          rw [hC, ht4]
          rfl
    · obtain ⟨y3, y4, y5, t, rfl, e, ht⟩ := hW
      rw [hv_len, Nat.sub_self] at ht
      exact ⟨_, rfl, q t _ e ht⟩
def spCoreOfParts : Sp := fun vs H Q _ => ∃ (k : Nat) (p : Addr) (r : List Nat), vs = [.int (k : Int), .ref p] ∧ HeapAt H p r ∧ Gp k r ∧ 2 ≤ k ∧ k ≤ 60 ∧ r.sum ≤ 30 ∧ ∀ (a : Addr) H', Ex H H' → HeapAt H' a (cw k r) → Q (.ref a) H'
end
end K1

set_option exponentiation.threshold 400
namespace K1
open PySem PySem.Spec PyProof.Rows L2 Evl HM LX ZW TE
abbrev HRow := Addr × List Nat
def refH (L : List HRow) : List V := L.map fun x => V.ref x.1
def HsAt (H : Hp) (L : List HRow) : Prop := ∀ x ∈ L, HeapAt H x.1 x.2
theorem HsAt.ex {H H' : Hp} {L : List HRow} (e : Ex H H') (h : HsAt H L) : HsAt H' L := fun x hx => e _ _ (h x hx)
abbrev SRow := Addr × Addr × Sk
def refS (S : List SRow) : List V := S.map fun x => V.ref x.1
def sks (S : List SRow) : List Sk := S.map fun x => x.2.2
def hps (L : List HRow) : List (List Nat) := L.map fun x => x.2
def SkAt (H : Hp) (S : List SRow) : Prop := ∀ x ∈ S, H x.1 = some (.tup [.ref x.2.1, .int (x.2.2.2 : Int)]) ∧ HeapAt H x.2.1 x.2.2.1
theorem SkAt.ex {H H' : Hp} {S : List SRow} (e : Ex H H') (h : SkAt H S) : SkAt H' S := fun x hx => ⟨e _ _ (h x hx).1, e _ _ (h x hx).2⟩
theorem SkAt.mut {H : Hp} {S : List SRow} {l : Addr} {xs ys : List V} (hl : H l = some (.lst xs)) (h : SkAt H S) : SkAt (upd H l (.lst ys)) S := fun x hx => by
  obtain ⟨a, b⟩ := h x hx
  refine ⟨?_, ?_⟩
  · rw [upd_ne (ne_of a hl (by intro z; cases z))]
    exact a
  · unfold HeapAt at *
    rw [upd_ne (ne_of b hl (by intro z; cases z))]
    exact b
theorem HsAt.mut {H : Hp} {S : List HRow} {l : Addr} {xs ys : List V} (hl : H l = some (.lst xs)) (h : HsAt H S) : HsAt (upd H l (.lst ys)) S := fun x hx => by
  have b := h x hx
  unfold HeapAt at *
  rw [upd_ne (ne_of b hl (by intro z; cases z))]
  exact b
theorem snoc_of {α : Type} : ∀ {l : List α}, l ≠ [] → ∃ S x, l = S ++ [x]
  | [], h => absurd rfl h
  | a :: l, _ => ⟨(a :: l).dropLast, (a :: l).getLast (by simp), (List.dropLast_concat_getLast (by simp)).symm⟩
theorem at_last {xs : List V} {n : Nat} {v : V} (h : xs.length = n + 1) (hv : xs[n]? = some v) : atI xs (-1) = some v := by
  obtain ⟨h1, e1⟩ := List.getElem?_eq_some_iff.mp hv
  have e : xs = xs.take n ++ [v] := by
    have := List.take_append_getElem (l := xs) (i := n) h1
    rw [e1, List.take_of_length_le (show xs.length ≤ n + 1 by omega)] at this
    exact this.symm
  rw [e]
  exact atI_last _ _
theorem topI {m : Nat} {row : List Nat} (h : row ≠ []) : atI (hv row) (-1) = some (V.int (topOf m row : Int)) := by
  obtain ⟨S, x, rfl⟩ := snoc_of h
  unfold topOf
  rw [List.getLastD_concat]
  exact at_last (n := S.length) (by rw [hv_len, List.length_append]; rfl) (by unfold hv; rw [List.getElem?_map, List.getElem?_append_right (Nat.le_refl _), Nat.sub_self]; rfl)
theorem ite_same {c : Prop} [Decidable c] {A B R : Prop} (hA : c → R → A) (hB : ¬c → R → B) (r : R) : if c then A else B := by
  by_cases h : c
  · rw [if_pos h]
    exact hA h r
  · rw [if_neg h]
    exact hB h r
section
variable {P : Program} {w : World} {K : PySem.W.Frag} {mg : Str → Option Value} {base : Heap}
def spRowsSum : Sp := fun vs H Q _ => ∃ m n : Nat, vs = [.int (m : Int), .int (n : Int)] ∧ m ≤ 60 ∧ n ≤ 20 ∧ ∀ (a : Addr) (L : List HRow) H', Ex H H' → H' a = some (.lst (refH L)) → HsAt H' L → (hps L).Perm (cps (n + 1) m n) → (hps L).length ≤ 2 ^ n → Q (.ref a) H'
theorem ok_rows_with_sum (T : Txt K mg) {f : Addr} {fd : FuncData} (D : DefAt K mg "rows_with_sum" sRowsWithSum ["most", "total"] f fd) : FnOk P w K mg base CX0 1 f fd ["most", "total"] spRowsSum := by
  refine D.F.ok scRowsWithSum (fun vs H Q E h => ?_) (fun cdv A outer s₀ H vs Q E hr h => ?_)
  · obtain ⟨m, n, rfl, _⟩ := h
    rfl
  · obtain ⟨m, n, rfl, m60, n20, q⟩ := h
    refine ⟨_, pss_cons (ps_set (i := 2) scRowsWithSum.nd rfl (.inl rfl) (pe_lst (pa_cons (pe_tup (pa_cons (pe_tup pa_nil) (pa_cons (pv 1) pa_nil))) pa_nil)))
      (pss_cons (ps_set (i := 3) scRowsWithSum.nd rfl (.inl rfl) (pe_lst pa_nil))
      (pss_cons (ps_while PassesOwn.never (pt_truth (pv 2) (fun _ => rfl)) (pss_cons (ps_asg (pe_bm0 PySem.F.plainAttrs_list PySem.F.slot_list_pop PySem.F.type_list_pop mt_pop (pv 2)) (pg_tup (by rfl) (pgs_cons (pg_name (i := 4) scRowsWithSum.nd rfl (.inr rfl)) (pgs_cons (pg_name (i := 5) scRowsWithSum.nd rfl (.inr rfl)) pgs_nil))))
      (pss_one (ps_if (pt_cmpR op_eq (pv 5) pe_int (nomark _)) (pss_one (ps_expr (pe_bm PySem.F.plainAttrs_list PySem.F.slot_list_append PySem.F.type_list_append mt_append (pv 3) (pa_cons (pv 4) pa_nil)))) (pss_cons (ps_set (i := 6) scRowsWithSum.nd rfl (.inl rfl) (pe_callB (call_min2 rfl) (by rfl) T.z_min (by decide +kernel) (pa_cons (pv 5) (pa_cons (pe_ifExp (pt_truth (pv 4) (fun _ => rfl)) (pe_ix ix_tup (pv 4) (pe_un un_neg pe_int) (fun _ _ => rfl)) (pv 0)) pa_nil))))
      (pss_one (ps_expr (pe_bm PySem.F.plainAttrs_list PySem.F.slot_list_extend PySem.F.type_list_extend mt_extend (pv 2) (pa_cons (pe_lc (own := [("part", 7)]) (g := gName 7) (tt := tYes) rfl scRowsWithSum.nd (pi_range2 (by rfl) T.z_range (pa_cons pe_int (pa_cons (pe_op op_add (pv 6) pe_int) pa_nil)))
        (blkOk_by (N := nRowsWithSum) (sc := defScope sRowsWithSum) (by decide +kernel)) (fun _ _ _ _ _ => (pg_name (i := 7) scRowsWithSum.nd rfl (.inl rfl))) (fun _ _ _ _ _ => pts_nil)
        (fun _ _ _ _ _ => (pe_tup (pa_cons (pe_op op_catE (pv 4) (pe_tup (pa_cons (pv 7) pa_nil))) (pa_cons (pe_op op_sub (pv 5) (pv 7)) pa_nil))))) pa_nil)))))))))
      (pss_one (ps_ret (pv 3))))), ?_⟩
    refine ⟨by show 0 ≤ sizeLine; decide, fun t0 nt0 => ⟨_, rfl, by show 2 ≤ sizeLine; decide, fun t1 nt1 => ⟨by show 1 ≤ sizeLine; decide, fun l nl => ⟨by show 0 ≤ sizeLine; decide, fun g ng => ?_⟩⟩⟩⟩
    have e1 := Ex.new (o := .tup []) nt0
    have e2 := Ex.new (o := .tup [.ref t0, .int (n : Int)]) nt1
    have e3 := Ex.new (o := .lst [.ref t1]) nl
    have e4 := Ex.new (o := .lst []) ng
    have a0 := (e2.trans (e3.trans e4)) _ _ (upd_same (H := H) (a := t0) (o := .tup []))
    have a1 := (e3.trans e4) _ _ (upd_same (H := upd H t0 (.tup [])) (a := t1) (o := .tup [.ref t0, .int (n : Int)]))
    have hl := e4 _ _ (upd_same (H := upd (upd H t0 (.tup [])) t1 (.tup [.ref t0, .int (n : Int)])) (a := l) (o := .lst [.ref t1]))
    have hg : (upd (upd (upd (upd H t0 (.tup [])) t1 (.tup [.ref t0, .int (n : Int)])) l (.lst [.ref t1])) g (.lst [])) g = some (.lst []) := upd_same
    have lg : l ≠ g := ne_of_none upd_same ng
    have l0 : H l = none := fresh_back (e1.trans e2) nl
    have g0 : H g = none := fresh_back (e1.trans (e2.trans e3)) ng
    have e5 := e1.trans (e2.trans (e3.trans e4))
    clear nt0 nt1 nl ng
    generalize upd (upd (upd (upd H t0 (.tup [])) t1 (.tup [.ref t0, .int (n : Int)])) l (.lst [.ref t1])) g (.lst []) = H1 at *
    refine ⟨fun μ σ' H' => ∃ (S : List SRow) (L : List HRow) (y4 y5 y6 : Option V), μ = wt (sks S) ∧ σ' = [some (.int (m : Int)), some (.int (n : Int)), some (.ref l), some (.ref g), y4, y5, y6, none] ∧ H' l = some (.lst (refS S)) ∧ H' g = some (.lst (refH L)) ∧ SkAt H' S ∧ HsAt H' L ∧ Stk m n (sks S) (hps L) ∧ Ex H H',
      ⟨_, [(t1, t0, ([], n))], [], none, none, none, rfl, rfl, hl, hg, fun x hx => ?_, fun x hx => absurd hx (by simp), Stk.start m n, e5⟩, fun μ σ' H' hW => ?_⟩
    · rw [List.mem_singleton.mp hx]
      exact ⟨a1, a0⟩
    · obtain ⟨S, L, y4, y5, y6, rfl, rfl, w1, w2, w3, w4, w5, w6⟩ := hW
      refine ⟨_, rfl, _, .inl ⟨_, SqL.of w1, rfl⟩, ?_⟩
      by_cases hS : S = []
      · subst hS
        refine iteF' rfl ?_
        exact ⟨_, rfl, q g L H' w6 w2 w4 w5.end (Nat.le_trans (Nat.le_add_right _ _) w5.room)⟩
      · obtain ⟨S0, x, rfl⟩ := snoc_of hS
        refine iteT' (by simp [refS]) ?_
        have hx := w3 x (List.mem_append_right _ (List.mem_singleton.mpr rfl))
        obtain ⟨t, a, row, rest⟩ := x
        refine ⟨fun σ2 H3 => ∃ (S' : List SRow) (L' : List HRow) (y4 y5 y6 : Option V), wt (sks S') < wt (sks (S0 ++ [(t, a, row, rest)])) ∧ σ2 = [some (.int (m : Int)), some (.int (n : Int)), some (.ref l), some (.ref g), y4, y5, y6, none] ∧ H3 l = some (.lst (refS S')) ∧ H3 g = some (.lst (refH L')) ∧ SkAt H3 S' ∧ HsAt H3 L' ∧ Stk m n (sks S') (hps L') ∧ Ex H H3, fun σ2 H3 hN => ?_, ?_⟩
        · obtain ⟨S', L', z4, z5, z6, h1, h2⟩ := hN
          exact ⟨_, h1, S', L', z4, z5, z6, rfl, h2⟩
        · obtain ⟨ht, ha⟩ := hx
          refine ⟨_, rfl, .inl ⟨rfl, _, SqL.of w1⟩, l, _, .ref t, rfl, rfl, w1, ?_, ?_⟩
          · unfold refS
            rw [List.length_map, List.length_append, List.getElem?_map, List.getElem?_append_right (by simp)]
            simp
          · have k2 : SkAt (upd H' l (.lst (refS (S0 ++ [(t, a, row, rest)])).dropLast)) (S0 ++ [(t, a, row, rest)]) := w3.mut w1
            have k4 : HsAt (upd H' l (.lst (refS (S0 ++ [(t, a, row, rest)])).dropLast)) L := w4.mut w1
            have kl : (upd H' l (.lst (refS (S0 ++ [(t, a, row, rest)])).dropLast)) l = some (.lst (refS S0)) := by
              rw [upd_same]
              congr 2
              unfold refS
              rw [List.map_append]
              exact List.dropLast_concat
            have kg := (upd_ne lg.symm (H := H') (o := .lst (refS (S0 ++ [(t, a, row, rest)])).dropLast)).trans w2
            have k6 : Ex H (upd H' l (.lst (refS (S0 ++ [(t, a, row, rest)])).dropLast)) := Ex.mut w6 l0
            generalize upd H' l (.lst (refS (S0 ++ [(t, a, row, rest)])).dropLast) = H2 at *
            obtain ⟨ht2, ha2⟩ := k2 (t, a, row, rest) (List.mem_append_right _ (List.mem_singleton.mpr rfl))
            have sk2 : SkAt H2 S0 := fun x hx => k2 x (List.mem_append_left _ hx)
            have w5' : Stk m n (sks S0 ++ [(row, rest)]) (hps L) := by
              have := w5
              unfold sks at this
              rw [List.map_append] at this
              exact this
            have wtS : wt (sks (S0 ++ [(t, a, row, rest)])) = wt (sks S0) + 2 ^ rest := by
              unfold sks
              rw [List.map_append, wt_app]
              exact congrArg _ (wt_one _)
            have room := w5'.room
            have rn : rest ≤ n := Nat.le_trans (Nat.le_add_left _ _) (w5'.le (row, rest) (List.mem_append_right _ (List.mem_singleton.mpr rfl)))
            have big : 2 ^ n ≤ 2 ^ 20 := Nat.pow_le_pow_right (by decide) n20
            have big2 : 2 ^ 20 = 1048576 := by decide
            refine ⟨t, _, rfl, SqT.of ht2, rfl, _, _, rfl, _, _, rfl, rfl, ?_⟩
            refine ⟨_, rfl, rfl, _, rfl, ite2 (fun cc => ?_) (fun cc => ?_)⟩
            · have r0 : rest = 0 := by
                have := V.int.inj (of_decide_eq_true cc)
                exact Int.ofNat.inj this
              subst r0
              refine ⟨_, rfl, .inl ⟨rfl, _, SqL.of kg⟩, _, rfl, g, _, _, rfl, rfl, kg, ?_, S0, L ++ [(a, row)], _, _, _, ?_, rfl, ?_, ?_, ?_, ?_, ?_, ?_⟩
              · unfold refH
                rw [List.length_map]
                unfold hps at room
                rw [List.length_map] at room
                exact big6 (by omega)
              · rw [wtS]
                omega
              · rw [upd_ne lg]
                exact kl
              · rw [upd_same]
                unfold refH
                rw [List.map_append]
                rfl
              · exact sk2.mut kg
              · refine HsAt.mut kg fun x hx => ?_
                rcases List.mem_append.mp hx with h | h
                · exact k4 x h
                · rw [List.mem_singleton.mp h]
                  exact ha2
              · have := w5'.done
                unfold hps at this ⊢
                rw [List.map_append]
                exact this
              · exact Ex.mut k6 g0
            · have r0 : rest ≠ 0 := fun z => cc (decide_eq_true (congrArg V.int (congrArg Nat.cast z)))
              clear w1 w2 w3 w4 w6 ht ha k2
              refine ⟨_, rfl, _, rfl, _, .inr (.inl ⟨_, SqT.of ha2, rfl⟩), ite_same (fun c r => ⟨_, rfl, _, rfl, a, _, -1, _, rfl, rfl, SqT.of ha2, topI (m := m) (fun z => ?_), r⟩) (fun c r => ?_) ?_⟩
              · change row = [] at z
                subst z
                cases c
              · have e : row = [] := by
                  cases row with
                  | nil => rfl
                  | cons y z => exact absurd rfl c
                have e2 : topOf m row = m := by rw [e]; rfl
                rw [show topOf m ((t, a, row, rest) : SRow).2.2.1 = m from e2] at r
                exact ⟨_, rfl, r⟩
              · refine ⟨_, _, rfl, ?_⟩
                obtain ⟨top, ht⟩ : ∃ top, top = min rest (topOf m row) := ⟨_, rfl⟩
                show gName 6 (V.int (if ((topOf m row : Nat) : Int) < ((rest : Nat) : Int) then ((topOf m row : Nat) : Int) else ((rest : Nat) : Int))) _ _ _
                rw [show (if ((topOf m row : Nat) : Int) < ((rest : Nat) : Int) then ((topOf m row : Nat) : Int) else ((rest : Nat) : Int)) = ((top : Nat) : Int) by rw [ht]; split <;> omega]
                refine ⟨_, rfl, .inl ⟨rfl, _, SqL.of kl⟩, _, rfl, _, _, rfl, rfl, _, _, rfl, ⟨by omega, by omega, by omega, by omega⟩, fun Dl hD => ?_⟩
                have rl : row.length ≤ 60 := by
                  have := w5'.le (row, rest) (List.mem_append_right _ (List.mem_singleton.mpr rfl))
                  show row.length ≤ 60
                  have h2 : row.length + rest ≤ n := this
                  omega
                refine lc_range (lo := 1) (n := ((top : Int) + 1 - 1).toNat) (fun i H' => ∃ ks : List SRow, H' Dl = some (.lst (refS ks)) ∧ SkAt H' ks ∧ sks ks = (List.range i).map (fun i => (row ++ [i + 1], rest - (i + 1))) ∧ Ex H2 H') ⟨[], upd_same, fun x hx => absurd hx (by simp), rfl, Ex.new hD⟩ (fun i H' hi hW => ?_) (fun H' hW => ?_)
                · obtain ⟨ks, v1, v2, v3, v4⟩ := hW
                  have hi' : i < top := by omega
                  refine ⟨rfl, ?_⟩
                  dsimp only [tYes]
                  rw [if_pos rfl]
                  have kl0 : ks.length = i := by
                    have := congrArg List.length v3
                    unfold sks at this
                    rw [List.length_map, List.length_map, List.length_range] at this
                    exact this
                  refine ⟨_, rfl, _, rfl, by show 1 ≤ sizeLine; decide, fun t2 nt2 => ?_⟩
                  have x2 := Ex.new (o := .tup [V.int (1 + (i : Int))]) nt2
                  refine ⟨a, t2, _, _, rfl, rfl, x2 _ _ (v4 _ _ ha2), upd_same, ?_, fun t4 H4 e4 ht4 => ?_⟩
                  · rw [hv_len]
                    show row.length + 1 ≤ _
                    exact Nat.le_of_lt (small1000 (by omega))
                  · refine ⟨_, rfl, _, rfl, _, _, rfl, rfl, by show 2 ≤ sizeLine; decide, fun t5 nt5 => ?_⟩
                    have x5 := Ex.new (o := .tup [V.ref t4, V.int ((rest : Int) - (1 + (i : Int)))]) nt5
                    have xx := (x2.trans e4).trans x5
                    refine ⟨_, xx _ _ v1, ?_, ks ++ [(t5, t4, (row ++ [i + 1], rest - (i + 1)))], ?_, ?_, ?_, Ex.mut (v4.trans xx) hD⟩
                    · unfold refS
                      rw [List.length_map]
                      exact small1000 (by omega)
                    · rw [upd_same]
                      unfold refS
                      rw [List.map_append]
                      rfl
                    · refine SkAt.mut (xx _ _ v1) fun x hx => ?_
                      rcases List.mem_append.mp hx with h | h
                      · exact (v2.ex xx) x h
                      · rw [List.mem_singleton.mp h]
                        refine ⟨?_, x5 _ _ ?_⟩
                        · rw [upd_same, show (((rest - (i + 1) : Nat)) : Int) = (rest : Int) - (1 + (i : Int)) by omega]
                        · rw [ht4]
                          show some (HO.tup (hv row ++ [V.int (1 + (i : Int))])) = some (.tup (hv (row ++ [i + 1])))
                          unfold hv
                          rw [List.map_append, show (1 : Int) + (i : Int) = ((i + 1 : Nat) : Int) by omega]
                          rfl
                    · unfold sks at v3 ⊢
                      rw [List.map_append, v3, List.range_succ, List.map_append]
                      rfl
                · obtain ⟨ks, v1, v2, v3, v4⟩ := hW
                  rw [show ((top : Int) + 1 - 1).toNat = top by omega, ht] at v3
                  have v3' : sks ks = kids m (row, rest) := v3
                  have st := w5'.more (x := (row, rest)) r0
                  rw [← v3'] at st
                  have kw := kids_wt (m := m) (x := (row, rest))
                  rw [← v3'] at kw
                  have hl3 := v4 _ _ kl
                  refine ⟨l, Dl, _, _, rfl, rfl, hl3, v1, ?_, S0 ++ ks, L, _, _, _, ?_, rfl, ?_, ?_, ?_, ?_, ?_, ?_⟩
                  · have := wt_len (sks S0 ++ sks ks)
                    have r2 := st.room
                    unfold sks at this r2
                    rw [List.length_append, List.length_map, List.length_map] at this
                    unfold refS
                    rw [List.length_map, List.length_map]
                    exact Nat.le_of_lt (big6 (by omega))
                  · rw [wtS]
                    unfold sks at kw ⊢
                    rw [List.map_append, wt_app]
                    exact Nat.add_lt_add_left kw _
                  · rw [upd_same]
                    unfold refS
                    rw [List.map_append]
                  · rw [upd_ne lg.symm]
                    exact v4 _ _ kg
                  · refine SkAt.mut hl3 fun x hx => ?_
                    rcases List.mem_append.mp hx with h | h
                    · exact (sk2.ex v4) x h
                    · exact v2 x h
                  · exact (k4.ex v4).mut hl3
                  · unfold sks at st ⊢
                    rw [List.map_append]
                    exact st
                  · exact Ex.mut (k6.trans v4) l0
end
end K1

set_option exponentiation.threshold 400
namespace K1
open PySem PySem.Spec PyProof.Rows L2 Evl HM LX ZW TE
def intsH (h : List Nat) : List Int := h.map fun (n : Nat) => (n : Int)
theorem intsH_inj {a b : List Nat} (e : intsH a = intsH b) : a = b := by
  have := congrArg (List.map Int.toNat) e
  unfold intsH at this
  rw [List.map_map, List.map_map] at this
  have id' : (Int.toNat ∘ fun (n : Nat) => (n : Int)) = id := by
    funext n
    simp
  rw [id', List.map_id, List.map_id] at this
  exact this
theorem intsH_back (h : List Nat) : (intsH h).map Int.toNat = h := by
  unfold intsH
  rw [List.map_map]
  have id' : (Int.toNat ∘ fun (n : Nat) => (n : Int)) = id := by
    funext n
    simp
  rw [id', List.map_id]
def SrtH (L : List HRow) : Prop := L.Pairwise fun x y => HT.lexLt (intsH y.2) (intsH x.2) = false
def toR (x : HRow) : SO.Row := (x.1, intsH x.2)
def ofR (x : SO.Row) : HRow := (x.1, x.2.map Int.toNat)
theorem of_to (x : HRow) : ofR (toR x) = x := by
  show (x.1, (intsH x.2).map Int.toNat) = x
  rw [intsH_back]
theorem back_rows {L : List HRow} {L' : List SO.Row} (p : L'.Perm (L.map toR)) : ∃ M : List HRow, M.Perm L ∧ L' = M.map toR := by
  refine ⟨L'.map ofR, ?_, ?_⟩
  · have := p.map ofR
    rw [List.map_map, show ofR ∘ toR = id from funext of_to, List.map_id] at this
    exact this
  · rw [List.map_map]
    conv => lhs; rw [← List.map_id L']
    refine List.map_congr_left fun x hx => ?_
    obtain ⟨y, _, rfl⟩ := List.mem_map.mp (p.mem_iff.mp hx)
    show toR y = toR (ofR (toR y))
    rw [of_to]
theorem refR_toR (L : List HRow) : SO.refR (L.map toR) = refH L := by
  unfold SO.refR refH
  rw [List.map_map]
  rfl
theorem hv_ints (h : List Nat) : hv h = (intsH h).map V.int := CI.hvI2 h
/-- sorted of a list of heaps -/
theorem sortH {K : PySem.W.Frag} {H : Hp} {a : Addr} {L : List HRow} {Q : VK} (hs : SqL K H a (refH L)) (hL : HsAt H L) (q : ∀ (M : List HRow) (p : Addr), M.Perm L → SrtH M → H p = none → Q (.ref p) (upd H p (.lst (refH M)))) : SO.rSortedTO K [.ref a] H Q := by
  refine ⟨a, L.map toR, rfl, by rw [refR_toR]; exact hs, fun x hx => ?_, fun L' p pm st hp => ?_⟩
  · obtain ⟨y, hy, rfl⟩ := List.mem_map.mp hx
    have := hL y hy
    unfold HeapAt at this
    rw [hv_ints] at this
    exact this
  · obtain ⟨M, m1, rfl⟩ := back_rows pm
    rw [refR_toR]
    exact q M p m1 (List.pairwise_map.mp st) hp
/-- sorted of a dict whose keys are heaps -/
theorem sortD {H : Hp} {d : Addr} {ks : List (List Nat)} {Q : VK} (hd : H d = some (.dT (kvW ks))) (q : ∀ (M : List HRow) (p : Addr), HsAt H M → (hps M).Perm ks → SrtH M → H p = none → Q (.ref p) (upd H p (.lst (refH M)))) : SO.rSortedDO [.ref d] H Q := by
  refine ⟨d, kvW ks, rfl, Rd.of hd, fun p hp => ?_, fun L p hL pm st hp => ?_⟩
  · obtain ⟨h, _, rfl⟩ := List.mem_map.mp hp
    exact ⟨intsH h, by unfold keyW intsH; rw [List.map_map]; rfl⟩
  · have key : ∀ h : List Nat, keyW h = (intsH h).map (Sum.inl (β := Str)) := fun h => by unfold keyW intsH; rw [List.map_map]; rfl
    have p2 : (L.map fun x => x.2.map (Sum.inl (β := Str))).Perm (ks.map fun h => (intsH h).map (Sum.inl (β := Str))) := by
      unfold kvW at pm
      rw [List.map_map] at pm
      rw [show ((fun x : List Key × V => x.1) ∘ fun h => (keyW h, V.bl true)) = fun h => (intsH h).map (Sum.inl (β := Str)) from funext fun h => key h] at pm
      exact pm
    have p3 : (L.map fun x => x.2).Perm (ks.map intsH) := by
      have := p2.map (List.map fun z : Key => match z with | .inl i => i | .inr _ => 0)
      rw [List.map_map, List.map_map] at this
      have id' : ∀ l : List Int, (l.map (Sum.inl (β := Str))).map (fun z : Key => match z with | .inl i => i | .inr _ => 0) = l := fun l => by
        rw [List.map_map]
        exact List.map_id' l
      rw [show ((List.map fun z : Key => match z with | .inl i => i | .inr _ => 0) ∘ fun x : SO.Row => x.2.map (Sum.inl (β := Str))) = fun x => x.2 from funext fun x => id' x.2,
        show ((List.map fun z : Key => match z with | .inl i => i | .inr _ => 0) ∘ fun h => (intsH h).map (Sum.inl (β := Str))) = intsH from funext fun h => id' _] at this
      exact this
    have rows : ∀ x ∈ L, ∃ h, x.2 = intsH h := fun x hx => by
      obtain ⟨h, _, e⟩ := List.mem_map.mp (p3.mem_iff.mp (List.mem_map.mpr ⟨x, hx, rfl⟩))
      exact ⟨h, e.symm⟩
    have e : L = (L.map ofR).map toR := by
      rw [List.map_map]
      conv => lhs; rw [← List.map_id L]
      refine List.map_congr_left fun x hx => ?_
      obtain ⟨h, e⟩ := rows x hx
      obtain ⟨b, r⟩ := x
      have e : r = intsH h := e
      subst e
      show (b, intsH h) = toR (ofR (toR (b, h)))
      rw [of_to]
      rfl
    generalize L.map ofR = M at e
    subst e
    rw [refR_toR]
    refine q M p (fun x hx => ?_) ?_ (List.pairwise_map.mp st) hp
    · have := hL (toR x) (List.mem_map.mpr ⟨x, hx, rfl⟩)
      unfold HeapAt
      rw [hv_ints]
      exact this
    · have := p3.map (List.map Int.toNat)
      rw [List.map_map, List.map_map, List.map_map] at this
      rw [show (List.map Int.toNat) ∘ intsH = id from funext intsH_back, List.map_id] at this
      rw [show ((List.map Int.toNat ∘ (fun x : SO.Row => x.2)) ∘ toR) = fun x : HRow => x.2 from funext fun x => intsH_back x.2] at this
      exact this
/-- sorted lists of the same heaps -/
theorem srt_same {L M : List HRow} (h1 : SrtH L) (h2 : SrtH M) (p : (hps L).Perm (hps M)) : hps L = hps M := by
  have e := SO.srt_uniq (l := (hps L).map intsH) (m := (hps M).map intsH) (by unfold hps; rw [List.map_map]; exact List.pairwise_map.mpr h1) (by unfold hps; rw [List.map_map]; exact List.pairwise_map.mpr h2) (p.map _)
  have := congrArg (List.map (List.map Int.toNat)) e
  rw [List.map_map, List.map_map, show (List.map Int.toNat) ∘ intsH = id from funext intsH_back, List.map_id, List.map_id] at this
  exact this
theorem shaped_ds2 {ds : List PyData} (h1 : PyData.canLayAll0 ds = true) (h2 : PyData.depthAll ds ≤ 62) : SeqAt.shaped (.list ds) = true := by
  unfold SeqAt.shaped
  have a : (PyData.list ds).canLay0 = true := by simp [PyData.canLay0, h1]
  have b : (PyData.list ds).depth ≤ 64 := by
    simp only [PyData.depth]
    omega
  rw [a, decide_eq_true b]
  rfl
theorem dp_stack {K : PySem.W.Frag} {H : Hp} : ∀ {S : List SRow}, SkAt H S → ∃ ds, DpAll K H (refS S) ds ∧ PyData.canLayAll0 ds = true ∧ PyData.depthAll ds ≤ 62 ∧ ds.length = S.length
  | [], _ => ⟨[], .nil, rfl, by decide, rfl⟩
  | x :: r, h => by
    obtain ⟨ds, d1, d2, d3, d4⟩ := dp_stack (S := r) fun u hu => h u (List.mem_cons_of_mem _ hu)
    obtain ⟨h1, h2⟩ := h x (List.mem_cons_self ..)
    unfold HeapAt at h2
    rw [CI.hvI2] at h2
    generalize (x.2.2.1.map fun (n : Nat) => (n : Int)) = l at h2
    refine ⟨_ :: ds, .cons (.tup (SqT.of h1) (.cons (.tup (SqT.of h2) (dp_ints _)) (.cons (.int _) .nil))) d1, ?_, ?_, by rw [List.length_cons, List.length_cons, d4]⟩
    · simp [PyData.canLayAll0, PyData.canLay0, can_ints, d2]
    · have := depth_ints l
      simp only [PyData.depthAll, PyData.depth]
      omega
section
variable {P : Program} {w : World} {K : PySem.W.Frag} {mg : Str → Option Value} {base : Heap}
def spLRows : Sp := fun vs H Q _ => ∃ k n : Nat, vs = [.int (k : Int), .int (n : Int)] ∧ 2 ≤ k ∧ k ≤ 60 ∧ n ≤ 20 ∧ ∀ (a : Addr) (L : List HRow) H', Ex H H' → H' a = some (.lst (refH L)) → HsAt H' L → (hps L).Perm (cps (n + 1) (k - 1) n) → SrtH L → (hps L).length ≤ 2 ^ n → Q (.ref a) H'
end
end K1

set_option exponentiation.threshold 400
namespace K1
open PySem PySem.Spec PyProof.Rows L2 Evl HM LX ZW TE
theorem hps_take (L : List HRow) (i : Nat) (x : HRow) (h : L[i]? = some x) : (hps L).take (i + 1) = (hps L).take i ++ [x.2] := by
  unfold hps
  rw [List.take_succ, List.getElem?_map, h]
  rfl
theorem refH_get {L : List HRow} {i : Nat} {v : V} (h : (refH L)[i]? = some v) : ∃ x, L[i]? = some x ∧ v = V.ref x.1 := by
  unfold refH at h
  rw [List.getElem?_map] at h
  cases e : L[i]? with
  | none => rw [e] at h; cases h
  | some x => rw [e] at h; exact ⟨x, rfl, (Option.some.inj h).symm⟩
theorem refH_len (L : List HRow) : (refH L).length = L.length := List.length_map ..
theorem hps_len (L : List HRow) : (hps L).length = L.length := List.length_map ..
theorem pow20 {n : Nat} (h : n ≤ 20) : 2 ^ n ≤ 1048576 := Nat.le_trans (Nat.pow_le_pow_right (by decide) h) (by decide)
theorem putW2 (ks : List (List Nat)) (A : List Nat) : ∃ ks', putK (kvW ks) (keyW A) (V.bl true) = kvW ks' ∧ (∀ B, B ∈ ks' ↔ (B ∈ ks ∨ B = A)) ∧ ks'.length ≤ ks.length + 1 ∧ (ks.Nodup → ks'.Nodup) := by
  have hs := valW A ks
  by_cases c : A ∈ ks
  · refine ⟨ks, ?_, fun y => ⟨fun h => .inl h, fun h => h.elim id (fun e => by rw [e]; exact c)⟩, by omega, fun h => h⟩
    rw [decide_eq_true c] at hs
    unfold putK
    rw [valV_any, if_pos hs]
    unfold kvW
    rw [List.map_map]
    refine List.map_congr_left fun n _ => ?_
    show (if (keyW n, V.bl true).1 = keyW A then ((keyW n, V.bl true).1, V.bl true) else (keyW n, V.bl true)) = _
    split <;> rfl
  · refine ⟨ks ++ [A], ?_, fun y => by rw [List.mem_append, List.mem_singleton], by rw [List.length_append]; exact Nat.le_refl _, fun h => ?_⟩
    · rw [decide_eq_false c] at hs
      rw [putK_new]
      · unfold kvW
        rw [List.map_append]
        rfl
      · cases hv0 : valV (kvW ks) (keyW A) with
        | none => rfl
        | some v =>
          rw [hv0] at hs
          cases hs
    · rw [List.nodup_append]
      exact ⟨h, (List.pairwise_singleton _ _), fun a ha b hb e => c (by rw [List.mem_singleton.mp hb] at e; exact e ▸ ha)⟩
theorem gl_step {k : Nat} (k2 : 2 ≤ k) (h : List Nat) {q : Nat} (hq : q < k) : grow h (gl h (k : Int) 1 (q : Int)) = step (k : Int) h (q : Int) := by
  unfold step
  congr 1
  funext c
  unfold gl gq
  congr 1
  rw [Int.mul_one]
  exact decide_eq_decide.mpr (mod_iff (by omega) (by omega) (by omega)).symm
section
variable {P : Program} {w : World} {K : PySem.W.Frag} {mg : Str → Option Value} {base : Heap}
def spCoresWith : Sp := fun vs H Q _ => ∃ k n : Nat, vs = [.int (k : Int), .int (n : Int)] ∧ 2 ≤ k ∧ k ≤ 60 ∧ n ≤ 20 ∧ ∀ (a : Addr) (M : List HRow) H', Ex H H' → H' a = some (.lst (refH M)) → HsAt H' M → (hps M).Perm ((cps (n + 1) (k - 1) n).map (cw k)) → SrtH M → M.length ≤ 2 ^ n → H a = none → Q (.ref a) H'
theorem ok_cores_with_letters (T : Txt K mg) {f : Addr} {fd : FuncData} (D : DefAt K mg "cores_with_letters" sCoresWithLetters ["k", "letters"] f fd) : FnOk P w K mg base CX0 4 f fd ["k", "letters"] spCoresWith := by
  refine D.F.ok scCoresWithLetters (fun vs H Q E h => ?_) (fun cdv A outer s₀ H vs Q E hr h => ?_)
  · obtain ⟨k, n, rfl, _⟩ := h
    rfl
  · obtain ⟨k, n, rfl, k2, k60, n20, q⟩ := h
    obtain ⟨f1, fd1, D1⟩ := T.d_rows_with_sum
    obtain ⟨f2, fd2, D2⟩ := T.d_core_with
    have hr1 : Room 1 _ := hr.mono (by decide)
    have hr3 : Room 3 _ := hr.mono (by decide)
    have hu2 := Nat.lt_of_le_of_lt (Nat.add_le_add_left (show 2 ≤ 64 by decide) _) hr.units
    refine ⟨_, pss_one (ps_ret (pe_callB (SO.cr_sortedTO hu2) (by rfl) T.z_sorted (by decide +kernel) (pa_cons (pe_lc (own := [("parts", 2)]) (g := gName 2) (tt := tYes) rfl scCoresWithLetters.nd (pi_list (pe_call (ok_rows_with_sum T D1) hr1 (by rfl) D1.g D1.F.kp D1.b .nil pass0 (pa_cons (pe_op op_sub (pv 0) pe_int) (pa_cons (pv 1) pa_nil))))
        (blkOk_by (N := nCoresWithLetters) (sc := defScope sCoresWithLetters) (by decide +kernel)) (fun _ _ _ _ _ => (pg_name (i := 2) scCoresWithLetters.nd rfl (.inl rfl))) (fun _ _ _ _ _ => pts_nil)
        (fun _ _ _ _ _ => (pe_call (ok_core_with T D2) hr3 (by rfl) D2.g D2.F.kp D2.b .nil pass0 (pa_cons (pv 0) (pa_cons (pv 2) pa_nil))))) pa_nil))), ?_⟩
    refine ⟨_, rfl, _, _, rfl, rfl, _, rfl, k - 1, n, ?_, by omega, n20, fun a L H1 e1 h1 hL pL lL => ?_⟩
    · show [V.int ((k : Int) - 1), V.int (n : Int)] = _
      rw [show (k : Int) - 1 = ((k - 1 : Nat) : Int) by omega]
    have p20 := pow20 n20
    rw [hps_len] at lL
    refine ⟨a, rfl, ⟨_, SqL.of h1⟩, fun Dl hD => ?_⟩
    refine lc_list (K := K) (a := a) (xs := refH L) (fun i H' => ∃ Ms : List HRow, H' Dl = some (.lst (refH Ms)) ∧ HsAt H' Ms ∧ hps Ms = ((hps L).take i).map (cw k) ∧ Ms.length ≤ i ∧ Ex H1 H') ⟨[], upd_same, fun x hx => absurd hx (by simp), rfl, Nat.le_refl _, Ex.new hD⟩ (fun i H' _ hp => ?_) (fun i x H' hx hp => ?_) (fun H' hp => ?_)
    · obtain ⟨Ms, v1, v2, v3, v4, v5⟩ := hp
      exact SqL.of (v5 _ _ h1)
    · obtain ⟨Ms, v1, v2, v3, v4, v5⟩ := hp
      obtain ⟨y, hy, rfl⟩ := refH_get hx
      have ym := List.mem_of_getElem? hy
      have hym : y.2 ∈ hps L := List.mem_map.mpr ⟨y, ym, rfl⟩
      obtain ⟨g, s⟩ := (mem_cps (n + 1) (by omega)).mp (pL.mem_iff.mp hym)
      rw [show k - 1 + 1 = k by omega] at g
      have li := (List.getElem?_eq_some_iff.mp hy).1
      refine ⟨rfl, ?_⟩
      dsimp only [tYes]
      rw [if_pos rfl]
      refine ⟨_, rfl, _, rfl, k, y.1, y.2, rfl, v5 _ _ (hL y ym), g, k2, k60, by omega, fun b H2 e2 hb => ⟨_, e2 _ _ v1, ?_, Ms ++ [(b, cw k y.2)], ?_, ?_, ?_, ?_, Ex.mut (v5.trans e2) hD⟩⟩
      · rw [refH_len]
        exact big6 (by omega)
      · rw [upd_same]
        unfold refH
        rw [List.map_append]
        rfl
      · refine HsAt.mut (e2 _ _ v1) fun x hx => ?_
        rcases List.mem_append.mp hx with h | h
        · exact (v2.ex e2) x h
        · rw [List.mem_singleton.mp h]
          exact hb
      · rw [hps_take L i y hy, List.map_append, ← v3]
        unfold hps
        rw [List.map_append]
        rfl
      · rw [List.length_append]
        show Ms.length + 1 ≤ i + 1
        omega
    · obtain ⟨Ms, v1, v2, v3, v4, v5⟩ := hp
      rw [refH_len] at v3 v4
      rw [List.take_of_length_le (by rw [hps_len]; exact Nat.le_refl _)] at v3
      refine sortH (SqL.of v1) v2 fun M p pm st hp => q p M _ ((e1.trans v5).trans (Ex.new hp)) upd_same (fun x hx => (v2.ex (Ex.new hp)) x (pm.mem_iff.mp hx)) ?_ st ?_ (fresh_back (e1.trans v5) hp)
      · refine (pm.map _).trans ?_
        show (hps Ms).Perm _
        rw [v3]
        exact pL.map _
      · rw [pm.length_eq]
        omega
def spCores (K : PySem.W.Frag) : Sp := fun vs H Q _ => ∃ k n : Nat, vs = [.int (k : Int), .int (n : Int)] ∧ 2 ≤ k ∧ k ≤ 60 ∧ n ≤ 20 ∧ ∀ (a : Addr) (M : List HRow) H', Ex H H' → H' a = some (.tup (refH M)) → HsAt H' M → (hps M).Perm ((cps (n + 1) (k - 1) n).map (cw k)) → SrtH M → M.length ≤ 2 ^ n → Q (.ref a) H'
def spAllCores : Sp := fun vs H Q _ => ∃ k n : Nat, vs = [.int (k : Int), .int (n : Int)] ∧ 2 ≤ k ∧ k ≤ 6 ∧ n ≤ 6 ∧ ∀ (a b : Addr) (xs : List V) (M : List HRow) H', Ex H H' → H' a = some (.lst (xs ++ [V.ref b])) → H' b = some (.lst (refH M)) → HsAt H' M → LvS k n (hps M) → SrtH M → M.length ≤ 6 ^ n → Q (.ref a) H'
end
end K1

set_option exponentiation.threshold 400
namespace K1
open PySem PySem.Spec PyProof.Rows L2 Evl HM LX ZW TE
def hdD (h : List Nat) : PyData := .tuple ((intsH h).map PyData.int)
theorem eqv_hd (a b : List Nat) : PyData.eqv (hdD a) (hdD b) = decide (a = b) := by
  unfold hdD
  rw [CI.eqvT]
  exact decide_eq_decide.mpr ⟨intsH_inj, fun e => by rw [e]⟩
theorem dp_hps {K : PySem.W.Frag} {H : Hp} : ∀ {L : List HRow}, HsAt H L → DpAll K H (refH L) ((hps L).map hdD)
  | [], _ => .nil
  | x :: r, h => by
    have hx := h x (List.mem_cons_self ..)
    unfold HeapAt at hx
    rw [hv_ints] at hx
    exact .cons (.tup (SqT.of hx) (dp_ints _)) (dp_hps fun u hu => h u (List.mem_cons_of_mem _ hu))
theorem hdD_all : ∀ l : List (List Nat), PyData.canLayAll0 (l.map hdD) = true ∧ PyData.depthAll (l.map hdD) ≤ 61
  | [] => ⟨rfl, by decide⟩
  | h :: l => by
    obtain ⟨a, b⟩ := hdD_all l
    have := depth_ints (intsH h)
    refine ⟨?_, ?_⟩
    · simp [PyData.canLayAll0, hdD, PyData.canLay0, can_ints, a]
    · simp only [List.map_cons, PyData.depthAll, hdD, PyData.depth]
      omega
theorem hdD_shapedT (l : List (List Nat)) : SeqAt.shaped (.tuple (l.map hdD)) = true := by
  obtain ⟨a, b⟩ := hdD_all l
  unfold SeqAt.shaped
  have h1 : (PyData.tuple (l.map hdD)).canLay0 = true := by simp [PyData.canLay0, a]
  have h2 : (PyData.tuple (l.map hdD)).depth ≤ 64 := by
    simp only [PyData.depth]
    omega
  rw [h1, decide_eq_true h2]
  rfl
theorem hdD_canT (l : List (List Nat)) : (PyData.tuple (l.map hdD)).canLay0 = true := by simp [PyData.canLay0, (hdD_all l).1]
theorem hdD_canL (l : List (List Nat)) : (PyData.list (l.map hdD)).canLay0 = true := by simp [PyData.canLay0, (hdD_all l).1]
theorem hdD_shapedL (l : List (List Nat)) : SeqAt.shaped (.list (l.map hdD)) = true := shaped_ds (hdD_all l).1 (hdD_all l).2
theorem hdD_shaped (h : List Nat) : SeqAt.shaped (hdD h) = true := shaped_intsT _
theorem neTT {K : PySem.W.Frag} {H : Hp} {p q : Addr} {L M : List HRow} {Q : VK} (h1 : H p = some (.tup (refH L))) (h2 : H q = some (.tup (refH M))) (hL : HsAt H L) (hM : HsAt H M) (e : hps L = hps M) (k : Q (.bl false) H) : rNeD K (.ref p) (.ref q) H Q := by
  refine ⟨_, _, .tup (SqT.of h1) (dp_hps hL), .tup (SqT.of h2) (dp_hps hM), hdD_shapedT _, hdD_shapedT _, ?_⟩
  rw [e, SeqAt.eqv_refl _ (hdD_canT _)]
  exact k
theorem eqTT {K : PySem.W.Frag} {H : Hp} {p q : Addr} {L M : List HRow} {Q : VK} (h1 : H p = some (.tup (refH L))) (h2 : H q = some (.tup (refH M))) (hL : HsAt H L) (hM : HsAt H M) (e : hps L = hps M) (k : Q (.bl true) H) : rEqD K (.ref p) (.ref q) H Q := by
  refine ⟨_, _, .tup (SqT.of h1) (dp_hps hL), .tup (SqT.of h2) (dp_hps hM), hdD_shapedT _, hdD_shapedT _, ?_⟩
  rw [e, SeqAt.eqv_refl _ (hdD_canT _)]
  exact k
theorem neLL {K : PySem.W.Frag} {H : Hp} {p q : Addr} {L M : List HRow} {Q : VK} (h1 : H p = some (.lst (refH L))) (h2 : H q = some (.lst (refH M))) (hL : HsAt H L) (hM : HsAt H M) (e : hps L = hps M) (k : Q (.bl false) H) : rNeD K (.ref p) (.ref q) H Q := by
  refine ⟨_, _, .lst (SqL.of h1) (dp_hps hL), .lst (SqL.of h2) (dp_hps hM), hdD_shapedL _, hdD_shapedL _, ?_⟩
  rw [e, SeqAt.eqv_refl _ (hdD_canL _)]
  exact k
/-- the first place of a row in a list without doubles -/
theorem index_hps {K : PySem.W.Frag} {H : Hp} {a : Addr} {t : Addr} {L : List HRow} {r : List Nat} {j : Nat} {Q : VK} (h1 : H a = some (.lst (refH L))) (hL : HsAt H L) (ht : HeapAt H t r) (nd : (hps L).Nodup) (hj : (hps L)[j]? = some r) (k : Q (.int (j : Nat)) H) : rIndexD K (.ref a) [.ref t] H Q := by
  unfold HeapAt at ht
  rw [hv_ints] at ht
  refine ⟨a, .ref t, hdD r, (hps L).map hdD, j, hdD r, rfl, rfl, .lst (SqL.of h1) (dp_hps hL), .tup (SqT.of ht) (dp_ints _), hdD_shapedL _, hdD_shaped _, by rw [List.getElem?_map, hj]; rfl, by rw [eqv_hd, decide_eq_true rfl], fun m z hm hz => ?_, k⟩
  rw [List.getElem?_map] at hz
  cases e : (hps L)[m]? with
  | none => rw [e] at hz; cases hz
  | some y =>
    rw [e] at hz
    obtain rfl := Option.some.inj hz
    rw [eqv_hd]
    refine decide_eq_false fun z => ?_
    subst z
    have h3 := List.getElem?_eq_some_iff.mp e
    have h4 := List.getElem?_eq_some_iff.mp hj
    obtain ⟨x1, x2⟩ := h3
    obtain ⟨y1, y2⟩ := h4
    have := (List.pairwise_iff_getElem.mp nd) m j x1 y1 hm
    exact this (x2.trans y2.symm)
theorem dice_neH {H : Hp} {d b : Addr} {L : List HRow} (hd : Dice H d) (h : H b = some (.lst (refH L))) : b ≠ d := by
  rintro rfl
  obtain ⟨l, m, c, hd⟩ := hd
  rw [hd] at h
  have e := HO.lst.inj (Option.some.inj h)
  cases L with
  | nil => cases e
  | cons x L =>
    have := (List.cons.inj e).1
    cases this
theorem HsAt.kp {H H' : Hp} {d : Addr} {L : List HRow} (hd : Dice H d) (kk : Keep d H H') (h : HsAt H L) : HsAt H' L := fun x hx => kk.tup hd (h x hx)
theorem ltL_ints (h : List Nat) (k : Int) : ltL h k h.length = intsH (prts h k) := ltL_prts h k
theorem cps_gp {k n : Nat} (k2 : 2 ≤ k) {r : List Nat} (h : r ∈ cps (n + 1) (k - 1) n) : Gp k r ∧ r.sum = n := by
  have := (mem_cps (n + 1) (by omega)).mp h
  rw [show k - 1 + 1 = k by omega] at this
  exact this
/-- the parts of the cores of a level are the rows -/
theorem LvS.rows {k n : Nat} (k2 : 2 ≤ k) {l : List (List Nat)} (L : LvS k n l) : (l.map fun h => prts h k).Perm (cps (n + 1) (k - 1) n) := by
  refine ((L.perm k2).map fun h => prts h k).symm.trans ?_
  rw [List.map_map]
  refine List.Perm.of_eq ?_
  conv => rhs; rw [← List.map_id (cps (n + 1) (k - 1) n)]
  refine List.map_congr_left fun r hr => ?_
  exact (cw_core (cps_gp k2 hr).1).2.2.1
theorem LvS.good {k n : Nat} (k2 : 2 ≤ k) (n6 : n ≤ 20) {l : List (List Nat)} (L : LvS k n l) {h : List Nat} (hh : h ∈ l) : Good h ∧ coreB h (k : Int) ∧ lts h (k : Int) = (n : Int) ∧ h.length ≤ n ∧ hAt h 0 ≤ n := by
  obtain ⟨a, b, c⟩ := (L.mem h).mp hh
  have := core_small k2 a b
  exact ⟨⟨a, by omega, by omega⟩, b, c, by omega, by omega⟩
/-- a row drawn, falling -/
theorem gp_of {k : Nat} : ∀ {r : List Nat}, (∀ p ∈ r, 1 ≤ p ∧ p < k) → r.Pairwise (fun a b => b ≤ a) → Gp k r
  | [], _, _ => trivial
  | p :: r, h, pw => by
    rw [List.pairwise_cons] at pw
    exact ⟨(h p (List.mem_cons_self ..)).1, (h p (List.mem_cons_self ..)).2, pw.1, gp_of (fun q hq => h q (List.mem_cons_of_mem _ hq)) pw.2⟩
theorem row_of {k : Nat} {js : List Int} (h : ∀ j ∈ js, 1 ≤ j ∧ j < (k : Int)) (pw : js.Pairwise (· ≤ ·)) : ∃ r : List Nat, js.reverse.map V.int = hv r ∧ js.reverse = intsH r ∧ Gp k r ∧ r.length = js.length := by
  refine ⟨js.reverse.map Int.toNat, ?_, ?_, ?_, by rw [List.length_map, List.length_reverse]⟩
  · unfold hv
    rw [List.map_map]
    refine List.map_congr_left fun j hj => ?_
    have := h j (List.mem_reverse.mp hj)
    show V.int j = V.int ((j.toNat : Nat) : Int)
    rw [Int.toNat_of_nonneg (by omega)]
  · unfold intsH
    rw [List.map_map]
    conv => lhs; rw [← List.map_id js.reverse]
    refine List.map_congr_left fun j hj => ?_
    have := h j (List.mem_reverse.mp hj)
    show j = ((j.toNat : Nat) : Int)
    omega
  · refine gp_of (fun p hp => ?_) ?_
    · obtain ⟨j, hj, rfl⟩ := List.mem_map.mp hp
      have := h j (List.mem_reverse.mp hj)
      omega
    · refine List.pairwise_map.mpr (List.pairwise_reverse.mpr (pw.imp_of_mem fun {a b} ha hb z => ?_))
      have := h a ha
      have := h b hb
      show a.toNat ≤ b.toNat
      omega
theorem sum_intsH (l : List Nat) : (intsH l).sum = ((l.sum : Nat) : Int) := by
  induction l with
  | nil => rfl
  | cons a l ih =>
    show (a : Int) + (intsH l).sum = _
    rw [ih, List.sum_cons]
    omega
theorem sql_keep {K : PySem.W.Frag} {H H1 H2 : Hp} {p a : Addr} {xs : List V} (h0 : H p = none) (e : Ex H H1) (k : Keep p H1 H2) (h : SqL K H a xs) : SqL K H2 a xs := by
  rcases h with (h | ⟨o, h⟩) | h
  · exact .inl (.inl (k _ _ (ne_of_none h h0) (e _ _ h)))
  · exact .inl (.inr ⟨o, k _ _ (ne_of_none h h0) (e _ _ h)⟩)
  · exact .inr h
end K1

set_option exponentiation.threshold 400
namespace K1
open PySem PySem.Spec PyProof.Rows L2 Evl HM LX ZW TE
section
variable {P : Program} {w : World} {K : PySem.W.Frag} {mg : Str → Option Value} {base : Heap}
theorem inV_hv (c : Nat) (cs : List Nat) : inV (.int (c : Int)) (hv cs) = decide (c ∈ cs) := by
  unfold inV hv
  rw [Bool.eq_iff_iff, List.any_eq_true, decide_eq_true_eq]
  constructor
  · rintro ⟨y, hy, e⟩
    obtain ⟨n, hn, rfl⟩ := List.mem_map.mp hy
    have : (n : Int) = (c : Int) := eq_of_beq e
    rw [show c = n by omega]
    exact hn
  · intro h
    exact ⟨.int c, List.mem_map.mpr ⟨c, h, rfl⟩, beq_self_eq_true _⟩
theorem flat_hv (cs : List Nat) : (hv cs).all flatV = true := List.all_eq_true.mpr fun z hz => by
  unfold hv at hz
  obtain ⟨i, _, rfl⟩ := List.mem_map.mp hz
  rfl
def colI (h : List Nat) (k : Int) (i : Nat) (r : Int) : List Nat := (List.range i).filter (gq h k r)
theorem colI_next (h : List Nat) (k : Int) (i : Nat) (r : Int) : colI h k (i + 1) r = colI h k i r ++ (if gq h k r i = true then [i] else []) := by
  unfold colI
  rw [List.range_succ, List.filter_append]
  congr 1
  rw [List.filter_cons]
  rfl
theorem colI_len (h : List Nat) (k : Int) (i : Nat) (r : Int) : (colI h k i r).length ≤ i := by
  unfold colI
  have := List.length_filter_le (gq h k r) (List.range i)
  rw [List.length_range] at this
  exact this
def kvU (L : List (Int × Addr)) : List (Key × V) := L.map fun x => ((Sum.inl x.1 : Key), V.ref x.2)
theorem valU_out {r : Int} : ∀ {L : List (Int × Addr)}, r ∉ L.map (·.1) → valV (kvU L) (Sum.inl r : Key) = none
  | [], _ => rfl
  | x :: t, h => by
    have h1 : ¬ (Sum.inl x.1 : Key) = Sum.inl r := fun e => h (by rw [← Sum.inl.inj e]; exact List.mem_cons_self ..)
    show valV ((Sum.inl x.1, V.ref x.2) :: kvU t) _ = none
    rw [valV_neg h1]
    exact valU_out fun y => h (List.mem_cons_of_mem _ y)
theorem valU_in {r : Int} {b : Addr} : ∀ {L : List (Int × Addr)}, (L.map (·.1)).Nodup → (r, b) ∈ L → valV (kvU L) (Sum.inl r : Key) = some (.ref b)
  | [], _, h => absurd h (by simp)
  | x :: t, nd, h => by
    show valV ((Sum.inl x.1, V.ref x.2) :: kvU t) _ = _
    rw [List.map_cons, List.nodup_cons] at nd
    rcases List.mem_cons.mp h with e | e
    · subst e
      exact valV_pos rfl
    · have h1 : ¬ (Sum.inl x.1 : Key) = Sum.inl r := fun y => nd.1 (by rw [Sum.inl.inj y]; exact List.mem_map.mpr ⟨(r, b), e, rfl⟩)
      rw [valV_neg h1]
      exact valU_in nd.2 e
theorem snd_inj {x y : Int × Addr} : ∀ {L : List (Int × Addr)}, (L.map (·.2)).Nodup → x ∈ L → y ∈ L → x.2 = y.2 → x = y
  | [], _, h, _, _ => absurd h (by simp)
  | z :: t, nd, h1, h2, e => by
    rw [List.map_cons, List.nodup_cons] at nd
    rcases List.mem_cons.mp h1 with a | a <;> rcases List.mem_cons.mp h2 with b | b
    · rw [a, b]
    · exact absurd (List.mem_map.mpr ⟨y, b, by rw [← e, a]⟩) nd.1
    · exact absurd (List.mem_map.mpr ⟨x, a, by rw [e, b]⟩) nd.1
    · exact snd_inj nd.2 a b e
theorem fst_inj {x y : Int × Addr} : ∀ {L : List (Int × Addr)}, (L.map (·.1)).Nodup → x ∈ L → y ∈ L → x.1 = y.1 → x = y
  | [], _, h, _, _ => absurd h (by simp)
  | z :: t, nd, h1, h2, e => by
    rw [List.map_cons, List.nodup_cons] at nd
    rcases List.mem_cons.mp h1 with a | a <;> rcases List.mem_cons.mp h2 with b | b
    · rw [a, b]
    · exact absurd (List.mem_map.mpr ⟨y, b, by rw [← e, a]⟩) nd.1
    · exact absurd (List.mem_map.mpr ⟨x, a, by rw [e, b]⟩) nd.1
    · exact fst_inj nd.2 a b e
structure UpAt (H : Hp) (k : Int) (h : List Nat) (i : Nat) (L : List (Int × Addr)) : Prop where
  n1 : (L.map (·.1)).Nodup
  n2 : (L.map (·.2)).Nodup
  at_ : ∀ x ∈ L, H x.2 = some (.lst (hv (colI h k i x.1))) ∧ colI h k i x.1 ≠ []
  out : ∀ r, r ∉ L.map (·.1) → colI h k i r = []
  len : L.length ≤ i
theorem UpAt.ex {H H' : Hp} {k : Int} {h : List Nat} {i : Nat} {L : List (Int × Addr)} (e : Ex H H') (u : UpAt H k h i L) : UpAt H' k h i L := ⟨u.n1, u.n2, fun x hx => ⟨e _ _ (u.at_ x hx).1, (u.at_ x hx).2⟩, u.out, u.len⟩
theorem UpAt.skip {H : Hp} {k : Int} {h : List Nat} {i : Nat} {L : List (Int × Addr)} (u : UpAt H k h i L) (o : opn h i = false) : UpAt H k h (i + 1) L := by
  have e : ∀ r, colI h k (i + 1) r = colI h k i r := fun r => by
    rw [colI_next, if_neg (by unfold gq; rw [o]; simp), List.append_nil]
  exact ⟨u.n1, u.n2, fun x hx => by rw [e]; exact u.at_ x hx, fun r hr => by rw [e]; exact u.out r hr, Nat.le_succ_of_le u.len⟩
theorem gq_open {h : List Nat} {k : Int} {i : Nat} (o : opn h i = true) (r : Int) : (gq h k r i = true) ↔ dg h i % k = r := by
  unfold gq
  rw [o, Bool.true_and, decide_eq_true_eq]
theorem UpAt.old {H : Hp} {k : Int} {h : List Nat} {i : Nat} {L : List (Int × Addr)} (u : UpAt H k h i L) (o : opn h i = true) {b : Addr} (m : (dg h i % k, b) ∈ L) : UpAt (upd H b (.lst (hv (colI h k i (dg h i % k)) ++ [V.int (i : Int)]))) k h (i + 1) L := by
  refine ⟨u.n1, u.n2, fun x hx => ?_, fun r hr => ?_, Nat.le_succ_of_le u.len⟩
  · by_cases c : x.1 = dg h i % k
    · have := fst_inj u.n1 hx m c
      subst this
      refine ⟨?_, ?_⟩
      · rw [upd_same, colI_next, if_pos ((gq_open o _).mpr rfl), ← hv_snoc]
      · rw [colI_next, if_pos ((gq_open o _).mpr rfl)]
        simp
    · have nb : x.2 ≠ b := fun y => c (by have := snd_inj u.n2 hx m y; rw [this])
      rw [upd_ne nb, colI_next, if_neg (fun y => c ((gq_open o _).mp y).symm), List.append_nil]
      exact u.at_ x hx
  · have c : ¬ dg h i % k = r := fun y => hr (by rw [← y]; exact List.mem_map.mpr ⟨_, m, rfl⟩)
    rw [colI_next, if_neg (fun y => c ((gq_open o _).mp y)), List.append_nil]
    exact u.out r hr
theorem UpAt.new {H : Hp} {k : Int} {h : List Nat} {i : Nat} {L : List (Int × Addr)} (u : UpAt H k h i L) (o : opn h i = true) (m : dg h i % k ∉ L.map (·.1)) {b : Addr} (nb : ∀ x ∈ L, x.2 ≠ b) (hb : H b = some (.lst [V.int (i : Int)])) : UpAt H k h (i + 1) (L ++ [(dg h i % k, b)]) := by
  have c0 := u.out _ m
  refine ⟨?_, ?_, fun x hx => ?_, fun r hr => ?_, by rw [List.length_append]; exact Nat.succ_le_succ u.len⟩
  · rw [List.map_append]
    refine List.nodup_append.mpr ⟨u.n1, by simp, fun a ha c hc e => m ?_⟩
    rw [List.map_cons, List.map_nil, List.mem_singleton] at hc
    have hc2 : c = dg h i % k := hc
    rw [← hc2, ← e]
    exact ha
  · rw [List.map_append]
    refine List.nodup_append.mpr ⟨u.n2, by simp, fun a ha c hc e => ?_⟩
    rw [List.map_cons, List.map_nil, List.mem_singleton] at hc
    obtain ⟨y, hy, rfl⟩ := List.mem_map.mp ha
    exact nb y hy (e.trans hc)
  · rcases List.mem_append.mp hx with q | q
    · have c : ¬ dg h i % k = x.1 := fun y => m (by rw [y]; exact List.mem_map.mpr ⟨x, q, rfl⟩)
      rw [colI_next, if_neg (fun y => c ((gq_open o _).mp y)), List.append_nil]
      exact u.at_ x q
    · rw [List.mem_singleton.mp q]
      rw [colI_next, if_pos ((gq_open o _).mpr rfl), c0]
      exact ⟨hb, by simp⟩
  · have h1 : r ∉ L.map (·.1) := fun y => hr (by rw [List.map_append]; exact List.mem_append_left _ y)
    have c : ¬ dg h i % k = r := fun y => hr (by rw [List.map_append]; exact List.mem_append_right _ (by rw [← y]; simp))
    rw [colI_next, if_neg (fun y => c ((gq_open o _).mp y)), List.append_nil]
    exact u.out r h1
def spRestsUp : Sp := fun vs H Q _ => ∃ (k : Int) (p : Addr) (h : List Nat), vs = [.ref p, .int k] ∧ HeapAt H p h ∧ h.length ≤ 100 ∧ 2 ≤ k ∧ ∀ (a : Addr) L H', Ex H H' → H' a = some (.dK (kvU L)) → UpAt H' k h (h.length + 1) L → Q (.ref a) H'
theorem ok_rests_up (T : Txt K mg) {f : Addr} {fd : FuncData} (D : DefAt K mg "_law_rests_up" sLRestsUp ["_law_heap", "_law_k"] f fd) : FnOk P w K mg base CX0 1 f fd ["_law_heap", "_law_k"] spRestsUp := by
  refine D.F.ok scLRestsUp (fun vs H Q E h => ?_) (fun cdv A outer s₀ H vs Q E hr h => ?_)
  · obtain ⟨k, p, h, rfl, _⟩ := h
    rfl
  · obtain ⟨k, p, h, rfl, hp, hl, k2, kQ⟩ := h
    refine ⟨_, pss_cons (ps_set (i := 2) scLRestsUp.nd rfl (.inl rfl) pe_dnewK)
      (pss_cons (ps_for PassesOwn.never rfl (pi_range1 (by rfl) T.z_range (pa_cons (pe_op op_add (pe_callB call_len_seq (by rfl) T.z_len PySem.boot_len (pa_cons (pv 0) pa_nil)) pe_int) pa_nil)) (pg_name (i := 3) scLRestsUp.nd rfl (.inl rfl))
        (pss_cut (ps_set (i := 4) scLRestsUp.nd rfl (.inl rfl) (pe_ifExp (pt_cmpR op_lt (pv 3) (pe_callB call_len_seq (by rfl) T.z_len PySem.boot_len (pa_cons (pv 0) pa_nil)) (nomark _)) (pe_ix ix_tup (pv 0) (pv 3) (fun _ _ => rfl)) pe_int))
      (pss_one (ps_if (PW.pt (pw_or (pt_cmpR op_eq (pv 3) pe_int (nomark _))
          (pw_or1 (pt_cmpR op_gt (pe_ix ix_tup (pv 0) (pe_op op_sub (pv 3) pe_int) (fun _ _ => rfl)) (pv 4) (nomark _))))) (pss_one (ps_expr (pe_bm PySem.F.plainAttrs_list PySem.F.slot_list_append PySem.F.type_list_append mt_append (pe_dsetd (pv 2) (pe_op op_mod (pe_op op_sub (pv 3) (pv 4)) (pv 1)) (pe_lst pa_nil) ⟨rfl, rfl, rfl, rfl⟩) (pa_cons (pv 3) pa_nil)))) pss_nil))))
      (pss_one (ps_ret (pv 2)))), ?_⟩
    refine fun a ha => ?_
    have x0 := Ex.new (o := .dK []) ha
    refine ⟨_, rfl, p, _, rfl, .inr (SqT.of (x0 _ _ hp)), _, _, rfl, rfl, _, rfl, by rw [hv_len]; omega, by rw [hv_len]; omega, ?_⟩
    refine for_range (lo := 0) (n := (((hv h).length : Int) + 1).toNat) (fun i σ' H' => ∃ (L : List (Int × Addr)) (y3 y4 : Option V), σ' = [some (.ref p), some (.int k), some (.ref a), y3, y4] ∧ H' a = some (.dK (kvU L)) ∧ UpAt H' k h i L ∧ Ex H H' ∧ ∀ x ∈ L, H x.2 = none)
      ⟨[], none, none, rfl, upd_same, ⟨List.nodup_nil, List.nodup_nil, fun x hx => absurd hx (by simp), fun _ _ => rfl, Nat.le_refl _⟩, x0, fun x hx => absurd hx (by simp)⟩ (fun i σ' H' hi hW => ?_) (fun σ' H' hW => ?_)
    · obtain ⟨L, y3, y4, rfl, w1, w2, w3, w4⟩ := hW
      rw [hv_len] at hi
      have hi' : i ≤ h.length := by omega
      have hp2 := w3 _ _ hp
      have e0 : (0 : Int) + (i : Int) = (i : Int) := Int.zero_add _
      refine ⟨fun σ2 H2 => σ2 = [some (.ref p), some (.int k), some (.ref a), some (.int (0 + (i : Int))), some (.int (hAt h i : Int))] ∧ H2 = H', ?_, ?_⟩
      · refine ⟨_, rfl, _, rfl, p, _, rfl, .inr (SqT.of hp2), _, _, rfl, rfl, _, rfl, ite2 (fun cc => ?_) (fun cc => ?_)⟩
        · have c2 : i < h.length := by
            have := of_decide_eq_true cc
            rw [hv_len] at this
            omega
          exact ⟨_, rfl, _, rfl, p, _, _, _, rfl, rfl, SqT.of hp2, at_of e0 (hv_get c2), rfl, rfl⟩
        · have c2 : h.length ≤ i := by
            have : ¬ ((0 : Int) + (i : Int) < ((hv h).length : Int)) := fun z => cc (decide_eq_true z)
            rw [hv_len] at this
            omega
          refine ⟨?_, rfl⟩
          rw [hAt_ge c2]
          rfl
      · rintro σ2 H2 ⟨rfl, rfl⟩
        rw [e0]
        have add : opn h i = true → ∀ D0 : Ends, (D0.nx = fun σ' H' => ∃ (L : List (Int × Addr)) (y3 y4 : Option V), σ' = [some (.ref p), some (.int k), some (.ref a), y3, y4] ∧ H' a = some (.dK (kvU L)) ∧ UpAt H' k h (i + 1) L ∧ Ex H H' ∧ ∀ x ∈ L, H x.2 = none) →
            tDrop (tBM K "list" rAppend (tDSetd (tVar 2) (tOp (rI (fun x j => 0 < j) fun i j => V.int (i % j)) (tOp (rI0 fun i j => V.int (i - j)) (tVar 3) (tVar 4)) (tVar 1)) (tLst tNil)) (tCons (tVar 3) tNil)) D0 [some (.ref p), some (.int k), some (.ref a), some (.int (i : Int)), some (.int (hAt h i : Int))] H2 := by
          intro o D0 hD
          refine ⟨_, rfl, a, rfl, .inl ⟨_, .inl w1⟩, _, rfl, _, rfl, _, _, rfl, rfl, _, rfl, _, _, rfl, rfl, by omega, by show 0 ≤ sizeLine; decide, fun n hn => ?_⟩
          have xn := Ex.new (o := .lst []) hn
          have w1n := xn _ _ w1
          have w2n := w2.ex xn
          have w3n := w3.trans xn
          have hpn : ∀ x ∈ L, x.2 ≠ n := fun x hx => ne_of_none (w2.at_ x hx).1 hn
          have an : a ≠ n := ne_of_none w1 hn
          have gn : (upd H2 n (.lst [])) n = some (.lst []) := upd_same
          have n0 : H n = none := fresh_back w3 hn
          have eq1 : (i : Int) - (hAt h i : Int) = dg h i := rfl
          rw [eq1]
          have Ll := w2.len
          have kl : (kvU L).length = L.length := List.length_map ..
          generalize upd H2 n (.lst []) = H3 at *
          refine ⟨kvU L, .inl (dg h i % k), w1n, rfl, small1000 (by omega), fun v hv0 => ?_, fun hv0 => ?_⟩
          · have hm : dg h i % k ∈ L.map (·.1) := Decidable.byContradiction fun z => by
              rw [valU_out z] at hv0
              cases hv0
            obtain ⟨⟨r0, b⟩, hb, e1⟩ := List.mem_map.mp hm
            have e2 : r0 = dg h i % k := e1
            subst e2
            rw [valU_in w2n.n1 hb] at hv0
            obtain rfl := Option.some.inj hv0
            have hbb := (w2n.at_ _ hb).1
            refine ⟨.inl ⟨rfl, _, SqL.of hbb⟩, _, rfl, b, _, _, rfl, rfl, hbb, ?_, ?_⟩
            · rw [hv_len]
              have : (colI h k i (dg h i % k, b).1).length ≤ i := colI_len ..
              exact small1000 (by omega)
            · rw [hD]
              have nab : a ≠ b := ne_of w1n hbb (by intro z; cases z)
              refine ⟨L, _, _, rfl, (upd_ne nab).trans w1n, w2n.old o hb, Ex.mut w3n (w4 _ hb), w4⟩
          · have hm : dg h i % k ∉ L.map (·.1) := fun z => by
              obtain ⟨⟨r0, b⟩, hb, e1⟩ := List.mem_map.mp z
              have e2 : r0 = dg h i % k := e1
              subst e2
              rw [valU_in w2n.n1 hb] at hv0
              cases hv0
            have gn1 : (upd H3 a (.dK (putK (kvU L) (.inl (dg h i % k)) (.ref n)))) n = some (.lst []) := (upd_ne an.symm).trans gn
            refine ⟨.inl ⟨rfl, _, SqL.of gn1⟩, _, rfl, n, _, _, rfl, rfl, gn1, by show 0 < sizeLine; decide, ?_⟩
            rw [hD]
            refine ⟨L ++ [(dg h i % k, n)], _, _, rfl, ?_, ?_, Ex.mut (Ex.mut w3n ha) n0, fun x hx => ?_⟩
            · rw [upd_ne an, upd_same, putK_new _ hv0]
              unfold kvU
              rw [List.map_append]
              rfl
            · refine UpAt.new ?_ o hm hpn upd_same
              refine ⟨w2n.n1, w2n.n2, fun x hx => ⟨?_, (w2n.at_ x hx).2⟩, w2n.out, w2n.len⟩
              have q := (w2n.at_ x hx).1
              rw [upd_ne (hpn x hx), upd_ne (ne_of q w1n (by intro z; cases z))]
              exact q
            · rcases List.mem_append.mp hx with q | q
              · exact w4 x q
              · rw [List.mem_singleton.mp q]
                exact n0
        refine ⟨_, rfl, rfl, _, rfl, ite2 (fun cc => ?_) (fun cc => ?_)⟩
        · refine add ?_ _ rfl
          unfold opn
          rw [decide_eq_true (show i = 0 by have := V.int.inj (of_decide_eq_true cc); omega), Bool.true_or]
        · have i0 : i ≠ 0 := fun z => cc (by subst z; rfl)
          refine ⟨_, rfl, _, rfl, _, _, rfl, rfl, p, _, _, _, rfl, rfl, SqT.of hp2, at_of (show (i : Int) - 1 = ((i - 1 : Nat) : Int) by omega) (hv_get (by omega)), _, rfl, _, _, rfl, rfl, _, rfl, ite2 (fun c2 => ?_) (fun c2 => ?_)⟩
          · refine add ?_ _ rfl
            have := of_decide_eq_true c2
            unfold opn
            rw [decide_eq_true (show hAt h i < hAt h (i - 1) by omega), Bool.or_true]
          · have : ¬ (hAt h i : Int) < (hAt h (i - 1) : Int) := fun z => c2 (decide_eq_true z)
            refine ⟨L, _, _, rfl, w1, w2.skip ?_, w3, w4⟩
            unfold opn
            rw [decide_eq_false i0, decide_eq_false (show ¬ hAt h i < hAt h (i - 1) by omega)]
            rfl
    · obtain ⟨L, y3, y4, rfl, w1, w2, w3, _⟩ := hW
      rw [hv_len, show ((h.length : Int) + 1).toNat = h.length + 1 by omega] at w2
      exact ⟨_, rfl, kQ a L _ w3 w1 w2⟩
def spLBehind : Sp := fun vs H Q _ => ∃ (k q : Int) (p : Addr) (h : List Nat), vs = [.ref p, .int k, .int q] ∧ HeapAt H p h ∧ IsHeap h ∧ h.length ≤ 100 ∧ 2 ≤ k ∧ ∀ (r : Addr) H', Ex H H' → HeapAt H' r (step k h q) → Q (.ref r) H'
theorem ok_lbehind (T : Txt K mg) {f : Addr} {fd : FuncData} (D : DefAt K mg "_law_behind" sLBehind ["_law_heap", "_law_k", "_law_letter"] f fd) : FnOk P w K mg base CX0 2 f fd ["_law_heap", "_law_k", "_law_letter"] spLBehind := by
  refine D.F.ok scLBehind (fun vs H Q E h => ?_) (fun cdv A outer s₀ H vs Q E hr h => ?_)
  · obtain ⟨k, q, p, h, rfl, _⟩ := h
    rfl
  · obtain ⟨k, q, p, h, rfl, hp, IH, hl, k2, kQ⟩ := h
    obtain ⟨f1, fd1, D1⟩ := T.d_l_rests_up
    have hr1 : Room 1 _ := hr.mono (by decide)
    have hu1 := Nat.lt_of_le_of_lt (Nat.add_le_add_left (show 1 ≤ 64 by decide) _) hr.units
    refine ⟨_, pss_cons (ps_set (i := 3) scLBehind.nd rfl (.inr rfl) (pe_dget2 hu1 (pe_call (ok_rests_up T D1) hr1 (by rfl) D1.g D1.F.kp D1.b .nil pass0 (pa_cons (pv 0) (pa_cons (pv 1) pa_nil))) (pv 2) (pe_lst pa_nil) ⟨rfl, rfl, rfl, rfl⟩))
      (pss_cons (ps_set (i := 4) scLBehind.nd rfl (.inl rfl) (pe_op op_cat (pe_callTy call_list_of (by rfl) T.z_list (by decide +kernel) (pa_cons (pv 0) pa_nil)) (pe_lst (pa_cons pe_int pa_nil))))
      (pss_cons (ps_setLc (i := 5) (own := [("_law_column", 6), ("_law_height", 7)]) (g := gTup K 2 (gCons (gName 6) (gCons (gName 7) gNil))) (tt := tYes) (by rfl) scLBehind.nd rfl rfl (sw_true rfl rfl rfl (by decide +kernel)) (pi_enum (by rfl) T.z_enumerate (pa_cons (pv 4) pa_nil))
        (blkOk_by (N := nLBehind) (sc := defScope sLBehind) (by decide +kernel)) (fun _ _ _ _ _ => (pg_tup (by rfl) (pgs_cons (pg_name (i := 6) scLBehind.nd rfl (.inl rfl)) (pgs_cons (pg_name (i := 7) scLBehind.nd rfl (.inl rfl)) pgs_nil)))) (fun _ _ _ _ _ => pts_nil)
        (fun _ _ _ _ _ => (pe_op op_add (pv 7) (pe_callTy call_int1 (by rfl) T.z_int (by decide +kernel) (pa_cons (pe_cmpR (show OpR _ (compareOp .In) (rIn K false) from op_in_seq) (pv 6) (pv 3) (by rfl)) pa_nil)))))
      (pss_one (ps_ret (pe_callTy call_tuple_of (by rfl) T.z_tuple (by decide +kernel) (pa_cons (pe_lc (own := [("_law_height", 7)]) (g := gName 7) rfl scLBehind.nd (pi_list (pv 5))
        (blkOk_by (N := nLBehind) (sc := defScope sLBehind) (by decide +kernel)) (fun _ _ _ _ _ => (pg_name (i := 7) scLBehind.nd rfl (.inl rfl))) (fun _ _ _ _ _ => pts_one (pt_cmpR op_gt (pv 7) pe_int (nomark _)))
        (fun _ _ _ _ _ => (pv 7))) pa_nil)))))), ?_⟩
    refine ⟨_, rfl, _, rfl, k, p, h, rfl, hp, hl, k2, fun a L H1 e1 ha u => ?_⟩
    refine ⟨a, rfl, .inl ⟨_, .inl ha⟩, _, rfl, by show 0 ≤ sizeLine; decide, fun n hn => ?_⟩
    have xn := Ex.new (o := .lst []) hn
    have gn : (upd H1 n (.lst [])) n = some (.lst []) := upd_same
    have u2 := u.ex xn
    have ha2 := xn _ _ ha
    have e2 := e1.trans xn
    generalize upd H1 n (.lst []) = H2 at *
    obtain ⟨l, hlv, hll⟩ : ∃ l : Addr, (valV (kvU L) (Sum.inl q : Key)).getD (.ref n) = .ref l ∧ H2 l = some (.lst (hv (colI h k (h.length + 1) q))) := by
      by_cases m : q ∈ L.map (·.1)
      · obtain ⟨⟨r0, b⟩, hb, e3⟩ := List.mem_map.mp m
        have e4 : r0 = q := e3
        subst e4
        rw [valU_in u2.n1 hb]
        exact ⟨b, rfl, (u2.at_ _ hb).1⟩
      · rw [valU_out m, u2.out _ m]
        exact ⟨n, rfl, gn⟩
    refine ⟨_, DGet.k (k := .inl q) ha2, ?_⟩
    rw [hlv]
    generalize hcs : colI h k (h.length + 1) q = cs at *
    have hp2 := e2 _ _ hp
    refine ⟨_, rfl, p, _, rfl, .inr (SqT.of hp2), fun l1 hl1 => ?_⟩
    have y1 := Ex.new (o := .lst (hv h)) hl1
    refine ⟨by show 1 ≤ sizeLine; decide, fun l2 hl2 => ?_⟩
    have y2 := Ex.new (o := .lst [V.int 0]) hl2
    refine ⟨l1, l2, _, _, rfl, rfl, y2 _ _ upd_same, upd_same, ?_, fun l3 hl3 => ?_⟩
    · rw [hv_len]
      exact sz_of (by show h.length + 1 ≤ _; omega)
    have y3 := Ex.new (o := .lst (hv h ++ [V.int 0])) hl3
    have g3 : (upd (upd (upd H2 l1 (.lst (hv h))) l2 (.lst [V.int 0])) l3 (.lst (hv h ++ [V.int 0]))) l3 = some (.lst (hv (h ++ [0]))) := by
      rw [upd_same]
      exact congrArg (fun z => some (HO.lst z)) (hv_snoc h 0).symm
    have y13 := (y1.trans y2).trans y3
    have hl0 := y13 _ _ hll
    have e3 := e2.trans y13
    generalize upd (upd (upd H2 l1 (.lst (hv h))) l2 (.lst [V.int 0])) l3 (.lst (hv h ++ [V.int 0])) = H3 at *
    refine ⟨_, rfl, l3, _, rfl, SqL.of g3, fun Dl hD => ?_⟩
    have w1 : Walk (Ite K l3) (h.length + 1) (fun H => SqL K H l3 (hv (h ++ [0]))) (YPair (fun i => some (.int (i : Nat))) (fun i => (hv (h ++ [0]))[i]?)) := by
      have := walk_enum (K := K) (a := l3) (xs := hv (h ++ [0]))
      rw [hv_len, List.length_append] at this
      exact this
    refine lc_itY w1 (fun i H' => H' Dl = some (.lst (hv ((List.range i).map fun c => hAt h c + b2n (decide (c ∈ cs))))) ∧ Ex H3 H') ⟨upd_same, Ex.new hD⟩ (fun i H' _ hp2 => SqL.of (hp2.2 _ _ g3)) (fun i x H4 H5 hi hp2 hy => ?_) (fun H4 hp2 => ?_)
    · obtain ⟨v1, v2⟩ := hp2
      obtain ⟨Tp, x1, z1, rfl, nT, rfl, hx1, hz1⟩ := hy
      obtain rfl := Option.some.inj hx1
      have hz2 : (hv (h ++ [0]))[i]? = some (V.int (hAt h i : Int)) := by
        rw [show h ++ [0] = hts h (fun _ => 0) from hts_zero h]
        unfold hv
        rw [List.getElem?_map, hts_get (by omega)]
        rfl
      obtain rfl := Option.some.inj (hz2.symm.trans hz1)
      have eT := Ex.new (o := .tup [.int (i : Nat), .int (hAt h i : Int)]) nT
      have v1' := eT _ _ v1
      have v2' := v2.trans eT
      refine ⟨Tp, _, rfl, SqT.of upd_same, rfl, .int (i : Nat), [_], rfl, _, [], rfl, rfl, rfl, ?_⟩
      generalize upd H4 Tp (.tup [.int (i : Nat), .int (hAt h i : Int)]) = H6 at *
      refine ⟨_, rfl, _, rfl, _, rfl, l, _, rfl, .inl (SqL.of (v2' _ _ hl0)), rfl, flat_hv _, ?_⟩
      rw [show (if false = true then !inV (V.int (i : Nat)) (hv cs) else inV (V.int (i : Nat)) (hv cs)) = decide (i ∈ cs) from inV_hv i cs]
      refine .inr ⟨_, rfl, _, _, rfl, rfl, _, v1', ?_, ?_, Ex.mut v2' hD⟩
      · rw [hv_len, List.length_map, List.length_range]
        exact small1000 (by omega)
      · rw [upd_same, List.range_succ, List.map_append]
        show _ = some (HO.lst (hv (_ ++ [_])))
        rw [hv_snoc]
        have : (hAt h i : Int) + (if decide (i ∈ cs) = true then 1 else 0) = ((hAt h i + b2n (decide (i ∈ cs)) : Nat) : Int) := by
          unfold b2n
          split <;> rfl
        exact congrArg (fun z => some (HO.lst (_ ++ [V.int z]))) this
    · obtain ⟨v1, v2⟩ := hp2
      have ln : ((List.range (h.length + 1)).map fun c => hAt h c + b2n (decide (c ∈ cs))).length = h.length + 1 := by rw [List.length_map, List.length_range]
      have fin : ((List.range (h.length + 1)).map fun c => hAt h c + b2n (decide (c ∈ cs))).filter (fun x => decide (0 < x)) = step k h q := by
        refine hts_filter IH.pos (g := gq h k q) (f := fun c => b2n (decide (c ∈ cs))) fun c hc => ?_
        congr 1
        refine bool_ext ?_
        rw [decide_eq_true_eq, ← hcs]
        unfold colI
        rw [List.mem_filter, List.mem_range]
        exact ⟨fun z => z.2, fun z => ⟨by omega, z⟩⟩
      generalize ((List.range (h.length + 1)).map fun c => hAt h c + b2n (decide (c ∈ cs))) = t at *
      refine ⟨_, rfl, Dl, rfl, ⟨_, SqL.of v1⟩, fun D2 hD2 => ?_⟩
      refine lc_list (K := K) (a := Dl) (xs := hv t) (fun j H5 => H5 D2 = some (.lst (hv ((t.take j).filter fun x => decide (0 < x)))) ∧ Ex H4 H5) ⟨upd_same, Ex.new hD2⟩ (fun j H5 _ hp5 => SqL.of (hp5.2 _ _ v1)) (fun j x H5 hx hp5 => ?_) (fun H5 hp5 => ?_)
      · obtain ⟨u1, u2⟩ := hp5
        obtain ⟨y, hy, rfl⟩ := hv_inv hx
        refine ⟨rfl, _, rfl, _, _, rfl, rfl, _, rfl, ite2 (fun cc => ?_) (fun cc => ?_)⟩
        · have c0 : 0 < y := by
            have := of_decide_eq_true cc
            omega
          refine ⟨_, rfl, _, u1, ?_, ?_, Ex.mut u2 hD2⟩
          · rw [hv_len]
            have a1 := List.length_filter_le (fun x => decide (0 < x)) (t.take j)
            rw [List.length_take] at a1
            exact small1000 (by omega)
          · rw [upd_same, take_filter_snoc _ hy, if_pos (decide_eq_true c0), hv_snoc]
        · have c0 : ¬ 0 < y := fun z => cc (decide_eq_true (by omega))
          refine ⟨?_, u2⟩
          rw [take_filter_snoc _ hy, if_neg (by rw [decide_eq_false c0]; decide), List.append_nil]
          exact u1
      · obtain ⟨u1, u2⟩ := hp5
        rw [hv_len, List.take_length, fin] at u1
        exact ⟨D2, _, rfl, .inl ⟨SqL.of u1, fun r hr' => kQ r _ (((e3.trans v2).trans u2).trans (Ex.new hr')) upd_same⟩⟩
theorem sub_list {A B : List Nat} (IA : IsHeap A) : sub A B ↔ (A.length ≤ B.length ∧ ∀ c, c < A.length → ¬ hAt B c < hAt A c) := by
  constructor
  · intro h
    refine ⟨?_, fun c _ z => absurd (h c) (by omega)⟩
    rcases Nat.lt_or_ge B.length A.length with q | q
    · exfalso
      have p := IA.pos B.length q
      have := h B.length
      rw [hAt_ge (Nat.le_refl _)] at this
      omega
    · exact q
  · rintro ⟨h1, h2⟩ c
    rcases Nat.lt_or_ge c A.length with q | q
    · have := h2 c q
      omega
    · rw [hAt_ge q]
      exact Nat.zero_le _
def spLHolds : Sp := fun vs H Q _ => ∃ (p q : Addr) (B A : List Nat), vs = [.ref p, .ref q] ∧ HeapAt H p B ∧ HeapAt H q A ∧ IsHeap A ∧ A.length ≤ 100 ∧ B.length ≤ 100 ∧ ∀ (b : Bool) H', Ex H H' → (b = true ↔ sub A B) → Q (.bl b) H'
theorem ok_lholds (T : Txt K mg) {f : Addr} {fd : FuncData} (D : DefAt K mg "_law_holds" sLHolds ["_law_heap", "_law_other"] f fd) : FnOk P w K mg base CX0 1 f fd ["_law_heap", "_law_other"] spLHolds := by
  refine D.F.ok scLHolds (fun vs H Q E h => ?_) (fun cdv A outer s₀ H vs Q E hr h => ?_)
  · obtain ⟨p, q, B, A, rfl, _⟩ := h
    rfl
  · obtain ⟨p, q, B, A, rfl, hp, hq, IA, la, lb, kQ⟩ := h
    refine ⟨_, pss_one (ps_ret (pe_and (pe_cmpR op_le (pe_callB call_len_seq (by rfl) T.z_len PySem.boot_len (pa_cons (pv 1) pa_nil)) (pe_callB call_len_seq (by rfl) T.z_len PySem.boot_len (pa_cons (pv 0) pa_nil)) (nomark _)) (pe_one (pe_cmpR (op_eqD hr.units) (pe_lc (own := [("_law_low", 2), ("_law_high", 3)]) (g := gTup K 2 (gCons (gName 2) (gCons (gName 3) gNil))) rfl scLHolds.nd (RZ.pi_zipA (by rfl) T.z_zip (pa_cons (pv 1) (pa_cons (pv 0) pa_nil)))
        (blkOk_by (N := nLHolds) (sc := defScope sLHolds) (by decide +kernel)) (fun _ _ _ _ _ => (pg_tup (by rfl) (pgs_cons (pg_name (i := 2) scLHolds.nd rfl (.inl rfl)) (pgs_cons (pg_name (i := 3) scLHolds.nd rfl (.inl rfl)) pgs_nil)))) (fun _ _ _ _ _ => pts_one (pt_cmpR op_gt (pv 2) (pv 3) (nomark _)))
        (fun _ _ _ _ _ => pe_int)) (pe_lst pa_nil) (nomark _))))), ?_⟩
    refine ⟨_, rfl, q, _, rfl, .inr (SqT.of hq), _, rfl, p, _, rfl, .inr (SqT.of hp), _, _, rfl, rfl, ?_⟩
    rw [hv_len, hv_len]
    let pf : Nat → Bool := fun c => decide (hAt B c < hAt A c)
    let on : Nat → List Int := fun i => ((List.range i).filter pf).map fun _ => (1 : Int)
    have on1 : ∀ i, on (i + 1) = on i ++ (if pf i = true then [1] else []) := fun i => by
      show ((List.range (i + 1)).filter pf).map _ = ((List.range i).filter pf).map _ ++ _
      rw [List.range_succ, List.filter_append, List.map_append]
      congr 1
      rw [List.filter_cons]
      split <;> rfl
    have ol : ∀ i, (on i).length ≤ i := fun i => by
      show (((List.range i).filter pf).map fun _ => (1 : Int)).length ≤ i
      rw [List.length_map]
      have := List.length_filter_le pf (List.range i)
      rw [List.length_range] at this
      exact this
    refine ⟨_, rfl, ite2 (fun cc => ?_) (fun cc => ?_)⟩
    · have le : A.length ≤ B.length := by
        have := of_decide_eq_true cc
        omega
      refine ⟨_, rfl, _, rfl, q, p, hv A, hv B, rfl, .inr ⟨SqT.of hq, SqT.of hp, fun Dl hD => ?_⟩⟩
      refine lc_zipT (n := A.length) (by rw [hv_len]; exact Nat.le_refl _) (by rw [hv_len]; exact le) (.inl (by rw [hv_len]; exact Nat.le_refl _)) (fun i H' => H' Dl = some (.lst ((on i).map V.int)) ∧ Ex H H') ⟨upd_same, Ex.new hD⟩ (fun i H' hp2 => ⟨SqT.of (hp2.2 _ _ hq), SqT.of (hp2.2 _ _ hp)⟩) (fun i x y Tp H' hi hx hy hp2 nT => ?_) (fun H' hp2 => ?_)
      · obtain ⟨v1, v2⟩ := hp2
        rw [hv_get hi] at hx
        rw [hv_get (show i < B.length by omega)] at hy
        obtain rfl := Option.some.inj hx
        obtain rfl := Option.some.inj hy
        have eT := Ex.new (o := .tup [.int (hAt A i : Int), .int (hAt B i : Int)]) nT
        have v1' := eT _ _ v1
        have v2' := v2.trans eT
        refine ⟨Tp, _, rfl, SqT.of upd_same, rfl, .int (hAt A i : Int), [_], rfl, .int (hAt B i : Int), [], rfl, rfl, rfl, ?_⟩
        generalize upd H' Tp (.tup [.int (hAt A i : Int), .int (hAt B i : Int)]) = H3 at *
        refine ⟨_, rfl, _, rfl, _, _, rfl, rfl, _, rfl, ite2 (fun c2 => ?_) (fun c2 => ?_)⟩
        · have c3 : pf i = true := decide_eq_true (by have := of_decide_eq_true c2; omega)
          refine ⟨_, v1', ?_, ?_, Ex.mut v2' hD⟩
          · rw [List.length_map]
            have := ol i
            exact small1000 (by omega)
          · rw [upd_same, on1, if_pos c3, List.map_append]
            rfl
        · have c3 : ¬ pf i = true := fun z => c2 (decide_eq_true (by have := of_decide_eq_true z; omega))
          refine ⟨?_, v2'⟩
          rw [on1, if_neg c3, List.append_nil]
          exact v1'
      · obtain ⟨v1, v2⟩ := hp2
        refine ⟨by show 0 ≤ sizeLine; decide, fun n hn => ?_⟩
        have xn := Ex.new (o := .lst []) hn
        refine CI.eqL (l := on A.length) (l' := []) (xn _ _ v1) upd_same ?_
        refine kQ _ _ (v2.trans xn) ?_
        rw [decide_eq_true_eq, sub_list IA]
        show ((List.range A.length).filter pf).map _ = [] ↔ _
        rw [List.map_eq_nil_iff, List.filter_eq_nil_iff]
        constructor
        · intro z
          exact ⟨le, fun c hc y => z c (List.mem_range.mpr hc) (decide_eq_true y)⟩
        · intro z c hc y
          exact z.2 c (List.mem_range.mp hc) (of_decide_eq_true y)
    · refine kQ false _ (Ex.refl _) ⟨(fun y => Bool.noConfusion y), fun y => ?_⟩
      exfalso
      refine cc (decide_eq_true ?_)
      have := ((sub_list IA).mp y).1
      omega
theorem letters_nodup (n : Nat) : ((List.range n).map fun (i : Nat) => (i : Int)).Nodup := by
  refine List.Pairwise.map _ (fun a b h => ?_) List.nodup_range
  omega
def upL (h : List Nat) (k : Int) : List Int := ((List.range k.toNat).map fun (i : Nat) => (i : Int)).filter fun q => decide (step k h q ≠ h)
theorem upL_nodup (h : List Nat) (k : Int) : (upL h k).Nodup := (letters_nodup _).filter _
theorem mem_upL {h : List Nat} {k : Int} (q : Int) : q ∈ upL h k ↔ (0 ≤ q ∧ q < k ∧ step k h q ≠ h) := by
  unfold upL
  rw [List.mem_filter, List.mem_map, decide_eq_true_eq]
  constructor
  · rintro ⟨⟨i, hi, rfl⟩, h2⟩
    have := List.mem_range.mp hi
    exact ⟨by omega, by omega, h2⟩
  · rintro ⟨a, b, c⟩
    exact ⟨⟨q.toNat, List.mem_range.mpr (by omega), by omega⟩, c⟩
theorem step_ne {k : Int} {h : List Nat} (IH : IsHeap h) (q : Int) : step k h q ≠ h ↔ ∃ c, gq h k q c = true := by
  constructor
  · intro ne
    refine Classical.byContradiction fun no => ne (heap_ext (grow_heap IH gq_opn) IH fun c => ?_)
    have h2 : hAt (step k h q) c = hAt h c + b2n (gq h k q c) := hAt_grow gq_opn c
    rw [h2]
    cases g : gq h k q c with
    | false => rfl
    | true => exact absurd ⟨c, g⟩ no
  · rintro ⟨c, g⟩ e
    have := congrArg (fun z => hAt z c) e
    have h2 : hAt (step k h q) c = hAt h c + b2n (gq h k q c) := hAt_grow gq_opn c
    rw [g] at h2
    have h3 : hAt (step k h q) c = hAt h c := this
    have : b2n true = 1 := rfl
    omega
theorem up_keys {k : Int} (hk : 0 < k) {H : Hp} {h : List Nat} (IH : IsHeap h) {L : List (Int × Addr)} (u : UpAt H k h (h.length + 1) L) : (L.map (·.1)).Perm (upL h k) := by
  refine nodup_perm u.n1 (upL_nodup h k) fun q => ?_
  rw [mem_upL, step_ne IH]
  have col : (∃ c, gq h k q c = true) ↔ colI h k (h.length + 1) q ≠ [] := by
    constructor
    · rintro ⟨c, g⟩ e
      have : c ∈ colI h k (h.length + 1) q := List.mem_filter.mpr ⟨List.mem_range.mpr (by have := opn_le (gq_opn _ g); omega), g⟩
      rw [e] at this
      cases this
    · intro ne
      obtain ⟨c, hc⟩ := List.exists_mem_of_ne_nil _ ne
      exact ⟨c, (List.mem_filter.mp hc).2⟩
  constructor
  · intro hq
    obtain ⟨x, hx, e⟩ := List.mem_map.mp hq
    have ne := (u.at_ x hx).2
    have e2 : x.1 = q := e
    rw [e2] at ne
    obtain ⟨c, g⟩ := col.mpr ne
    have dq : dg h c % k = q := of_decide_eq_true (Bool.and_eq_true_iff.mp g).2
    exact ⟨by rw [← dq]; exact Int.emod_nonneg _ (by omega), by rw [← dq]; exact Int.emod_lt_of_pos _ hk, c, g⟩
  · rintro ⟨_, _, z⟩
    refine Classical.byContradiction fun no => col.mp z (u.out q no)
theorem all_dec {n : Nat} {p : Nat → Prop} [DecidablePred p] : ((List.range n).map fun i => decide (p i)).all id = decide (∀ i, i < n → p i) := by
  rw [Bool.eq_iff_iff, List.all_eq_true, decide_eq_true_eq]
  constructor
  · intro h i hi
    have := h (decide (p i)) (List.mem_map.mpr ⟨i, List.mem_range.mpr hi, rfl⟩)
    exact of_decide_eq_true this
  · intro h x hx
    obtain ⟨i, hi, rfl⟩ := List.mem_map.mp hx
    exact decide_eq_true (h i (List.mem_range.mp hi))
def spHoldsB (K : PySem.W.Frag) : Sp := fun vs H Q _ => ∃ p q h f, vs = [.ref p, .ref q] ∧ HeapAt H p h ∧ HeapAt H q f ∧ Good h ∧ Good f ∧ ∀ b H', (b = true ↔ ∀ c, hAt f c ≤ hAt h c) → Ex H H' → Q (.bl b) H'
theorem ok_holds (T : Txt K mg) {f : Addr} {fd : FuncData} (D : DefAt K mg "holds" sHolds ["heap", "other"] f fd) : FnOk P w K mg base CX0 2 f fd ["heap", "other"] (spHoldsB K) := by
  refine D.F.ok scHolds (fun vs H Q E h => ?_) (fun cdv A outer s H vs Q E hr h => ?_)
  · obtain ⟨p, q, h, f', rfl, _⟩ := h
    rfl
  · obtain ⟨p, q, h, f', rfl, hp1, hq1, G, F, k⟩ := h
    obtain ⟨f1, fd1, D1⟩ := T.d_height_at
    have hr1 : Room 1 _ := hr.mono (by decide)
    refine ⟨_, pss_one (ps_ret (pe_callB (cr_all rfl) (by rfl) T.z_all (by decide +kernel) (pa_cons (pe_lc (own := [("column", 2), ("height", 3)]) (g := gTup K 2 (gCons (gName 2) (gCons (gName 3) gNil))) (tt := tYes) rfl scHolds.nd (EnT.pi_enumT (by rfl) T.z_enumerate (pa_cons (pv 1) pa_nil))
        (blkOk_by (N := nHolds) (sc := defScope sHolds) (by decide +kernel)) (fun _ _ _ _ _ => (pg_tup (by rfl) (pgs_cons (pg_name (i := 2) scHolds.nd rfl (.inl rfl)) (pgs_cons (pg_name (i := 3) scHolds.nd rfl (.inl rfl)) pgs_nil)))) (fun _ _ _ _ _ => pts_nil)
        (fun _ _ _ _ _ => (pe_cmpR op_ge (pe_call (ok_height_at T D1) hr1 (by rfl) D1.g D1.F.kp D1.b .nil pass0 (pa_cons (pv 0) (pa_cons (pv 2) pa_nil))) (pv 3) (nomark _)))) pa_nil))), ?_⟩
    refine ⟨_, rfl, q, _, rfl, SqT.of hq1, fun Dl hD => ?_⟩
    refine lc_enumT (K := K) (a := q) (xs := hv f') (fun i H' => H' Dl = some (.lst (((List.range i).map fun c => decide (hAt f' c ≤ hAt h c)).map V.bl)) ∧ Ex H H') ⟨upd_same, Ex.new hD⟩ (fun i H' hp2 => SqT.of (hp2.2 _ _ hq1)) (fun i x Tp H' hx hp2 nT => ?_) (fun H' hp2 => ?_)
    · obtain ⟨w1, w2⟩ := hp2
      have hi : i < f'.length := by
        have := (List.getElem?_eq_some_iff.mp hx).1
        rw [hv_len] at this
        exact this
      rw [hv_get hi] at hx
      obtain rfl := Option.some.inj hx
      have eT := Ex.new (o := .tup [.int (i : Nat), .int (hAt f' i : Int)]) nT
      refine ⟨Tp, _, rfl, SqT.of upd_same, rfl, .int (i : Nat), [_], rfl, _, [], rfl, rfl, rfl, ?_⟩
      dsimp only [tYes]
      rw [if_pos rfl]
      refine ⟨_, rfl, _, rfl, p, h, i, rfl, (w2.trans eT) _ _ hp1, fun H3 e3 => ⟨_, rfl, _, _, rfl, rfl, ?_⟩⟩
      have F60 := F.len
      refine ⟨_, e3 _ _ (eT _ _ w1), ?_, ?_, Ex.mut ((w2.trans eT).trans e3) hD⟩
      · rw [List.length_map, List.length_map, List.length_range]
        exact small1000 (by omega)
      · rw [upd_same, List.range_succ, List.map_append, List.map_append]
        show some (HO.lst (_ ++ [V.bl (decide ((hAt h i : Int) ≥ (hAt f' i : Int)))])) = _
        rw [show decide ((hAt h i : Int) ≥ (hAt f' i : Int)) = decide (hAt f' i ≤ hAt h i) from decide_eq_decide.mpr (by omega)]
        rfl
    · refine ⟨Dl, _, rfl, SqL.of hp2.1, ?_⟩
      rw [hv_len, all_dec]
      refine k _ _ ?_ hp2.2
      rw [decide_eq_true_eq]
      constructor
      · intro a c
        by_cases z : c < f'.length
        · exact a c z
        · rw [hAt_ge (by omega)]
          omega
      · exact fun a c _ => a c
def spHasBox : Sp := fun vs H Q _ => ∃ p h, ∃ (k : Nat) (r : Int), vs = [.ref p, .int ((k : Int) + 1), .int r] ∧ HeapAt H p h ∧ 1 ≤ r ∧ ∀ H', Ex H H' → Q (.bl (decide (r ≤ (hAt h k : Int)))) H'
theorem ok_has_box (T : Txt K mg) {f : Addr} {fd : FuncData} (D : DefAt K mg "has_box" sHasBox ["heap", "columns", "rows"] f fd) : FnOk P w K mg base CX0 2 f fd ["heap", "columns", "rows"] spHasBox := by
  refine D.F.ok scHasBox (fun vs H Q E h => ?_) (fun cdv A outer s₀ H vs Q E hr h => ?_)
  · obtain ⟨p, h, k, r, rfl, _⟩ := h
    rfl
  · obtain ⟨p, h, k, r, rfl, hp, h1, q⟩ := h
    obtain ⟨f1, fd1, D1⟩ := T.d_height_at
    have hr1 : Room 1 _ := hr.mono (by decide)
    refine ⟨_, pss_one (ps_ret (pe_or (pe_cmpR op_lt (pv 1) pe_int (nomark _)) (pe_or (pe_cmpR op_lt (pv 2) pe_int (nomark _)) (pe_one (pe_cmpR op_ge (pe_call (ok_height_at T D1) hr1 (by rfl) D1.g D1.F.kp D1.b .nil pass0 (pa_cons (pv 0) (pa_cons (pe_op op_sub (pv 1) pe_int) pa_nil))) (pv 2) (nomark _)))))), ?_⟩
    refine ⟨_, rfl, _, _, rfl, rfl, _, rfl, ?_⟩
    rw [decide_eq_false (show ¬ ((k : Int) + 1 < 1) by omega)]
    refine iteF ⟨_, rfl, _, _, rfl, rfl, _, rfl, ?_⟩
    rw [decide_eq_false (show ¬ (r < 1) by omega)]
    refine iteF ⟨_, rfl, _, rfl, _, _, rfl, rfl, p, h, k, ?_, hp, fun H1 e1 => ⟨_, rfl, _, _, rfl, rfl, q _ e1⟩⟩
    dsimp only
    rw [show (k : Int) + 1 - 1 = (k : Int) by omega]
    rfl
end
end K1

set_option exponentiation.threshold 400
namespace K1
open PySem PySem.Spec PyProof.Rows L2 Evl HM LX ZW TE
theorem box_small {c r : Nat} (h : (c, r) ∈ boxes) : 1 ≤ c ∧ c ≤ 3 ∧ 1 ≤ r ∧ r ≤ 3 ∧ c * r ≤ 6 := by
  have : ∀ x ∈ boxes, 1 ≤ x.1 ∧ x.1 ≤ 3 ∧ 1 ≤ x.2 ∧ x.2 ≤ 3 ∧ x.1 * x.2 ≤ 6 := by decide
  exact this _ h
theorem small3 {a b : Int} (h1 : 0 ≤ a) (h2 : a ≤ 100) : (-(2 ^ 64) < a ∧ a < 2 ^ 64) ∨ (-(2 ^ 64) < b ∧ b < 2 ^ 64) := .inl ⟨by omega, by omega⟩
theorem lf_uniq {k c r : Nat} (k2 : 2 ≤ k) (k6 : k ≤ 6) (hb : (c, r) ∈ boxes) {m : Int} (h : m ∈ (lfL k c r).map fun (n : Nat) => (n : Int)) (h2 : ∀ y ∈ (lfL k c r).map (fun (n : Nat) => (n : Int)), m ≤ y) : m = ((lf k c r : Nat) : Int) := by
  obtain ⟨a, b, _⟩ := lf_least k (by omega) k2 _ hb
  obtain ⟨x, hx, rfl⟩ := List.mem_map.mp h
  have a' : lf k c r ∈ lfL k c r := a
  have b' : lf k c r ≤ x := b x hx
  have := h2 _ (List.mem_map.mpr ⟨_, a', rfl⟩)
  omega
section
variable {P : Program} {w : World} {K : PySem.W.Frag} {mg : Str → Option Value} {base : Heap}
def spCheckBoxed : Sp := fun vs H Q _ => ∃ k c r : Nat, vs = [.int (k : Int), .int (c : Int), .int (r : Int)] ∧ 2 ≤ k ∧ k ≤ 60 ∧ (c, r) ∈ boxes ∧ ∀ H', Ex H H' → Q .non H'
theorem ok_check_boxed (T : Txt K mg) {f : Addr} {fd : FuncData} (D : DefAt K mg "check_boxed" sCheckBoxed ["k", "columns", "rows"] f fd) : FnOk P w K mg base CX0 5 f fd ["k", "columns", "rows"] spCheckBoxed := by
  refine D.F.ok scCheckBoxed (fun vs H Q E h => ?_) (fun cdv A outer s₀ H vs Q E hr h => ?_)
  · obtain ⟨k, c, r, rfl, _⟩ := h
    rfl
  · obtain ⟨k, c, r, rfl, k2, k60, hb, q⟩ := h
    obtain ⟨c1, c3, r1, r3, cr⟩ := box_small hb
    obtain ⟨f1, fd1, D1⟩ := T.d_check_between
    obtain ⟨f2, fd2, D2⟩ := T.d_check_order
    obtain ⟨tMAX_BOX, vMAX_BOX⟩ := T.v_MAX_BOX
    have hr3 : Room 3 _ := hr.mono (by decide)
    have hr4 : Room 4 _ := hr.mono (by decide)
    refine ⟨_, pss_cons (ps_expr (pe_call (ok_check_order T D2) hr4 (by rfl) D2.g D2.F.kp D2.b .nil pass0 (pa_cons (pv 0) pa_nil)))
      (pss_cons (ps_expr (pe_call (ok_check_between T D1) hr3 (by rfl) D1.g D1.F.kp D1.b .nil pass0 (pa_cons (pv 1) (pa_cons pe_int (pa_cons (pe_glob (v := .int 16) rfl vMAX_BOX ⟨_, rfl⟩) pa_nil)))))
      (pss_cons (ps_expr (pe_call (ok_check_between T D1) hr3 (by rfl) D1.g D1.F.kp D1.b .nil pass0 (pa_cons (pv 2) (pa_cons pe_int (pa_cons (pe_glob (v := .int 16) rfl vMAX_BOX ⟨_, rfl⟩) pa_nil)))))
      (pss_one (ps_if (pt_cmpR op_gt (pe_op op_mul (pv 1) (pv 2)) (pe_glob (v := .int 16) rfl vMAX_BOX ⟨_, rfl⟩) (nomark _)) pss_never pss_nil)))), ?_⟩
    refine ⟨_, rfl, (k : Int), rfl, by omega, by omega, fun H1 e1 => ?_⟩
    refine ⟨_, rfl, (c : Int), 1, 16, rfl, by omega, by omega, by omega, by omega, fun H2 e2 => ?_⟩
    refine ⟨_, rfl, (r : Int), 1, 16, rfl, by omega, by omega, by omega, by omega, fun H3 e3 => ?_⟩
    refine ⟨_, rfl, _, rfl, _, _, rfl, rfl, .inl ⟨by omega, by omega⟩, _, _, rfl, rfl, _, rfl, iteF' (decide_eq_false ?_) (q _ ((e1.trans e2).trans e3))⟩
    have : (c : Int) * (r : Int) = ((c * r : Nat) : Int) := by omega
    show ¬ (16 : Int) < (c : Int) * (r : Int)
    rw [this]
    omega
def spLettersFor : Sp := fun vs H Q _ => ∃ k c r : Nat, vs = [.int (k : Int), .int (c : Int), .int (r : Int)] ∧ 2 ≤ k ∧ k ≤ 6 ∧ (c, r) ∈ boxes ∧ ∀ H', Ex H H' → Q (.int ((lf k c r : Nat) : Int)) H'
theorem ok_letters_for (T : Txt K mg) {f : Addr} {fd : FuncData} (D : DefAt K mg "letters_for" sLettersFor ["k", "columns", "rows"] f fd) : FnOk P w K mg base CX0 1 f fd ["k", "columns", "rows"] spLettersFor := by
  refine D.F.ok scLettersFor (fun vs H Q E h => ?_) (fun cdv A outer s₀ H vs Q E hr h => ?_)
  · obtain ⟨k, c, r, rfl, _⟩ := h
    rfl
  · obtain ⟨k, c, r, rfl, k2, k6, hb, q⟩ := h
    obtain ⟨c1, c3, r1, r3, cr⟩ := box_small hb
    refine ⟨_, pss_one (ps_ret (pe_callB (cr_min rfl) (by rfl) T.z_min (by decide +kernel) (pa_cons (pe_lc (own := [("inner", 3)]) (g := gName 3) (tt := tYes) rfl scLettersFor.nd (pi_range1 (by rfl) T.z_range (pa_cons (pe_callB (call_min2 rfl) (by rfl) T.z_min (by decide +kernel) (pa_cons (pv 1) (pa_cons (pv 2) pa_nil))) pa_nil))
        (blkOk_by (N := nLettersFor) (sc := defScope sLettersFor) (by decide +kernel)) (fun _ _ _ _ _ => (pg_name (i := 3) scLettersFor.nd rfl (.inl rfl))) (fun _ _ _ _ _ => pts_nil)
        (fun _ _ _ _ _ => (pe_op op_add (pe_op op_mul (pe_op op_sub (pv 1) (pv 3)) (pe_op op_sub (pv 2) (pv 3))) (pe_op op_mul (pv 3) (pv 0))))) pa_nil))), ?_⟩
    refine ⟨_, rfl, _, rfl, _, _, rfl, ?_⟩
    rw [show (if ((r : Nat) : Int) < ((c : Nat) : Int) then ((r : Nat) : Int) else ((c : Nat) : Int)) = ((min c r : Nat) : Int) by split <;> omega]
    refine ⟨_, rfl, by omega, by omega, fun Dl hD => ?_⟩
    rw [Int.toNat_natCast]
    refine lc_rangeM (lo := 0) (n := min c r) (fun l => V.int (((c - l) * (r - l) + l * k : Nat) : Int)) hD (by omega) (fun i H2 Qk hi e2 qk => ?_) (fun H2 e2 h2 => ?_)
    · refine ⟨rfl, _, rfl, _, rfl, _, _, rfl, rfl, _, rfl, _, rfl, _, _, rfl, rfl, _, _, rfl, rfl, .inl ⟨by omega, by omega⟩, _, rfl, _, rfl, _, _, rfl, rfl, .inl ⟨by omega, by omega⟩, _, _, rfl, rfl, ?_⟩
      have e : ((c : Int) - (0 + (i : Int))) * ((r : Int) - (0 + (i : Int))) + (0 + (i : Int)) * (k : Int) = (((c - i) * (r - i) + i * k : Nat) : Int) := by
        rw [Int.zero_add, show (c : Int) - (i : Int) = ((c - i : Nat) : Int) by omega, show (r : Int) - (i : Int) = ((r - i : Nat) : Int) by omega]
        simp
      show Qk (V.int (((c : Int) - (0 + (i : Int))) * ((r : Int) - (0 + (i : Int))) + (0 + (i : Int)) * (k : Int))) H2
      rw [e]
      exact qk _ (Ex.refl _)
    · have h3 : H2 Dl = some (.lst (((lfL k c r).map fun (n : Nat) => (n : Int)).map V.int)) := by
        rw [h2]
        unfold lfL
        rw [List.map_map, List.map_map]
        rfl
      refine ⟨Dl, _, rfl, SqL.of h3, ?_, fun m hm hmin => ?_⟩
      · unfold lfL
        rw [List.length_map, List.length_map, List.length_range]
        omega
      · rw [lf_uniq k2 k6 hb hm hmin]
        exact q _ e2
def spLeastLetters : Sp := fun vs H Q _ => ∃ k c r : Nat, vs = [.int (k : Int), .int (c : Int), .int (r : Int)] ∧ 2 ≤ k ∧ k ≤ 6 ∧ (c, r) ∈ boxes ∧ ∀ H', Ex H H' → Q (.int ((lf k c r : Nat) : Int)) H'
theorem ok_least_letters (T : Txt K mg) {f : Addr} {fd : FuncData} (D : DefAt K mg "least_letters" sLeastLetters ["k", "columns", "rows"] f fd) : FnOk P w K mg base CX0 6 f fd ["k", "columns", "rows"] spLeastLetters := by
  refine D.F.ok scLeastLetters (fun vs H Q E h => ?_) (fun cdv A outer s₀ H vs Q E hr h => ?_)
  · obtain ⟨k, c, r, rfl, _⟩ := h
    rfl
  · obtain ⟨k, c, r, rfl, k2, k6, hb, q⟩ := h
    obtain ⟨f1, fd1, D1⟩ := T.d_letters_for
    obtain ⟨f2, fd2, D2⟩ := T.d_check_boxed
    have hr1 : Room 1 _ := hr.mono (by decide)
    have hr5 : Room 5 _ := hr.mono (by decide)
    refine ⟨_, pss_cons (ps_expr (pe_call (ok_check_boxed T D2) hr5 (by rfl) D2.g D2.F.kp D2.b .nil pass0 (pa_cons (pv 0) (pa_cons (pv 1) (pa_cons (pv 2) pa_nil)))))
      (pss_one (ps_ret (pe_call (ok_letters_for T D1) hr1 (by rfl) D1.g D1.F.kp D1.b .nil pass0 (pa_cons (pv 0) (pa_cons (pv 1) (pa_cons (pv 2) pa_nil)))))), ?_⟩
    refine ⟨_, rfl, _, rfl, _, rfl, k, c, r, rfl, k2, by omega, hb, fun H1 e1 => ?_⟩
    exact ⟨_, rfl, _, rfl, _, rfl, k, c, r, rfl, k2, k6, hb, fun H2 e2 => q _ (e1.trans e2)⟩
end
end K1

set_option exponentiation.threshold 400
namespace K1
open PySem PySem.Spec PyProof.Rows L2 Evl HM LX ZW TE
abbrev LRow := Addr × List HRow
def refY (Y : List LRow) : List V := Y.map fun y => V.ref y.1
structure Lays (H : Hp) (k n : Nat) (Y : List LRow) : Prop where
  len : Y.length = n
  at_ : ∀ y ∈ Y, H y.1 = some (.lst (refH y.2)) ∧ HsAt H y.2
  lv : ∀ (i : Nat) (y : LRow), Y[i]? = some y → LvS k i (hps y.2) ∧ SrtH y.2 ∧ y.2.length ≤ 6 ^ i
theorem Lays.ex {H H' : Hp} {k n : Nat} {Y : List LRow} (e : Ex H H') (h : Lays H k n Y) : Lays H' k n Y := ⟨h.len, fun y hy => ⟨e _ _ (h.at_ y hy).1, (h.at_ y hy).2.ex e⟩, h.lv⟩
theorem Lays.snoc {H : Hp} {k n : Nat} {Y : List LRow} (h : Lays H k n Y) {y : LRow} (h1 : H y.1 = some (.lst (refH y.2))) (h2 : HsAt H y.2) (h3 : LvS k n (hps y.2)) (h4 : SrtH y.2) (h5 : y.2.length ≤ 6 ^ n) : Lays H k (n + 1) (Y ++ [y]) := by
  refine ⟨by rw [List.length_append, h.len]; rfl, fun z hz => ?_, fun i z hz => ?_⟩
  · rcases List.mem_append.mp hz with a | a
    · exact h.at_ z a
    · rw [List.mem_singleton.mp a]
      exact ⟨h1, h2⟩
  · rw [List.getElem?_append] at hz
    split at hz
    · exact h.lv i z hz
    · rename_i q
      have l := h.len
      cases e : i - Y.length with
      | zero =>
        rw [e] at hz
        obtain rfl := Option.some.inj hz
        have : i = n := by omega
        subst this
        exact ⟨h3, h4, h5⟩
      | succ m =>
        rw [e] at hz
        cases hz
section
variable {P : Program} {w : World} {K : PySem.W.Frag} {mg : Str → Option Value} {base : Heap}
def spLLayers : Sp := fun vs H Q _ => ∃ k n : Nat, vs = [.int (k : Int), .int (n : Int)] ∧ 2 ≤ k ∧ k ≤ 6 ∧ n ≤ 6 ∧ ∀ (a : Addr) (Y : List LRow) H', Ex H H' → H' a = some (.lst (refY Y)) → Lays H' k (n + 1) Y → H a = none → (∀ y ∈ Y, H y.1 = none) → Q (.ref a) H'
theorem ok_llayers (T : Txt K mg) {f : Addr} {fd : FuncData} (D : DefAt K mg "_law_layers" sLLayers ["_law_k", "_law_most"] f fd) : FnOk P w K mg base CX0 3 f fd ["_law_k", "_law_most"] spLLayers := by
  refine D.F.ok scLLayers (fun vs H Q E h => ?_) (fun cdv A outer s₀ H vs Q E hr h => ?_)
  · obtain ⟨k, n, rfl, _⟩ := h
    rfl
  · obtain ⟨k, n, rfl, k2, k6, n6, q⟩ := h
    obtain ⟨f1, fd1, D1⟩ := T.d_l_rests_up
    obtain ⟨f2, fd2, D2⟩ := T.d_l_behind
    have hr1 : Room 1 _ := hr.mono (by decide)
    have hr2 : Room 2 _ := hr.mono (by decide)
    have hu1 := Nat.lt_of_le_of_lt (Nat.add_le_add_left (show 1 ≤ 64 by decide) _) hr.units
    have hu2 := Nat.lt_of_le_of_lt (Nat.add_le_add_left (show 2 ≤ 64 by decide) _) hr.units
    refine ⟨_, pss_cons (ps_set (i := 2) scLLayers.nd rfl (.inl rfl) (pe_lst (pa_cons (pe_lst (pa_cons (pe_tup pa_nil) pa_nil)) pa_nil)))
      (pss_cons (ps_for PassesOwn.never rfl (pi_range1 (by rfl) T.z_range (pa_cons (pv 1) pa_nil)) (pg_name (i := 3) scLLayers.nd rfl (.inl rfl))
        (pss_cons (ps_set (i := 4) scLLayers.nd rfl (.inl rfl) pe_dnewT)
      (pss_cons (ps_for PassesOwn.never rfl (pi_list (pe_ix ix_list (pv 2) (pe_un un_neg pe_int) (fun _ _ => rfl))) (pg_name (i := 5) scLLayers.nd rfl (.inl rfl))
        (pss_one (ps_for PassesOwn.never rfl (pi_list (pe_callB (call_sortedDI rfl) (by rfl) T.z_sorted (by decide +kernel) (pa_cons (pe_call (ok_rests_up T D1) hr1 (by rfl) D1.g D1.F.kp D1.b .nil pass0 (pa_cons (pv 5) (pa_cons (pv 0) pa_nil))) pa_nil))) (pg_name (i := 6) scLLayers.nd rfl (.inl rfl))
        (pss_one (ps_dput hu1 (pv 4) (pe_call (ok_lbehind T D2) hr2 (by rfl) D2.g D2.F.kp D2.b .nil pass0 (pa_cons (pv 5) (pa_cons (pv 0) (pa_cons (pv 6) pa_nil)))) pe_bl rfl)))))
      (pss_one (ps_expr (pe_bm PySem.F.plainAttrs_list PySem.F.slot_list_append PySem.F.type_list_append mt_append (pv 2) (pa_cons (pe_callB (SO.cr_sortedDO rfl hu2) (by rfl) T.z_sorted (by decide +kernel) (pa_cons (pv 4) pa_nil)) pa_nil)))))))
      (pss_one (ps_ret (pv 2)))), ?_⟩
    refine ⟨by show 0 ≤ sizeLine; decide, fun t0 nt0 => ⟨by show 1 ≤ sizeLine; decide, fun b0 nb0 => ⟨by show 1 ≤ sizeLine; decide, fun a na => ?_⟩⟩⟩
    have e1 := Ex.new (o := .tup []) nt0
    have e2 := Ex.new (o := .lst [.ref t0]) nb0
    have e3 := Ex.new (o := .lst [.ref b0]) na
    have a0 := (e2.trans e3) _ _ (upd_same (H := H) (a := t0) (o := .tup []))
    have h0 := e3 _ _ (upd_same (H := upd H t0 (.tup [])) (a := b0) (o := .lst [.ref t0]))
    have ha : (upd (upd (upd H t0 (.tup [])) b0 (.lst [.ref t0])) a (.lst [.ref b0])) a = some (.lst [.ref b0]) := upd_same
    have aH : H a = none := fresh_back (e1.trans e2) na
    have e4 := e1.trans (e2.trans e3)
    have ba : b0 ≠ a := ne_of_none upd_same na
    have bH : H b0 = none := fresh_back e1 nb0
    clear nt0 nb0 na e1 e2 e3
    generalize upd (upd (upd H t0 (.tup [])) b0 (.lst [.ref t0])) a (.lst [.ref b0]) = H1 at *
    have start : Lays H1 k 1 [(b0, [(t0, [])])] := by
      refine ⟨rfl, fun y hy => ?_, fun i y hy => ?_⟩
      · rw [List.mem_singleton.mp hy]
        exact ⟨h0, fun x hx => by rw [List.mem_singleton.mp hx]; exact a0⟩
      · cases i with
        | zero =>
          obtain rfl := Option.some.inj hy
          exact ⟨LvS.zero k2, List.pairwise_singleton _ _, Nat.le_refl _⟩
        | succ i => cases hy
    refine ⟨_, rfl, _, rfl, by omega, by omega, for_range (lo := 0) (n := (n : Int).toNat) (fun i σ' H' => ∃ (Y : List LRow) (y3 y4 y5 y6 : Option V), σ' = [some (.int (k : Int)), some (.int (n : Int)), some (.ref a), y3, y4, y5, y6] ∧ H' a = some (.lst (refY Y)) ∧ Lays H' k (i + 1) Y ∧ (∀ y ∈ Y, y.1 ≠ a ∧ H y.1 = none) ∧ Ex H H')
      ⟨[(b0, [(t0, [])])], none, none, none, none, rfl, ha, start, fun y hy => by rw [List.mem_singleton.mp hy]; exact ⟨ba, bH⟩, e4⟩ (fun i σ' H' hi hW => ?_) (fun σ' H' hW => ?_)⟩
    · obtain ⟨Y0, y3, y4, y5, y6, rfl, w1, w2, w9, w8⟩ := hW
      have hi' : i < n := by omega
      have p5 : 6 ^ i ≤ 6 ^ 5 := Nat.pow_le_pow_right (by decide) (by omega)
      have p5' : 6 ^ 5 = 7776 := by decide
      intro d hd
      have ed := Ex.new (o := .dT []) hd
      have w1 := ed _ _ w1
      have w2 := w2.ex ed
      have dH : H d = none := fresh_back w8 hd
      have w8 := w8.trans ed
      have hdd : (upd H' d (.dT [])) d = some (.dT (kvW [])) := upd_same
      generalize upd H' d (.dT []) = H2 at *
      obtain ⟨y, hy⟩ : ∃ y, Y0[i]? = some y := ⟨_, List.getElem?_eq_getElem (show i < Y0.length by rw [w2.len]; omega)⟩
      have ym := List.mem_of_getElem? hy
      obtain ⟨w3, w4⟩ := w2.at_ y ym
      obtain ⟨w5, w6, w7⟩ := w2.lv i y hy
      obtain ⟨b, M⟩ := y
      refine ⟨_, rfl, _, rfl, a, _, -1, _, rfl, rfl, SqL.of w1, at_last (n := i) (by unfold refY; rw [List.length_map, w2.len]) (by unfold refY; rw [List.getElem?_map, hy]; rfl), b, rfl, ⟨_, SqL.of w3⟩, ?_⟩
      have nda : a ≠ d := ne_of w1 hdd (by intro z; cases z)
      have ndb : b ≠ d := ne_of w3 hdd (by intro z; cases z)
      have keepH : ∀ {H' : Hp}, Keep d H2 H' → HsAt H' M := fun kk x hx => kk _ _ (ne_of (w4 x hx) hdd (by intro z; cases z)) (w4 x hx)
      have keepY : ∀ {H' : Hp}, Keep d H2 H' → Lays H' k (i + 1) Y0 := fun kk => ⟨w2.len, fun y hy => ⟨kk _ _ (ne_of (w2.at_ y hy).1 hdd (by intro z; cases z)) (w2.at_ y hy).1, fun x hx => kk _ _ (ne_of ((w2.at_ y hy).2 x hx) hdd (by intro z; cases z)) ((w2.at_ y hy).2 x hx)⟩, w2.lv⟩
      refine for_list (K := K) (a := b) (xs := refH M) (fun j σ' H' => ∃ (ks : List (List Nat)) (y3 y5 y6 : Option V), σ' = [some (.int (k : Int)), some (.int (n : Int)), some (.ref a), y3, some (.ref d), y5, y6] ∧ H' d = some (.dT (kvW ks)) ∧ ks.Nodup ∧ (∀ A, A ∈ ks ↔ ∃ h ∈ (hps M).take j, ∃ q : Nat, q < k ∧ step k h q ≠ h ∧ A = step k h q) ∧ ks.length ≤ 6 * j ∧ Keep d H2 H' ∧ Ex H H')
        ⟨[], _, y5, y6, rfl, hdd, List.nodup_nil, fun A => by simp, Nat.le_refl _, Keep.refl _ _, w8⟩ (fun j σ' H' _ hW => ?_) (fun j v σ' H' hv' hW => ?_) (fun σ' H' hW => ?_)
      · obtain ⟨ks, z3, z5, z6, rfl, v1, v2, v3, v4, v5, v6⟩ := hW
        exact SqL.of (v5 _ _ ndb w3)
      · obtain ⟨ks, z3, z5, z6, rfl, v1, v2, v3, v4, v5, v6⟩ := hW
        obtain ⟨x, hx, rfl⟩ := refH_get hv'
        have xm := List.mem_of_getElem? hx
        have jl := (List.getElem?_eq_some_iff.mp hx).1
        obtain ⟨Ix, Cx, Lx⟩ := (w5.mem x.2).mp (List.mem_map.mpr ⟨x, xm, rfl⟩)
        have sm := core_small k2 Ix Cx
        have hx3 := keepH v5 x xm
        refine ⟨_, rfl, _, rfl, (k : Int), x.1, x.2, rfl, hx3, by omega, by omega, fun al Ls H5 e5 ha5 u => ?_⟩
        have up := up_keys (show 0 < (k : Int) by omega) Ix u
        have ul := u.len
        refine ⟨al, _, Ls.map (·.1), rfl, .inl ha5, ?_, ?_, fun zs pa pm2 _ hpa => ?_⟩
        · unfold kvU
          rw [List.map_map, List.map_map]
          rfl
        · rw [List.length_map]
          omega
        have ep := Ex.new (o := .lst (zs.map V.int)) hpa
        have gp' : (upd H5 pa (.lst (zs.map V.int))) pa = some (.lst (zs.map V.int)) := upd_same
        have e56 := e5.trans ep
        have v1 := e56 _ _ v1
        have v5 := v5.trans (Keep.ex e56)
        have v6 := v6.trans e56
        have hx6 := keepH v5 x xm
        have npd : pa ≠ d := ne_of gp' v1 (by intro z; cases z)
        clear up ul
        have up := up_keys (show 0 < (k : Int) by omega) Ix u
        clear u e5 ep ha5 hpa
        generalize upd H5 pa (.lst (zs.map V.int)) = H6 at *
        have zp : zs.Perm (upL x.2 k) := pm2.trans up
        have zk : ∀ z ∈ zs, ∃ q : Nat, z = (q : Int) ∧ q < k ∧ step k x.2 q ≠ x.2 := fun z hz => by
          obtain ⟨a1, a2, a3⟩ := (mem_upL z).mp (zp.mem_iff.mp hz)
          exact ⟨z.toNat, by omega, by omega, by rw [Int.toNat_of_nonneg a1]; exact a3⟩
        have z6' : zs.length ≤ 6 := by
          rw [zp.length_eq]
          have : (upL x.2 k).length ≤ ((List.range (k : Int).toNat).map fun (i : Nat) => (i : Int)).length := List.length_filter_le _ _
          rw [List.length_map, List.length_range] at this
          omega
        refine ⟨pa, rfl, ⟨_, SqL.of gp'⟩, for_list (K := K) (a := pa) (xs := zs.map V.int) (fun t σ3 H3 => ∃ (ks : List (List Nat)) (y3 y6 : Option V), σ3 = [some (.int (k : Int)), some (.int (n : Int)), some (.ref a), y3, some (.ref d), some (.ref x.1), y6] ∧ H3 d = some (.dT (kvW ks)) ∧ ks.Nodup ∧ (∀ A, A ∈ ks ↔ (∃ h ∈ (hps M).take j, ∃ q : Nat, q < k ∧ step k h q ≠ h ∧ A = step k h q) ∨ ∃ z ∈ zs.take t, A = step k x.2 z) ∧ ks.length ≤ 6 * j + t ∧ Keep d H6 H3 ∧ Keep d H2 H3 ∧ Ex H H3)
          ⟨ks, _, z6, rfl, v1, v2, fun A => by rw [v3]; simp, v4, Keep.refl _ _, v5, v6⟩ (fun t σ3 H3 _ hW => ?_) (fun t v σ3 H3 hv' hW => ?_) (fun σ3 H3 hW => ?_)⟩
        · obtain ⟨_, _, _, _, _, _, _, _, u5, _⟩ := hW
          exact SqL.of (u5 _ _ npd gp')
        · clear v1 v2 v3 v4 v5 v6
          obtain ⟨ks, z3, z6, rfl, v1, v2, v3, v4, u5, v5, v6⟩ := hW
          obtain ⟨ht, z, hz, rfl⟩ := int_inv hv'
          have hx7 := keepH v5 x xm
          obtain ⟨q0, rfl, hq, ne⟩ := zk z (List.mem_of_getElem? hz)
          refine ⟨_, rfl, _, rfl, _, rfl, _, rfl, (k : Int), (q0 : Int), x.1, x.2, rfl, hx7, Ix, by omega, by omega, fun r H8 e8 hr8 => ?_⟩
          have v1 := e8 _ _ v1
          obtain ⟨ks', p1, p2, p3, p4⟩ := putW2 ks (step k x.2 q0)
          refine ⟨d, _, rfl, .inr ⟨kvW ks, keyW (step k x.2 q0), r, v1, rfl, by rw [keyW_hv]; exact hr8, ?_, rfl⟩, ks', _, _, rfl, by rw [upd_same, p1], p4 v2, fun A => ?_, by omega, (u5.trans (Keep.ex e8)).trans Keep.dice, (v5.trans (Keep.ex e8)).trans Keep.dice, Ex.mut (v6.trans e8) dH⟩
          · unfold kvW
            rw [List.length_map]
            have w7' : M.length ≤ 6 ^ i := w7
            exact big6 (by omega)
          · have tk : zs.take (t + 1) = zs.take t ++ [(q0 : Int)] := by rw [List.take_succ, hz]; rfl
            rw [p2, v3, tk]
            constructor
            · rintro ((h | ⟨q, h1, h2⟩) | h)
              · exact .inl h
              · exact .inr ⟨q, List.mem_append_left _ h1, h2⟩
              · exact .inr ⟨q0, List.mem_append_right _ (List.mem_singleton.mpr rfl), h⟩
            · rintro (h | ⟨q, h1, h2⟩)
              · exact .inl (.inl h)
              · rcases List.mem_append.mp h1 with z | z
                · exact .inl (.inr ⟨q, z, h2⟩)
                · rw [List.mem_singleton.mp z] at h2
                  exact .inr h2
        · clear v1 v2 v3 v4 v5 v6
          obtain ⟨ks, z3, z6, rfl, v1, v2, v3, v4, u5, v5, v6⟩ := hW
          rw [List.length_map] at v3 v4
          rw [List.take_length] at v3
          refine ⟨ks, _, _, _, rfl, v1, v2, fun A => ?_, by omega, v5, v6⟩
          rw [v3, hps_take M j x hx]
          constructor
          · rintro (⟨h, hh, h2⟩ | ⟨z, hz, rfl⟩)
            · exact ⟨h, List.mem_append_left _ hh, h2⟩
            · obtain ⟨q0, rfl, hq, ne⟩ := zk z hz
              exact ⟨x.2, List.mem_append_right _ (List.mem_singleton.mpr rfl), q0, hq, ne, rfl⟩
          · rintro ⟨h, hh, q0, h2, h3, h4⟩
            rcases List.mem_append.mp hh with z | z
            · exact .inl ⟨h, z, q0, h2, h3, h4⟩
            · rw [List.mem_singleton.mp z] at h3 h4
              exact .inr ⟨q0, zp.mem_iff.mpr ((mem_upL _).mpr ⟨by omega, by omega, h3⟩), h4⟩
      · obtain ⟨ks, z3, z5, z6, rfl, v1, v2, v3, v4, v5, v6⟩ := hW
        rw [refH_len] at v3 v4
        rw [List.take_of_length_le (by rw [hps_len]; exact Nat.le_refl _)] at v3
        have ha3 := v5 _ _ nda w1
        have Y3 := keepY v5
        refine ⟨_, rfl, .inl ⟨rfl, _, SqL.of ha3⟩, _, rfl, ?_⟩
        dsimp only [tNil]
        refine sortD v1 fun M2 p hM2 pM2 sM2 np => ?_
        have xp := Ex.new (o := .lst (refH M2)) np
        have l1 : M2.length = ks.length := by
          have := pM2.length_eq
          rw [hps_len] at this
          exact this
        have lv2 : LvS k (i + 1) (hps M2) := w5.next k2 (pM2.nodup_iff.mpr v2) fun A => by rw [pM2.mem_iff, v3]
        have Y4 := (Y3.ex xp).snoc (y := (p, M2)) upd_same (hM2.ex xp) lv2 sM2 (by
          have w7' : M.length ≤ 6 ^ i := w7
          rw [Nat.pow_succ]
          show M2.length ≤ _
          omega)
        refine ⟨a, _, _, rfl, rfl, xp _ _ ha3, ?_, Y0 ++ [(p, M2)], _, _, _, _, rfl, ?_, ?_, ?_, Ex.mut (v6.trans xp) aH⟩
        · unfold refY
          rw [List.length_map, w2.len]
          exact small1000 (by omega)
        · rw [upd_same]
          unfold refY
          rw [List.map_append]
          rfl
        · exact ⟨Y4.len, fun y hy => ⟨by
            rw [upd_ne ?_]
            · exact (Y4.at_ y hy).1
            · rcases List.mem_append.mp hy with h | h
              · exact (w9 y h).1
              · rw [List.mem_singleton.mp h]
                exact (ne_of_none ha3 np).symm, (Y4.at_ y hy).2.mut (xp _ _ ha3)⟩, Y4.lv⟩
        · intro y hy
          rcases List.mem_append.mp hy with h | h
          · exact w9 y h
          · rw [List.mem_singleton.mp h]
            exact ⟨(ne_of_none ha3 np).symm, fresh_back v6 np⟩
    · obtain ⟨Y0, y3, y4, y5, y6, rfl, w1, w2, w9, w8⟩ := hW
      rw [Int.toNat_natCast] at w2
      exact ⟨_, rfl, q a Y0 H' w8 w1 w2 aH fun y hy => (w9 y hy).2⟩
end
end K1

set_option exponentiation.threshold 400
namespace K1
open PySem PySem.Spec PyProof.Rows L2 Evl HM LX ZW TE
def IsLvl (k n : Nat) (l : List (List Nat)) : Prop := LvS k n l ∧ l.Pairwise fun x y => HT.lexLt (intsH y) (intsH x) = false
theorem srt_hps {M : List HRow} (h : SrtH M) : (hps M).Pairwise fun x y => HT.lexLt (intsH y) (intsH x) = false := List.pairwise_map.mpr h
theorem srt_uniqH {l m : List (List Nat)} (h1 : l.Pairwise fun x y => HT.lexLt (intsH y) (intsH x) = false) (h2 : m.Pairwise fun x y => HT.lexLt (intsH y) (intsH x) = false) (p : l.Perm m) : l = m := by
  have e := SO.srt_uniq (l := l.map intsH) (m := m.map intsH) (List.pairwise_map.mpr h1) (List.pairwise_map.mpr h2) (p.map _)
  have := congrArg (List.map (List.map Int.toNat)) e
  rw [List.map_map, List.map_map, show (List.map Int.toNat) ∘ intsH = id from funext intsH_back, List.map_id, List.map_id] at this
  exact this
theorem lvl_uniq {k n : Nat} (k2 : 2 ≤ k) {M : List HRow} (h1 : SrtH M) (p : (hps M).Perm ((cps (n + 1) (k - 1) n).map (cw k))) {l : List (List Nat)} (h : IsLvl k n l) : hps M = l :=
  srt_uniqH (srt_hps h1) h.2 (p.trans (h.1.perm k2))
theorem hAt_rep {c r i : Nat} : hAt (List.replicate c r) i = if i < c then r else 0 := by
  unfold hAt
  rw [List.getD_eq_getElem?_getD, List.getElem?_replicate]
  split <;> rfl
theorem rep_heap {c r : Nat} (r1 : 1 ≤ r) : IsHeap (List.replicate c r) := by
  refine ⟨fun i hi => ?_, fun i => ?_⟩
  · rw [List.length_replicate] at hi
    rw [hAt_rep, if_pos hi]
    omega
  · rw [hAt_rep, hAt_rep]
    split <;> split <;> omega
theorem box_sub {c r : Nat} (c1 : 1 ≤ c) {h : List Nat} (IH : IsHeap h) : hb c r h = true ↔ sub (List.replicate c r) h := by
  unfold hb
  rw [decide_eq_true_iff]
  constructor
  · intro z i
    rw [hAt_rep]
    split
    · have := IH.le (show i ≤ c - 1 by omega)
      omega
    · exact Nat.zero_le _
  · intro z
    have := z (c - 1)
    rw [hAt_rep, if_pos (by omega)] at this
    exact this
theorem scn_snoc (p : List Nat → Bool) (l : List (List Nat)) (h : List Nat) : scn p [] (l ++ [h]) = if p h = true ∧ ¬ ((scn p [] l).any fun o => subB o h) = true then scn p [] l ++ [h] else scn p [] l := scn_app p l [h] []
/-- the least ones of all levels up to n -/
def lst (c r : Nat) (ls : Nat → List (List Nat)) : List (List Nat) := scn (hb c r) [] ((List.range (c * r + 1)).flatMap ls)
theorem rng_succ (ls : Nat → List (List Nat)) (n : Nat) : (List.range (n + 1)).flatMap ls = (List.range n).flatMap ls ++ ls n := by
  rw [List.range_succ, List.flatMap_append]
  simp
theorem scn_good {k : Nat} (k2 : 2 ≤ k) {p : List Nat → Bool} {ls : Nat → List (List Nat)} {N : Nat} (N6 : N ≤ 7) (hl : ∀ n, n < N → IsLvl k n (ls n)) {l : List (List Nat)} (sub' : ∀ x ∈ l, ∃ n, n < N ∧ x ∈ ls n) {x : List Nat} (hx : x ∈ scn p [] l) : p x = true ∧ ∃ n, n < N ∧ Good x ∧ coreB x (k : Int) ∧ lts x (k : Int) = (n : Int) ∧ x.length ≤ 20 := by
  rcases scn_mem p l [] x hx with z | ⟨z1, z2⟩
  · cases z
  · obtain ⟨n, hn, hx⟩ := sub' x z1
    obtain ⟨a, b, c, d, e⟩ := (hl n hn).1.good k2 (by omega) hx
    exact ⟨z2, n, hn, a, b, c, by omega⟩
theorem scn_low {k c r : Nat} (k2 : 2 ≤ k) (k6 : k ≤ 6) (hbx : (c, r) ∈ boxes) {ls : Nat → List (List Nat)} (hl : ∀ n, n ≤ c * r → IsLvl k n (ls n)) : scn (hb c r) [] ((List.range (lf k c r)).flatMap ls) = [] := by
  have le : lf k c r ≤ c * r := (lf_least k (by omega) k2 _ hbx).2.2
  refine scn_none _ _ _ fun h hh => ?_
  obtain ⟨n, hn, hx⟩ := List.mem_flatMap.mp hh
  have hn := List.mem_range.mp hn
  obtain ⟨s, hs, rfl⟩ := List.mem_map.mp (((hl n (by omega)).1.perm k2).mem_iff.mpr hx)
  exact lf_below k (by omega) k2 _ hbx n hn s hs
theorem refY_get {Y : List LRow} {i : Nat} {v : V} (h : (refY Y)[i]? = some v) : ∃ y, Y[i]? = some y ∧ v = V.ref y.1 := by
  unfold refY at h
  rw [List.getElem?_map] at h
  cases e : Y[i]? with
  | none => rw [e] at h; cases h
  | some x => rw [e] at h; exact ⟨x, rfl, (Option.some.inj h).symm⟩
theorem take_snocH {L : List HRow} {j : Nat} {x : HRow} (h : L[j]? = some x) : (hps L).take (j + 1) = (hps L).take j ++ [x.2] := hps_take L j x h
section
variable {P : Program} {w : World} {K : PySem.W.Frag} {mg : Str → Option Value} {base : Heap}
def spLLeast : Sp := fun vs H Q _ => ∃ (k c r : Nat) (t : Addr), vs = [.int (k : Int), .ref t, .int ((c * r : Nat) : Int)] ∧ HeapAt H t (List.replicate c r) ∧ 2 ≤ k ∧ k ≤ 6 ∧ (c, r) ∈ boxes ∧ ∀ (a : Addr) (M : List HRow) (ls : Nat → List (List Nat)) H', Ex H H' → H' a = some (.lst (refH M)) → HsAt H' M → SrtH M → (hps M).Perm (lst c r ls) → (∀ n, n ≤ c * r → IsLvl k n (ls n)) → M.length ≤ 1000000 → Q (.ref a) H'
theorem ok_lleast (T : Txt K mg) {f : Addr} {fd : FuncData} (D : DefAt K mg "_law_least" sLLeast ["_law_k", "_law_whole", "_law_most"] f fd) : FnOk P w K mg base CX0 4 f fd ["_law_k", "_law_whole", "_law_most"] spLLeast := by
  refine D.F.ok scLLeast (fun vs H Q E h => ?_) (fun cdv A outer s₀ H vs Q E hr h => ?_)
  · obtain ⟨k, c, r, t, rfl, _⟩ := h
    rfl
  · obtain ⟨k, c, r, t, rfl, hw, k2, k6, hbx, q⟩ := h
    obtain ⟨c1, c3, r1, r3, cr⟩ := box_small hbx
    obtain ⟨f1, fd1, D1⟩ := T.d_l_layers
    obtain ⟨f2, fd2, D2⟩ := T.d_l_holds
    have hr3 : Room 3 _ := hr.mono (by decide)
    have hr1 : Room 1 _ := hr.mono (by decide)
    have hu2 := Nat.lt_of_le_of_lt (Nat.add_le_add_left (show 2 ≤ 64 by decide) _) hr.units
    refine ⟨_, pss_cons (ps_set (i := 3) scLLeast.nd rfl (.inl rfl) (pe_lst pa_nil))
      (pss_cons (ps_for PassesOwn.never rfl (pi_list (pe_call (ok_llayers T D1) hr3 (by rfl) D1.g D1.F.kp D1.b .nil pass0 (pa_cons (pv 0) (pa_cons (pv 2) pa_nil)))) (pg_name (i := 4) scLLeast.nd rfl (.inl rfl))
        (pss_one (ps_for PassesOwn.never rfl (pi_list (pv 4)) (pg_name (i := 5) scLLeast.nd rfl (.inr rfl))
        (pss_one (ps_if (PW.pt (pw_and (pt_val (pe_call (ok_lholds T D2) hr1 (by rfl) D2.g D2.F.kp D2.b .nil pass0 (pa_cons (pv 5) (pa_cons (pv 1) pa_nil))))
          (pw_and1 (pt_cmpR (op_eqD hr.units) (pe_lc (own := [("_law_other", 6)]) (g := gName 6) rfl scLLeast.nd (pi_list (pv 3))
        (blkOk_by (N := nLLeast) (sc := defScope sLLeast) (by decide +kernel)) (fun _ _ _ _ _ => (pg_name (i := 6) scLLeast.nd rfl (.inl rfl))) (fun _ _ _ _ _ => pts_one (pt_val (pe_call (ok_lholds T D2) hr1 (by rfl) D2.g D2.F.kp D2.b .nil pass0 (pa_cons (pv 5) (pa_cons (pv 6) pa_nil)))))
        (fun _ _ _ _ _ => pe_int)) (pe_lst pa_nil) (nomark _))))) (pss_one (ps_expr (pe_bm PySem.F.plainAttrs_list PySem.F.slot_list_append PySem.F.type_list_append mt_append (pv 3) (pa_cons (pv 5) pa_nil)))) pss_nil)))))
      (pss_one (ps_ret (pe_callB (SO.cr_sortedTO hu2) (by rfl) T.z_sorted (by decide +kernel) (pa_cons (pv 3) pa_nil))))), ?_⟩
    refine ⟨by show 0 ≤ sizeLine; decide, fun g ng => ?_⟩
    have xg := Ex.new (o := .lst []) ng
    have hg0 : (upd H g (.lst [])) g = some (.lst (refH [])) := upd_same
    generalize upd H g (.lst []) = H1 at *
    refine ⟨_, rfl, _, rfl, k, c * r, rfl, k2, k6, cr, fun a Y H2 e2 ha hY na nY => ?_⟩
    obtain ⟨ls, hls⟩ : ∃ ls : Nat → List (List Nat), ls = fun n => hps (Y.getD n (0, [])).2 := ⟨_, rfl⟩
    have lsAt : ∀ (i : Nat) (y : LRow), Y[i]? = some y → ls i = hps y.2 := fun i y hy => by
      rw [hls]
      show hps (Y.getD i (0, [])).2 = _
      rw [List.getD_eq_getElem?_getD, hy]
      rfl
    have lvl : ∀ n, n ≤ c * r → IsLvl k n (ls n) := fun n hn => by
      have hy : Y[n]? = some (Y[n]'(by rw [hY.len]; omega)) := List.getElem?_eq_getElem _
      rw [lsAt n _ hy]
      obtain ⟨a1, a2, _⟩ := hY.lv n _ hy
      exact ⟨a1, srt_hps a2⟩
    have hw2 := (xg.trans e2) _ _ hw
    have hg2 := e2 _ _ hg0
    have xg2 := xg.trans e2
    have nag : a ≠ g := fun z => by rw [z, hg0] at na; cases na
    have nYg : ∀ y ∈ Y, y.1 ≠ g := fun y hy z => by have h1 := nY y hy; rw [z, hg0] at h1; cases h1
    refine ⟨a, rfl, ⟨_, SqL.of ha⟩, for_list (K := K) (a := a) (xs := refY Y) (fun i σ' H' => ∃ (F : List HRow) (y4 y5 : Option V), σ' = [some (.int (k : Int)), some (.ref t), some (.int ((c * r : Nat) : Int)), some (.ref g), y4, y5, none] ∧ H' g = some (.lst (refH F)) ∧ HsAt H' F ∧ hps F = scn (hb c r) [] ((List.range i).flatMap ls) ∧ F.length ≤ i * 46656 ∧ Keep g H2 H' ∧ Ex H H')
      ⟨[], _, none, rfl, hg2, fun x hx => absurd hx (by simp), rfl, Nat.zero_le _, Keep.refl _ _, xg2⟩ (fun i σ' H' _ hW => ?_) (fun i v σ' H' hv' hW => ?_) (fun σ' H' hW => ?_)⟩
    · obtain ⟨F, y4, y5, rfl, w1, w2, w3, w4, w5, w6⟩ := hW
      exact SqL.of (w5 _ _ nag ha)
    · obtain ⟨F, y4, y5, rfl, w1, w2, w3, w4, w5, w6⟩ := hW
      obtain ⟨y, hy, rfl⟩ := refY_get hv'
      have ym := List.mem_of_getElem? hy
      have li := (List.getElem?_eq_some_iff.mp hy).1
      rw [hY.len] at li
      obtain ⟨lv1, lv2, lv3⟩ := hY.lv i y hy
      obtain ⟨hb2, hM2⟩ := hY.at_ y ym
      have lsi := lsAt i y hy
      obtain ⟨b, M⟩ := y
      have nbg : b ≠ g := nYg _ ym
      have keepM : ∀ {H' : Hp}, Keep g H2 H' → HsAt H' M := fun kk x hx => kk _ _ (ne_of (hM2 x hx) hg2 (by intro z; cases z)) (hM2 x hx)
      have ml : M.length ≤ 46656 := by
        have h1 : M.length ≤ 6 ^ i := lv3
        have : 6 ^ i ≤ 6 ^ 6 := Nat.pow_le_pow_right (by decide) (by omega)
        have : 6 ^ 6 = 46656 := by decide
        omega
      refine ⟨_, rfl, b, rfl, ⟨_, SqL.of (w5 _ _ nbg hb2)⟩, for_list (K := K) (a := b) (xs := refH M) (fun j σ3 H3 => ∃ (F : List HRow) (y5 : Option V), σ3 = [some (.int (k : Int)), some (.ref t), some (.int ((c * r : Nat) : Int)), some (.ref g), some (.ref b), y5, none] ∧ H3 g = some (.lst (refH F)) ∧ HsAt H3 F ∧ hps F = scn (hb c r) [] ((List.range i).flatMap ls ++ (hps M).take j) ∧ F.length ≤ i * 46656 + j ∧ Keep g H2 H3 ∧ Ex H H3)
        ⟨F, y5, rfl, w1, w2, by rw [List.take_zero, List.append_nil]; exact w3, by omega, w5, w6⟩ (fun j σ3 H3 _ hW => ?_) (fun j v σ3 H3 hv' hW => ?_) (fun σ3 H3 hW => ?_)⟩
      · obtain ⟨F, z5, rfl, v1, v2, v3, v4, v5, v6⟩ := hW
        exact SqL.of (v5 _ _ nbg hb2)
      · clear w1 w2 w3 w4 w5 w6
        obtain ⟨F, z5, rfl, v1, v2, v3, v4, v5, v6⟩ := hW
        obtain ⟨x, hx, rfl⟩ := refH_get hv'
        have xm := List.mem_of_getElem? hx
        have jl := (List.getElem?_eq_some_iff.mp hx).1
        obtain ⟨G, Cx, Lx, l1, l2⟩ := lv1.good k2 (by omega) (List.mem_map.mpr ⟨x, xm, rfl⟩)
        have hx3 := keepM v5 x xm
        have hw3 := v5 _ _ (ne_of hw2 hg2 (by intro z; cases z)) hw2
        have F20 : ∀ o ∈ F, Good o.2 ∧ o.2.length ≤ 20 := fun o ho => by
          have : o.2 ∈ scn (hb c r) [] ((List.range i).flatMap ls ++ (hps M).take j) := by
            rw [← v3]
            exact List.mem_map.mpr ⟨o, ho, rfl⟩
          have inl : ∀ z ∈ (List.range i).flatMap ls ++ (hps M).take j, ∃ n, n < c * r + 1 ∧ z ∈ ls n := fun z hz => by
            rcases List.mem_append.mp hz with h | h
            · obtain ⟨n, hn, hz⟩ := List.mem_flatMap.mp h
              have hn := List.mem_range.mp hn
              exact ⟨n, by omega, hz⟩
            · exact ⟨i, by omega, by rw [lsi]; exact List.mem_of_mem_take h⟩
          obtain ⟨_, n, _, g1, _, _, g2⟩ := scn_good (N := c * r + 1) k2 (by omega) (fun n hn => lvl n (by omega)) inl this
          exact ⟨g1, g2⟩
        have tk := take_snocH hx
        have next : ∀ F' : List HRow, hps F' = (if hb c r x.2 = true ∧ ¬ ((hps F).any fun o => subB o x.2) = true then hps F ++ [x.2] else hps F) → hps F' = scn (hb c r) [] ((List.range i).flatMap ls ++ (hps M).take (j + 1)) := fun F' h => by
          rw [tk, ← List.append_assoc, scn_snoc, ← v3]
          exact h
        refine ⟨_, rfl, _, rfl, x.1, t, x.2, List.replicate c r, rfl, hx3, hw3, rep_heap r1, by rw [List.length_replicate]; omega, by omega, fun b1 H4 e4 hb1 => ⟨b1, rfl, ?_⟩⟩
        have bh : hb c r x.2 = b1 := by
          rw [Bool.eq_iff_iff, box_sub c1 G.heap, hb1]
        cases b1 with
        | false =>
          refine iteF' rfl (iteF' rfl ⟨F, _, rfl, e4 _ _ v1, v2.ex e4, next F ?_, by omega, v5.trans (Keep.ex e4), v6.trans e4⟩)
          rw [if_neg (fun z => by rw [bh] at z; exact absurd z.1 (by decide))]
        | true =>
          refine iteT' rfl ?_
          have v1 := e4 _ _ v1
          have v2 := v2.ex e4
          have hx3 := e4 _ _ hx3
          refine ⟨_, rfl, g, rfl, ⟨_, SqL.of v1⟩, fun Dl hD => ?_⟩
          refine lc_list (K := K) (a := g) (xs := refH F) (fun t H' => H' Dl = some (.lst (((((hps F).take t).filter fun o => subB o x.2).map fun _ => (1 : Int)).map V.int)) ∧ Ex H4 H') ⟨upd_same, Ex.new hD⟩ (fun t H' _ hp5 => SqL.of (hp5.2 _ _ v1)) (fun t v H' ho0 hp5 => ?_) (fun H5 hp5 => ?_)
          · obtain ⟨u1, u2⟩ := hp5
            obtain ⟨o, ho, rfl⟩ := refH_get ho0
            have om := List.mem_of_getElem? ho
            have tl := (List.getElem?_eq_some_iff.mp ho).1
            obtain ⟨Go, lo⟩ := F20 o om
            refine ⟨rfl, _, rfl, _, rfl, x.1, o.1, x.2, o.2, rfl, u2 _ _ hx3, u2 _ _ (v2 o om), Go.heap, by omega, by omega, fun b2 H6 e6 hb2' => ⟨b2, rfl, ?_⟩⟩
            have bs : subB o.2 x.2 = b2 := by rw [Bool.eq_iff_iff, subB_iff, hb2']
            cases b2 with
            | true =>
              refine iteT' rfl ?_
              refine ⟨_, e6 _ _ u1, ?_, ?_, Ex.mut (u2.trans e6) hD⟩
              · rw [List.length_map, List.length_map]
                have a1 := List.length_filter_le (fun o => subB o x.2) ((hps F).take t)
                rw [List.length_take, hps_len] at a1
                exact big6 (by omega)
              · rw [upd_same, take_snocH ho, List.filter_append, List.filter_cons, if_pos bs, List.filter_nil, List.map_append, List.map_append]
                rfl
            | false =>
              refine iteF' rfl ⟨?_, u2.trans e6⟩
              rw [take_snocH ho, List.filter_append, List.filter_cons, if_neg (by rw [bs]; decide), List.filter_nil, List.append_nil]
              exact e6 _ _ u1
          · obtain ⟨u1, u2⟩ := hp5
            rw [refH_len, List.take_of_length_le (by rw [hps_len]; exact Nat.le_refl _)] at u1
            refine ⟨by show 0 ≤ sizeLine; decide, fun e he => ?_⟩
            have xe := Ex.new (o := .lst []) he
            refine CI.eqL (l' := []) (xe _ _ u1) upd_same ⟨_, rfl, ?_⟩
            have ee := u2.trans xe
            have v1 := ee _ _ v1
            have v2 := v2.ex ee
            have hx3 := ee _ _ hx3
            have v5 := (v5.trans (Keep.ex e4)).trans (Keep.ex ee)
            have v6 := (v6.trans e4).trans ee
            generalize upd H5 e (.lst []) = H7 at *
            have iff : (((hps F).filter fun o => subB o x.2).map (fun _ => (1 : Int)) = []) ↔ ¬ ((hps F).any fun o => subB o x.2) = true := by
              rw [List.map_eq_nil_iff, List.filter_eq_nil_iff, List.any_eq_true]
              exact ⟨fun h ⟨o, h1, h2⟩ => h o h1 h2, fun h o h1 h2 => h ⟨o, h1, h2⟩⟩
            by_cases an : ((hps F).any fun o => subB o x.2) = true
            · refine iteF' (decide_eq_false fun z => iff.mp z an) ⟨F, _, rfl, v1, v2, next F ?_, by omega, v5, v6⟩
              rw [if_neg (fun z => z.2 an)]
            · refine iteT' (decide_eq_true (iff.mpr an)) ?_
              refine ⟨_, rfl, .inl ⟨rfl, _, SqL.of v1⟩, _, rfl, g, _, _, rfl, rfl, v1, ?_, F ++ [x], _, rfl, ?_, ?_, next _ ?_, ?_, v5.trans keep_lock, Ex.mut v6 ng⟩
              · rw [refH_len]
                have : i * 46656 ≤ 6 * 46656 := Nat.mul_le_mul_right _ (by omega)
                exact big6 (by omega)
              · rw [upd_same]
                unfold refH
                rw [List.map_append]
                rfl
              · refine HsAt.mut v1 fun z hz => ?_
                rcases List.mem_append.mp hz with h | h
                · exact v2 z h
                · rw [List.mem_singleton.mp h]
                  exact hx3
              · rw [if_pos ⟨bh, an⟩]
                unfold hps
                rw [List.map_append]
                rfl
              · rw [List.length_append]
                show F.length + 1 ≤ _
                omega
      · clear w1 w2 w3 w4 w5 w6
        obtain ⟨F, z5, rfl, v1, v2, v3, v4, v5, v6⟩ := hW
        rw [refH_len] at v3 v4
        rw [List.take_of_length_le (by rw [hps_len]; exact Nat.le_refl _)] at v3
        refine ⟨F, _, _, rfl, v1, v2, ?_, by omega, v5, v6⟩
        rw [rng_succ, lsi]
        exact v3
    · obtain ⟨F, y4, y5, rfl, w1, w2, w3, w4, w5, w6⟩ := hW
      have ly : (refY Y).length = c * r + 1 := by
        unfold refY
        rw [List.length_map, hY.len]
      rw [ly] at w3 w4
      refine ⟨_, rfl, sortH (SqL.of w1) w2 fun M p pm st hp => ?_⟩
      have xp := Ex.new (o := .lst (refH M)) hp
      refine q p M ls _ (w6.trans xp) upd_same (fun x hx => (w2.ex xp) x (pm.mem_iff.mp hx)) st ?_ lvl ?_
      · refine (pm.map _).trans ?_
        show (hps F).Perm _
        rw [w3]
        exact .refl _
      · rw [pm.length_eq]
        have : (c * r + 1) * 46656 ≤ 7 * 46656 := Nat.mul_le_mul_right _ (by omega)
        omega
end
end K1

set_option exponentiation.threshold 400
namespace K1
open PySem PySem.Spec PyProof.Rows L2 Evl HM LX ZW TE
def BB : Nat := 1048576
theorem BB_eq : BB = 1048576 := rfl
section
variable {P : Program} {w : World} {K : PySem.W.Frag} {mg : Str → Option Value} {base : Heap}
def spLeastCores (K : PySem.W.Frag) : Sp := fun vs H Q _ => ∃ (k c r : Nat) (ls : Nat → List (List Nat)), vs = [.int (k : Int), .int (c : Int), .int (r : Int)] ∧ 2 ≤ k ∧ k ≤ 6 ∧ (c, r) ∈ boxes ∧ (∀ n, n ≤ c * r → IsLvl k n (ls n)) ∧ ∀ (a : Addr) (M : List HRow) H', Ex H H' → H' a = some (.tup (refH M)) → HsAt H' M → SrtH M → (hps M).Perm (lst c r ls) → Q (.ref a) H'
theorem ok_least_cores (T : Txt K mg) {f : Addr} {fd : FuncData} (D : DefAt K mg "least_cores" sLeastCores ["k", "columns", "rows"] f fd) : FnOk P w K mg base CX0 6 f fd ["k", "columns", "rows"] (spLeastCores K) := by
  refine D.F.ok scLeastCores (fun vs H Q E h => ?_) (fun cdv A outer s₀ H vs Q E hr h => ?_)
  · obtain ⟨k, c, r, ls, rfl, _⟩ := h
    rfl
  · obtain ⟨k, c, r, ls, rfl, k2, k6, hbx, lvl, q⟩ := h
    obtain ⟨c1, c3, r1, r3, cr⟩ := box_small hbx
    obtain ⟨f1, fd1, D1⟩ := T.d_letters_for
    obtain ⟨f2, fd2, D2⟩ := T.d_cores_with_letters
    obtain ⟨f3, fd3, D3⟩ := T.d_holds
    obtain ⟨f4, fd4, D4⟩ := T.d_has_box
    obtain ⟨f5, fd5, D5⟩ := T.d_check_boxed
    have hr1 : Room 1 _ := hr.mono (by decide)
    have hr2 : Room 2 _ := hr.mono (by decide)
    have hr4 : Room 4 _ := hr.mono (by decide)
    have hr5 : Room 5 _ := hr.mono (by decide)
    have hu2 := Nat.lt_of_le_of_lt (Nat.add_le_add_left (show 2 ≤ 64 by decide) _) hr.units
    refine ⟨_, pss_cons (ps_expr (pe_call (ok_check_boxed T D5) hr5 (by rfl) D5.g D5.F.kp D5.b .nil pass0 (pa_cons (pv 0) (pa_cons (pv 1) (pa_cons (pv 2) pa_nil)))))
      (pss_cons (ps_set (i := 3) scLeastCores.nd rfl (.inl rfl) (pe_lst pa_nil))
      (pss_cons (ps_for PassesOwn.never rfl (pi_range2 (by rfl) T.z_range (pa_cons (pe_call (ok_letters_for T D1) hr1 (by rfl) D1.g D1.F.kp D1.b .nil pass0 (pa_cons (pv 0) (pa_cons (pv 1) (pa_cons (pv 2) pa_nil)))) (pa_cons (pe_op op_add (pe_op op_mul (pv 1) (pv 2)) pe_int) pa_nil))) (pg_name (i := 4) scLeastCores.nd rfl (.inl rfl))
        (pss_one (ps_for PassesOwn.never rfl (pi_list (pe_call (ok_cores_with_letters T D2) hr4 (by rfl) D2.g D2.F.kp D2.b .nil pass0 (pa_cons (pv 0) (pa_cons (pv 4) pa_nil)))) (pg_name (i := 5) scLeastCores.nd rfl (.inr rfl))
        (pss_one (ps_if (PW.pt (pw_and (pt_val (pe_call (ok_has_box T D4) hr2 (by rfl) D4.g D4.F.kp D4.b .nil pass0 (pa_cons (pv 5) (pa_cons (pv 1) (pa_cons (pv 2) pa_nil)))))
          (pw_and1 (pt_not (pt_val (pe_callB (cr_any rfl) (by rfl) T.z_any (by decide +kernel) (pa_cons (pe_lc (own := [("other", 6)]) (g := gName 6) (tt := tYes) rfl scLeastCores.nd (pi_list (pv 3))
        (blkOk_by (N := nLeastCores) (sc := defScope sLeastCores) (by decide +kernel)) (fun _ _ _ _ _ => (pg_name (i := 6) scLeastCores.nd rfl (.inl rfl))) (fun _ _ _ _ _ => pts_nil)
        (fun _ _ _ _ _ => (pe_call (ok_holds T D3) hr2 (by rfl) D3.g D3.F.kp D3.b .nil pass0 (pa_cons (pv 5) (pa_cons (pv 6) pa_nil))))) pa_nil))))))) (pss_one (ps_expr (pe_bm PySem.F.plainAttrs_list PySem.F.slot_list_append PySem.F.type_list_append mt_append (pv 3) (pa_cons (pv 5) pa_nil)))) pss_nil)))))
      (pss_one (ps_ret (pe_callTy call_tuple_of (by rfl) T.z_tuple (by decide +kernel) (pa_cons (pe_callB (SO.cr_sortedTO hu2) (by rfl) T.z_sorted (by decide +kernel) (pa_cons (pv 3) pa_nil)) pa_nil)))))), ?_⟩
    have lf1 : lf k c r ≤ c * r := (lf_least k (by omega) k2 _ hbx).2.2
    refine ⟨_, rfl, _, rfl, _, rfl, k, c, r, rfl, k2, by omega, hbx, fun H0 e0 => ?_⟩
    refine ⟨by show 0 ≤ sizeLine; decide, fun g ng => ?_⟩
    have xg := Ex.new (o := .lst []) ng
    have hg0 : (upd H0 g (.lst [])) g = some (.lst (refH [])) := upd_same
    have gH : H g = none := fresh_back e0 ng
    have xg := e0.trans xg
    clear ng e0
    generalize upd H0 g (.lst []) = H1 at *
    refine ⟨_, rfl, _, rfl, _, rfl, k, c, r, rfl, k2, k6, hbx, fun H2 e2 => ?_⟩
    have hg2 := e2 _ _ hg0
    have xg2 := xg.trans e2
    refine ⟨_, rfl, _, rfl, _, _, rfl, rfl, .inl ⟨by omega, by omega⟩, _, _, rfl, rfl, _, _, rfl, ?_, ?_⟩
    · have : (c : Int) * (r : Int) = ((c * r : Nat) : Int) := by simp
      rw [this]
      exact ⟨by omega, by omega, by omega, by omega⟩
    refine for_range (lo := ((lf k c r : Nat) : Int)) (n := ((c : Int) * (r : Int) + 1 - ((lf k c r : Nat) : Int)).toNat) (fun i σ' H' => ∃ (F : List HRow) (y4 y5 : Option V), σ' = [some (.int (k : Int)), some (.int (c : Int)), some (.int (r : Int)), some (.ref g), y4, y5, none] ∧ H' g = some (.lst (refH F)) ∧ HsAt H' F ∧ hps F = scn (hb c r) [] ((List.range (lf k c r + i)).flatMap ls) ∧ F.length ≤ i * BB ∧ Ex H H')
      ⟨[], none, none, rfl, hg2, fun x hx => absurd hx (by simp), (scn_low k2 k6 hbx lvl).symm, Nat.zero_le _, xg2⟩ (fun i σ' H' hi hW => ?_) (fun σ' H' hW => ?_)
    · obtain ⟨F, y4, y5, rfl, w1, w2, w3, w4, w6⟩ := hW
      have hi' : lf k c r + i ≤ c * r := by
        have : (c : Int) * (r : Int) = ((c * r : Nat) : Int) := by simp
        rw [this] at hi
        omega
      refine ⟨_, rfl, _, rfl, k, lf k c r + i, rfl, k2, by omega, by omega, fun b M H5 e5 hb5 hM5 pM sM lM nb => ?_⟩
      have eM : hps M = ls (lf k c r + i) := lvl_uniq k2 sM pM (lvl _ hi')
      obtain ⟨lv1, lv2⟩ := lvl _ hi'
      rw [← eM] at lv1
      have nbg : b ≠ g := fun z => by rw [z, w1] at nb; cases nb
      have w1 := e5 _ _ w1
      have w2 := w2.ex e5
      have w6 := w6.trans e5
      have keepM : ∀ {H' : Hp}, Keep g H5 H' → HsAt H' M := fun kk x hx => kk _ _ (ne_of (hM5 x hx) w1 (by intro z; cases z)) (hM5 x hx)
      have p20 : 2 ^ (lf k c r + i) ≤ 1048576 := pow20 (by omega)
      have sB : (i + 1) * BB = i * BB + 1048576 := by rw [Nat.succ_mul, BB_eq]
      refine ⟨b, rfl, ⟨_, SqL.of hb5⟩, for_list (K := K) (a := b) (xs := refH M) (fun j σ3 H3 => ∃ (F : List HRow) (y4 y5 : Option V), σ3 = [some (.int (k : Int)), some (.int (c : Int)), some (.int (r : Int)), some (.ref g), y4, y5, none] ∧ H3 g = some (.lst (refH F)) ∧ HsAt H3 F ∧ hps F = scn (hb c r) [] ((List.range (lf k c r + i)).flatMap ls ++ (hps M).take j) ∧ F.length ≤ i * BB + j ∧ Keep g H5 H3 ∧ Ex H H3)
        ⟨F, _, y5, rfl, w1, w2, by rw [List.take_zero, List.append_nil]; exact w3, by omega, Keep.refl _ _, w6⟩ (fun j σ3 H3 _ hW => ?_) (fun j v σ3 H3 hv' hW => ?_) (fun σ3 H3 hW => ?_)⟩
      · obtain ⟨F, z4, z5, rfl, v1, v2, v3, v4, v5, v6⟩ := hW
        exact SqL.of (v5 _ _ nbg hb5)
      · clear w1 w2 w3 w4 w6
        obtain ⟨F, z4, z5, rfl, v1, v2, v3, v4, v5, v6⟩ := hW
        obtain ⟨x, hx, rfl⟩ := refH_get hv'
        have xm := List.mem_of_getElem? hx
        have jl := (List.getElem?_eq_some_iff.mp hx).1
        obtain ⟨G, Cx, Lx, l1, l2⟩ := lv1.good k2 (by omega) (List.mem_map.mpr ⟨x, xm, rfl⟩)
        have hx3 := keepM v5 x xm
        have F20 : ∀ o ∈ F, Good o.2 ∧ o.2.length ≤ 20 := fun o ho => by
          have : o.2 ∈ scn (hb c r) [] ((List.range (lf k c r + i)).flatMap ls ++ (hps M).take j) := by
            rw [← v3]
            exact List.mem_map.mpr ⟨o, ho, rfl⟩
          have inl : ∀ z ∈ (List.range (lf k c r + i)).flatMap ls ++ (hps M).take j, ∃ n, n < c * r + 1 ∧ z ∈ ls n := fun z hz => by
            rcases List.mem_append.mp hz with h | h
            · obtain ⟨n, hn, hz⟩ := List.mem_flatMap.mp h
              have hn := List.mem_range.mp hn
              exact ⟨n, by omega, hz⟩
            · exact ⟨lf k c r + i, by omega, by rw [← eM]; exact List.mem_of_mem_take h⟩
          obtain ⟨_, n, _, g1, _, _, g2⟩ := scn_good (N := c * r + 1) k2 (by omega) (fun n hn => lvl n (by omega)) inl this
          exact ⟨g1, g2⟩
        have tk := take_snocH hx
        have next : ∀ F' : List HRow, hps F' = (if hb c r x.2 = true ∧ ¬ ((hps F).any fun o => subB o x.2) = true then hps F ++ [x.2] else hps F) → hps F' = scn (hb c r) [] ((List.range (lf k c r + i)).flatMap ls ++ (hps M).take (j + 1)) := fun F' h => by
          rw [tk, ← List.append_assoc, scn_snoc, ← v3]
          exact h
        have Fl : F.length ≤ 7340032 := by
          have : i * BB ≤ 6 * 1048576 := Nat.mul_le_mul_right _ (by omega)
          omega
        refine ⟨_, rfl, _, rfl, _, rfl, x.1, x.2, c - 1, (r : Int), by rw [show ((c - 1 : Nat) : Int) + 1 = (c : Int) by omega]; rfl, hx3, by omega, fun H4 e4 => ⟨_, rfl, ?_⟩⟩
        have hbE : hb c r x.2 = decide ((r : Int) ≤ (hAt x.2 (c - 1) : Int)) := decide_eq_decide.mpr (by omega)
        rw [← hbE]
        cases bh : hb c r x.2 with
        | false =>
          refine iteF' rfl (iteF' rfl ⟨F, _, _, rfl, e4 _ _ v1, v2.ex e4, next F ?_, by omega, v5.trans (Keep.ex e4), v6.trans e4⟩)
          rw [if_neg (fun z => by rw [bh] at z; exact absurd z.1 (by decide))]
        | true =>
          refine iteT' rfl ?_
          have v1 := e4 _ _ v1
          have v2 := v2.ex e4
          have hx3 := e4 _ _ hx3
          refine ⟨_, rfl, g, rfl, ⟨_, SqL.of v1⟩, fun Dl hD => ?_⟩
          refine lc_list (K := K) (a := g) (xs := refH F) (fun t H' => H' Dl = some (.lst ((((hps F).take t).map fun o => subB o x.2).map V.bl)) ∧ Ex H4 H') ⟨upd_same, Ex.new hD⟩ (fun t H' _ hp5 => SqL.of (hp5.2 _ _ v1)) (fun t v H' ho0 hp5 => ?_) (fun H5' hp5 => ?_)
          · obtain ⟨u1, u2⟩ := hp5
            obtain ⟨o, ho, rfl⟩ := refH_get ho0
            have om := List.mem_of_getElem? ho
            have tl := (List.getElem?_eq_some_iff.mp ho).1
            obtain ⟨Go, lo⟩ := F20 o om
            refine ⟨rfl, ?_⟩
            dsimp only [tYes]
            rw [if_pos rfl]
            refine ⟨_, rfl, _, rfl, x.1, o.1, x.2, o.2, rfl, u2 _ _ hx3, u2 _ _ (v2 o om), G, Go, fun b2 H6 hb2' e6 => ?_⟩
            have bs : subB o.2 x.2 = b2 := by rw [Bool.eq_iff_iff, subB_iff, hb2']; exact Iff.rfl
            refine ⟨_, e6 _ _ u1, ?_, ?_, Ex.mut (u2.trans e6) hD⟩
            · rw [List.length_map, List.length_map, List.length_take, hps_len]
              exact big6 (by omega)
            · rw [upd_same, take_snocH ho, List.map_append, List.map_append, ← bs]
              rfl
          · obtain ⟨u1, u2⟩ := hp5
            rw [refH_len, List.take_of_length_le (by rw [hps_len]; exact Nat.le_refl _)] at u1
            have anyE : ((((hps F).map fun o => subB o x.2)).any id) = (hps F).any fun o => subB o x.2 := by
              rw [List.any_map]
              rfl
            refine ⟨Dl, _, rfl, SqL.of u1, _, rfl, ?_⟩
            rw [anyE]
            have ee := u2
            have v1 := ee _ _ v1
            have v2 := v2.ex ee
            have hx3 := ee _ _ hx3
            have v5 := (v5.trans (Keep.ex e4)).trans (Keep.ex ee)
            have v6 := (v6.trans e4).trans ee
            by_cases an : ((hps F).any fun o => subB o x.2) = true
            · rw [an]
              refine iteF' rfl ⟨F, _, _, rfl, v1, v2, next F ?_, by omega, v5, v6⟩
              rw [if_neg (fun z => z.2 an)]
            · rw [Bool.eq_false_iff.mpr an]
              refine iteT' rfl ?_
              refine ⟨_, rfl, .inl ⟨rfl, _, SqL.of v1⟩, _, rfl, g, _, _, rfl, rfl, v1, ?_, F ++ [x], _, _, rfl, ?_, ?_, next _ ?_, ?_, v5.trans keep_lock, Ex.mut v6 gH⟩
              · rw [refH_len]
                exact big6 (by omega)
              · rw [upd_same]
                unfold refH
                rw [List.map_append]
                rfl
              · refine HsAt.mut v1 fun z hz => ?_
                rcases List.mem_append.mp hz with h | h
                · exact v2 z h
                · rw [List.mem_singleton.mp h]
                  exact hx3
              · rw [if_pos ⟨bh, an⟩]
                unfold hps
                rw [List.map_append]
                rfl
              · rw [List.length_append]
                show F.length + 1 ≤ _
                omega
      · clear w1 w2 w3 w4 w6
        obtain ⟨F, z4, z5, rfl, v1, v2, v3, v4, v5, v6⟩ := hW
        rw [refH_len] at v3 v4
        rw [List.take_of_length_le (by rw [hps_len]; exact Nat.le_refl _)] at v3
        refine ⟨F, _, _, rfl, v1, v2, ?_, by omega, v6⟩
        rw [← Nat.add_assoc, rng_succ, ← eM]
        exact v3
    · obtain ⟨F, y4, y5, rfl, w1, w2, w3, w4, w6⟩ := hW
      have e1 : lf k c r + ((c : Int) * (r : Int) + 1 - ((lf k c r : Nat) : Int)).toNat = c * r + 1 := by
        have : (c : Int) * (r : Int) = ((c * r : Nat) : Int) := by simp
        rw [this]
        omega
      rw [e1] at w3
      refine ⟨_, rfl, ?_⟩
      dsimp only [tNil]
      refine sortH (SqL.of w1) w2 fun M p pm st hp => ?_
      have xp := Ex.new (o := .lst (refH M)) hp
      refine ⟨p, _, rfl, .inl ⟨SqL.of upd_same, fun p2 np2 => ?_⟩⟩
      have x2 := Ex.new (o := .tup (refH M)) np2
      refine q p2 M _ ((w6.trans xp).trans x2) upd_same (fun x hx => (w2.ex (xp.trans x2)) x (pm.mem_iff.mp hx)) st ?_
      refine (pm.map _).trans ?_
      show (hps F).Perm _
      rw [w3]
      exact .refl _
end
end K1

/-! own rule: a tuple times an int from 1 on, by what stands afterwards -/
namespace RT
open PySem PySem.Spec PyProof.Rows L2 Evl
theorem tuple_mul1 (l : Addr) (items : Array Value) (n : Nat) (dd : Option Addr) (sl : Array (Option Value)) (u : Tok) :
    Meets (Builtin.«tuple.__mul__» ⟨[.ref l, .int 1 u], []⟩) (fun _ R s => s.heap.get? l = some { cls := .type "tuple", dict := dd, data := .seq items n, slots := sl } ∧ R (.ok (.ret (Value.ref l))) s) :=
  .of_wp fun prog w A R s h => by
    obtain ⟨hp, g, d, tk, os⟩ := s
    obtain ⟨hl, h⟩ := h
    have f1 := AutoSeq1.idx_int
    have c0 : (decide ((1 : Int) < -(2 ^ 63)) || decide ((1 : Int) ≥ 2 ^ 63)) = false := by decide
    have c1 : (items.isEmpty || (1 : Int) == 1) = true := by simp
    wp_walk using wpAny_loadPart' hl
    repeat (first
      | (refine wpAny_ite_false (decide_eq_false (by rw [c0]; exact Bool.false_ne_true)) ?_; wp_walk using wpAny_loadPart' hl)
      | (refine wpAny_ite_true (decide_eq_true (by rw [c1])) ?_; wp_walk using wpAny_loadPart' hl))
    exact ⟨_, rfl, h⟩
section
variable {X : Cx}
def rRepE : R2 := fun x y H Q => ∃ l k xs, x = .ref l ∧ y = .int k ∧ H l = some (.tup xs) ∧ xs ≠ [] ∧ 1 ≤ k ∧ k ≤ 1000 ∧ xs.length ≤ 1000 ∧ ∀ p H', Ex H H' → H' p = some (.tup (List.replicate k.toNat xs).flatten) → Q (.ref p) H'
theorem op_repE : OpR X (binaryOp .Mult) rRepE := by
  intro pins s σ H x y v u Q I rx ry h
  obtain ⟨l, k, xs, rfl, rfl, hT, hne, h1, h2, hz, q⟩ := h
  by_cases hk : k = 1
  · subst hk
    cases rx
    obtain ⟨t, rfl⟩ := ry
    obtain ⟨its, r, ⟨⟨cls, dd, data, sl⟩, ho, hc, n, hd⟩, hs⟩ := I.tuple (SqT.of hT)
    simp only at hc hd
    subst hc hd
    refine wpAny_binaryOp_repeat_ref (T := "tuple") (U := "int") (by decide) ⟨_, ho, rfl⟩ (fun s' => typeIs_int s' 1 t) noFill_tuple_mul F.fills_int_mul F.slot_int_rmul repeat_tuple F.slot_int_index.lookup
      (call_meets F.slot_int_rmul (typeIs_int s 1 t) F.entry_int_rmul (F.args_int_rmul_2 _ _) (int_rmul_tuple 1 t l its.toArray n dd sl)
        ⟨ho, rfl, ⟨_, ho, rfl⟩, call_meets F.slot_tuple_mul ⟨_, ho, rfl⟩ F.entry_tuple_mul (F.args_tuple_mul_2 _ _) (tuple_mul1 l its.toArray n dd sl t) ⟨ho, ?_⟩⟩)
    refine ⟨.ref l, H, I, rfl, q l H (Ex.refl _) ?_⟩
    rw [hT]
    simp
  · exact op_repT pins s σ H _ _ v u Q I rx ry ⟨l, k, xs, rfl, rfl, SqT.of hT, hne, by omega, h2, hz, fun p hp => q p _ (Ex.new hp) upd_same⟩
end
end RT

/-! own rules: t[::-1] of a tuple -/
namespace RV
open PySem PySem.Spec PyProof.Rows HT
section
variable {prog : Program} {w : World} {A : Around} {E : Value → Shared → Prop} {s : Shared}
theorem adjust_rev (n : Nat) : Builtin.Slice.sliceAdjust none none (-1) (n : Int) = ((n : Int) - 1, -1) := rfl
theorem places_rev (n : Nat) : Builtin.Slice.slicePlaces ((n : Int) - 1) (-1) (-1) = n := by
  unfold Builtin.Slice.slicePlaces
  have h1 : ¬ (-1 : Int) > 0 := by omega
  simp only [h1, if_false]
  split
  · rw [show (- -1 : Int) = 1 by decide, Int.ediv_one]
    omega
  · omega
theorem pick_rev (xs : Array Value) : ((List.range xs.size).filterMap fun (m : Nat) => xs[(((xs.size : Int) - 1) + (m : Int) * (-1)).toNat]?).toArray = xs.toList.reverse.toArray := by
  have e : (List.range xs.size).filterMap (fun (m : Nat) => xs[(((xs.size : Int) - 1) + (m : Int) * (-1)).toNat]?) = ((List.range xs.size).map fun k => xs.size - 1 - k).filterMap (xs[·]?) := by
    rw [List.filterMap_map]
    congr 1
    funext m
    show xs[(((xs.size : Int) - 1) + (m : Int) * (-1)).toNat]? = xs[xs.size - 1 - m]?
    rw [show (((xs.size : Int) - 1) + (m : Int) * (-1)).toNat = xs.size - 1 - m by omega]
  rw [e, PySem.W.krv_range, List.filterMap_reverse, PySem.W.krv_all]
theorem sliceApplied_rev {sl : Addr} {vl vu vs : Value} {n : Nat} {Q : Int × Int × Nat → Shared → Prop} (hs : s.heap.IsSliceOf sl vl vu vs) (pl : IsPart vl none) (pu : IsPart vu none) (ps : IsPart vs (some (-1)))
    (h : Q ((n : Int) - 1, -1, n) s) : wpAny (model prog w) A (Builtin.Slice.sliceApplied (.ref sl) (pure (n : Int))) Q E s := by
  obtain ⟨os, hos, hcs, hds⟩ := id hs
  unfold Builtin.Slice.sliceApplied Builtin.Slice.sliceFields
  refine wpAny_bind (wpAny_bind (wpAny_field hos hds (x := vl) rfl (wpAny_bind (wpAny_field hos hds (x := vu) rfl (wpAny_bind (wpAny_field hos hds (x := vs) rfl (wpAny_pure ?_)))))))
  refine wpAny_bind (slicePart_ ps ?_)
  show wpAny _ _ (if ((-1 : Int) == 0) = true then _ else _) _ _ s
  rw [if_neg (by decide)]
  refine wpAny_bind (slicePart_ pl (wpAny_bind (slicePart_ pu (wpAny_bind (wpAny_pure ?_)))))
  show wpAny _ _ (match Builtin.Slice.sliceAdjust none none (-1) (n : Int) with | (lo, hi) => pure (lo, (-1 : Int), Builtin.Slice.slicePlaces lo hi (-1))) _ _ s
  rw [adjust_rev]
  show wpAny _ _ (pure ((n : Int) - 1, (-1 : Int), Builtin.Slice.slicePlaces ((n : Int) - 1) (-1) (-1))) _ _ s
  rw [places_rev]
  exact wpAny_pure h
theorem getItem_tuple_rev {t sl : Addr} {items : Array Value} {vl vu vs : Value} {Q : Value → Shared → Prop} (ht : IsTup s.heap t items) (hs : s.heap.IsSliceOf sl vl vu vs) (pl : IsPart vl none) (pu : IsPart vu none) (ps : IsPart vs (some (-1)))
    (h : Q (.ref s.heap.objs.size) { s with heap := s.heap.push { cls := .type "tuple", data := .seq items.toList.reverse.toArray } })
    (hsz : items.size ≤ sizeLine) : wpAny (model prog w) A (getItem (.ref t) (.ref sl)) Q E s := by
  have htake : sizeOk (.seq items.toList.reverse.toArray) := by
    show items.toList.reverse.toArray.size ≤ sizeLine
    rw [List.size_toArray, List.length_reverse, Array.length_toList]
    exact hsz
  obtain ⟨os, hos, hcs, hds⟩ := id hs
  have hTs : s.TypeIs (.ref sl) "slice" := ⟨os, hos, hcs⟩
  unfold getItem
  try with_reducible refine wpAny_holding ?_
  first | refine wpAny_bind (wpAny_pure ?_) | skip
  refine wpAny_bind (wpAny_sequenceKey ht.typeIs (by decide) ?_)
  refine wpAny_bind (wpAny_callSpecial?_slot (name := Str.ofString "__getitem__") ht.typeIs PyProof.Rows.slot_tuple_getitem
    (wpAny_call_entry PyProof.Rows.slot_tuple_getitem ht.typeIs entry_tuple_getitem ?_ (args_tuple_getitem _ _)))
  show wpAny _ _ (Builtin.Tuple.tupleItemsOf (.ref t) >>= _) _ _ s
  refine wpAny_bind (tupleItemsOf_ ht ?_)
  refine wpAny_bind (wpAny_typeOf hTs ?_)
  rw [if_pos (by decide)]
  refine wpAny_bind (sliceApplied_rev hs pl pu ps ?_)
  have hno : ¬ ((((items.size : Int) - 1) == 0 && (-1 : Int) == 1 && items.size == items.size) = true) := by
    intro q
    rw [Bool.and_eq_true, Bool.and_eq_true] at q
    exact absurd q.1.2 (by decide)
  show wpAny _ _ (if (((items.size : Int) - 1) == 0 && (-1 : Int) == 1 && items.size == items.size) = true then _ else _) _ _ s
  rw [if_neg hno, pick_rev]
  first
    | exact wpAny_bind (m := Builtin.Tuple.tupleExact _) (wpAny_newObj_type (wpAny_pure ⟨_, rfl, wpAny_pure h⟩) htake)
    | exact wpAny_bind (m := Builtin.Tuple.tupleExact _) (wpAny_newObj_type (wpAny_bind (wpAny_pure (wpAny_pure ⟨_, rfl, wpAny_pure h⟩))) htake)
    | exact wpAny_bind (wpAny_bind (m := Builtin.Tuple.tupleExact _) (wpAny_newObj_type (wpAny_pure (wpAny_pure ⟨_, rfl, wpAny_pure h⟩)) htake))
    | exact wpAny_bind (wpAny_bind (m := Builtin.Tuple.tupleExact _) (wpAny_newObj_type (wpAny_pure ⟨_, rfl, wpAny_pure h⟩) htake))
end
end RV
namespace L2
open PySem PySem.Spec PyProof.Rows
section
variable {X : Cx}
def tRevT (K : PySem.W.Frag) (te : TE) : TE := fun σ H Q => te σ H fun x H1 => ∃ a xs, x = .ref a ∧ SqT K H1 a xs ∧ ∀ p, H1 p = none → Q (.ref p) (upd H1 p (.tup xs.reverse))
theorem pe_revT {e : Expr} {te : TE} {k : Nat} {p1 p2 p3 pos : Pos} (he : PE X e te) : PE X (.Subscript e (.Slice none none (some (.UnaryOp .USub (.Constant (.int 1) k p1) p2)) p3) pos) (tRevT X.K te) := by
  refine ⟨fun pins s σ H Q I h => ?_⟩
  refine Subscript_ (thn (he.run pins s σ H _ I h) fun v s1 ⟨x, H1, I1, r1, q1⟩ => ?_)
  obtain ⟨a, xs, ex, hx, q⟩ := q1
  subst ex
  cases r1
  have hst : PO X (some (.UnaryOp .USub (.Constant (.int 1) k p1) p2)) (tPart (tUn (rU fun i => .int (-i)) (tC (.int 1)))) := po_some (pe_un un_neg pe_int)
  refine wpAny_Slice (thn (po_none.run pins s1 σ H1 (fun o H2 => o = none ∧ H2 = H1) I1 ⟨rfl, rfl⟩) fun vl s2 ⟨l, H2, I2, pl, el, e2⟩ => ?_)
  subst el e2
  refine thn (po_none.run pins s2 σ H2 (fun o H3 => o = none ∧ H3 = H2) I2 ⟨rfl, rfl⟩) fun vu s3 ⟨u, H3, I3, pu, eu, e3⟩ => ?_
  subst eu e3
  refine thn (hst.run pins s3 σ H3 (fun o H4 => o = some (-1) ∧ H4 = H3) I3 ⟨1, rfl, -1, rfl, rfl, rfl⟩) fun vs s4 ⟨o, H4, I4, ps, eo, e4⟩ => ?_
  subst eo e4
  have I5 : Inv X pins σ H4 { s4 with heap := s4.heap.push { cls := .type "slice", data := .fields #[vl, vu, vs] } } := I4.kept (t' := s4.toks) fun b ob q => Heap.get?_push_of_some _ q
  obtain ⟨its, r, ht, hz⟩ := I5.tuple hx
  have hlen := r.length
  show wpAny (model X.prog X.w) X.A (subscriptTail e (.Slice none none (some (.UnaryOp .USub (.Constant (.int 1) k p1) p2)) p3) (.ref a) (.ref s4.heap.objs.size)) (EP X pins σ Q) X.xe { s4 with heap := s4.heap.push { cls := .type "slice", data := .fields #[vl, vu, vs] } }
  refine tail_any (ops := [.ref a, .ref s4.heap.objs.size]) ht.typeIs PyProof.Rows.slot_tuple_getitem.lookup ?_ (by with_unfolding_all rfl)
  refine RV.getItem_tuple_rev ht (Heap.IsSliceOf.new _ vl vu vs) pl pu ps ?_ (by rw [List.size_toArray]; omega)
  refine ⟨.ref _, _, I5.laid (t' := s4.toks) (o := .tup xs.reverse) (fun b ob q => Heap.get?_push_of_some _ q) (Nat.le_refl _) ?_, rfl, q _ (I5.hok.fresh (Nat.le_refl _))⟩
  exact ⟨by rw [List.length_reverse]; exact hz, _, r.reverse, IsTup.new _ _⟩
end
end L2

set_option exponentiation.threshold 400
namespace K1
open PySem PySem.Spec PyProof.Rows L2 Evl HM LX ZW TE
/-- a ring of the order k lets nothing, or the diagonals of one rest -/
theorem gl_ord {n s q : Int} {k : Nat} (hn : 2 ≤ n) (hs : 1 ≤ s) (ho : K1M.ord n.toNat s.natAbs = k) (hk : 2 ≤ k) : (∀ z : Int, ¬ (z * s - q) % n = 0) ∨ ∃ q', 0 ≤ q' ∧ q' < (k : Int) ∧ ∀ z : Int, (z * s - q) % n = 0 ↔ (z - q') % (k : Int) = 0 := by
  have dv : ∀ w : Int, n ∣ w * s ↔ (k : Int) ∣ w := fun w => by
    have h := K1M.dvd_iff (n := n.toNat) (s := s.natAbs) (i := w.natAbs) (by omega)
    have e : n.toNat / Nat.gcd n.toNat s.natAbs = k := ho
    rw [e] at h
    rw [← Int.natAbs_dvd_natAbs, Int.natAbs_mul, show n.natAbs = n.toNat by omega, ← Int.natAbs_dvd_natAbs, Int.natAbs_natCast, ← h]
    exact ⟨Nat.mod_eq_zero_of_dvd, Nat.dvd_of_mod_eq_zero⟩
  by_cases ex : ∃ z : Int, (z * s - q) % n = 0
  · obtain ⟨z0, h0⟩ := ex
    refine .inr ⟨z0 % (k : Int), Int.emod_nonneg _ (by omega), Int.emod_lt_of_pos _ (by omega), fun z => ?_⟩
    have d0 := Int.dvd_of_emod_eq_zero h0
    have e1 : (z * s - q) % n = 0 ↔ n ∣ (z - z0) * s := by
      constructor
      · intro h
        have := Int.dvd_sub (Int.dvd_of_emod_eq_zero h) d0
        rw [show z * s - q - (z0 * s - q) = (z - z0) * s by rw [Int.sub_mul]; omega] at this
        exact this
      · intro h
        have := Int.dvd_add h d0
        rw [show (z - z0) * s + (z0 * s - q) = z * s - q by rw [Int.sub_mul]; omega] at this
        exact Int.emod_eq_zero_of_dvd this
    rw [e1, dv]
    have e2 : z - z0 % (k : Int) = (z - z0) + (k : Int) * (z0 / k) := by
      have := Int.emod_add_mul_ediv z0 (k : Int)
      omega
    rw [e2, Int.add_mul_emod_self_left]
    exact ⟨Int.emod_eq_zero_of_dvd, Int.dvd_of_emod_eq_zero⟩
  · exact .inl fun z h => ex ⟨z, h⟩
theorem grow_none {h : List Nat} {g : Nat → Bool} (n : ∀ c, g c = false) : grow h g = h := by
  have e : g = fun _ => false := funext n
  subst e
  unfold grow
  rw [if_neg (show ¬ false = true by decide), List.append_nil]
  exact range_hAt h
theorem ring_core {h : List Nat} (IH : IsHeap h) {n s q : Int} {k : Nat} (hn : 2 ≤ n) (hs : 1 ≤ s) (ho : K1M.ord n.toNat s.natAbs = k) (hk : 2 ≤ k) (C : coreB h (k : Int)) : coreB (grow h (gl h n s q)) (k : Int) ∧ lts (grow h (gl h n s q)) (k : Int) ≤ lts h (k : Int) + 1 := by
  rcases gl_ord (q := q) hn hs ho hk with m | ⟨q', h0, h1, m⟩
  · rw [grow_none fun c => by
      unfold gl
      rw [decide_eq_false (m _), Bool.and_false]]
    exact ⟨C, by omega⟩
  · have hg : ∀ c, gl h n s q c = true ↔ (opn h c = true ∧ (dg h c - q') % (k : Int) = 0) := fun c => by
      unfold gl
      rw [Bool.and_eq_true_iff, decide_eq_true_eq, m]
    obtain ⟨a, b⟩ := letter_lts IH (by omega) h0 h1 C hg
    refine ⟨a, ?_⟩
    rw [b]
    split <;> omega
theorem hseq_core {H : Hp} {xs : List V} {rs : List (Int × Int)} (hR : RingsAt H 60 xs rs) (ps : List Int) {k : Nat} (hk : 2 ≤ k) (eq : Eqo rs xs.length k) : ∀ i, i ≤ xs.length → coreB (hseq rs ps i) (k : Int) ∧ lts (hseq rs ps i) (k : Int) ≤ (i : Int)
  | 0, _ => ⟨fun c hc => absurd hc (Nat.not_lt_zero c), Int.le_refl 0⟩
  | i + 1, hi => by
    obtain ⟨a, b⟩ := hseq_core hR ps hk eq i (by omega)
    obtain ⟨t, _, _, h2, _, h4, _⟩ := rings_nth4 hR (List.getElem?_eq_getElem (show i < xs.length by omega))
    have o := eq i (by omega)
    obtain ⟨c, d⟩ := ring_core (hseq_ok rs ps i).1 (q := ps.getD i 0) h2 h4 (by rw [Int.toNat_natCast]; exact o) hk a
    exact ⟨c, by
      have : lts (hseq rs ps (i + 1)) (k : Int) ≤ lts (hseq rs ps i) (k : Int) + 1 := d
      omega⟩
def scTurn : Scope := { kind := .function, names := [(".0", .local), ("_law_row", .cell), ("len", .globalImplicit), ("_law_heap_here", .free)], isGenerator := false, isCoroutine := false, more := [] }
section
variable {P : Program} {w : World} {K : PySem.W.Frag} {mg : Str → Option Value} {base : Heap}
def spBoundedParts (K : PySem.W.Frag) : Sp := fun vs H Q _ => ∃ k p h, vs = [.int k, .ref p] ∧ HeapAt H p h ∧ Good h ∧ 2 ≤ k ∧ k ≤ 60 ∧ coreB h k ∧ ∀ r H', Ex H H' → H' r = some (.tup ((ltL h k h.length).map V.int)) → Q (.ref r) H'
end
end K1

set_option exponentiation.threshold 400
namespace K1
open PySem PySem.Spec PyProof.Rows L2 Evl HM LX ZW TE
theorem pe_cut {X : Cx} {e : Expr} {t : TE} (h : PE X e t) : PE X e (fun σ H Q => ∃ Mid : VK, t σ H Mid ∧ ∀ v H', Mid v H' → Q v H') :=
  ⟨fun pins s σ H Q I ⟨Mid, h1, h2⟩ => wpAny_mono (h.run pins s σ H Mid I h1) (fun u s' ⟨v, H', a, b, c⟩ => ⟨v, H', a, b, h2 v H' c⟩) (fun _ _ e => e)⟩
theorem in_boxes {c r : Nat} (h1 : 1 ≤ c) (h2 : c ≤ 3) (h3 : 1 ≤ r) (h4 : r ≤ 3) (h5 : c = 3 → r ≤ 2) : (c, r) ∈ boxes := by
  have hc : c = 1 ∨ c = 2 ∨ c = 3 := by omega
  have hr : r = 1 ∨ r = 2 ∨ r = 3 := by omega
  rcases hc with rfl | rfl | rfl <;> rcases hr with rfl | rfl | rfl <;> first | decide | (exact absurd (h5 rfl) (by decide))
theorem flat_rep {α : Type} (v : α) : ∀ n : Nat, (List.replicate n [v]).flatten = List.replicate n v
  | 0 => rfl
  | n + 1 => by
    rw [List.replicate_succ, List.flatten_cons, flat_rep v n]
    rfl
theorem hv_rep (c r : Nat) : hv (List.replicate c r) = List.replicate c (V.int (r : Int)) := by
  unfold hv
  rw [List.map_replicate]
/-- what is known of the least ones -/
structure Due (k c r : Nat) (l : List (List Nat)) : Prop where
  good : ∀ h ∈ l, Good h ∧ coreB h (k : Int) ∧ h.length ≤ 20 ∧ ((lf k c r : Nat) : Int) ≤ lts h (k : Int) ∧ sub (List.replicate c r) h
  min : ∃ h ∈ l, lts h (k : Int) = ((lf k c r : Nat) : Int)
  all : ∀ B, IsHeap B → coreB B (k : Int) → sub (List.replicate c r) B → ∃ h ∈ l, sub h B
theorem due_lst {k c r : Nat} (k2 : 2 ≤ k) (k6 : k ≤ 6) (hbx : (c, r) ∈ boxes) {ls : Nat → List (List Nat)} (lvl : ∀ n, n ≤ c * r → IsLvl k n (ls n)) : Due k c r (lst c r ls) := by
  obtain ⟨c1, c3, r1, r3, cr⟩ := box_small hbx
  have le : lf k c r ≤ c * r := (lf_least k (by omega) k2 _ hbx).2.2
  have inl : ∀ z ∈ (List.range (c * r + 1)).flatMap ls, ∃ n, n < c * r + 1 ∧ z ∈ ls n := fun z hz => by
    obtain ⟨n, hn, hz⟩ := List.mem_flatMap.mp hz
    exact ⟨n, List.mem_range.mp hn, hz⟩
  refine ⟨fun h hh => ?_, ?_, fun B IB CB SB => ?_⟩
  · obtain ⟨pb, n, hn, g1, g2, g3, g4⟩ := scn_good (N := c * r + 1) k2 (by omega) (fun n hn => lvl n (by omega)) inl hh
    refine ⟨g1, g2, g4, ?_, (box_sub c1 g1.heap).mp pb⟩
    rcases Nat.lt_or_ge n (lf k c r) with z | z
    · exfalso
      have hx : h ∈ ls n := ((lvl n (by omega)).1.mem h).mpr ⟨g1.heap, g2, g3⟩
      obtain ⟨s, hs, rfl⟩ := List.mem_map.mp (((lvl n (by omega)).1.perm k2).mem_iff.mpr hx)
      have := lf_below k (by omega) k2 _ hbx n z s hs
      rw [show hb (c, r).1 (c, r).2 (cw k s) = hb c r (cw k s) from rfl, pb] at this
      cases this
    · omega
  · have split : (List.range (c * r + 1)).flatMap ls = (List.range (lf k c r)).flatMap ls ++ (ls (lf k c r) ++ ((List.range (c * r - lf k c r)).flatMap fun i => ls (lf k c r + 1 + i))) := by
      have e : List.range (c * r + 1) = List.range (lf k c r + 1 + (c * r - lf k c r)) := by rw [show lf k c r + 1 + (c * r - lf k c r) = c * r + 1 by omega]
      rw [e, List.range_add, List.flatMap_append, rng_succ, List.append_assoc, flatMap_mapL]
    obtain ⟨s, hs, pb⟩ := lf_at k (by omega) k2 _ hbx
    have hin : cw k s ∈ ls (lf k c r) := ((lvl _ le).1.perm k2).mem_iff.mp (List.mem_map.mpr ⟨s, hs, rfl⟩)
    obtain ⟨o, h1, h2⟩ := scn_first (hb c r) (ls (lf k c r)) ((List.range (c * r - lf k c r)).flatMap fun i => ls (lf k c r + 1 + i)) ⟨_, hin, pb⟩
    refine ⟨o, ?_, (((lvl _ le).1.mem o).mp h2).2.2⟩
    unfold lst
    rw [split, scn_app, scn_low k2 k6 hbx lvl]
    exact h1
  · obtain ⟨n, hn⟩ : ∃ n : Nat, lts B k = (n : Int) := ⟨(lts B k).toNat, by have := lts_pos (show (2 : Int) ≤ k by omega) IB CB; omega⟩
    obtain ⟨A, IA, CA, SA, LA, bA⟩ := least_ex (show (2 : Int) ≤ k by omega) c r n IB CB hn
    have hbA : hb c r A = true := decide_eq_true (by
      have := bA (c - 1) (by omega)
      have := SB (c - 1)
      rw [hAt_rep, if_pos (by omega)] at this
      omega)
    have lA := lts_pos (show (2 : Int) ≤ k by omega) IA CA
    have ub := bxs_all r B c
    obtain ⟨m, hm⟩ : ∃ m : Nat, lts A k = (m : Int) := ⟨(lts A k).toNat, by omega⟩
    have hin : A ∈ (List.range (c * r + 1)).flatMap ls := List.mem_flatMap.mpr ⟨m, List.mem_range.mpr (by omega), ((lvl m (by omega)).1.mem A).mpr ⟨IA, CA, hm⟩⟩
    obtain ⟨o, h1, h2⟩ := scn_has (hb c r) _ [] A hin hbA
    exact ⟨o, h1, sub_trans h2 SA⟩
end K1

set_option exponentiation.threshold 400
namespace K1
open PySem PySem.Spec PyProof.Rows L2 Evl HM LX ZW TE
theorem rings_keep {d : Addr} {H H' : Hp} {xs : List V} {rs : List (Int × Int)} (k : Keep d H H') (hd : Dice H d) (h : RingsAt H 60 xs rs) : RingsAt H' 60 xs rs := paired_imp (fun _ _ q => RingAt.keep k hd q) h
section
variable {P : Program} {w : World} {K : PySem.W.Frag} {mg : Str → Option Value} {base : Heap}
def spRight : Sp := fun vs H Q _ => ∃ (d : Addr), vs = [.ref d] ∧ Dice H d ∧ ∀ H', Dice H' d → Keep d H H' → Q (.bl true) H'
theorem ok_right (T : Txt K mg) {f : Addr} {fd : FuncData} (D : DefAt K mg "_law_right" sLRight ["_law_dice_here"] f fd) : FnOk P w K mg base CX0 7 f fd ["_law_dice_here"] spRight := by
  refine D.F.ok scLRight (fun vs H Q E h => ?_) (fun cdv A outer s₀ H vs Q E hr h => ?_)
  · obtain ⟨d, rfl, _⟩ := h
    rfl
  · obtain ⟨d, rfl, hd, kQ⟩ := h
    obtain ⟨f1, fd1, D1⟩ := T.d_l_holds
    obtain ⟨f2, fd2, D2⟩ := T.d_heap_of
    obtain ⟨f3, fd3, D3⟩ := T.d_l_tuple
    obtain ⟨f4, fd4, D4⟩ := T.d_l_equal_chain
    obtain ⟨f5, fd5, D5⟩ := T.d_l_roll
    obtain ⟨f6, fd6, D6⟩ := T.d_least_letters
    obtain ⟨f7, fd7, D7⟩ := T.d_letters_of
    obtain ⟨f8, fd8, D8⟩ := T.d_least_cores
    obtain ⟨f9, fd9, D9⟩ := T.d_l_least
    have hr1 : Room 1 _ := hr.mono (by decide)
    have hr2 : Room 2 _ := hr.mono (by decide)
    have hr4 : Room 4 _ := hr.mono (by decide)
    have hr6 : Room 6 _ := hr.mono (by decide)
    refine ⟨_, pss_cons (ps_asg (pe_tup (pa_cons (pe_op op_add pe_int (pe_call (ok_roll T D5) hr1 (by rfl) D5.g D5.F.kp D5.b .nil pass0 (pa_cons (pv 0) (pa_cons pe_int pa_nil)))) (pa_cons (pe_op op_add pe_int (pe_call (ok_roll T D5) hr1 (by rfl) D5.g D5.F.kp D5.b .nil pass0 (pa_cons (pv 0) (pa_cons pe_int pa_nil)))) pa_nil))) (pg_tup (by rfl) (pgs_cons (pg_name (i := 1) scLRight.nd rfl (.inr rfl)) (pgs_cons (pg_name (i := 2) scLRight.nd rfl (.inr rfl)) pgs_nil))))
      (pss_cons (ps_set (i := 3) scLRight.nd rfl (.inr rfl) (pe_op op_add pe_int (pe_call (ok_roll T D5) hr1 (by rfl) D5.g D5.F.kp D5.b .nil pass0 (pa_cons (pv 0) (pa_cons (pe_cut (pe_ifExp (pt_cmpR op_lt (pv 2) pe_int (nomark _)) pe_int pe_int)) pa_nil)))))
      (pss_cons (ps_set (i := 4) scLRight.nd rfl (.inl rfl) (pe_op RT.op_repE (pe_tup (pa_cons (pv 3) pa_nil)) (pv 2)))
      (pss_cons (ps_set (i := 5) scLRight.nd rfl (.inl rfl) (pe_call (ok_lleast T D9) hr4 (by rfl) D9.g D9.F.kp D9.b .nil pass0 (pa_cons (pv 1) (pa_cons (pv 4) (pa_cons (pe_op op_mul (pv 2) (pv 3)) pa_nil)))))
      (pss_cons (ps_if (pt_cmpR (op_neD hr.units) (pe_call (ok_least_cores T D8) hr6 (by rfl) D8.g D8.F.kp D8.b .nil pass0 (pa_cons (pv 1) (pa_cons (pv 2) (pa_cons (pv 3) pa_nil)))) (pe_callTy call_tuple_of (by rfl) T.z_tuple (by decide +kernel) (pa_cons (pv 5) pa_nil)) (nomark _)) (pss_one (ps_ret pe_bl)) pss_nil)
      (pss_cons (ps_set (i := 6) scLRight.nd rfl (.inl rfl) (pe_callB (cr_min rfl) (by rfl) T.z_min (by decide +kernel) (pa_cons (pe_lc (own := [("_law_core", 9)]) (g := gName 9) (tt := tYes) rfl scLRight.nd (pi_list (pv 5))
        (blkOk_by (N := nLRight) (sc := defScope sLRight) (by decide +kernel)) (fun _ _ _ _ _ => (pg_name (i := 9) scLRight.nd rfl (.inl rfl))) (fun _ _ _ _ _ => pts_nil)
        (fun _ _ _ _ _ => (pe_call (ok_letters_of T D7) hr6 (by rfl) D7.g D7.F.kp D7.b .nil pass0 (pa_cons (pv 1) (pa_cons (pv 9) pa_nil))))) pa_nil)))
      (pss_cons (ps_if (pt_cmpR op_ne (pe_call (ok_least_letters T D6) hr6 (by rfl) D6.g D6.F.kp D6.b .nil pass0 (pa_cons (pv 1) (pa_cons (pv 2) (pa_cons (pv 3) pa_nil)))) (pv 6) (nomark _)) (pss_one (ps_ret pe_bl)) pss_nil)
      (pss_cons (ps_if (pt_cmpR op_ne (pv 6) (pe_callB (cr_min rfl) (by rfl) T.z_min (by decide +kernel) (pa_cons (pe_lc (own := [("_law_l", 10)]) (g := gName 10) (tt := tYes) rfl scLRight.nd (pi_range1 (by rfl) T.z_range (pa_cons (pe_callB (call_min2 rfl) (by rfl) T.z_min (by decide +kernel) (pa_cons (pv 2) (pa_cons (pv 3) pa_nil))) pa_nil))
        (blkOk_by (N := nLRight) (sc := defScope sLRight) (by decide +kernel)) (fun _ _ _ _ _ => (pg_name (i := 10) scLRight.nd rfl (.inl rfl))) (fun _ _ _ _ _ => pts_nil)
        (fun _ _ _ _ _ => (pe_op op_add (pe_op op_mul (pe_op op_sub (pv 2) (pv 10)) (pe_op op_sub (pv 3) (pv 10))) (pe_op op_mul (pv 10) (pv 1))))) pa_nil)) (nomark _)) (pss_one (ps_ret pe_bl)) pss_nil)
      (pss_cons (ps_set (i := 7) scLRight.nd rfl (.inl rfl) (pe_call (ok_equal_chain T D4) hr4 (by rfl) D4.g D4.F.kp D4.b .nil pass0 (pa_cons (pv 0) (pa_cons (pe_op op_add pe_int (pe_call (ok_roll T D5) hr1 (by rfl) D5.g D5.F.kp D5.b .nil pass0 (pa_cons (pv 0) (pa_cons pe_int pa_nil)))) (pa_cons (pv 1) pa_nil)))))
      (pss_cons (ps_set (i := 8) scLRight.nd rfl (.inr rfl) (pe_call (ok_heap_of T D2) hr6 (by rfl) D2.g D2.F.kp D2.b .nil pass0 (pa_cons (pv 7) (pa_cons (pe_call (ok_tuple T D3) hr2 (by rfl) D3.g D3.F.kp D3.b .nil pass0 (pa_cons (pv 0) (pa_cons (pv 7) pa_nil))) pa_nil))))
      (pss_one (ps_ret (pe_cmpR op_eq (pe_call (ok_lholds T D1) hr1 (by rfl) D1.g D1.F.kp D1.b .nil pass0 (pa_cons (pv 8) (pa_cons (pv 4) pa_nil))) (pe_cmpR (op_neD hr.units) (pe_lc (own := [("_law_core", 9)]) (g := gName 9) rfl scLRight.nd (pi_list (pv 5))
        (blkOk_by (N := nLRight) (sc := defScope sLRight) (by decide +kernel)) (fun _ _ _ _ _ => (pg_name (i := 9) scLRight.nd rfl (.inl rfl))) (fun _ _ _ _ _ => pts_one (pt_val (pe_call (ok_lholds T D1) hr1 (by rfl) D1.g D1.F.kp D1.b .nil pass0 (pa_cons (pv 8) (pa_cons (pv 9) pa_nil)))))
        (fun _ _ _ _ _ => pe_int)) (pe_lst pa_nil) (nomark _)) (nomark _))))))))))))), ?_⟩
    refine ⟨_, rfl, d, _, rfl, hd, by decide, by decide, fun r0 H1 r1 r2 hd1 k1 => ⟨_, _, rfl, rfl, ?_⟩⟩
    obtain ⟨k, hk⟩ : ∃ k : Nat, (k : Int) = 2 + r0 := ⟨(2 + r0).toNat, by omega⟩
    refine ⟨_, rfl, d, _, rfl, hd1, by decide, by decide, fun r3 H2 r4 r5 hd2 k2 => ⟨_, _, rfl, rfl, ?_⟩⟩
    obtain ⟨c, hc⟩ : ∃ c : Nat, (c : Int) = 1 + r3 := ⟨(1 + r3).toNat, by omega⟩
    refine ⟨by show 2 ≤ sizeLine; decide, fun tp ntp => ?_⟩
    have xtp := Ex.new (o := .tup [.int (2 + r0), .int (1 + r3)]) ntp
    refine ⟨tp, _, rfl, SqT.of upd_same, rfl, _, _, rfl, _, _, rfl, rfl, ?_⟩
    have hd3 := hd2.ex xtp
    have kp3 := (k1.trans k2).trans (Keep.ex xtp)
    generalize upd H2 tp (.tup [.int (2 + r0), .int (1 + r3)]) = H3 at *
    have k2' : 2 ≤ k := by omega
    have k6 : k ≤ 6 := by omega
    refine ⟨_, rfl, fun v H' => H' = H3 ∧ v = .int (if c < 3 then 3 else 2), ?_, ?_⟩
    · refine ⟨_, rfl, _, _, rfl, rfl, _, rfl, ite2 (fun cc => ⟨rfl, ?_⟩) (fun cc => ⟨rfl, ?_⟩)⟩
      · have := of_decide_eq_true cc
        rw [if_pos (by omega)]
      · have := of_decide_eq_false (Bool.eq_false_iff.mpr cc)
        rw [if_neg (by omega)]
    rintro v H' ⟨rfl, rfl⟩
    refine ⟨d, _, rfl, hd3, by split <;> omega, by split <;> omega, fun r6 H4 r7 r8 hd4 k4 => ⟨_, _, rfl, rfl, ?_⟩⟩
    obtain ⟨r, hr'⟩ : ∃ r : Nat, (r : Int) = 1 + r6 := ⟨(1 + r6).toNat, by omega⟩
    have kp4 := kp3.trans k4
    have hbx : (c, r) ∈ boxes := in_boxes (by omega) (by omega) (by omega) (by split at r8 <;> omega) (fun z => by rw [if_neg (by omega)] at r8; omega)
    obtain ⟨c1, c3, r1', r3', cr⟩ := box_small hbx
    refine ⟨_, rfl, by show 1 ≤ sizeLine; decide, fun t1 nt1 => ?_⟩
    have x1 := Ex.new (o := .tup [.int (1 + r6)]) nt1
    refine ⟨_, rfl, t1, _, _, rfl, rfl, upd_same, by simp, by omega, by omega, by show 1 ≤ 1000; decide, fun t H5 e5 ht => ?_⟩
    have ht : HeapAt H5 t (List.replicate c r) := by
      unfold HeapAt
      rw [ht, hv_rep, flat_rep]
      show some (HO.tup (List.replicate (1 + r3).toNat (V.int (1 + r6)))) = _
      rw [← hc, ← hr', Int.toNat_natCast]
    have hd5 := hd4.ex (x1.trans e5)
    have kp5 := kp4.trans (Keep.ex (x1.trans e5))
    clear x1 nt1 kp4 kp3 k1 k2 xtp hd4 hd3 hd2 hd1
    have mul : (c : Int) * (r : Int) = ((c * r : Nat) : Int) := by simp
    refine ⟨_, rfl, _, rfl, _, rfl, _, rfl, _, _, rfl, rfl, .inl ⟨by omega, by omega⟩, k, c, r, t, ?_, ht, k2', k6, hbx, fun a M ls H6 e6 ha hM sM pM lvl lM => ?_⟩
    · show [V.int (2 + r0), V.ref t, V.int ((1 + r3) * (1 + r6))] = _
      rw [← hk, ← hc, ← hr', mul]
    have ht := e6 _ _ ht
    have hd6 := hd5.ex e6
    have kp6 := kp5.trans (Keep.ex e6)
    clear e5 e6 kp5 hd5
    have DU : Due k c r (hps M) := by
      have du := due_lst k2' k6 hbx lvl
      refine ⟨fun h hh => du.good h (pM.mem_iff.mp hh), ?_, fun B a b c => ?_⟩
      · obtain ⟨h, h1, h2⟩ := du.min
        exact ⟨h, pM.mem_iff.mpr h1, h2⟩
      · obtain ⟨h, h1, h2⟩ := du.all B a b c
        exact ⟨h, pM.mem_iff.mpr h1, h2⟩
    refine ⟨_, rfl, _, rfl, _, rfl, k, c, r, ls, by rw [hk, hc, hr']; rfl, k2', k6, hbx, lvl, fun ac C H7 e7 hac hC sC pC => ?_⟩
    have ht := e7 _ _ ht
    have hd7 := hd6.ex e7
    have kp7 := kp6.trans (Keep.ex e7)
    have ha := e7 _ _ ha
    have hM := hM.ex e7
    clear e7 kp6 hd6
    refine ⟨_, rfl, a, _, rfl, .inl ⟨SqL.of ha, fun tt ntt => ?_⟩⟩
    have xt := Ex.new (o := .tup (refH M)) ntt
    refine neTT (xt _ _ hac) upd_same (hC.ex xt) (hM.ex xt) (srt_same sC sM (pC.trans pM.symm)) ⟨_, rfl, iteF' rfl ?_⟩
    have ht := xt _ _ ht
    have hd8 := hd7.ex xt
    have kp8 := kp7.trans (Keep.ex xt)
    have ha := xt _ _ ha
    have hM := hM.ex xt
    generalize upd H7 tt (.tup (refH M)) = H8 at *
    clear xt ntt kp7 hd7 hC hac
    refine ⟨_, rfl, a, rfl, ⟨_, SqL.of ha⟩, fun Dl hD => ?_⟩
    refine lc_list (K := K) (a := a) (xs := refH M) (fun j H' => H' Dl = some (.lst ((((hps M).take j).map fun h => lts h (k : Int)).map V.int)) ∧ Ex H8 H') ⟨upd_same, Ex.new hD⟩ (fun j H' _ hp5 => SqL.of (hp5.2 _ _ ha)) (fun j v H' hx0 hp5 => ?_) (fun H9 hp5 => ?_)
    · obtain ⟨u1, u2⟩ := hp5
      obtain ⟨x, hx, rfl⟩ := refH_get hx0
      have xm := List.mem_of_getElem? hx
      have xl := (List.getElem?_eq_some_iff.mp hx).1
      obtain ⟨G, Cx, _, _, _⟩ := DU.good x.2 (List.mem_map.mpr ⟨x, xm, rfl⟩)
      refine ⟨rfl, ?_⟩
      dsimp only [tYes]
      rw [if_pos rfl]
      refine ⟨_, rfl, _, rfl, (k : Int), x.1, x.2, by rw [hk]; rfl, u2 _ _ (hM x xm), G, by omega, by omega, Cx, fun Ha ea => ?_⟩
      refine ⟨_, ea _ _ u1, ?_, ?_, Ex.mut (u2.trans ea) hD⟩
      · rw [List.length_map, List.length_map, List.length_take, hps_len]
        exact big6 (by omega)
      · rw [upd_same, take_snocH hx, List.map_append, List.map_append, ltL_lts]
        rfl
    obtain ⟨u1, u2⟩ := hp5
    rw [refH_len, List.take_of_length_le (by rw [hps_len]; exact Nat.le_refl _)] at u1
    refine ⟨Dl, _, rfl, SqL.of u1, ?_, fun m hm hmin => ?_⟩
    · obtain ⟨h, hh, _⟩ := DU.min
      rw [List.length_map]
      exact List.length_pos_iff.mpr (fun z => by rw [z] at hh; cases hh)
    have em : m = ((lf k c r : Nat) : Int) := by
      obtain ⟨h, hh, e⟩ := List.mem_map.mp hm
      obtain ⟨h0, hh0, e0⟩ := DU.min
      have a1 := (DU.good h hh).2.2.2.1
      have a2 := hmin _ (List.mem_map.mpr ⟨h0, hh0, rfl⟩)
      omega
    subst em
    have ht := u2 _ _ ht
    have hd9 := hd8.ex u2
    have kp9 := kp8.trans (Keep.ex u2)
    have ha := u2 _ _ ha
    have hM := hM.ex u2
    clear u1 u2 kp8 hd8 hD hm hmin
    refine ⟨_, rfl, _, rfl, _, rfl, k, c, r, by rw [hk, hc, hr']; rfl, k2', k6, hbx, fun Ha ea => ⟨_, rfl, rfl, _, rfl, iteF' (by simp) ?_⟩⟩
    have ht := ea _ _ ht
    have hda := hd9.ex ea
    have kpa := kp9.trans (Keep.ex ea)
    have ha := ea _ _ ha
    have hM := hM.ex ea
    clear ea kp9 hd9
    refine ⟨_, rfl, _, rfl, _, rfl, _, _, rfl, ?_⟩
    show ∃ j : Int, [V.int (if (1 + r6 : Int) < (1 + r3 : Int) then (1 + r6 : Int) else (1 + r3 : Int))] = [V.int j] ∧ _
    rw [show (if (1 + r6 : Int) < (1 + r3 : Int) then (1 + r6 : Int) else (1 + r3 : Int)) = ((min c r : Nat) : Int) by split <;> omega]
    refine ⟨_, rfl, by omega, by omega, fun Dl hD => ?_⟩
    rw [Int.toNat_natCast]
    refine lc_rangeM (lo := 0) (n := min c r) (fun l => V.int (((c - l) * (r - l) + l * k : Nat) : Int)) hD (by omega) (fun i H2' Qk hi e2 qk => ?_) (fun Hb eb h2 => ?_)
    · refine ⟨rfl, _, rfl, _, rfl, _, _, rfl, rfl, _, rfl, _, rfl, _, _, rfl, rfl, _, _, rfl, rfl, .inl ⟨by omega, by omega⟩, _, rfl, _, rfl, _, _, rfl, rfl, .inl ⟨by omega, by omega⟩, _, _, rfl, rfl, ?_⟩
      have e : ((c : Int) - (0 + (i : Int))) * ((r : Int) - (0 + (i : Int))) + (0 + (i : Int)) * (k : Int) = (((c - i) * (r - i) + i * k : Nat) : Int) := by
        rw [Int.zero_add, show (c : Int) - (i : Int) = ((c - i : Nat) : Int) by omega, show (r : Int) - (i : Int) = ((r - i : Nat) : Int) by omega]
        simp
      show Qk (V.int (((1 + r3) - (0 + (i : Int))) * ((1 + r6) - (0 + (i : Int))) + (0 + (i : Int)) * (2 + r0))) H2'
      rw [← hk, ← hc, ← hr', e]
      exact qk _ (Ex.refl _)
    have h3 : Hb Dl = some (.lst (((lfL k c r).map fun (n : Nat) => (n : Int)).map V.int)) := by
      rw [h2]
      unfold lfL
      rw [List.map_map, List.map_map]
      rfl
    refine ⟨Dl, _, rfl, SqL.of h3, ?_, fun m hm hmin => ?_⟩
    · unfold lfL
      rw [List.length_map, List.length_map, List.length_range]
      omega
    rw [lf_uniq k2' k6 hbx hm hmin]
    have ht := eb _ _ ht
    have hdb := hda.ex eb
    have kpb := kpa.trans (Keep.ex eb)
    have ha := eb _ _ ha
    have hM := hM.ex eb
    clear h2 h3 hm hmin hD eb kpa hda
    refine ⟨rfl, _, rfl, iteF' (by simp) ?_⟩
    refine ⟨_, rfl, _, rfl, d, 8, rfl, hdb, by decide, by decide, fun s H4' s0 s1 hd4 k4 => ⟨1, s, rfl, rfl, _, rfl, d, 1 + s, (k : Int), by rw [hk]; rfl, hd4, by omega, by omega, by omega, by omega, fun ch xs rs H5' hch hR hg eq hd5 k5 => ?_⟩⟩
    have ha := k4 _ _ (dice_neH hdb ha) ha
    have hM := hM.kp hdb k4
    have ht := k4.tup hdb ht
    have ha := k5 _ _ (dice_neH hd4 ha) ha
    have hM := hM.kp hd4 k5
    have ht := k5.tup hd4 ht
    refine ⟨_, rfl, _, rfl, _, rfl, d, ch, xs, rs, rfl, hd5, hch, hR, by omega, fun x ps H6' hp hpl ok hd6 k6' => ?_⟩
    have ha := k6'.trans (Keep.refl _ _) _ _ (dice_neH hd5 ha) ha
    have hM := hM.kp hd5 k6'
    have ht := k6'.tup hd5 ht
    have kp6 := ((kpb.trans k4).trans k5).trans k6'
    have hc6 := k6'.tup hd5 hch
    have hR6 := rings_keep k6' hd5 hR
    refine ⟨ch, x, xs, rs, ps, rfl, hc6, hR6, ⟨by omega, by omega⟩, hp, hpl, ok, fun b H7' e7 hb => ?_⟩
    obtain ⟨IH, l8, t8⟩ := hseq_ok rs ps xs.length
    obtain ⟨Ch, lt⟩ := hseq_core hR ps k2' (by rw [← hk, Int.toNat_natCast] at *; exact eq) xs.length (Nat.le_refl _)
    have ha := e7 _ _ ha
    have hM := hM.ex e7
    have ht := e7 _ _ ht
    have hd7 := hd6.ex e7
    have kp7 := kp6.trans (Keep.ex e7)
    generalize hseq rs ps xs.length = h at *
    refine ⟨_, rfl, _, rfl, b, t, h, List.replicate c r, rfl, hb, ht, rep_heap (by omega), by rw [List.length_replicate]; omega, by omega, fun b1 H8' e8 hb1 => ?_⟩
    have ha := e8 _ _ ha
    have hM := hM.ex e8
    have hb := e8 _ _ hb
    have hd8 := hd7.ex e8
    have kp8 := kp7.trans (Keep.ex e8)
    refine ⟨_, rfl, a, rfl, ⟨_, SqL.of ha⟩, fun Dl hD => ?_⟩
    refine lc_list (K := K) (a := a) (xs := refH M) (fun j H' => H' Dl = some (.lst (((((hps M).take j).filter fun o => subB o h).map fun _ => (1 : Int)).map V.int)) ∧ Ex H8' H') ⟨upd_same, Ex.new hD⟩ (fun j H' _ hp5 => SqL.of (hp5.2 _ _ ha)) (fun j v H' ho0 hp5 => ?_) (fun H9' hp5 => ?_)
    · obtain ⟨u1, u2⟩ := hp5
      obtain ⟨o, ho, rfl⟩ := refH_get ho0
      have om := List.mem_of_getElem? ho
      have tl := (List.getElem?_eq_some_iff.mp ho).1
      obtain ⟨Go, _, lo, _, _⟩ := DU.good o.2 (List.mem_map.mpr ⟨o, om, rfl⟩)
      refine ⟨rfl, _, rfl, _, rfl, b, o.1, h, o.2, rfl, u2 _ _ hb, u2 _ _ (hM o om), Go.heap, by omega, by omega, fun b2 H6 e6 hb2' => ⟨b2, rfl, ?_⟩⟩
      have bs : subB o.2 h = b2 := by rw [Bool.eq_iff_iff, subB_iff, hb2']
      cases b2 with
      | true =>
        refine iteT' rfl ?_
        refine ⟨_, e6 _ _ u1, ?_, ?_, Ex.mut (u2.trans e6) hD⟩
        · rw [List.length_map, List.length_map]
          have a1 := List.length_filter_le (fun o => subB o h) ((hps M).take j)
          rw [List.length_take, hps_len] at a1
          exact big6 (by omega)
        · rw [upd_same, take_snocH ho, List.filter_append, List.filter_cons, if_pos bs, List.filter_nil, List.map_append, List.map_append]
          rfl
      | false =>
        refine iteF' rfl ⟨?_, u2.trans e6⟩
        rw [take_snocH ho, List.filter_append, List.filter_cons, if_neg (by rw [bs]; decide), List.filter_nil, List.append_nil]
        exact e6 _ _ u1
    obtain ⟨u1, u2⟩ := hp5
    rw [refH_len, List.take_of_length_le (by rw [hps_len]; exact Nat.le_refl _)] at u1
    refine ⟨by show 0 ≤ sizeLine; decide, fun e he => ?_⟩
    have xe := Ex.new (o := .lst []) he
    refine CI.neL (l' := []) (xe _ _ u1) upd_same ⟨rfl, ?_⟩
    have last : b1 = !decide ((((hps M).filter fun o => subB o h).map fun _ => (1 : Int)) = []) := by
      rw [Bool.eq_iff_iff, hb1, Bool.not_eq_true', decide_eq_false_iff_not, List.map_eq_nil_iff, List.filter_eq_nil_iff]
      constructor
      · intro z y
        obtain ⟨o, h1, h2⟩ := DU.all h IH Ch z
        exact y o h1 (subB_iff.mpr h2)
      · intro y
        refine Classical.byContradiction fun z => y fun o ho hs => z ?_
        exact sub_trans (DU.good o ho).2.2.2.2 (subB_iff.mp hs)
    rw [← last, decide_eq_true rfl]
    exact kQ _ (hd8.ex (u2.trans xe)) (kp8.trans (Keep.ex (u2.trans xe)))
def spLaw (K : PySem.W.Frag) : Sp := fun vs H Q _ => ∃ (a : Addr) (ns : List Int), vs = [.ref a] ∧ SqL K H a (ns.map V.int) ∧ ns.length ≤ 63 ∧ ∀ H', Q (.bl true) H'
theorem ok_law (T : Txt K mg) {f : Addr} {fd : FuncData} (F : Fun K "law" "law" sLaw f fd) : FnOk P w K mg base CX0 8 f fd ["_law_script"] (spLaw K) := by
  refine F.ok scLaw (fun vs H Q E h => ?_) (fun cdv A outer s₀ H vs Q E hr h => ?_)
  · obtain ⟨a, ns, rfl, _⟩ := h
    rfl
  · obtain ⟨a, ns, rfl, hS, hlen, q⟩ := h
    obtain ⟨f1, fd1, D1⟩ := T.d_l_right
    obtain ⟨f2, fd2, D2⟩ := T.d_l_dice
    have hr7 : Room 7 _ := hr.mono (by decide)
    have hr1 : Room 1 _ := hr.mono (by decide)
    refine ⟨_, pss_cons (ps_for PassesOwn.never rfl (pi_range1 (by rfl) T.z_range (pa_cons (pe_callB (call_max2 rfl) (by rfl) T.z_max (by decide +kernel) (pa_cons pe_int (pa_cons (pe_callB (call_min2 rfl) (by rfl) T.z_min (by decide +kernel) (pa_cons pe_int (pa_cons (pe_callB call_len_seq (by rfl) T.z_len PySem.boot_len (pa_cons (pv 0) pa_nil)) pa_nil))) pa_nil))) pa_nil)) (pg_name (i := 1) scLaw.nd rfl (.inl rfl))
        (pss_cons (ps_set (i := 2) scLaw.nd rfl (.inl rfl) (pe_call (ok_dice T D2) hr1 (by rfl) D2.g D2.F.kp D2.b .nil pass0 (pa_cons (pv 0) (pa_cons (pv 1) pa_nil))))
      (pss_one (ps_for PassesOwn.never rfl (pi_range1 (by rfl) T.z_range (pa_cons pe_int pa_nil)) (pg_name (i := 3) scLaw.nd rfl (.inl rfl))
        (pss_one (ps_if (pt_not (pt_val (pe_call (ok_right T D1) hr7 (by rfl) D1.g D1.F.kp D1.b .nil pass0 (pa_cons (pv 2) pa_nil)))) (pss_one (ps_ret pe_bl)) pss_nil))))))
      (pss_one (ps_ret pe_bl)), ?_⟩
    refine ⟨_, rfl, a, _, rfl, .inl hS, 3, _, rfl, 1, _, rfl, _, rfl, ?_, ?_, for_range (lo := 0) (n := Int.toNat _) (fun i σ' H' => ∃ y1 y2 y3, σ' = [some (.ref a), y1, y2, y3] ∧ SqL K H' a (ns.map V.int)) ⟨none, none, none, rfl, hS⟩ (fun i σ' H' _ hp => ?_) (fun σ' H' hp => ?_)⟩
    · first | omega | (split <;> omega) | (split <;> split <;> omega)
    · rw [List.length_map]
      first | omega | (split <;> omega) | (split <;> split <;> omega)
    · obtain ⟨y1, y2, y3, rfl, hS'⟩ := hp
      refine ⟨_, rfl, _, rfl, a, ns, i, ?_, hS', fun d H1 hp0 e1 hd1 => ?_⟩
      · rw [Int.zero_add]
        rfl
      have fin : ∀ H2, Keep d H1 H2 → SqL K H2 a (ns.map V.int) := fun H2 k2 => sql_keep hp0 e1 k2 hS'
      refine ⟨_, rfl, by decide, by decide, for_range (lo := 0) (n := 2) (fun j σ2 H2 => ∃ z1 z3, σ2 = [some (.ref a), z1, some (.ref d), z3] ∧ Dice H2 d ∧ Keep d H1 H2) ⟨_, y3, rfl, hd1, Keep.refl _ _⟩ (fun j σ2 H2 _ hp => ?_) (fun σ2 H2 hp => ?_)⟩
      · obtain ⟨z1, z3, rfl, hd2, kp2⟩ := hp
        exact ⟨_, rfl, d, rfl, hd2, fun H3 hd3 k3 => ⟨true, rfl, iteF' rfl ⟨_, _, rfl, hd3, kp2.trans k3⟩⟩⟩
      · obtain ⟨z1, z3, rfl, hd2, kp2⟩ := hp
        exact ⟨_, _, _, rfl, fin _ kp2⟩
    · exact q _
end
end K1

namespace K1
open PySem PySem.Spec PyProof.Rows L2
/-- what a def of the text leaves -/
theorem mk_def {K : PySem.W.Frag} {h : Heap} {mg : Str → Option Value} {x : Str} {st : Stmt} {ps : List Str} {f : Addr} {oc : Value} {od an : Option Addr} {osl : Array (Option Value)} {kV doc pm cdv ct : Value} (X : K.In h) (G : h.Ns mainGlobals mg)
    (a : PySem.W.nsIn K mainGlobals x = some (some (.ref f))) (l : K.lookup f = some ⟨oc, od, .func (PySem.W.fnOf x x (defArgs st) (defBody st) (defScope st) .none kV doc pm an cdv ct), osl⟩) (c : PySem.W.codeIn K cdv x = true) (k : PySem.W.keepIn K (.ref f) = true)
    (b : ∀ (kV doc pm : Value) (an : Option Addr) (cdv ct : Value) (us : List Value), us.length = ps.length → bindArgs (PySem.W.fnOf x x (defArgs st) (defBody st) (defScope st) .none kV doc pm an cdv ct) ⟨us, []⟩ = pure (ps.zip us)) :
    ∃ f fd, DefAt K mg x st ps f fd := ⟨f, _, ⟨fun_mk (st := st) l c k, PySem.W.mg_of X G a, (fun_mk (st := st) l c k).binds b⟩⟩
theorem all_mk {P : Program} {w : World} {K : PySem.W.Frag} {h : Heap} {mg : Str → Option Value} {fa : Addr} (X : K.In h) (G : h.Ns mainGlobals mg) (hfa : mg "law" = some (.ref fa)) (vBOUND : ∃ t, mg "BOUND" = some (.int (10 ^ 60) t))
    {tRINGS tPLACES tSIDE tMAX_ORDER tMAX_BOX : Tok} (gRINGS : PySem.W.nsIn K mainGlobals "MOST_RINGS" = some (some (.int 12 tRINGS))) (gPLACES : PySem.W.nsIn K mainGlobals "MOST_PLACES" = some (some (.int 60 tPLACES))) (gSIDE : PySem.W.nsIn K mainGlobals "MOST_SIDE" = some (some (.int 60 tSIDE))) (gMAX_ORDER : PySem.W.nsIn K mainGlobals "MAX_ORDER" = some (some (.int 60 tMAX_ORDER))) (gMAX_BOX : PySem.W.nsIn K mainGlobals "MAX_BOX" = some (some (.int 16 tMAX_BOX)))
    (z_abs : PySem.W.nsIn K mainGlobals "abs" = some none) (z_all : PySem.W.nsIn K mainGlobals "all" = some none) (z_any : PySem.W.nsIn K mainGlobals "any" = some none) (z_bool : PySem.W.nsIn K mainGlobals "bool" = some none) (z_enumerate : PySem.W.nsIn K mainGlobals "enumerate" = some none) (z_int : PySem.W.nsIn K mainGlobals "int" = some none) (z_isinstance : PySem.W.nsIn K mainGlobals "isinstance" = some none) (z_len : PySem.W.nsIn K mainGlobals "len" = some none) (z_list : PySem.W.nsIn K mainGlobals "list" = some none) (z_max : PySem.W.nsIn K mainGlobals "max" = some none) (z_min : PySem.W.nsIn K mainGlobals "min" = some none) (z_range : PySem.W.nsIn K mainGlobals "range" = some none) (z_reversed : PySem.W.nsIn K mainGlobals "reversed" = some none) (z_sorted : PySem.W.nsIn K mainGlobals "sorted" = some none) (z_sum : PySem.W.nsIn K mainGlobals "sum" = some none) (z_tuple : PySem.W.nsIn K mainGlobals "tuple" = some none) (z_zip : PySem.W.nsIn K mainGlobals "zip" = some none)
    {f0 : Addr} {oc0 : Value} {od0 an0 : Option Addr} {sl0 : Array (Option Value)} {kV0 dc0 pm0 cd0 ct0 : Value}
    (a0 : PySem.W.nsIn K mainGlobals "is_integer" = some (some (.ref f0))) (l0 : K.lookup f0 = some ⟨oc0, od0, .func (PySem.W.fnOf "is_integer" "is_integer" (defArgs sIsInteger) (defBody sIsInteger) (defScope sIsInteger) .none kV0 dc0 pm0 an0 cd0 ct0), sl0⟩) (c0 : PySem.W.codeIn K cd0 "is_integer" = true) (k0 : PySem.W.keepIn K (.ref f0) = true)
    {f1 : Addr} {oc1 : Value} {od1 an1 : Option Addr} {sl1 : Array (Option Value)} {kV1 dc1 pm1 cd1 ct1 : Value}
    (a1 : PySem.W.nsIn K mainGlobals "is_between" = some (some (.ref f1))) (l1 : K.lookup f1 = some ⟨oc1, od1, .func (PySem.W.fnOf "is_between" "is_between" (defArgs sIsBetween) (defBody sIsBetween) (defScope sIsBetween) .none kV1 dc1 pm1 an1 cd1 ct1), sl1⟩) (c1 : PySem.W.codeIn K cd1 "is_between" = true) (k1 : PySem.W.keepIn K (.ref f1) = true)
    {f2 : Addr} {oc2 : Value} {od2 an2 : Option Addr} {sl2 : Array (Option Value)} {kV2 dc2 pm2 cd2 ct2 : Value}
    (a2 : PySem.W.nsIn K mainGlobals "is_pair" = some (some (.ref f2))) (l2 : K.lookup f2 = some ⟨oc2, od2, .func (PySem.W.fnOf "is_pair" "is_pair" (defArgs sIsPair) (defBody sIsPair) (defScope sIsPair) .none kV2 dc2 pm2 an2 cd2 ct2), sl2⟩) (c2 : PySem.W.codeIn K cd2 "is_pair" = true) (k2 : PySem.W.keepIn K (.ref f2) = true)
    {f3 : Addr} {oc3 : Value} {od3 an3 : Option Addr} {sl3 : Array (Option Value)} {kV3 dc3 pm3 cd3 ct3 : Value}
    (a3 : PySem.W.nsIn K mainGlobals "check_between" = some (some (.ref f3))) (l3 : K.lookup f3 = some ⟨oc3, od3, .func (PySem.W.fnOf "check_between" "check_between" (defArgs sCheckBetween) (defBody sCheckBetween) (defScope sCheckBetween) .none kV3 dc3 pm3 an3 cd3 ct3), sl3⟩) (c3 : PySem.W.codeIn K cd3 "check_between" = true) (k3 : PySem.W.keepIn K (.ref f3) = true)
    {f4 : Addr} {oc4 : Value} {od4 an4 : Option Addr} {sl4 : Array (Option Value)} {kV4 dc4 pm4 cd4 ct4 : Value}
    (a4 : PySem.W.nsIn K mainGlobals "is_ring" = some (some (.ref f4))) (l4 : K.lookup f4 = some ⟨oc4, od4, .func (PySem.W.fnOf "is_ring" "is_ring" (defArgs sIsRing) (defBody sIsRing) (defScope sIsRing) .none kV4 dc4 pm4 an4 cd4 ct4), sl4⟩) (c4 : PySem.W.codeIn K cd4 "is_ring" = true) (k4 : PySem.W.keepIn K (.ref f4) = true)
    {f5 : Addr} {oc5 : Value} {od5 an5 : Option Addr} {sl5 : Array (Option Value)} {kV5 dc5 pm5 cd5 ct5 : Value}
    (a5 : PySem.W.nsIn K mainGlobals "is_chain" = some (some (.ref f5))) (l5 : K.lookup f5 = some ⟨oc5, od5, .func (PySem.W.fnOf "is_chain" "is_chain" (defArgs sIsChain) (defBody sIsChain) (defScope sIsChain) .none kV5 dc5 pm5 an5 cd5 ct5), sl5⟩) (c5 : PySem.W.codeIn K cd5 "is_chain" = true) (k5 : PySem.W.keepIn K (.ref f5) = true)
    {f6 : Addr} {oc6 : Value} {od6 an6 : Option Addr} {sl6 : Array (Option Value)} {kV6 dc6 pm6 cd6 ct6 : Value}
    (a6 : PySem.W.nsIn K mainGlobals "check_chain" = some (some (.ref f6))) (l6 : K.lookup f6 = some ⟨oc6, od6, .func (PySem.W.fnOf "check_chain" "check_chain" (defArgs sCheckChain) (defBody sCheckChain) (defScope sCheckChain) .none kV6 dc6 pm6 an6 cd6 ct6), sl6⟩) (c6 : PySem.W.codeIn K cd6 "check_chain" = true) (k6 : PySem.W.keepIn K (.ref f6) = true)
    {f7 : Addr} {oc7 : Value} {od7 an7 : Option Addr} {sl7 : Array (Option Value)} {kV7 dc7 pm7 cd7 ct7 : Value}
    (a7 : PySem.W.nsIn K mainGlobals "lets" = some (some (.ref f7))) (l7 : K.lookup f7 = some ⟨oc7, od7, .func (PySem.W.fnOf "lets" "lets" (defArgs sLets) (defBody sLets) (defScope sLets) .none kV7 dc7 pm7 an7 cd7 ct7), sl7⟩) (c7 : PySem.W.codeIn K cd7 "lets" = true) (k7 : PySem.W.keepIn K (.ref f7) = true)
    {f8 : Addr} {oc8 : Value} {od8 an8 : Option Addr} {sl8 : Array (Option Value)} {kV8 dc8 pm8 cd8 ct8 : Value}
    (a8 : PySem.W.nsIn K mainGlobals "lies_told" = some (some (.ref f8))) (l8 : K.lookup f8 = some ⟨oc8, od8, .func (PySem.W.fnOf "lies_told" "lies_told" (defArgs sLiesTold) (defBody sLiesTold) (defScope sLiesTold) .none kV8 dc8 pm8 an8 cd8 ct8), sl8⟩) (c8 : PySem.W.codeIn K cd8 "lies_told" = true) (k8 : PySem.W.keepIn K (.ref f8) = true)
    {f9 : Addr} {oc9 : Value} {od9 an9 : Option Addr} {sl9 : Array (Option Value)} {kV9 dc9 pm9 cd9 ct9 : Value}
    (a9 : PySem.W.nsIn K mainGlobals "check_places" = some (some (.ref f9))) (l9 : K.lookup f9 = some ⟨oc9, od9, .func (PySem.W.fnOf "check_places" "check_places" (defArgs sCheckPlaces) (defBody sCheckPlaces) (defScope sCheckPlaces) .none kV9 dc9 pm9 an9 cd9 ct9), sl9⟩) (c9 : PySem.W.codeIn K cd9 "check_places" = true) (k9 : PySem.W.keepIn K (.ref f9) = true)
    {f10 : Addr} {oc10 : Value} {od10 an10 : Option Addr} {sl10 : Array (Option Value)} {kV10 dc10 pm10 cd10 ct10 : Value}
    (a10 : PySem.W.nsIn K mainGlobals "is_heap" = some (some (.ref f10))) (l10 : K.lookup f10 = some ⟨oc10, od10, .func (PySem.W.fnOf "is_heap" "is_heap" (defArgs sIsHeap) (defBody sIsHeap) (defScope sIsHeap) .none kV10 dc10 pm10 an10 cd10 ct10), sl10⟩) (c10 : PySem.W.codeIn K cd10 "is_heap" = true) (k10 : PySem.W.keepIn K (.ref f10) = true)
    {f11 : Addr} {oc11 : Value} {od11 an11 : Option Addr} {sl11 : Array (Option Value)} {kV11 dc11 pm11 cd11 ct11 : Value}
    (a11 : PySem.W.nsIn K mainGlobals "height_at" = some (some (.ref f11))) (l11 : K.lookup f11 = some ⟨oc11, od11, .func (PySem.W.fnOf "height_at" "height_at" (defArgs sHeightAt) (defBody sHeightAt) (defScope sHeightAt) .none kV11 dc11 pm11 an11 cd11 ct11), sl11⟩) (c11 : PySem.W.codeIn K cd11 "height_at" = true) (k11 : PySem.W.keepIn K (.ref f11) = true)
    {f12 : Addr} {oc12 : Value} {od12 an12 : Option Addr} {sl12 : Array (Option Value)} {kV12 dc12 pm12 cd12 ct12 : Value}
    (a12 : PySem.W.nsIn K mainGlobals "has_box" = some (some (.ref f12))) (l12 : K.lookup f12 = some ⟨oc12, od12, .func (PySem.W.fnOf "has_box" "has_box" (defArgs sHasBox) (defBody sHasBox) (defScope sHasBox) .none kV12 dc12 pm12 an12 cd12 ct12), sl12⟩) (c12 : PySem.W.codeIn K cd12 "has_box" = true) (k12 : PySem.W.keepIn K (.ref f12) = true)
    {f13 : Addr} {oc13 : Value} {od13 an13 : Option Addr} {sl13 : Array (Option Value)} {kV13 dc13 pm13 cd13 ct13 : Value}
    (a13 : PySem.W.nsIn K mainGlobals "holds" = some (some (.ref f13))) (l13 : K.lookup f13 = some ⟨oc13, od13, .func (PySem.W.fnOf "holds" "holds" (defArgs sHolds) (defBody sHolds) (defScope sHolds) .none kV13 dc13 pm13 an13 cd13 ct13), sl13⟩) (c13 : PySem.W.codeIn K cd13 "holds" = true) (k13 : PySem.W.keepIn K (.ref f13) = true)
    {f14 : Addr} {oc14 : Value} {od14 an14 : Option Addr} {sl14 : Array (Option Value)} {kV14 dc14 pm14 cd14 ct14 : Value}
    (a14 : PySem.W.nsIn K mainGlobals "lengths_of" = some (some (.ref f14))) (l14 : K.lookup f14 = some ⟨oc14, od14, .func (PySem.W.fnOf "lengths_of" "lengths_of" (defArgs sLengthsOf) (defBody sLengthsOf) (defScope sLengthsOf) .none kV14 dc14 pm14 an14 cd14 ct14), sl14⟩) (c14 : PySem.W.codeIn K cd14 "lengths_of" = true) (k14 : PySem.W.keepIn K (.ref f14) = true)
    {f15 : Addr} {oc15 : Value} {od15 an15 : Option Addr} {sl15 : Array (Option Value)} {kV15 dc15 pm15 cd15 ct15 : Value}
    (a15 : PySem.W.nsIn K mainGlobals "hook_at" = some (some (.ref f15))) (l15 : K.lookup f15 = some ⟨oc15, od15, .func (PySem.W.fnOf "hook_at" "hook_at" (defArgs sHookAt) (defBody sHookAt) (defScope sHookAt) .none kV15 dc15 pm15 an15 cd15 ct15), sl15⟩) (c15 : PySem.W.codeIn K cd15 "hook_at" = true) (k15 : PySem.W.keepIn K (.ref f15) = true)
    {f16 : Addr} {oc16 : Value} {od16 an16 : Option Addr} {sl16 : Array (Option Value)} {kV16 dc16 pm16 cd16 ct16 : Value}
    (a16 : PySem.W.nsIn K mainGlobals "open_columns" = some (some (.ref f16))) (l16 : K.lookup f16 = some ⟨oc16, od16, .func (PySem.W.fnOf "open_columns" "open_columns" (defArgs sOpenColumns) (defBody sOpenColumns) (defScope sOpenColumns) .none kV16 dc16 pm16 an16 cd16 ct16), sl16⟩) (c16 : PySem.W.codeIn K cd16 "open_columns" = true) (k16 : PySem.W.keepIn K (.ref f16) = true)
    {f17 : Addr} {oc17 : Value} {od17 an17 : Option Addr} {sl17 : Array (Option Value)} {kV17 dc17 pm17 cd17 ct17 : Value}
    (a17 : PySem.W.nsIn K mainGlobals "heaped" = some (some (.ref f17))) (l17 : K.lookup f17 = some ⟨oc17, od17, .func (PySem.W.fnOf "heaped" "heaped" (defArgs sHeaped) (defBody sHeaped) (defScope sHeaped) .none kV17 dc17 pm17 an17 cd17 ct17), sl17⟩) (c17 : PySem.W.codeIn K cd17 "heaped" = true) (k17 : PySem.W.keepIn K (.ref f17) = true)
    {f18 : Addr} {oc18 : Value} {od18 an18 : Option Addr} {sl18 : Array (Option Value)} {kV18 dc18 pm18 cd18 ct18 : Value}
    (a18 : PySem.W.nsIn K mainGlobals "grown_by" = some (some (.ref f18))) (l18 : K.lookup f18 = some ⟨oc18, od18, .func (PySem.W.fnOf "grown_by" "grown_by" (defArgs sGrownBy) (defBody sGrownBy) (defScope sGrownBy) .none kV18 dc18 pm18 an18 cd18 ct18), sl18⟩) (c18 : PySem.W.codeIn K cd18 "grown_by" = true) (k18 : PySem.W.keepIn K (.ref f18) = true)
    {f19 : Addr} {oc19 : Value} {od19 an19 : Option Addr} {sl19 : Array (Option Value)} {kV19 dc19 pm19 cd19 ct19 : Value}
    (a19 : PySem.W.nsIn K mainGlobals "heaps_of" = some (some (.ref f19))) (l19 : K.lookup f19 = some ⟨oc19, od19, .func (PySem.W.fnOf "heaps_of" "heaps_of" (defArgs sHeapsOf) (defBody sHeapsOf) (defScope sHeapsOf) .none kV19 dc19 pm19 an19 cd19 ct19), sl19⟩) (c19 : PySem.W.codeIn K cd19 "heaps_of" = true) (k19 : PySem.W.keepIn K (.ref f19) = true)
    {f20 : Addr} {oc20 : Value} {od20 an20 : Option Addr} {sl20 : Array (Option Value)} {kV20 dc20 pm20 cd20 ct20 : Value}
    (a20 : PySem.W.nsIn K mainGlobals "heap_of" = some (some (.ref f20))) (l20 : K.lookup f20 = some ⟨oc20, od20, .func (PySem.W.fnOf "heap_of" "heap_of" (defArgs sHeapOf) (defBody sHeapOf) (defScope sHeapOf) .none kV20 dc20 pm20 an20 cd20 ct20), sl20⟩) (c20 : PySem.W.codeIn K cd20 "heap_of" = true) (k20 : PySem.W.keepIn K (.ref f20) = true)
    {f21 : Addr} {oc21 : Value} {od21 an21 : Option Addr} {sl21 : Array (Option Value)} {kV21 dc21 pm21 cd21 ct21 : Value}
    (a21 : PySem.W.nsIn K mainGlobals "check_order" = some (some (.ref f21))) (l21 : K.lookup f21 = some ⟨oc21, od21, .func (PySem.W.fnOf "check_order" "check_order" (defArgs sCheckOrder) (defBody sCheckOrder) (defScope sCheckOrder) .none kV21 dc21 pm21 an21 cd21 ct21), sl21⟩) (c21 : PySem.W.codeIn K cd21 "check_order" = true) (k21 : PySem.W.keepIn K (.ref f21) = true)
    {f22 : Addr} {oc22 : Value} {od22 an22 : Option Addr} {sl22 : Array (Option Value)} {kV22 dc22 pm22 cd22 ct22 : Value}
    (a22 : PySem.W.nsIn K mainGlobals "beads_of" = some (some (.ref f22))) (l22 : K.lookup f22 = some ⟨oc22, od22, .func (PySem.W.fnOf "beads_of" "beads_of" (defArgs sBeadsOf) (defBody sBeadsOf) (defScope sBeadsOf) .none kV22 dc22 pm22 an22 cd22 ct22), sl22⟩) (c22 : PySem.W.codeIn K cd22 "beads_of" = true) (k22 : PySem.W.keepIn K (.ref f22) = true)
    {f23 : Addr} {oc23 : Value} {od23 an23 : Option Addr} {sl23 : Array (Option Value)} {kV23 dc23 pm23 cd23 ct23 : Value}
    (a23 : PySem.W.nsIn K mainGlobals "stays_core" = some (some (.ref f23))) (l23 : K.lookup f23 = some ⟨oc23, od23, .func (PySem.W.fnOf "stays_core" "stays_core" (defArgs sStaysCore) (defBody sStaysCore) (defScope sStaysCore) .none kV23 dc23 pm23 an23 cd23 ct23), sl23⟩) (c23 : PySem.W.codeIn K cd23 "stays_core" = true) (k23 : PySem.W.keepIn K (.ref f23) = true)
    {f24 : Addr} {oc24 : Value} {od24 an24 : Option Addr} {sl24 : Array (Option Value)} {kV24 dc24 pm24 cd24 ct24 : Value}
    (a24 : PySem.W.nsIn K mainGlobals "check_core" = some (some (.ref f24))) (l24 : K.lookup f24 = some ⟨oc24, od24, .func (PySem.W.fnOf "check_core" "check_core" (defArgs sCheckCore) (defBody sCheckCore) (defScope sCheckCore) .none kV24 dc24 pm24 an24 cd24 ct24), sl24⟩) (c24 : PySem.W.codeIn K cd24 "check_core" = true) (k24 : PySem.W.keepIn K (.ref f24) = true)
    {f25 : Addr} {oc25 : Value} {od25 an25 : Option Addr} {sl25 : Array (Option Value)} {kV25 dc25 pm25 cd25 ct25 : Value}
    (a25 : PySem.W.nsIn K mainGlobals "check_told" = some (some (.ref f25))) (l25 : K.lookup f25 = some ⟨oc25, od25, .func (PySem.W.fnOf "check_told" "check_told" (defArgs sCheckTold) (defBody sCheckTold) (defScope sCheckTold) .none kV25 dc25 pm25 an25 cd25 ct25), sl25⟩) (c25 : PySem.W.codeIn K cd25 "check_told" = true) (k25 : PySem.W.keepIn K (.ref f25) = true)
    {f26 : Addr} {oc26 : Value} {od26 an26 : Option Addr} {sl26 : Array (Option Value)} {kV26 dc26 pm26 cd26 ct26 : Value}
    (a26 : PySem.W.nsIn K mainGlobals "parts_of" = some (some (.ref f26))) (l26 : K.lookup f26 = some ⟨oc26, od26, .func (PySem.W.fnOf "parts_of" "parts_of" (defArgs sPartsOf) (defBody sPartsOf) (defScope sPartsOf) .none kV26 dc26 pm26 an26 cd26 ct26), sl26⟩) (c26 : PySem.W.codeIn K cd26 "parts_of" = true) (k26 : PySem.W.keepIn K (.ref f26) = true)
    {f27 : Addr} {oc27 : Value} {od27 an27 : Option Addr} {sl27 : Array (Option Value)} {kV27 dc27 pm27 cd27 ct27 : Value}
    (a27 : PySem.W.nsIn K mainGlobals "letters_of" = some (some (.ref f27))) (l27 : K.lookup f27 = some ⟨oc27, od27, .func (PySem.W.fnOf "letters_of" "letters_of" (defArgs sLettersOf) (defBody sLettersOf) (defScope sLettersOf) .none kV27 dc27 pm27 an27 cd27 ct27), sl27⟩) (c27 : PySem.W.codeIn K cd27 "letters_of" = true) (k27 : PySem.W.keepIn K (.ref f27) = true)
    {f28 : Addr} {oc28 : Value} {od28 an28 : Option Addr} {sl28 : Array (Option Value)} {kV28 dc28 pm28 cd28 ct28 : Value}
    (a28 : PySem.W.nsIn K mainGlobals "core_with" = some (some (.ref f28))) (l28 : K.lookup f28 = some ⟨oc28, od28, .func (PySem.W.fnOf "core_with" "core_with" (defArgs sCoreWith) (defBody sCoreWith) (defScope sCoreWith) .none kV28 dc28 pm28 an28 cd28 ct28), sl28⟩) (c28 : PySem.W.codeIn K cd28 "core_with" = true) (k28 : PySem.W.keepIn K (.ref f28) = true)
    {f29 : Addr} {oc29 : Value} {od29 an29 : Option Addr} {sl29 : Array (Option Value)} {kV29 dc29 pm29 cd29 ct29 : Value}
    (a29 : PySem.W.nsIn K mainGlobals "rows_with_sum" = some (some (.ref f29))) (l29 : K.lookup f29 = some ⟨oc29, od29, .func (PySem.W.fnOf "rows_with_sum" "rows_with_sum" (defArgs sRowsWithSum) (defBody sRowsWithSum) (defScope sRowsWithSum) .none kV29 dc29 pm29 an29 cd29 ct29), sl29⟩) (c29 : PySem.W.codeIn K cd29 "rows_with_sum" = true) (k29 : PySem.W.keepIn K (.ref f29) = true)
    {f30 : Addr} {oc30 : Value} {od30 an30 : Option Addr} {sl30 : Array (Option Value)} {kV30 dc30 pm30 cd30 ct30 : Value}
    (a30 : PySem.W.nsIn K mainGlobals "cores_with_letters" = some (some (.ref f30))) (l30 : K.lookup f30 = some ⟨oc30, od30, .func (PySem.W.fnOf "cores_with_letters" "cores_with_letters" (defArgs sCoresWithLetters) (defBody sCoresWithLetters) (defScope sCoresWithLetters) .none kV30 dc30 pm30 an30 cd30 ct30), sl30⟩) (c30 : PySem.W.codeIn K cd30 "cores_with_letters" = true) (k30 : PySem.W.keepIn K (.ref f30) = true)
    {f31 : Addr} {oc31 : Value} {od31 an31 : Option Addr} {sl31 : Array (Option Value)} {kV31 dc31 pm31 cd31 ct31 : Value}
    (a31 : PySem.W.nsIn K mainGlobals "check_boxed" = some (some (.ref f31))) (l31 : K.lookup f31 = some ⟨oc31, od31, .func (PySem.W.fnOf "check_boxed" "check_boxed" (defArgs sCheckBoxed) (defBody sCheckBoxed) (defScope sCheckBoxed) .none kV31 dc31 pm31 an31 cd31 ct31), sl31⟩) (c31 : PySem.W.codeIn K cd31 "check_boxed" = true) (k31 : PySem.W.keepIn K (.ref f31) = true)
    {f32 : Addr} {oc32 : Value} {od32 an32 : Option Addr} {sl32 : Array (Option Value)} {kV32 dc32 pm32 cd32 ct32 : Value}
    (a32 : PySem.W.nsIn K mainGlobals "letters_for" = some (some (.ref f32))) (l32 : K.lookup f32 = some ⟨oc32, od32, .func (PySem.W.fnOf "letters_for" "letters_for" (defArgs sLettersFor) (defBody sLettersFor) (defScope sLettersFor) .none kV32 dc32 pm32 an32 cd32 ct32), sl32⟩) (c32 : PySem.W.codeIn K cd32 "letters_for" = true) (k32 : PySem.W.keepIn K (.ref f32) = true)
    {f33 : Addr} {oc33 : Value} {od33 an33 : Option Addr} {sl33 : Array (Option Value)} {kV33 dc33 pm33 cd33 ct33 : Value}
    (a33 : PySem.W.nsIn K mainGlobals "least_cores" = some (some (.ref f33))) (l33 : K.lookup f33 = some ⟨oc33, od33, .func (PySem.W.fnOf "least_cores" "least_cores" (defArgs sLeastCores) (defBody sLeastCores) (defScope sLeastCores) .none kV33 dc33 pm33 an33 cd33 ct33), sl33⟩) (c33 : PySem.W.codeIn K cd33 "least_cores" = true) (k33 : PySem.W.keepIn K (.ref f33) = true)
    {f34 : Addr} {oc34 : Value} {od34 an34 : Option Addr} {sl34 : Array (Option Value)} {kV34 dc34 pm34 cd34 ct34 : Value}
    (a34 : PySem.W.nsIn K mainGlobals "least_letters" = some (some (.ref f34))) (l34 : K.lookup f34 = some ⟨oc34, od34, .func (PySem.W.fnOf "least_letters" "least_letters" (defArgs sLeastLetters) (defBody sLeastLetters) (defScope sLeastLetters) .none kV34 dc34 pm34 an34 cd34 ct34), sl34⟩) (c34 : PySem.W.codeIn K cd34 "least_letters" = true) (k34 : PySem.W.keepIn K (.ref f34) = true)
    {f35 : Addr} {oc35 : Value} {od35 an35 : Option Addr} {sl35 : Array (Option Value)} {kV35 dc35 pm35 cd35 ct35 : Value}
    (a35 : PySem.W.nsIn K mainGlobals "_law_dice" = some (some (.ref f35))) (l35 : K.lookup f35 = some ⟨oc35, od35, .func (PySem.W.fnOf "_law_dice" "_law_dice" (defArgs sLDice) (defBody sLDice) (defScope sLDice) .none kV35 dc35 pm35 an35 cd35 ct35), sl35⟩) (c35 : PySem.W.codeIn K cd35 "_law_dice" = true) (k35 : PySem.W.keepIn K (.ref f35) = true)
    {f36 : Addr} {oc36 : Value} {od36 an36 : Option Addr} {sl36 : Array (Option Value)} {kV36 dc36 pm36 cd36 ct36 : Value}
    (a36 : PySem.W.nsIn K mainGlobals "_law_roll" = some (some (.ref f36))) (l36 : K.lookup f36 = some ⟨oc36, od36, .func (PySem.W.fnOf "_law_roll" "_law_roll" (defArgs sLRoll) (defBody sLRoll) (defScope sLRoll) .none kV36 dc36 pm36 an36 cd36 ct36), sl36⟩) (c36 : PySem.W.codeIn K cd36 "_law_roll" = true) (k36 : PySem.W.keepIn K (.ref f36) = true)
    {f37 : Addr} {oc37 : Value} {od37 an37 : Option Addr} {sl37 : Array (Option Value)} {kV37 dc37 pm37 cd37 ct37 : Value}
    (a37 : PySem.W.nsIn K mainGlobals "_law_one_of" = some (some (.ref f37))) (l37 : K.lookup f37 = some ⟨oc37, od37, .func (PySem.W.fnOf "_law_one_of" "_law_one_of" (defArgs sLOneOf) (defBody sLOneOf) (defScope sLOneOf) .none kV37 dc37 pm37 an37 cd37 ct37), sl37⟩) (c37 : PySem.W.codeIn K cd37 "_law_one_of" = true) (k37 : PySem.W.keepIn K (.ref f37) = true)
    {f38 : Addr} {oc38 : Value} {od38 an38 : Option Addr} {sl38 : Array (Option Value)} {kV38 dc38 pm38 cd38 ct38 : Value}
    (a38 : PySem.W.nsIn K mainGlobals "_law_common" = some (some (.ref f38))) (l38 : K.lookup f38 = some ⟨oc38, od38, .func (PySem.W.fnOf "_law_common" "_law_common" (defArgs sLCommon) (defBody sLCommon) (defScope sLCommon) .none kV38 dc38 pm38 an38 cd38 ct38), sl38⟩) (c38 : PySem.W.codeIn K cd38 "_law_common" = true) (k38 : PySem.W.keepIn K (.ref f38) = true)
    {f39 : Addr} {oc39 : Value} {od39 an39 : Option Addr} {sl39 : Array (Option Value)} {kV39 dc39 pm39 cd39 ct39 : Value}
    (a39 : PySem.W.nsIn K mainGlobals "_law_ring_of" = some (some (.ref f39))) (l39 : K.lookup f39 = some ⟨oc39, od39, .func (PySem.W.fnOf "_law_ring_of" "_law_ring_of" (defArgs sLRingOf) (defBody sLRingOf) (defScope sLRingOf) .none kV39 dc39 pm39 an39 cd39 ct39), sl39⟩) (c39 : PySem.W.codeIn K cd39 "_law_ring_of" = true) (k39 : PySem.W.keepIn K (.ref f39) = true)
    {f40 : Addr} {oc40 : Value} {od40 an40 : Option Addr} {sl40 : Array (Option Value)} {kV40 dc40 pm40 cd40 ct40 : Value}
    (a40 : PySem.W.nsIn K mainGlobals "_law_equal_chain" = some (some (.ref f40))) (l40 : K.lookup f40 = some ⟨oc40, od40, .func (PySem.W.fnOf "_law_equal_chain" "_law_equal_chain" (defArgs sLEqualChain) (defBody sLEqualChain) (defScope sLEqualChain) .none kV40 dc40 pm40 an40 cd40 ct40), sl40⟩) (c40 : PySem.W.codeIn K cd40 "_law_equal_chain" = true) (k40 : PySem.W.keepIn K (.ref f40) = true)
    {f41 : Addr} {oc41 : Value} {od41 an41 : Option Addr} {sl41 : Array (Option Value)} {kV41 dc41 pm41 cd41 ct41 : Value}
    (a41 : PySem.W.nsIn K mainGlobals "_law_tuple" = some (some (.ref f41))) (l41 : K.lookup f41 = some ⟨oc41, od41, .func (PySem.W.fnOf "_law_tuple" "_law_tuple" (defArgs sLTuple) (defBody sLTuple) (defScope sLTuple) .none kV41 dc41 pm41 an41 cd41 ct41), sl41⟩) (c41 : PySem.W.codeIn K cd41 "_law_tuple" = true) (k41 : PySem.W.keepIn K (.ref f41) = true)
    {f42 : Addr} {oc42 : Value} {od42 an42 : Option Addr} {sl42 : Array (Option Value)} {kV42 dc42 pm42 cd42 ct42 : Value}
    (a42 : PySem.W.nsIn K mainGlobals "_law_rests_up" = some (some (.ref f42))) (l42 : K.lookup f42 = some ⟨oc42, od42, .func (PySem.W.fnOf "_law_rests_up" "_law_rests_up" (defArgs sLRestsUp) (defBody sLRestsUp) (defScope sLRestsUp) .none kV42 dc42 pm42 an42 cd42 ct42), sl42⟩) (c42 : PySem.W.codeIn K cd42 "_law_rests_up" = true) (k42 : PySem.W.keepIn K (.ref f42) = true)
    {f43 : Addr} {oc43 : Value} {od43 an43 : Option Addr} {sl43 : Array (Option Value)} {kV43 dc43 pm43 cd43 ct43 : Value}
    (a43 : PySem.W.nsIn K mainGlobals "_law_behind" = some (some (.ref f43))) (l43 : K.lookup f43 = some ⟨oc43, od43, .func (PySem.W.fnOf "_law_behind" "_law_behind" (defArgs sLBehind) (defBody sLBehind) (defScope sLBehind) .none kV43 dc43 pm43 an43 cd43 ct43), sl43⟩) (c43 : PySem.W.codeIn K cd43 "_law_behind" = true) (k43 : PySem.W.keepIn K (.ref f43) = true)
    {f44 : Addr} {oc44 : Value} {od44 an44 : Option Addr} {sl44 : Array (Option Value)} {kV44 dc44 pm44 cd44 ct44 : Value}
    (a44 : PySem.W.nsIn K mainGlobals "_law_holds" = some (some (.ref f44))) (l44 : K.lookup f44 = some ⟨oc44, od44, .func (PySem.W.fnOf "_law_holds" "_law_holds" (defArgs sLHolds) (defBody sLHolds) (defScope sLHolds) .none kV44 dc44 pm44 an44 cd44 ct44), sl44⟩) (c44 : PySem.W.codeIn K cd44 "_law_holds" = true) (k44 : PySem.W.keepIn K (.ref f44) = true)
    {f45 : Addr} {oc45 : Value} {od45 an45 : Option Addr} {sl45 : Array (Option Value)} {kV45 dc45 pm45 cd45 ct45 : Value}
    (a45 : PySem.W.nsIn K mainGlobals "_law_layers" = some (some (.ref f45))) (l45 : K.lookup f45 = some ⟨oc45, od45, .func (PySem.W.fnOf "_law_layers" "_law_layers" (defArgs sLLayers) (defBody sLLayers) (defScope sLLayers) .none kV45 dc45 pm45 an45 cd45 ct45), sl45⟩) (c45 : PySem.W.codeIn K cd45 "_law_layers" = true) (k45 : PySem.W.keepIn K (.ref f45) = true)
    {f46 : Addr} {oc46 : Value} {od46 an46 : Option Addr} {sl46 : Array (Option Value)} {kV46 dc46 pm46 cd46 ct46 : Value}
    (a46 : PySem.W.nsIn K mainGlobals "_law_least" = some (some (.ref f46))) (l46 : K.lookup f46 = some ⟨oc46, od46, .func (PySem.W.fnOf "_law_least" "_law_least" (defArgs sLLeast) (defBody sLLeast) (defScope sLLeast) .none kV46 dc46 pm46 an46 cd46 ct46), sl46⟩) (c46 : PySem.W.codeIn K cd46 "_law_least" = true) (k46 : PySem.W.keepIn K (.ref f46) = true)
    {f47 : Addr} {oc47 : Value} {od47 an47 : Option Addr} {sl47 : Array (Option Value)} {kV47 dc47 pm47 cd47 ct47 : Value}
    (a47 : PySem.W.nsIn K mainGlobals "_law_right" = some (some (.ref f47))) (l47 : K.lookup f47 = some ⟨oc47, od47, .func (PySem.W.fnOf "_law_right" "_law_right" (defArgs sLRight) (defBody sLRight) (defScope sLRight) .none kV47 dc47 pm47 an47 cd47 ct47), sl47⟩) (c47 : PySem.W.codeIn K cd47 "_law_right" = true) (k47 : PySem.W.keepIn K (.ref f47) = true)
    {f48 : Addr} {oc48 : Value} {od48 an48 : Option Addr} {sl48 : Array (Option Value)} {kV48 dc48 pm48 cd48 ct48 : Value}
    (a48 : PySem.W.nsIn K mainGlobals "law" = some (some (.ref f48))) (l48 : K.lookup f48 = some ⟨oc48, od48, .func (PySem.W.fnOf "law" "law" (defArgs sLaw) (defBody sLaw) (defScope sLaw) .none kV48 dc48 pm48 an48 cd48 ct48), sl48⟩) (c48 : PySem.W.codeIn K cd48 "law" = true) (k48 : PySem.W.keepIn K (.ref f48) = true) :
    ∃ fd : FuncData, (∀ (s : Shared) (v : Value), BindsTo s fd ⟨[v], []⟩ [("_law_script", v)]) ∧ ∀ base : Heap, K.In base → base.Ns mainGlobals mg → FnOk P w K mg base CX0 8 fa fd ["_law_script"] (spLaw K) := by
  have e := hfa.symm.trans (PySem.W.mg_of X G a48)
  cases e
  have T : Txt K mg :=
    { z_abs := PySem.W.mg_none_of X G z_abs, z_all := PySem.W.mg_none_of X G z_all, z_any := PySem.W.mg_none_of X G z_any, z_bool := PySem.W.mg_none_of X G z_bool, z_enumerate := PySem.W.mg_none_of X G z_enumerate, z_int := PySem.W.mg_none_of X G z_int, z_isinstance := PySem.W.mg_none_of X G z_isinstance, z_len := PySem.W.mg_none_of X G z_len, z_list := PySem.W.mg_none_of X G z_list, z_max := PySem.W.mg_none_of X G z_max, z_min := PySem.W.mg_none_of X G z_min, z_range := PySem.W.mg_none_of X G z_range, z_reversed := PySem.W.mg_none_of X G z_reversed, z_sorted := PySem.W.mg_none_of X G z_sorted, z_sum := PySem.W.mg_none_of X G z_sum, z_tuple := PySem.W.mg_none_of X G z_tuple, z_zip := PySem.W.mg_none_of X G z_zip, v_BOUND := vBOUND, v_RINGS := ⟨tRINGS, PySem.W.mg_of X G gRINGS⟩, v_PLACES := ⟨tPLACES, PySem.W.mg_of X G gPLACES⟩, v_SIDE := ⟨tSIDE, PySem.W.mg_of X G gSIDE⟩, v_MAX_ORDER := ⟨tMAX_ORDER, PySem.W.mg_of X G gMAX_ORDER⟩, v_MAX_BOX := ⟨tMAX_BOX, PySem.W.mg_of X G gMAX_BOX⟩,
      d_is_integer := mk_def (ps := ["value"]) X G a0 l0 c0 k0 fun _ _ _ _ _ _ us hl => match us, hl with | [_], _ => rfl,
      d_is_between := mk_def (ps := ["value", "low", "high"]) X G a1 l1 c1 k1 fun _ _ _ _ _ _ us hl => match us, hl with | [_, _, _], _ => rfl,
      d_is_pair := mk_def (ps := ["value"]) X G a2 l2 c2 k2 fun _ _ _ _ _ _ us hl => match us, hl with | [_], _ => rfl,
      d_check_between := mk_def (ps := ["value", "low", "high"]) X G a3 l3 c3 k3 fun _ _ _ _ _ _ us hl => match us, hl with | [_, _, _], _ => rfl,
      d_is_ring := mk_def (ps := ["value"]) X G a4 l4 c4 k4 fun _ _ _ _ _ _ us hl => match us, hl with | [_], _ => rfl,
      d_is_chain := mk_def (ps := ["value"]) X G a5 l5 c5 k5 fun _ _ _ _ _ _ us hl => match us, hl with | [_], _ => rfl,
      d_check_chain := mk_def (ps := ["chain"]) X G a6 l6 c6 k6 fun _ _ _ _ _ _ us hl => match us, hl with | [_], _ => rfl,
      d_lets := mk_def (ps := ["ring", "place", "diagonal"]) X G a7 l7 c7 k7 fun _ _ _ _ _ _ us hl => match us, hl with | [_, _, _], _ => rfl,
      d_lies_told := mk_def (ps := ["chain", "value"]) X G a8 l8 c8 k8 fun _ _ _ _ _ _ us hl => match us, hl with | [_, _], _ => rfl,
      d_check_places := mk_def (ps := ["chain", "places"]) X G a9 l9 c9 k9 fun _ _ _ _ _ _ us hl => match us, hl with | [_, _], _ => rfl,
      d_is_heap := mk_def (ps := ["value"]) X G a10 l10 c10 k10 fun _ _ _ _ _ _ us hl => match us, hl with | [_], _ => rfl,
      d_height_at := mk_def (ps := ["heap", "column"]) X G a11 l11 c11 k11 fun _ _ _ _ _ _ us hl => match us, hl with | [_, _], _ => rfl,
      d_has_box := mk_def (ps := ["heap", "columns", "rows"]) X G a12 l12 c12 k12 fun _ _ _ _ _ _ us hl => match us, hl with | [_, _, _], _ => rfl,
      d_holds := mk_def (ps := ["heap", "other"]) X G a13 l13 c13 k13 fun _ _ _ _ _ _ us hl => match us, hl with | [_, _], _ => rfl,
      d_lengths_of := mk_def (ps := ["heap"]) X G a14 l14 c14 k14 fun _ _ _ _ _ _ us hl => match us, hl with | [_], _ => rfl,
      d_hook_at := mk_def (ps := ["heap", "lengths", "column", "row"]) X G a15 l15 c15 k15 fun _ _ _ _ _ _ us hl => match us, hl with | [_, _, _, _], _ => rfl,
      d_open_columns := mk_def (ps := ["heap"]) X G a16 l16 c16 k16 fun _ _ _ _ _ _ us hl => match us, hl with | [_], _ => rfl,
      d_heaped := mk_def (ps := ["heap", "columns"]) X G a17 l17 c17 k17 fun _ _ _ _ _ _ us hl => match us, hl with | [_, _], _ => rfl,
      d_grown_by := mk_def (ps := ["heap", "ring", "place"]) X G a18 l18 c18 k18 fun _ _ _ _ _ _ us hl => match us, hl with | [_, _, _], _ => rfl,
      d_heaps_of := mk_def (ps := ["chain", "places"]) X G a19 l19 c19 k19 fun _ _ _ _ _ _ us hl => match us, hl with | [_, _], _ => rfl,
      d_heap_of := mk_def (ps := ["chain", "places"]) X G a20 l20 c20 k20 fun _ _ _ _ _ _ us hl => match us, hl with | [_, _], _ => rfl,
      d_check_order := mk_def (ps := ["k"]) X G a21 l21 c21 k21 fun _ _ _ _ _ _ us hl => match us, hl with | [_], _ => rfl,
      d_beads_of := mk_def (ps := ["heap"]) X G a22 l22 c22 k22 fun _ _ _ _ _ _ us hl => match us, hl with | [_], _ => rfl,
      d_stays_core := mk_def (ps := ["k", "heap"]) X G a23 l23 c23 k23 fun _ _ _ _ _ _ us hl => match us, hl with | [_, _], _ => rfl,
      d_check_core := mk_def (ps := ["k", "core"]) X G a24 l24 c24 k24 fun _ _ _ _ _ _ us hl => match us, hl with | [_, _], _ => rfl,
      d_check_told := mk_def (ps := ["k", "core"]) X G a25 l25 c25 k25 fun _ _ _ _ _ _ us hl => match us, hl with | [_, _], _ => rfl,
      d_parts_of := mk_def (ps := ["k", "heap"]) X G a26 l26 c26 k26 fun _ _ _ _ _ _ us hl => match us, hl with | [_, _], _ => rfl,
      d_letters_of := mk_def (ps := ["k", "core"]) X G a27 l27 c27 k27 fun _ _ _ _ _ _ us hl => match us, hl with | [_, _], _ => rfl,
      d_core_with := mk_def (ps := ["k", "parts"]) X G a28 l28 c28 k28 fun _ _ _ _ _ _ us hl => match us, hl with | [_, _], _ => rfl,
      d_rows_with_sum := mk_def (ps := ["most", "total"]) X G a29 l29 c29 k29 fun _ _ _ _ _ _ us hl => match us, hl with | [_, _], _ => rfl,
      d_cores_with_letters := mk_def (ps := ["k", "letters"]) X G a30 l30 c30 k30 fun _ _ _ _ _ _ us hl => match us, hl with | [_, _], _ => rfl,
      d_check_boxed := mk_def (ps := ["k", "columns", "rows"]) X G a31 l31 c31 k31 fun _ _ _ _ _ _ us hl => match us, hl with | [_, _, _], _ => rfl,
      d_letters_for := mk_def (ps := ["k", "columns", "rows"]) X G a32 l32 c32 k32 fun _ _ _ _ _ _ us hl => match us, hl with | [_, _, _], _ => rfl,
      d_least_cores := mk_def (ps := ["k", "columns", "rows"]) X G a33 l33 c33 k33 fun _ _ _ _ _ _ us hl => match us, hl with | [_, _, _], _ => rfl,
      d_least_letters := mk_def (ps := ["k", "columns", "rows"]) X G a34 l34 c34 k34 fun _ _ _ _ _ _ us hl => match us, hl with | [_, _, _], _ => rfl,
      d_l_dice := mk_def (ps := ["_law_script", "_law_at"]) X G a35 l35 c35 k35 fun _ _ _ _ _ _ us hl => match us, hl with | [_, _], _ => rfl,
      d_l_roll := mk_def (ps := ["_law_dice_here", "_law_total"]) X G a36 l36 c36 k36 fun _ _ _ _ _ _ us hl => match us, hl with | [_, _], _ => rfl,
      d_l_one_of := mk_def (ps := ["_law_dice_here", "_law_items"]) X G a37 l37 c37 k37 fun _ _ _ _ _ _ us hl => match us, hl with | [_, _], _ => rfl,
      d_l_common := mk_def (ps := ["_law_one", "_law_other"]) X G a38 l38 c38 k38 fun _ _ _ _ _ _ us hl => match us, hl with | [_, _], _ => rfl,
      d_l_ring_of := mk_def (ps := ["_law_dice_here", "_law_k", "_law_times"]) X G a39 l39 c39 k39 fun _ _ _ _ _ _ us hl => match us, hl with | [_, _, _], _ => rfl,
      d_l_equal_chain := mk_def (ps := ["_law_dice_here", "_law_rings", "_law_k"]) X G a40 l40 c40 k40 fun _ _ _ _ _ _ us hl => match us, hl with | [_, _, _], _ => rfl,
      d_l_tuple := mk_def (ps := ["_law_dice_here", "_law_chain"]) X G a41 l41 c41 k41 fun _ _ _ _ _ _ us hl => match us, hl with | [_, _], _ => rfl,
      d_l_rests_up := mk_def (ps := ["_law_heap", "_law_k"]) X G a42 l42 c42 k42 fun _ _ _ _ _ _ us hl => match us, hl with | [_, _], _ => rfl,
      d_l_behind := mk_def (ps := ["_law_heap", "_law_k", "_law_letter"]) X G a43 l43 c43 k43 fun _ _ _ _ _ _ us hl => match us, hl with | [_, _, _], _ => rfl,
      d_l_holds := mk_def (ps := ["_law_heap", "_law_other"]) X G a44 l44 c44 k44 fun _ _ _ _ _ _ us hl => match us, hl with | [_, _], _ => rfl,
      d_l_layers := mk_def (ps := ["_law_k", "_law_most"]) X G a45 l45 c45 k45 fun _ _ _ _ _ _ us hl => match us, hl with | [_, _], _ => rfl,
      d_l_least := mk_def (ps := ["_law_k", "_law_whole", "_law_most"]) X G a46 l46 c46 k46 fun _ _ _ _ _ _ us hl => match us, hl with | [_, _, _], _ => rfl,
      d_l_right := mk_def (ps := ["_law_dice_here"]) X G a47 l47 c47 k47 fun _ _ _ _ _ _ us hl => match us, hl with | [_], _ => rfl }
  have F := fun_mk (st := sLaw) l48 c48 k48
  exact ⟨PySem.W.fnOf "law" "law" (defArgs sLaw) (defBody sLaw) (defScope sLaw) .none kV48 dc48 pm48 an48 cd48 ct48, fun s v => .of_eq rfl, fun base _ _ => ok_law T F⟩
/-- the end of the law's row, what the loose names hold told -/
theorem walk_x {l : PySem.W.OpenLaw} {k : Nat} {q : Program} {loose : List Str} {lv : List (Str × PySem.W.WData)} {YP : World → Heap → Prop} {d : DefRec} {K : Params → PySem.W.Frag}
    (hn : l.most = some 63) (hdf : d.params.defaults = []) (hr : Room k callerA) (hY : ∀ (w : World) (h : Heap), YP w h → (K w.params).In h)
    (F : ∀ (w : World) (mg : Str → Option Value) (fa : Addr) (h : Heap), (K w.params).In h → h.Ns mainGlobals mg → PySem.W.XL q lv mg h → mg d.name = some (.ref fa) →
      ∃ fd : FuncData, (∀ (s : Shared) (u : Value), BindsTo s fd ⟨[u], []⟩ [("_law_script", u)]) ∧
        ∀ base : Heap, (K w.params).In base → base.Ns mainGlobals mg → FnOk l.prog w (K w.params) mg base CX0 k fa fd ["_law_script"] (spLaw (K w.params))) :
    PySem.W.WalkO q loose (PySem.W.XL q lv) YP l.row.toRowW d [] (fun f vs => PySem.call f vs) := by
  refine Att.attach_call hn hdf fun w s₀ s₁ mg mb fa o pm cd doc a vs ns G Y ho hd hcd hmg hobj hints hlen hg => ?_
  obtain ⟨fd, hb, hF⟩ := F w mg fa _ (hY w _ Y) G.T.g G.X hmg
  exact law_call (hY w _ Y) G.T.g G.T.b G.T.builtins G.T.nolimit hg hobj hints (Nat.le_trans hlen (by decide)) hr hF hb (fun H _ hS => ⟨a, ns, rfl, hS, hlen, fun _ => rfl⟩) fun H e s' z => z
end K1

open PySem PySem.W PyProof.Rows
set_option maxHeartbeats 0 in
theorem PySem.Challenge.cw_ringstairs_k67_whole_least_cores_of_a_bo_holds : PySem.Challenge.rw_ringstairs_k67_whole_least_cores_of_a_bo.Holds := by
  w_on; o_law; k_head; (case hw => w_witness2)
  k_fill
  refine K1.walk_x (k := 8) rfl rfl ⟨rfl, by decide, by decide⟩ (fun w h Y => PySem.W.kIn_of Y) ?F
  case F =>
    intro w mg fa h KX G XF hmg
    have vBOUND : ∃ t, mg "BOUND" = some (.int (10 ^ 60) t) := by
      obtain ⟨v, e1, e2⟩ := XF.2.val _ (List.mem_cons_self ..)
      cases e2
      exact ⟨_, e1⟩
    refine' K1.all_mk KX G hmg vBOUND ?gRINGS ?gPLACES ?gSIDE ?gMAX_ORDER ?gMAX_BOX ?z_abs ?z_all ?z_any ?z_bool ?z_enumerate ?z_int ?z_isinstance ?z_len ?z_list ?z_max ?z_min ?z_range ?z_reversed ?z_sorted ?z_sum ?z_tuple ?z_zip ?a0 ?l0 ?c0 ?k0 ?a1 ?l1 ?c1 ?k1 ?a2 ?l2 ?c2 ?k2 ?a3 ?l3 ?c3 ?k3 ?a4 ?l4 ?c4 ?k4 ?a5 ?l5 ?c5 ?k5 ?a6 ?l6 ?c6 ?k6 ?a7 ?l7 ?c7 ?k7 ?a8 ?l8 ?c8 ?k8 ?a9 ?l9 ?c9 ?k9 ?a10 ?l10 ?c10 ?k10 ?a11 ?l11 ?c11 ?k11 ?a12 ?l12 ?c12 ?k12 ?a13 ?l13 ?c13 ?k13 ?a14 ?l14 ?c14 ?k14 ?a15 ?l15 ?c15 ?k15 ?a16 ?l16 ?c16 ?k16 ?a17 ?l17 ?c17 ?k17 ?a18 ?l18 ?c18 ?k18 ?a19 ?l19 ?c19 ?k19 ?a20 ?l20 ?c20 ?k20 ?a21 ?l21 ?c21 ?k21 ?a22 ?l22 ?c22 ?k22 ?a23 ?l23 ?c23 ?k23 ?a24 ?l24 ?c24 ?k24 ?a25 ?l25 ?c25 ?k25 ?a26 ?l26 ?c26 ?k26 ?a27 ?l27 ?c27 ?k27 ?a28 ?l28 ?c28 ?k28 ?a29 ?l29 ?c29 ?k29 ?a30 ?l30 ?c30 ?k30 ?a31 ?l31 ?c31 ?k31 ?a32 ?l32 ?c32 ?k32 ?a33 ?l33 ?c33 ?k33 ?a34 ?l34 ?c34 ?k34 ?a35 ?l35 ?c35 ?k35 ?a36 ?l36 ?c36 ?k36 ?a37 ?l37 ?c37 ?k37 ?a38 ?l38 ?c38 ?k38 ?a39 ?l39 ?c39 ?k39 ?a40 ?l40 ?c40 ?k40 ?a41 ?l41 ?c41 ?k41 ?a42 ?l42 ?c42 ?k42 ?a43 ?l43 ?c43 ?k43 ?a44 ?l44 ?c44 ?k44 ?a45 ?l45 ?c45 ?k45 ?a46 ?l46 ?c46 ?k46 ?a47 ?l47 ?c47 ?k47 ?a48 ?l48 ?c48 ?k48
    (case gRINGS => k_is); (case gPLACES => k_is); (case gSIDE => k_is); (case gMAX_ORDER => k_is); (case gMAX_BOX => k_is); (case z_abs => k_is); (case z_all => k_is); (case z_any => k_is)
    (case z_bool => k_is); (case z_enumerate => k_is); (case z_int => k_is); (case z_isinstance => k_is); (case z_len => k_is); (case z_list => k_is); (case z_max => k_is); (case z_min => k_is)
    (case z_range => k_is); (case z_reversed => k_is); (case z_sorted => k_is); (case z_sum => k_is); (case z_tuple => k_is); (case z_zip => k_is); (case a0 => k_is); (case l0 => k_is)
    (case c0 => k_is); (case k0 => k_is); (case a1 => k_is); (case l1 => k_is); (case c1 => k_is); (case k1 => k_is); (case a2 => k_is); (case l2 => k_is)
    (case c2 => k_is); (case k2 => k_is); (case a3 => k_is); (case l3 => k_is); (case c3 => k_is); (case k3 => k_is); (case a4 => k_is); (case l4 => k_is)
    (case c4 => k_is); (case k4 => k_is); (case a5 => k_is); (case l5 => k_is); (case c5 => k_is); (case k5 => k_is); (case a6 => k_is); (case l6 => k_is)
    (case c6 => k_is); (case k6 => k_is); (case a7 => k_is); (case l7 => k_is); (case c7 => k_is); (case k7 => k_is); (case a8 => k_is); (case l8 => k_is)
    (case c8 => k_is); (case k8 => k_is); (case a9 => k_is); (case l9 => k_is); (case c9 => k_is); (case k9 => k_is); (case a10 => k_is); (case l10 => k_is)
    (case c10 => k_is); (case k10 => k_is); (case a11 => k_is); (case l11 => k_is); (case c11 => k_is); (case k11 => k_is); (case a12 => k_is); (case l12 => k_is)
    (case c12 => k_is); (case k12 => k_is); (case a13 => k_is); (case l13 => k_is); (case c13 => k_is); (case k13 => k_is); (case a14 => k_is); (case l14 => k_is)
    (case c14 => k_is); (case k14 => k_is); (case a15 => k_is); (case l15 => k_is); (case c15 => k_is); (case k15 => k_is); (case a16 => k_is); (case l16 => k_is)
    (case c16 => k_is); (case k16 => k_is); (case a17 => k_is); (case l17 => k_is); (case c17 => k_is); (case k17 => k_is); (case a18 => k_is); (case l18 => k_is)
    (case c18 => k_is); (case k18 => k_is); (case a19 => k_is); (case l19 => k_is); (case c19 => k_is); (case k19 => k_is); (case a20 => k_is); (case l20 => k_is)
    (case c20 => k_is); (case k20 => k_is); (case a21 => k_is); (case l21 => k_is); (case c21 => k_is); (case k21 => k_is); (case a22 => k_is); (case l22 => k_is)
    (case c22 => k_is); (case k22 => k_is); (case a23 => k_is); (case l23 => k_is); (case c23 => k_is); (case k23 => k_is); (case a24 => k_is); (case l24 => k_is)
    (case c24 => k_is); (case k24 => k_is); (case a25 => k_is); (case l25 => k_is); (case c25 => k_is); (case k25 => k_is); (case a26 => k_is); (case l26 => k_is)
    (case c26 => k_is); (case k26 => k_is); (case a27 => k_is); (case l27 => k_is); (case c27 => k_is); (case k27 => k_is); (case a28 => k_is); (case l28 => k_is)
    (case c28 => k_is); (case k28 => k_is); (case a29 => k_is); (case l29 => k_is); (case c29 => k_is); (case k29 => k_is); (case a30 => k_is); (case l30 => k_is)
    (case c30 => k_is); (case k30 => k_is); (case a31 => k_is); (case l31 => k_is); (case c31 => k_is); (case k31 => k_is); (case a32 => k_is); (case l32 => k_is)
    (case c32 => k_is); (case k32 => k_is); (case a33 => k_is); (case l33 => k_is); (case c33 => k_is); (case k33 => k_is); (case a34 => k_is); (case l34 => k_is)
    (case c34 => k_is); (case k34 => k_is); (case a35 => k_is); (case l35 => k_is); (case c35 => k_is); (case k35 => k_is); (case a36 => k_is); (case l36 => k_is)
    (case c36 => k_is); (case k36 => k_is); (case a37 => k_is); (case l37 => k_is); (case c37 => k_is); (case k37 => k_is); (case a38 => k_is); (case l38 => k_is)
    (case c38 => k_is); (case k38 => k_is); (case a39 => k_is); (case l39 => k_is); (case c39 => k_is); (case k39 => k_is); (case a40 => k_is); (case l40 => k_is)
    (case c40 => k_is); (case k40 => k_is); (case a41 => k_is); (case l41 => k_is); (case c41 => k_is); (case k41 => k_is); (case a42 => k_is); (case l42 => k_is)
    (case c42 => k_is); (case k42 => k_is); (case a43 => k_is); (case l43 => k_is); (case c43 => k_is); (case k43 => k_is); (case a44 => k_is); (case l44 => k_is)
    (case c44 => k_is); (case k44 => k_is); (case a45 => k_is); (case l45 => k_is); (case c45 => k_is); (case k45 => k_is); (case a46 => k_is); (case l46 => k_is)
    (case c46 => k_is); (case k46 => k_is); (case a47 => k_is); (case l47 => k_is); (case c47 => k_is); (case k47 => k_is); (case a48 => k_is); (case l48 => k_is)
    (case c48 => k_is); (case k48 => k_is)

