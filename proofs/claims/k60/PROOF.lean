import PyProof.Rows.All
import Wide.All
import OpenK.AllK
import Wide.FinOn
import HandS.ForMost
import KE.GoesEnum
import PySem.Challenge.RW_ringstairs_k60_whole_cores_and_their_cha
import HandS.ForExc
import HandS.Wide
import HandS.SortInts
import HandS.Zip
import HandS.Style
import HandS.Rev
import HandS.TupMul
import HandS.IsInst
import HandS.Evl
import HandS.Gcd
import HandS.RevRange
import HandS.Iter
import HandS.Small
import HandS.Conv
import HandS.TupAny
import HandS.DictComp
import HandS.Walk
import KE.KExcInit
import HandS.SortKw
import PyProof.WalkInts
import HandS.Deep
import PyProof.P3In
set_option Elab.async false
set_option linter.all false
set_option maxRecDepth 100000
set_option maxHeartbeats 4000000
/-! plain mathematics for the orders and the diagonals -/
namespace K1M
/-- the step: the i-th place on the way from the right door by the left door -/
theorem dvd_iff {n s i : Nat} (hn : 0 < n) : (i * s) % n = 0 ↔ (n / Nat.gcd n s) ∣ i := by
  have hg : 0 < Nat.gcd n s := Nat.gcd_pos_of_pos_left _ hn
  have hc : Nat.Coprime (n / Nat.gcd n s) (s / Nat.gcd n s) := Nat.coprime_div_gcd_div_gcd hg
  have hn' : n = Nat.gcd n s * (n / Nat.gcd n s) := (Nat.mul_div_cancel' (Nat.gcd_dvd_left n s)).symm
  have hs' : s = Nat.gcd n s * (s / Nat.gcd n s) := (Nat.mul_div_cancel' (Nat.gcd_dvd_right n s)).symm
  constructor
  · intro h
    have d : n ∣ i * s := Nat.dvd_of_mod_eq_zero h
    have d2 : Nat.gcd n s * (n / Nat.gcd n s) ∣ Nat.gcd n s * (i * (s / Nat.gcd n s)) := by
      rw [← hn']
      have e : Nat.gcd n s * (i * (s / Nat.gcd n s)) = i * s := by
        rw [Nat.mul_left_comm, ← hs']
      rw [e]
      exact d
    have d3 := Nat.dvd_of_mul_dvd_mul_left hg d2
    exact hc.dvd_of_dvd_mul_right d3
  · rintro ⟨c, rfl⟩
    apply Nat.mod_eq_zero_of_dvd
    refine ⟨c * (s / Nat.gcd n s), ?_⟩
    have e : n / Nat.gcd n s * c * s = n / Nat.gcd n s * c * (Nat.gcd n s * (s / Nat.gcd n s)) := by rw [← hs']
    rw [e]
    have e2 : n * (c * (s / Nat.gcd n s)) = Nat.gcd n s * (n / Nat.gcd n s) * (c * (s / Nat.gcd n s)) := by rw [← hn']
    rw [e2]
    simp only [Nat.mul_assoc, Nat.mul_left_comm, Nat.mul_comm]
def ord (n s : Nat) : Nat := n / Nat.gcd n s
theorem ord_pos {n s : Nat} (hn : 0 < n) : 0 < ord n s := Nat.div_pos (Nat.gcd_le_left s hn) (Nat.gcd_pos_of_pos_left _ hn)
theorem ord_le {n s : Nat} : ord n s ≤ n := Nat.div_le_self _ _
theorem ord_ge2 {n s : Nat} (h1 : 1 ≤ s) (h2 : s < n) : 2 ≤ ord n s := by
  have hn : 0 < n := by omega
  have hg : 0 < Nat.gcd n s := Nat.gcd_pos_of_pos_left _ hn
  have hle : Nat.gcd n s ≤ s := Nat.le_of_dvd h1 (Nat.gcd_dvd_right n s)
  have hn' : n = Nat.gcd n s * ord n s := (Nat.mul_div_cancel' (Nat.gcd_dvd_left n s)).symm
  rcases Nat.lt_or_ge (ord n s) 2 with h | h
  · exfalso
    have hp := ord_pos (s := s) hn
    have e1 : ord n s = 1 := by omega
    rw [e1, Nat.mul_one] at hn'
    omega
  · exact h
/-- the way: while the next is not 0 and there are fewer than n -/
def stp (n s i : Nat) : Nat := (i * s) % n
theorem stp_zero_iff {n s i : Nat} (hn : 0 < n) : stp n s i = 0 ↔ ord n s ∣ i := dvd_iff hn
theorem stp_mod {n s i : Nat} (hn : 0 < n) : stp n s (i % ord n s) = stp n s i := by
  have h0 : (ord n s * s) % n = 0 := (stp_zero_iff (i := ord n s) hn).mpr (Nat.dvd_refl _)
  have e : i = ord n s * (i / ord n s) + i % ord n s := (Nat.div_add_mod i (ord n s)).symm
  have e2 : i * s = (i / ord n s) * (ord n s * s) + (i % ord n s) * s := by
    have : (ord n s * (i / ord n s) + i % ord n s) * s = (i / ord n s) * (ord n s * s) + (i % ord n s) * s := by
      rw [Nat.add_mul]
      congr 1
      simp only [Nat.mul_assoc, Nat.mul_left_comm, Nat.mul_comm]
    rw [← this, ← e]
  obtain ⟨q, hq⟩ := Nat.dvd_of_mod_eq_zero h0
  unfold stp
  rw [e2, hq, Nat.mul_left_comm, Nat.add_comm, Nat.add_mul_mod_self_left]
/-- the same for integers: the diagonal's place -/
theorem istp {n s : Nat} (hn : 0 < n) (c : Int) : (c * (s : Int)) % (n : Int) = ((stp n s (c % (ord n s : Int)).toNat : Nat) : Int) := by
  have hm : 0 < ord n s := ord_pos hn
  have hm' : (0 : Int) < (ord n s : Int) := by exact_mod_cast hm
  have hr0 : 0 ≤ c % (ord n s : Int) := Int.emod_nonneg _ (by omega)
  have h0 : ((ord n s : Int) * (s : Int)) % (n : Int) = 0 := by
    have h0 : (ord n s * s) % n = 0 := (stp_zero_iff (i := ord n s) hn).mpr (Nat.dvd_refl _)
    have := congrArg (fun x : Nat => (x : Int)) h0
    simpa using this
  have e : c = (ord n s : Int) * (c / (ord n s : Int)) + c % (ord n s : Int) := (Int.mul_ediv_add_emod c (ord n s : Int)).symm
  have e2 : c * (s : Int) = (c / (ord n s : Int)) * ((ord n s : Int) * (s : Int)) + (c % (ord n s : Int)) * (s : Int) := by
    have : ((ord n s : Int) * (c / (ord n s : Int)) + c % (ord n s : Int)) * (s : Int) = (c / (ord n s : Int)) * ((ord n s : Int) * (s : Int)) + (c % (ord n s : Int)) * (s : Int) := by
      rw [Int.add_mul]
      congr 1
      rw [Int.mul_assoc, Int.mul_left_comm]
    rw [← this, ← e]
  rw [e2, Int.add_emod, Int.mul_emod, h0, Int.mul_zero, Int.zero_emod, Int.zero_add, Int.emod_emod]
  unfold stp
  have e3 : c % (ord n s : Int) = (((c % (ord n s : Int)).toNat : Nat) : Int) := (Int.toNat_of_nonneg hr0).symm
  conv => lhs; rw [e3]
  simp
/-- does_let tells just the place -/
theorem lets_iff {n : Nat} {x p : Int} (hn : 0 < n) (h0 : 0 ≤ p) (h1 : p < n) : (x - p) % (n : Int) = 0 ↔ x % (n : Int) = p := by
  have hn' : (0 : Int) < n := by exact_mod_cast hn
  constructor
  · intro h
    have e := Int.emod_emod_of_dvd x (Int.dvd_refl (n : Int))
    have h2 : x = (n : Int) * ((x - p) / n) + p := by
      have := Int.mul_ediv_add_emod (x - p) n
      omega
    rw [h2, Int.add_comm, Int.add_mul_emod_self_left]
    exact Int.emod_eq_of_lt h0 h1
  · intro h
    have h2 := Int.mul_ediv_add_emod x n
    have h3 : x - p = (n : Int) * (x / n) := by omega
    rw [h3, Int.mul_emod_right]
/-- the stop of the loop is the order -/
theorem stop_is {n s k : Nat} (hn : 0 < n) (hk : 1 ≤ k) (hkn : k ≤ n) (hlow : ∀ i, 0 < i → i < k → stp n s i ≠ 0) (hstop : stp n s k = 0 ∨ k = n) : k = ord n s := by
  have hm := ord_pos (s := s) hn
  have hmn : ord n s ≤ n := ord_le
  have h1 : k ≤ ord n s := by
    rcases Nat.lt_or_ge (ord n s) k with h | h
    · exact absurd ((stp_zero_iff hn).mpr (Nat.dvd_refl _)) (hlow _ hm h)
    · exact h
  rcases hstop with h | h
  · have d := (stp_zero_iff hn).mp h
    have := Nat.le_of_dvd hk d
    omega
  · omega
end K1M

/-! plain mathematics for the written names -/
namespace K1N
def nAt (rs : List (Int × Int)) (j : Nat) : Nat := (rs.getD j (0, 0)).1.toNat
def sAt (rs : List (Int × Int)) (j : Nat) : Int := (rs.getD j (0, 0)).2
def row (j n : Nat) : List (Int × Int) := (List.range n).map fun (q : Nat) => ((j : Int), (q : Int))
def pre (rs : List (Int × Int)) : Nat → List (Int × Int)
  | 0 => []
  | i + 1 => pre rs i ++ row i (nAt rs i)
/-- a place that is its own written name -/
def own (rs : List (Int × Int)) (p : Int × Int) : Bool := !(decide (0 < p.1) && decide (p.2 = sAt rs p.1.toNat))
def names (rs : List (Int × Int)) : List (Int × Int) := (pre rs rs.length).filter (own rs)
def sumTo (rs : List (Int × Int)) : Nat → Nat
  | 0 => 0
  | i + 1 => sumTo rs i + nAt rs i
theorem row_succ (j n : Nat) : row j (n + 1) = row j n ++ [((j : Int), (n : Int))] := by
  unfold row
  rw [List.range_succ, List.map_append]
  rfl
theorem row_len (j n : Nat) : (row j n).length = n := by
  unfold row
  rw [List.length_map, List.length_range]
theorem pre_len {rs : List (Int × Int)} (h : ∀ j, nAt rs j ≤ 60) : ∀ i, (pre rs i).length ≤ 60 * i
  | 0 => Nat.le_refl _
  | i + 1 => by
    show (pre rs i ++ row i (nAt rs i)).length ≤ 60 * (i + 1)
    rw [List.length_append, row_len]
    have := pre_len h i
    have := h i
    omega
theorem row0 (rs : List (Int × Int)) : ∀ n, ((row 0 n).filter (own rs)).length = n
  | 0 => rfl
  | n + 1 => by
    rw [row_succ, List.filter_append, List.length_append, row0 rs n]
    have : own rs (((0 : Nat) : Int), (n : Int)) = true := rfl
    rw [List.filter_cons, if_pos this]
    rfl
theorem rowS (rs : List (Int × Int)) (j : Nat) (s : Nat) (hs : sAt rs (j + 1) = (s : Int)) : ∀ n, ((row (j + 1) n).filter (own rs)).length = if s < n then n - 1 else n
  | 0 => rfl
  | n + 1 => by
    rw [row_succ, List.filter_append, List.length_append, rowS rs j s hs n]
    by_cases c : n = s
    · have e : own rs (((j + 1 : Nat) : Int), (n : Int)) = false := by
        unfold own
        rw [show (((j + 1 : Nat) : Int)).toNat = j + 1 by omega, hs, decide_eq_true (show (0 : Int) < ((j + 1 : Nat) : Int) by omega), decide_eq_true (show (n : Int) = (s : Int) by omega)]
        rfl
      have e2 : [(((j + 1 : Nat) : Int), (n : Int))].filter (own rs) = [] := by
        rw [List.filter_cons, if_neg (show ¬ own rs (((j + 1 : Nat) : Int), (n : Int)) = true by rw [e]; decide)]
        rfl
      rw [e2, if_neg (show ¬ s < n by omega), if_pos (show s < n + 1 by omega)]
      show n + 0 = n + 1 - 1
      omega
    · have e : own rs (((j + 1 : Nat) : Int), (n : Int)) = true := by
        unfold own
        rw [show (((j + 1 : Nat) : Int)).toNat = j + 1 by omega, hs, decide_eq_false (show ¬ (n : Int) = (s : Int) by omega), Bool.and_false]
        rfl
      rw [List.filter_cons, if_pos e]
      show (if s < n then n - 1 else n) + 1 = _
      by_cases c2 : s < n
      · rw [if_pos c2, if_pos (by omega)]
        omega
      · rw [if_neg c2, if_neg (by omega)]
/-- how many written names -/
theorem count_to {rs : List (Int × Int)} (h : ∀ j, j < rs.length → 1 ≤ sAt rs j ∧ sAt rs j < (nAt rs j : Int)) : ∀ i, 1 ≤ i → i ≤ rs.length → ((pre rs i).filter (own rs)).length + i = sumTo rs i + 1
  | 0, z, _ => absurd z (by decide)
  | 1, _, h1 => by
    show (([] ++ row 0 (nAt rs 0)).filter (own rs)).length + 1 = 0 + nAt rs 0 + 1
    rw [List.nil_append, row0]
    omega
  | i + 2, _, h1 => by
    have ih := count_to h (i + 1) (by omega) (by omega)
    have hs := h (i + 1) (by omega)
    have hr := rowS rs i (sAt rs (i + 1)).toNat (by omega) (nAt rs (i + 1))
    rw [if_pos (by omega)] at hr
    show ((pre rs (i + 1) ++ row (i + 1) (nAt rs (i + 1))).filter (own rs)).length + (i + 2) = sumTo rs (i + 1) + nAt rs (i + 1) + 1
    rw [List.filter_append, List.length_append, hr]
    omega
theorem nAt_left {a b : List (Int × Int)} {j : Nat} (h : j < a.length) : nAt (a ++ b) j = nAt a j := by
  unfold nAt
  rw [List.getD_eq_getElem?_getD, List.getD_eq_getElem?_getD, List.getElem?_append_left h]
theorem nAt_right {a b : List (Int × Int)} {j : Nat} : nAt (a ++ b) (a.length + j) = nAt b j := by
  unfold nAt
  rw [List.getD_eq_getElem?_getD, List.getD_eq_getElem?_getD, List.getElem?_append_right (by omega), Nat.add_sub_cancel_left]
theorem sum_left {a b : List (Int × Int)} : ∀ i, i ≤ a.length → sumTo (a ++ b) i = sumTo a i
  | 0, _ => rfl
  | i + 1, h => by
    show sumTo (a ++ b) i + nAt (a ++ b) i = sumTo a i + nAt a i
    rw [sum_left i (by omega), nAt_left (by omega)]
theorem sum_right {a b : List (Int × Int)} : ∀ i, sumTo (a ++ b) (a.length + i) = sumTo a a.length + sumTo b i
  | 0 => by
    rw [Nat.add_zero, sum_left _ (Nat.le_refl _)]
    rfl
  | i + 1 => by
    show sumTo (a ++ b) (a.length + i) + nAt (a ++ b) (a.length + i) = sumTo a a.length + (sumTo b i + nAt b i)
    rw [sum_right i, nAt_right, Nat.add_assoc]
theorem names_joined {a b : List (Int × Int)} (ha : 1 ≤ a.length) (hb : 1 ≤ b.length) (h1 : ∀ j, j < a.length → 1 ≤ sAt a j ∧ sAt a j < (nAt a j : Int)) (h2 : ∀ j, j < b.length → 1 ≤ sAt b j ∧ sAt b j < (nAt b j : Int))
    (h3 : ∀ j, j < (a ++ b).length → 1 ≤ sAt (a ++ b) j ∧ sAt (a ++ b) j < (nAt (a ++ b) j : Int)) : (names (a ++ b)).length + 1 = (names a).length + (names b).length := by
  unfold names
  have e1 := count_to h1 a.length ha (Nat.le_refl _)
  have e2 := count_to h2 b.length hb (Nat.le_refl _)
  have e3 := count_to h3 (a ++ b).length (by rw [List.length_append]; omega) (Nat.le_refl _)
  have e4 := sum_right (a := a) (b := b) b.length
  rw [List.length_append] at e3 ⊢
  omega
end K1N

/-! enumerate over a tuple, one argument -/
namespace EnT
open PySem PySem.Spec PyProof.Rows L2
theorem made {v : Value} {o : Obj} {Hy : Heap → Prop} (B : Begins v o Hy) : Meets (Builtin.«enumerate.__new__» ⟨[.type "enumerate", v], []⟩) (fun _ R s => Hy s.heap ∧
      R (.ok (.ret (.ref (s.heap.push o).objs.size))) { s with heap := (s.heap.push o).push { cls := .type "enumerate", data := .fields #[.none, .bool false, .ref s.heap.objs.size, rawInt 0, .none, .none] } }) :=
  .of_wp fun prog w A R s z => by
    obtain ⟨hp, gs, dr, tk, os⟩ := s
    obtain ⟨z1, z2⟩ := z
    have sb := sub_enumerate
    have it1 : ∀ {A2 : Around} {E2 : Value → Shared → Prop} {Q2 : Value → Shared → Prop}, Q2 (.ref hp.objs.size) ⟨hp.push o, gs, dr, tk, os⟩ → wpAny (model prog w) A2 (pyIter v) Q2 E2 ⟨hp, gs, dr, tk, os⟩ :=
      fun y => B.iter prog w _ _ ⟨hp, gs, dr, tk, os⟩ _ z1 y
    wp_walk using it1
    refine wpAny_stack_any fun _ => wpAny_pure ?_
    split
    · rename_i c _ _ _ _ _
      cases (c == Value.type "enumerate")
      · wp_walk using it1
        exact ⟨_, rfl, z2⟩
      · wp_walk using it1
        exact ⟨_, rfl, z2⟩
    · wp_walk using it1
      exact ⟨_, rfl, z2⟩
section
variable {prog : Program} {w : World} {A : Around} {E : Value → Shared → Prop} {s : Shared}
theorem call_made {v : Value} {o : Obj} {Hy : Heap → Prop} {Q : Value → Shared → Prop} (B : Begins v o Hy) (h1 : Hy s.heap)
    (k : ∀ h2, IsEnum h2 (s.heap.objs.size + 1) s.heap.objs.size 0 .none → h2.get? s.heap.objs.size = some o → (∀ b u, s.heap.get? b = some u → h2.get? b = some u) → Q (.ref (s.heap.objs.size + 1)) { s with heap := h2 }) :
    wpAny (model prog w) A (call (.type "enumerate") [v]) Q E s := by
  refine callType_new F.called_enumerate (by decide) (F.typeCall_enumerate_1 _) (F.newCall_enumerate_1 _) (fun obj => F.args_object_init_2 obj _) F.entry_enumerate_new (made B) ⟨h1, ?_⟩
  have sz : (s.heap.push o).objs.size = s.heap.objs.size + 1 := by rw [Heap.size_push]
  show _ ∧ _
  rw [sz]
  have en := Heap.get?_push_size (s.heap.push o) (o := { cls := .type "enumerate", data := .fields #[.none, .bool false, .ref s.heap.objs.size, rawInt 0, .none, .none] }) rfl
  rw [sz] at en
  exact ⟨⟨_, en, rfl⟩, k _ en (Heap.get?_push_of_some _ (Heap.get?_push_size _ B.free)) fun b u y => Heap.get?_push_of_some _ (Heap.get?_push_of_some _ y)⟩
end
/-- the tuple at a, each item in a new pair with its number -/
def IteT (K : PySem.W.Frag) (a : Addr) : It :=
  ⟨fun i H => ∃ (ts : List V) (x : V), SqT K H a ts ∧ ts[i]? = some x, fun i H v H' => ∃ T x, v = .ref T ∧ H T = none ∧ H' = upd H T (.tup [.int (i : Nat), x]) ∧ ∀ ts, SqT K H a ts → ts[i]? = some x, fun i H => ∃ ts : List V, SqT K H a ts ∧ ts.length = i⟩
theorem tup_inj {X : Cx} {pins : List (Addr × Obj)} {σ : L2.St} {H : Hp} {s : Shared} {a : Addr} {xs ys : List V} (I : Inv X pins σ H s) (h1 : SqT X.K H a xs) (h2 : SqT X.K H a ys) : xs = ys := by
  obtain ⟨i1, r1, ⟨o1, g1, c1, n1, d1⟩, _⟩ := I.tuple h1
  obtain ⟨i2, r2, ⟨o2, g2, c2, n2, d2⟩, _⟩ := I.tuple h2
  rw [g1] at g2
  have e := Option.some.inj g2
  subst e
  rw [d1] at d2
  injection d2 with e1 _
  have e3 : i1 = i2 := by simpa using e1
  subst e3
  exact Vals.inj r1 r2
theorem turn {P : Program} {w : World} {K : PySem.W.Frag} {elts : List Expr} {kk : Nat} {tpos : Pos} (a e it : Addr) :
    Turn P w K (.Tuple elts kk tpos) (IteT K a) [e, it] e (fun i h => (∃ old, IsEnum h e it ((i : Nat) : Int) old) ∧ h.IsTupleIter it a i ∧ e ≠ it ∧ a ≠ e ∧ a ≠ it) where
  mem := by simp
  obj := fun i h st b hb => by
    obtain ⟨⟨old, he⟩, ⟨o, ho, hc, hd⟩, _⟩ := st
    rcases (show b = e ∨ b = it by simpa using hb) with z | z
    · rw [z]
      exact ⟨_, he, fun v q => nomatch q⟩
    · rw [z]
      exact ⟨o, ho, fun v q => by rw [hd] at q; cases q⟩
  keep := fun i h h' st k => by
    obtain ⟨⟨old, he⟩, ⟨o, ho, hc, hd⟩, n1, n2, n3⟩ := st
    exact ⟨⟨old, k e (by simp) _ he⟩, ⟨o, k it (by simp) _ ho, hc, hd⟩, n1, n2, n3⟩
  item := by
    intro X hP hw hK hc i pins s σ H E I hf st hg
    subst hP hw hK
    obtain ⟨⟨old, he⟩, hit, n1, n2, n3⟩ := st
    obtain ⟨xs, x, hq, hx⟩ := hg
    obtain ⟨its, rv, p, _⟩ := I.tuple hq
    obtain ⟨u, hu, ru⟩ := rv.get hx
    have hel : e < s.heap.objs.size := Heap.lt_size he
    have hil : it < s.heap.objs.size := by
      obtain ⟨_, q, _⟩ := hit
      exact Heap.lt_size q
    have hlt : i < its.toArray.size := by
      have := (List.getElem?_eq_some_iff.mp hu).1
      simpa using this
    have hh : X.A.in1.handled = none := I.ok.hd hc
    have DT := Draws.tuple (prog := X.prog) (w := X.w) hh it a n3 its.toArray
    refine wpAny_pyNext_enum_itemD DT he ⟨hit, p⟩ hlt n1 (by simp [n1, Ne.symm n2]) fun y h1 tk hy ho hst hT hsz hk => ?_
    have ey : y = u := by
      have q : its.toArray[i]? = some u := by simpa using hu
      exact Option.some.inj (hy.symm.trans q)
    subst ey
    refine ⟨_, rfl, wpAny_letOwnedTupleGo_enum (s := { s with heap := h1, toks := tk + 1 }) ho fun h2 he2 sb => ?_⟩
    have hT2 : h2.get? s.heap.objs.size = some { cls := .type "tuple", data := .seq #[.int i tk, y] } := (sb.2 _ (Nat.ne_of_gt hel)).trans hT
    have new : ObjOk X.prog X.w (upd H s.heap.objs.size (.tup [.int (i : Nat), x])) h2 s.heap.objs.size (.tup [.int (i : Nat), x]) :=
      ⟨show 2 ≤ sizeLine by decide, [.int i tk, y], .cons ⟨_, rfl⟩ (.cons ru .nil), ⟨_, hT2, rfl, _, rfl⟩⟩
    have I1 : Inv X pins σ (upd H s.heap.objs.size (.tup [.int (i : Nat), x])) { s with heap := h2, toks := tk + 1 } :=
      I.turnedNew (ch := [e, it]) (fun b ob hb q => (sb.2 b (fun z => hb (by simp [z]))).trans (hk b ob (fun z => hb (by simp [z])) (fun z => hb (by simp [z])) q)) hf (Nat.le_refl _) new
    obtain ⟨oi, g1, g2, g3⟩ := hst.1
    refine ⟨.ref s.heap.objs.size, _, I1, rfl, ⟨_, x, rfl, I.hok.fresh (Nat.le_refl _), rfl, fun ys hys => by rw [tup_inj I hys hq]; exact hx⟩, ⟨⟨y, ?_⟩, ⟨oi, (sb.2 it (Ne.symm n1)).trans g1, g2, g3⟩, n1, n2, n3⟩, fun b hb => ?_⟩
    · rw [show ((i + 1 : Nat) : Int) = (i : Int) + 1 by omega]
      exact he2
    · have hb2 : b < s.heap.objs.size := by
        rcases (show b = e ∨ b = it by simpa using hb) with z | z
        · rw [z]
          exact hel
        · rw [z]
          exact hil
      rw [upd_ne (Nat.ne_of_lt hb2)]
      exact (hf b hb).1
  done := by
    intro X hP hw hK hc i pins s σ H E I hf st hg
    subst hP hw hK
    obtain ⟨⟨old, he⟩, hit, n1, n2, n3⟩ := st
    obtain ⟨xs, hq, hx⟩ := hg
    obtain ⟨its, rv, p, _⟩ := I.tuple hq
    obtain ⟨f0, f1, f2, f3, f4, f5⟩ := hf it (by simp)
    have hl := rv.length
    have hn : its.toArray.size = i := by
      rw [List.size_toArray]
      omega
    have hh : X.A.in1.handled = none := I.ok.hd hc
    have DT := Draws.tuple (prog := X.prog) (w := X.w) hh it a n3 its.toArray
    refine wpAny_pyNext_enum_endD DT he ⟨?_, p⟩ fun h1 eb => ⟨rfl, I.turned (t' := s.toks) (fun b o hb q => eb b o hb q) f0 f1 f3 f4 f5⟩
    rw [hn]
    exact hit
  self := fun A i s Q E st h => by
    obtain ⟨⟨_, he⟩, _⟩ := st
    exact wpAny_pyIter_enum he h
def iEnumT (K : PySem.W.Frag) (ta : TA) : TI := fun σ H R => ta σ H fun vs H1 => ∃ a xs, vs = [.ref a] ∧ SqT K H1 a xs ∧ R (IteT K a) H1
theorem pi_enumT {X : Cx} {e : Expr} {ta : TA} {p pos tpos : Pos} {elts : List Expr} {kk : Nat} (hg : Gl X "enumerate") (hm : X.mg "enumerate" = none) (ha : PA X [e] ta) (hs : starEach [e] X.env = [(false, eval e X.env)] := by rfl) :
    PI X (.Tuple elts kk tpos) (.Call (.Name "enumerate" p) [e] [] pos) (iEnumT X.K ta) := by
  refine ⟨fun pins s σ H R I h => ?_⟩
  refine Call_ (ld_blt I hg hm boot_enumerate (PyProof.Rows.callWith_type1 (thn (ha.run pos pins s σ H _ I h) fun us s1 ⟨vs, H1, I1, r1, y1⟩ => ?_) hs rfl))
  obtain ⟨a, xs, ex, hq, q⟩ := y1
  subst ex
  cases r1 with
  | cons r rr =>
    cases rr
    cases r
    obtain ⟨its, rv, p2, _⟩ := I1.tuple hq
    have hal : a < s1.heap.objs.size := by
      obtain ⟨o, g, _⟩ := p2
      exact Heap.lt_size g
    refine call_made (begins_tuple a its.toArray) p2 fun h2 he hit hk => wpAny_pyIter_enum he ?_
    have I2 : Inv X pins σ H1 { s1 with heap := h2 } := I1.kept (t' := s1.toks) hk
    refine ⟨s1.heap.objs.size + 1, [s1.heap.objs.size + 1, s1.heap.objs.size], _, _, H1, rfl, I2, turn a (s1.heap.objs.size + 1) s1.heap.objs.size, ⟨⟨.none, he⟩, ⟨_, hit, rfl, rfl⟩, Nat.succ_ne_self _, Nat.ne_of_lt (Nat.lt_succ_of_lt hal), Nat.ne_of_lt hal⟩, fun b hb => ?_, q⟩
    have hle : s1.heap.objs.size ≤ b := by
      rcases (show b = s1.heap.objs.size + 1 ∨ b = s1.heap.objs.size by simpa using hb) with z | z
      · rw [z]
        exact Nat.le_add_right _ _
      · rw [z]
        exact Nat.le_refl _
    exact I1.fpOk hle (I1.hok.fresh hle)
end EnT

namespace K1
open PySem PySem.Spec PyProof.Rows L2 Evl
def topS (i : Nat) : Stmt := PySem.Challenge.pw_ringstairs_k60_whole_cores_and_their_cha.main.body.getD i (.Pass ⟨0, 0, 0, 0⟩)
abbrev sIsInteger : Stmt := topS 8
abbrev nIsInteger : List Str := ["value"]
theorem scIsInteger : FnScope nIsInteger ["value"] (defScope sIsInteger) := ⟨rfl, rfl, rfl, by decide +kernel, rfl, by decide +kernel, by decide +kernel⟩
abbrev sIsBetween : Stmt := topS 9
abbrev nIsBetween : List Str := ["value", "low", "high"]
theorem scIsBetween : FnScope nIsBetween ["value", "low", "high"] (defScope sIsBetween) := ⟨rfl, rfl, rfl, by decide +kernel, rfl, by decide +kernel, by decide +kernel⟩
abbrev sIsRow : Stmt := topS 10
abbrev nIsRow : List Str := ["value", "many", "low", "high", "number"]
theorem scIsRow : FnScope nIsRow ["value", "many", "low", "high"] (defScope sIsRow) := ⟨rfl, rfl, rfl, by decide +kernel, rfl, by decide +kernel, by decide +kernel⟩
abbrev sIsLongRow : Stmt := topS 11
abbrev nIsLongRow : List Str := ["value", "many"]
theorem scIsLongRow : FnScope nIsLongRow ["value", "many"] (defScope sIsLongRow) := ⟨rfl, rfl, rfl, by decide +kernel, rfl, by decide +kernel, by decide +kernel⟩
abbrev sCheckBetween : Stmt := topS 12
abbrev nCheckBetween : List Str := ["value", "low", "high"]
theorem scCheckBetween : FnScope nCheckBetween ["value", "low", "high"] (defScope sCheckBetween) := ⟨rfl, rfl, rfl, by decide +kernel, rfl, by decide +kernel, by decide +kernel⟩
abbrev sIsHeap : Stmt := topS 15
abbrev nIsHeap : List Str := ["value", "ahead", "height"]
theorem scIsHeap : FnScope nIsHeap ["value"] (defScope sIsHeap) := ⟨rfl, rfl, rfl, by decide +kernel, rfl, by decide +kernel, by decide +kernel⟩
abbrev sHeightAt : Stmt := topS 16
abbrev nHeightAt : List Str := ["heap", "column"]
theorem scHeightAt : FnScope nHeightAt ["heap", "column"] (defScope sHeightAt) := ⟨rfl, rfl, rfl, by decide +kernel, rfl, by decide +kernel, by decide +kernel⟩
abbrev sLengthsOf : Stmt := topS 17
abbrev nLengthsOf : List Str := ["heap", "height", "row"]
theorem scLengthsOf : FnScope nLengthsOf ["heap"] (defScope sLengthsOf) := ⟨rfl, rfl, rfl, by decide +kernel, rfl, by decide +kernel, by decide +kernel⟩
abbrev sHookAt : Stmt := topS 18
abbrev nHookAt : List Str := ["heap", "lengths", "column", "row"]
theorem scHookAt : FnScope nHookAt ["heap", "lengths", "column", "row"] (defScope sHookAt) := ⟨rfl, rfl, rfl, by decide +kernel, rfl, by decide +kernel, by decide +kernel⟩
abbrev sCheckOrder : Stmt := topS 22
abbrev nCheckOrder : List Str := ["k"]
theorem scCheckOrder : FnScope nCheckOrder ["k"] (defScope sCheckOrder) := ⟨rfl, rfl, rfl, by decide +kernel, rfl, by decide +kernel, by decide +kernel⟩
abbrev sBeadsOf : Stmt := topS 23
abbrev nBeadsOf : List Str := ["heap", "column", "height"]
theorem scBeadsOf : FnScope nBeadsOf ["heap"] (defScope sBeadsOf) := ⟨rfl, rfl, rfl, by decide +kernel, rfl, by decide +kernel, by decide +kernel⟩
abbrev sStaysCore : Stmt := topS 24
abbrev nStaysCore : List Str := ["k", "heap", "beads", "bead"]
theorem scStaysCore : FnScope nStaysCore ["k", "heap"] (defScope sStaysCore) := ⟨rfl, rfl, rfl, by decide +kernel, rfl, by decide +kernel, by decide +kernel⟩
abbrev sIsCore : Stmt := topS 25
abbrev nIsCore : List Str := ["k", "value"]
theorem scIsCore : FnScope nIsCore ["k", "value"] (defScope sIsCore) := ⟨rfl, rfl, rfl, by decide +kernel, rfl, by decide +kernel, by decide +kernel⟩
abbrev sCheckCore : Stmt := topS 26
abbrev nCheckCore : List Str := ["k", "core"]
theorem scCheckCore : FnScope nCheckCore ["k", "core"] (defScope sCheckCore) := ⟨rfl, rfl, rfl, by decide +kernel, rfl, by decide +kernel, by decide +kernel⟩
abbrev sCheckTold : Stmt := topS 27
abbrev nCheckTold : List Str := ["k", "core"]
theorem scCheckTold : FnScope nCheckTold ["k", "core"] (defScope sCheckTold) := ⟨rfl, rfl, rfl, by decide +kernel, rfl, by decide +kernel, by decide +kernel⟩
abbrev sCharges : Stmt := topS 28
abbrev nCharges : List Str := ["k", "core", "beads", "sums", "bead", "hole", "_"]
theorem scCharges : FnScope nCharges ["k", "core"] (defScope sCharges) := ⟨rfl, rfl, rfl, by decide +kernel, rfl, by decide +kernel, by decide +kernel⟩
abbrev sFirstHoles : Stmt := topS 29
abbrev nFirstHoles : List Str := ["k", "told", "rest", "charge"]
theorem scFirstHoles : FnScope nFirstHoles ["k", "told"] (defScope sFirstHoles) := ⟨rfl, rfl, rfl, by decide +kernel, rfl, by decide +kernel, by decide +kernel⟩
abbrev sLettersBetween : Stmt := topS 30
abbrev nLettersBetween : List Str := ["k", "holes", "heights", "late", "early"]
theorem scLettersBetween : FnScope nLettersBetween ["k", "holes"] (defScope sLettersBetween) := ⟨rfl, rfl, rfl, by decide +kernel, rfl, by decide +kernel, by decide +kernel⟩
abbrev sCoreOfCharges : Stmt := topS 31
abbrev nCoreOfCharges : List Str := ["k", "value", "holes", "beads", "heights", "hole", "bead", "column", "height"]
theorem scCoreOfCharges : FnScope nCoreOfCharges ["k", "value"] (defScope sCoreOfCharges) := ⟨rfl, rfl, rfl, by decide +kernel, rfl, by decide +kernel, by decide +kernel⟩
abbrev sPartsOf : Stmt := topS 32
abbrev nPartsOf : List Str := ["k", "heap", "lengths", "parts", "column", "height", "row"]
theorem scPartsOf : FnScope nPartsOf ["k", "heap"] (defScope sPartsOf) := ⟨rfl, rfl, rfl, by decide +kernel, rfl, by decide +kernel, by decide +kernel⟩
abbrev sLettersOf : Stmt := topS 33
abbrev nLettersOf : List Str := ["k", "core"]
theorem scLettersOf : FnScope nLettersOf ["k", "core"] (defScope sLettersOf) := ⟨rfl, rfl, rfl, by decide +kernel, rfl, by decide +kernel, by decide +kernel⟩
abbrev sLDice : Stmt := topS 35
abbrev nLDice : List Str := ["_law_script", "_law_at", "_law_cell", "_law_great", "_law_left", "_law_mixed"]
theorem scLDice : FnScope nLDice ["_law_script", "_law_at"] (defScope sLDice) := ⟨rfl, rfl, rfl, by decide +kernel, rfl, by decide +kernel, by decide +kernel⟩
abbrev sLRoll : Stmt := topS 36
abbrev nLRoll : List Str := ["_law_dice_here", "_law_total", "_law_size", "_law_drawn", "_law_one", "_law_two"]
theorem scLRoll : FnScope nLRoll ["_law_dice_here", "_law_total"] (defScope sLRoll) := ⟨rfl, rfl, rfl, by decide +kernel, rfl, by decide +kernel, by decide +kernel⟩
abbrev sLGrown : Stmt := topS 37
abbrev nLGrown : List Str := ["_law_heap", "_law_ring", "_law_x", "_law_n", "_law_s", "_law_found", "_law_column", "_law_height", "_law_can_rise"]
theorem scLGrown : FnScope nLGrown ["_law_heap", "_law_ring", "_law_x"] (defScope sLGrown) := ⟨rfl, rfl, rfl, by decide +kernel, rfl, by decide +kernel, by decide +kernel⟩
abbrev sLBeads : Stmt := topS 38
abbrev nLBeads : List Str := ["_law_heap", "_law_at"]
theorem scLBeads : FnScope nLBeads ["_law_heap"] (defScope sLBeads) := ⟨rfl, rfl, rfl, by decide +kernel, rfl, by decide +kernel, by decide +kernel⟩
abbrev sLIsCore : Stmt := topS 39
abbrev nLIsCore : List Str := ["_law_k", "_law_heap", "_law_some", "_law_low", "_law_bead"]
theorem scLIsCore : FnScope nLIsCore ["_law_k", "_law_heap"] (defScope sLIsCore) := ⟨rfl, rfl, rfl, by decide +kernel, rfl, by decide +kernel, by decide +kernel⟩
abbrev sLHook : Stmt := topS 40
abbrev nLHook : List Str := ["_law_heap", "_law_square", "_law_column", "_law_row", "_law_height"]
theorem scLHook : FnScope nLHook ["_law_heap", "_law_square"] (defScope sLHook) := ⟨rfl, rfl, rfl, by decide +kernel, rfl, by decide +kernel, by decide +kernel⟩
abbrev sLLetters : Stmt := topS 41
abbrev nLLetters : List Str := ["_law_k", "_law_heap", "_law_found", "_law_column", "_law_row"]
theorem scLLetters : FnScope nLLetters ["_law_k", "_law_heap"] (defScope sLLetters) := ⟨rfl, rfl, rfl, by decide +kernel, rfl, by decide +kernel, by decide +kernel⟩
abbrev sLSomeCore : Stmt := topS 42
abbrev nLSomeCore : List Str := ["_law_dice_here", "_law_k", "_law_most", "_law_heap", "_law_turn"]
theorem scLSomeCore : FnScope nLSomeCore ["_law_dice_here", "_law_k", "_law_most"] (defScope sLSomeCore) := ⟨rfl, rfl, rfl, by decide +kernel, rfl, by decide +kernel, by decide +kernel⟩
abbrev sLCharges : Stmt := topS 43
abbrev nLCharges : List Str := ["_law_k", "_law_heap", "_law_some", "_law_found", "_law_bead", "_law_empty"]
theorem scLCharges : FnScope nLCharges ["_law_k", "_law_heap"] (defScope sLCharges) := ⟨rfl, rfl, rfl, by decide +kernel, rfl, by decide +kernel, by decide +kernel⟩
abbrev sLCoreOf : Stmt := topS 44
abbrev nLCoreOf : List Str := ["_law_told", "_law_k", "_law_some", "_law_low", "_law_rest", "_law_heights", "_law_at", "_law_height"]
theorem scLCoreOf : FnScope nLCoreOf ["_law_told"] (defScope sLCoreOf) := ⟨rfl, rfl, rfl, by decide +kernel, rfl, by decide +kernel, by decide +kernel⟩
abbrev sLToldCore : Stmt := topS 45
abbrev nLToldCore : List Str := ["_law_k", "_law_told", "e"]
theorem scLToldCore : FnScope nLToldCore ["_law_k", "_law_told"] (defScope sLToldCore) := ⟨rfl, rfl, rfl, by decide +kernel, rfl, by decide +kernel, by decide +kernel⟩
abbrev sLLetterRight : Stmt := topS 46
abbrev nLLetterRight : List Str := ["_law_k", "_law_heap", "_law_letter", "_law_here", "_law_later", "_law_due"]
theorem scLLetterRight : FnScope nLLetterRight ["_law_k", "_law_heap", "_law_letter"] (defScope sLLetterRight) := ⟨rfl, rfl, rfl, by decide +kernel, rfl, by decide +kernel, by decide +kernel⟩
abbrev sLaw : Stmt := topS 47
abbrev nLaw : List Str := ["_law_script", "_law_at", "_law_dice_here", "_law_turn", "_law_k", "_law_heap", "_law_told", "_law_drawn", "_law_core", "_law_size", "_law_word", "_law_found", "_law_one"]
theorem scLaw : FnScope nLaw ["_law_script"] (defScope sLaw) := ⟨rfl, rfl, rfl, by decide +kernel, rfl, by decide +kernel, by decide +kernel⟩
/-- a def of the text at its place, and how its arguments bind -/
structure DefAt (K : PySem.W.Frag) (mg : Str → Option Value) (x : Str) (st : Stmt) (ps : List Str) (f : Addr) (fd : FuncData) : Prop where
  F : Fun K x x st f fd
  g : mg x = some (.ref f)
  b : Binds K fd ps []
/-- what the top has written -/
structure Txt (K : PySem.W.Frag) (mg : Str → Option Value) : Prop where
  z_abs : mg "abs" = none
  z_all : mg "all" = none
  z_bool : mg "bool" = none
  z_enumerate : mg "enumerate" = none
  z_int : mg "int" = none
  z_isinstance : mg "isinstance" = none
  z_len : mg "len" = none
  z_list : mg "list" = none
  z_max : mg "max" = none
  z_min : mg "min" = none
  z_range : mg "range" = none
  z_sorted : mg "sorted" = none
  z_sum : mg "sum" = none
  z_tuple : mg "tuple" = none
  v_BOUND : ∃ t, mg "BOUND" = some (.int (10 ^ 60) t)
  v_SIDE : ∃ t, mg "MOST_SIDE" = some (.int 60 t)
  v_MAX_ORDER : ∃ t, mg "MAX_ORDER" = some (.int 60 t)
  v_MAX_LETTERS : ∃ t, mg "MAX_LETTERS" = some (.int 30 t)
  d_is_integer : ∃ f fd, DefAt K mg "is_integer" sIsInteger ["value"] f fd
  d_is_between : ∃ f fd, DefAt K mg "is_between" sIsBetween ["value", "low", "high"] f fd
  d_is_row : ∃ f fd, DefAt K mg "is_row" sIsRow ["value", "many", "low", "high"] f fd
  d_is_long_row : ∃ f fd, DefAt K mg "is_long_row" sIsLongRow ["value", "many"] f fd
  d_check_between : ∃ f fd, DefAt K mg "check_between" sCheckBetween ["value", "low", "high"] f fd
  d_is_heap : ∃ f fd, DefAt K mg "is_heap" sIsHeap ["value"] f fd
  d_height_at : ∃ f fd, DefAt K mg "height_at" sHeightAt ["heap", "column"] f fd
  d_lengths_of : ∃ f fd, DefAt K mg "lengths_of" sLengthsOf ["heap"] f fd
  d_hook_at : ∃ f fd, DefAt K mg "hook_at" sHookAt ["heap", "lengths", "column", "row"] f fd
  d_check_order : ∃ f fd, DefAt K mg "check_order" sCheckOrder ["k"] f fd
  d_beads_of : ∃ f fd, DefAt K mg "beads_of" sBeadsOf ["heap"] f fd
  d_stays_core : ∃ f fd, DefAt K mg "stays_core" sStaysCore ["k", "heap"] f fd
  d_is_core : ∃ f fd, DefAt K mg "is_core" sIsCore ["k", "value"] f fd
  d_check_core : ∃ f fd, DefAt K mg "check_core" sCheckCore ["k", "core"] f fd
  d_check_told : ∃ f fd, DefAt K mg "check_told" sCheckTold ["k", "core"] f fd
  d_charges : ∃ f fd, DefAt K mg "charges" sCharges ["k", "core"] f fd
  d_first_holes : ∃ f fd, DefAt K mg "first_holes" sFirstHoles ["k", "told"] f fd
  d_letters_between : ∃ f fd, DefAt K mg "letters_between" sLettersBetween ["k", "holes"] f fd
  d_core_of_charges : ∃ f fd, DefAt K mg "core_of_charges" sCoreOfCharges ["k", "value"] f fd
  d_parts_of : ∃ f fd, DefAt K mg "parts_of" sPartsOf ["k", "heap"] f fd
  d_letters_of : ∃ f fd, DefAt K mg "letters_of" sLettersOf ["k", "core"] f fd
  d_l_dice : ∃ f fd, DefAt K mg "_law_dice" sLDice ["_law_script", "_law_at"] f fd
  d_l_roll : ∃ f fd, DefAt K mg "_law_roll" sLRoll ["_law_dice_here", "_law_total"] f fd
  d_l_grown : ∃ f fd, DefAt K mg "_law_grown" sLGrown ["_law_heap", "_law_ring", "_law_x"] f fd
  d_l_beads : ∃ f fd, DefAt K mg "_law_beads" sLBeads ["_law_heap"] f fd
  d_l_hook : ∃ f fd, DefAt K mg "_law_hook" sLHook ["_law_heap", "_law_square"] f fd
  d_l_letters : ∃ f fd, DefAt K mg "_law_letters" sLLetters ["_law_k", "_law_heap"] f fd
  d_l_some_core : ∃ f fd, DefAt K mg "_law_some_core" sLSomeCore ["_law_dice_here", "_law_k", "_law_most"] f fd
  d_l_charges : ∃ f fd, DefAt K mg "_law_charges" sLCharges ["_law_k", "_law_heap"] f fd
  d_l_core_of : ∃ f fd, DefAt K mg "_law_core_of" sLCoreOf ["_law_told"] f fd
  d_l_told_core : ∃ f fd, DefAt K mg "_law_told_core" sLToldCore ["_law_k", "_law_told"] f fd
  d_l_letter_right : ∃ f fd, DefAt K mg "_law_letter_right" sLLetterRight ["_law_k", "_law_heap", "_law_letter"] f fd
end K1

namespace K1
open PySem PySem.Spec PyProof.Rows L2 Evl
/-! ### great powers -/
def CPowW (i j : Int) : Prop := 0 ≤ j ∧ (Builtin.Int.intBits i : Int) * j ≤ 2 ^ 27
theorem op_powW {X : Cx} : OpR X (binaryOp .Pow) (rI CPowW fun i j => .int (i ^ j.toNat)) := opI fun _ _ _ _ _ _ _ hc q => pow_int hc.1 hc.2 q
/-! ### values that are looked at -/
/-- no int -/
inductive NotInt (K : PySem.W.Frag) (H : Hp) : V → Prop where
  | bl (b : Bool) : NotInt K H (.bl b)
  | non : NotInt K H .non
  | str (x : Str) : NotInt K H (.str x)
  | lst {a : Addr} {xs : List V} (e : H a = some (.lst xs)) : NotInt K H (.ref a)
  | tup {a : Addr} {xs : List V} (e : H a = some (.tup xs)) : NotInt K H (.ref a)
  | dK {a : Addr} {kvs : List (Key × V)} (e : H a = some (.dK kvs)) : NotInt K H (.ref a)
inductive IntB (K : PySem.W.Frag) (H : Hp) : V → Bool → Prop where
  | int (i : Int) : IntB K H (.int i) (decide (-(10 ^ 60) < i) && decide (i < 10 ^ 60))
  | no {x : V} (h : NotInt K H x) : IntB K H x false
/-- between two ints -/
inductive BtwB (K : PySem.W.Frag) (H : Hp) (lo hi : Int) : V → Bool → Prop where
  | int (i : Int) : BtwB K H lo hi (.int i) ((decide (-(10 ^ 60) < i) && decide (i < 10 ^ 60)) && (decide (lo ≤ i) && decide (i ≤ hi)))
  | no {x : V} (h : NotInt K H x) : BtwB K H lo hi x false
theorem NotInt.ty {K : PySem.W.Frag} {H : Hp} {x : V} (h : NotInt K H x) : ∃ t : Value, TyX K H x t ∧ ((PySem.W.kitOne K t (.type "int") = some false) ∨ (t = .type "bool")) := by
  cases h with
  | bl b => exact ⟨_, .base (.bl b), .inr rfl⟩
  | non => exact ⟨_, .base .non, .inl (kit_ty (by decide +kernel))⟩
  | str x => exact ⟨_, .base (.str x), .inl (kit_ty (by decide +kernel))⟩
  | lst e => exact ⟨_, .base (.lst e), .inl (kit_ty (by decide +kernel))⟩
  | tup e => exact ⟨_, .base (.tup e), .inl (kit_ty (by decide +kernel))⟩
  | dK e => exact ⟨_, .base (.dK e), .inl (kit_ty (by decide +kernel))⟩
theorem NotInt.mono {K : PySem.W.Frag} {H H' : Hp} {x : V} (e : Ex H H') (h : NotInt K H x) : NotInt K H' x := by
  cases h with
  | bl b => exact .bl b
  | non => exact .non
  | str x => exact .str x
  | lst q => exact .lst (e _ _ q)
  | tup q => exact .tup (e _ _ q)
  | dK q => exact .dK (e _ _ q)
section
variable {P : Program} {w : World} {K : PySem.W.Frag} {mg : Str → Option Value} {base : Heap}
def spIsInteger (K : PySem.W.Frag) : Sp := fun vs H Q _ => ∃ x b, vs = [x] ∧ IntB K H x b ∧ ∀ H', Ex H H' → Q (.bl b) H'
theorem ok_is_integer (T : Txt K mg) {f : Addr} {fd : FuncData} (D : DefAt K mg "is_integer" sIsInteger ["value"] f fd) : FnOk P w K mg base CX0 1 f fd ["value"] (spIsInteger K) := by
  refine D.F.ok scIsInteger (fun vs H Q E h => ?_) (fun cdv A outer s H vs Q E hr h => ?_)
  · obtain ⟨x, b, rfl, _⟩ := h
    rfl
  · obtain ⟨x, b, rfl, hb, q⟩ := h
    obtain ⟨tB, vB⟩ := T.v_BOUND
    refine ⟨_, pss_one (ps_ret (pe_and (pe_callB call_isi (by rfl) T.z_isinstance (by decide +kernel) (pa_cons (pv 0) (pa_cons (pe_bltn (v := .ty "int") (by rfl) T.z_int (by decide +kernel) rfl) pa_nil)))
      (pe_and (pe_not (pe_callB call_isi (by rfl) T.z_isinstance (by decide +kernel) (pa_cons (pv 0) (pa_cons (pe_bltn (v := .ty "bool") (by rfl) T.z_bool (by decide +kernel) rfl) pa_nil))))
      (pe_one (pe_chain op_lt op_lt (pe_un un_neg (pe_glob (v := .int (10 ^ 60)) rfl vB ⟨_, rfl⟩)) (pv 0) (pe_glob (v := .int (10 ^ 60)) rfl vB ⟨_, rfl⟩)))))), ?_⟩
    cases hb with
    | int i =>
      refine ⟨.int i, rfl, .int i, .ty "int", .type "int", .type "int", true, rfl, .ty _, .base (.int i), kit_ty (by decide +kernel), true, rfl, iteT ?_⟩
      refine ⟨.int i, rfl, .int i, .ty "bool", .type "int", .type "bool", false, rfl, .ty _, .base (.int i), kit_ty (by decide +kernel), false, rfl, true, rfl, iteT ?_⟩
      refine ⟨_, rfl, .int i, rfl, _, _, rfl, rfl, _, rfl, ite2 (fun c => ?_) (fun c => ?_)⟩
      · refine ⟨_, _, rfl, rfl, ?_⟩
        have e : decide (-(10 ^ 60) < i) = true := c
        rw [e, Bool.true_and] at q
        exact q _ (Ex.refl _)
      · have e : decide (-(10 ^ 60) < i) = false := Bool.eq_false_iff.mpr c
        rw [e, Bool.false_and] at q
        exact q _ (Ex.refl _)
    | no hn =>
      obtain ⟨t, ty, h | rfl⟩ := hn.ty
      · exact ⟨x, rfl, x, .ty "int", t, .type "int", false, rfl, .ty _, ty, h, false, rfl, iteF (q _ (Ex.refl _))⟩
      · refine ⟨x, rfl, x, .ty "int", .type "bool", .type "int", true, rfl, .ty _, ty, kit_ty (by decide +kernel), true, rfl, iteT ?_⟩
        exact ⟨x, rfl, x, .ty "bool", .type "bool", .type "bool", true, rfl, .ty _, ty, kit_ty (by decide +kernel), true, rfl, false, rfl, iteF (q _ (Ex.refl _))⟩
def spIsBetween (K : PySem.W.Frag) : Sp := fun vs H Q _ => ∃ x lo hi b, vs = [x, .int lo, .int hi] ∧ BtwB K H lo hi x b ∧ ∀ H', Ex H H' → Q (.bl b) H'
theorem ok_is_between (T : Txt K mg) {f : Addr} {fd : FuncData} (D : DefAt K mg "is_between" sIsBetween ["value", "low", "high"] f fd) : FnOk P w K mg base CX0 2 f fd ["value", "low", "high"] (spIsBetween K) := by
  refine D.F.ok scIsBetween (fun vs H Q E h => ?_) (fun cdv A outer s H vs Q E hr h => ?_)
  · obtain ⟨x, lo, hi, b, rfl, _⟩ := h
    rfl
  · obtain ⟨x, lo, hi, b, rfl, hb, q⟩ := h
    obtain ⟨f1, fd1, D1⟩ := T.d_is_integer
    refine ⟨_, pss_one (ps_ret (pe_and (pe_call (ok_is_integer T D1) hr (by rfl) D1.g D1.F.kp D1.b .nil pass0 (pa_cons (pv 0) pa_nil)) (pe_one (pe_chain op_le op_le (pv 1) (pv 0) (pv 2))))), ?_⟩
    cases hb with
    | int i =>
      refine ⟨.int i, rfl, .int i, _, rfl, .int i, fun H1 e1 => ⟨_, rfl, ite2 (fun c => ?_) (fun c => ?_)⟩⟩
      · refine ⟨.int lo, rfl, .int i, rfl, _, _, rfl, rfl, _, rfl, ?_⟩
        rw [c, Bool.true_and] at q
        refine ite2 (fun c2 => ⟨.int hi, rfl, _, _, rfl, rfl, ?_⟩) (fun c2 => ?_)
        · have e : decide (lo ≤ i) = true := c2
          rw [e, Bool.true_and] at q
          exact q _ e1
        · have e : decide (lo ≤ i) = false := Bool.eq_false_iff.mpr c2
          rw [e, Bool.false_and] at q
          exact q _ e1
      · rw [Bool.eq_false_iff.mpr c, Bool.false_and] at q
        exact q _ e1
    | no hn => exact ⟨x, rfl, x, false, rfl, .no hn, fun H1 e1 => ⟨false, rfl, iteF (q _ e1)⟩⟩
end
end K1

namespace K1
open PySem PySem.Spec PyProof.Rows L2 Evl
/-! ### the dice -/
def Dice (H : Hp) (d : Addr) : Prop := ∃ l m c : Int, H d = some (.lst [.int l, .int m, .int c])
/-- all but the dice is as it was -/
def Keep (d : Addr) (H H' : Hp) : Prop := ∀ b o, b ≠ d → H b = some o → H' b = some o
theorem Keep.refl (d : Addr) (H : Hp) : Keep d H H := fun _ _ _ h => h
theorem Keep.trans {d : Addr} {H H1 H2 : Hp} (a : Keep d H H1) (b : Keep d H1 H2) : Keep d H H2 := fun x o n h => b x o n (a x o n h)
theorem Keep.ex {d : Addr} {H H' : Hp} (e : Ex H H') : Keep d H H' := fun b o _ h => e b o h
theorem Keep.dice {d : Addr} {H : Hp} {o : HO} : Keep d H (upd H d o) := fun b u n h => by
  rw [upd_ne n]
  exact h
theorem Keep.new {d p : Addr} {H : Hp} {o : HO} (h : H p = none) : Keep d H (upd H p o) := .ex (.new h)
/-- a thing that H did not know may change -/
theorem Keep.mut {d p : Addr} {H H' : Hp} {o : HO} (e : Keep d H H') (h : H p = none) : Keep d H (upd H' p o) := fun b u n q => by
  rw [upd_ne (ne_of_none q h)]
  exact e b u n q
theorem Keep.free {d p : Addr} {H H' : Hp} (e : Keep d H H') (n : p ≠ d) (h : H' p = none) : H p = none := by
  cases q : H p with
  | none => rfl
  | some o =>
    rw [e p o n q] at h
    cases h
theorem Dice.ex {d : Addr} {H H' : Hp} (e : Ex H H') (h : Dice H d) : Dice H' d := by
  obtain ⟨l, m, c, q⟩ := h
  exact ⟨l, m, c, e _ _ q⟩
theorem Dice.upd {d p : Addr} {H : Hp} {o : HO} (n : d ≠ p) (h : Dice H d) : Dice (L2.upd H p o) d := by
  obtain ⟨l, m, c, q⟩ := h
  exact ⟨l, m, c, by rw [upd_ne n]; exact q⟩
theorem Dice.ne_new {d p : Addr} {H : Hp} (h : Dice H d) (n : H p = none) : d ≠ p := by
  obtain ⟨l, m, c, q⟩ := h
  exact ne_of_none q n
theorem Dice.ne_tup {d p : Addr} {H : Hp} {xs : List V} (h : Dice H d) (n : H p = some (.tup xs)) : p ≠ d := by
  obtain ⟨l, m, c, q⟩ := h
  exact ne_of n q (by intro z; cases z)
theorem Keep.tup {d p : Addr} {H H' : Hp} {xs : List V} (e : Keep d H H') (h : Dice H d) (n : H p = some (.tup xs)) : H' p = some (.tup xs) := e _ _ (h.ne_tup n) n
theorem wide_n {n : Int} (h : 1 ≤ n) (h2 : n ≤ 10 ^ 50) {i : Int} : CDivW i n := wide_div (b := 200) (by omega) (by omega) (by decide) (by decide)
section
variable {P : Program} {w : World} {K : PySem.W.Frag} {mg : Str → Option Value} {base : Heap}
def spRoll : Sp := fun vs H Q _ => ∃ (d : Addr) (n : Int), vs = [.ref d, .int n] ∧ Dice H d ∧ 1 ≤ n ∧ n ≤ 10 ^ 50 ∧ ∀ (r : Int) H', 0 ≤ r → r < n → Dice H' d → Keep d H H' → Q (.int r) H'
theorem ok_roll (T : Txt K mg) {f : Addr} {fd : FuncData} (D : DefAt K mg "_law_roll" sLRoll ["_law_dice_here", "_law_total"] f fd) : FnOk P w K mg base CX0 1 f fd ["_law_dice_here", "_law_total"] spRoll := by
  refine D.F.ok scLRoll (fun vs H Q E h => ?_) (fun cdv A outer s H vs Q E hr h => ?_)
  · obtain ⟨d, n, rfl, _⟩ := h
    rfl
  · obtain ⟨d, n, rfl, ⟨l, m, c, hd⟩, h1, h2, q⟩ := h
    refine ⟨_, pss_cons (ps_set (i := 2) scLRoll.nd rfl (.inl rfl) (pe_callTy call_int1 (by rfl) T.z_int (by decide +kernel) (pa_cons (pv 1) pa_nil)))
      (pss_cons (ps_if (pt_cmpR op_gt (pe_ix ix_list (pv 0) pe_int (fun _ _ => rfl)) pe_int (nomark _))
        (pss_cons (ps_set (i := 3) scLRoll.nd rfl (.inl rfl) (pe_op op_mod (pe_ix ix_list (pv 0) pe_int (fun _ _ => rfl)) (pv 2)))
        (pss_cons (ps_asg (pe_op op_fdivW (pe_ix ix_list (pv 0) pe_int (fun _ _ => rfl)) (pv 2)) (pg_sub (pv 0) pe_int set_list))
        (pss_one (ps_ret (pe_callTy call_int1 (by rfl) T.z_int (by decide +kernel) (pa_cons (pv 3) pa_nil)))))) pss_nil)
      (pss_cons (ps_asg (pe_op op_add (pe_ix ix_list (pv 0) pe_int (fun _ _ => rfl)) pe_int) (pg_sub (pv 0) pe_int set_list))
      (pss_cons (ps_set (i := 4) scLRoll.nd rfl (.inl rfl) (pe_op op_mod (pe_op op_add (pe_ix ix_list (pv 0) pe_int (fun _ _ => rfl)) (pe_op op_mul pe_int (pe_ix ix_list (pv 0) pe_int (fun _ _ => rfl)))) pe_int))
      (pss_cons (ps_set (i := 5) scLRoll.nd rfl (.inl rfl) (pe_op op_add (pe_op op_mul (pe_op op_mod (pe_op op_mul (pv 4) (pv 4)) pe_int) (pv 4)) (pe_op op_mul pe_int (pe_ix ix_list (pv 0) pe_int (fun _ _ => rfl)))))
      (pss_cons (ps_set (i := 5) scLRoll.nd rfl (.inl rfl) (pe_op op_mod (pv 5) pe_int))
      (pss_one (ps_ret (pe_callTy call_int1 (by rfl) T.z_int (by decide +kernel) (pa_cons (pe_op op_mod (pe_op op_fdiv (pv 5) pe_int) (pv 2)) pa_nil))))))))), ?_⟩
    refine ⟨.int n, rfl, .inl ⟨n, rfl, ?_⟩⟩
    have S0 : SqL K H d [.int l, .int m, .int c] := SqL.of hd
    refine ⟨.ref d, rfl, d, _, 0, .int l, rfl, rfl, S0, rfl, l, 0, rfl, rfl, _, rfl, ite2 (fun cc => ?_) (fun cc => ?_)⟩
    · refine ⟨.ref d, rfl, d, _, 0, .int l, rfl, rfl, S0, rfl, .int n, rfl, l, n, rfl, rfl, by omega, ?_⟩
      refine ⟨.ref d, rfl, d, _, 0, .int l, rfl, rfl, S0, rfl, .int n, rfl, l, n, rfl, rfl, wide_n h1 h2, .ref d, rfl, d, _, 0, 0, rfl, rfl, hd, rfl, ?_⟩
      refine ⟨_, rfl, .inl ⟨l % n, rfl, ?_⟩⟩
      exact q _ _ (Int.emod_nonneg _ (by omega)) (Int.emod_lt_of_pos _ (by omega)) ⟨_, _, _, upd_same⟩ Keep.dice
    · refine ⟨.ref d, rfl, d, _, 2, .int c, rfl, rfl, S0, rfl, c, 1, rfl, rfl, .ref d, rfl, d, _, 2, 2, rfl, rfl, hd, rfl, ?_⟩
      generalize hH1 : upd H d _ = H1
      have hd1 : H1 d = some (.lst [.int l, .int m, .int (c + 1)]) := by
        rw [← hH1]
        exact upd_same
      have k1 : Keep d H H1 := by
        rw [← hH1]
        exact Keep.dice
      have S1 : SqL K H1 d [.int l, .int m, .int (c + 1)] := SqL.of hd1
      refine ⟨.ref d, rfl, d, _, 1, .int m, rfl, rfl, S1, rfl, .ref d, rfl, d, _, 2, .int (c + 1), rfl, rfl, S1, rfl, _, _, rfl, rfl, .inl (by decide), _, _, rfl, rfl, _, _, rfl, rfl, by show (0 : Int) < _; decide, ?_⟩
      refine ⟨_, rfl, _, rfl, (m + 1000409 * (c + 1)) % 2305843009213693951, (m + 1000409 * (c + 1)) % 2305843009213693951, rfl, rfl, .inl (by constructor <;> omega), _, _, rfl, rfl, by show (0 : Int) < _; decide, _, rfl, _, (m + 1000409 * (c + 1)) % 2305843009213693951, rfl, rfl, .inr (by constructor <;> omega), ?_⟩
      refine ⟨.ref d, rfl, d, _, 2, .int (c + 1), rfl, rfl, S1, rfl, _, _, rfl, rfl, .inl (by decide), _, _, rfl, rfl, ?_⟩
      refine ⟨_, rfl, _, _, rfl, rfl, by show (0 : Int) < _; decide, ?_⟩
      refine ⟨_, rfl, _, _, rfl, rfl, ⟨by decide, by decide⟩, .int n, rfl, _, n, rfl, rfl, by omega, .inl ⟨_, rfl, ?_⟩⟩
      exact q _ _ (Int.emod_nonneg _ (by omega)) (Int.emod_lt_of_pos _ (by omega)) ⟨_, _, _, hd1⟩ k1
def spOneOf (K : PySem.W.Frag) : Sp := fun vs H Q _ => ∃ (d a : Addr) (xs : List V), vs = [.ref d, .ref a] ∧ Dice H d ∧ H a = some (.lst xs) ∧ a ≠ d ∧ 1 ≤ xs.length ∧ xs.length ≤ 1000 ∧ ∀ x H', x ∈ xs → Dice H' d → Keep d H H' → Q x H'
/-- a drawn ring -/
def RingAt (H : Hp) (most : Int) (x : V) (n s : Int) : Prop := ∃ t, x = .ref t ∧ H t = some (.tup [.int n, .int s]) ∧ 2 ≤ n ∧ n ≤ most ∧ 1 ≤ s ∧ s < n
def spRing : Sp := fun vs H Q _ => ∃ (d : Addr) (most : Int), vs = [.ref d, .int most] ∧ Dice H d ∧ 2 ≤ most ∧ most ≤ 1000 ∧ ∀ x n s H', RingAt H' most x n s → Dice H' d → Keep d H H' → Q x H'
end
end K1

namespace K1
open PySem PySem.Spec PyProof.Rows L2 Evl
section
variable {P : Program} {w : World} {K : PySem.W.Frag} {mg : Str → Option Value} {base : Heap}
def spDice (K : PySem.W.Frag) : Sp := fun vs H Q _ => ∃ (a : Addr) (ns : List Int) (i : Nat), vs = [.ref a, .int i] ∧ SqL K H a (ns.map V.int) ∧ ∀ p H', H p = none → Ex H H' → Dice H' p → Q (.ref p) H'
theorem ok_dice (T : Txt K mg) {f : Addr} {fd : FuncData} (D : DefAt K mg "_law_dice" sLDice ["_law_script", "_law_at"] f fd) : FnOk P w K mg base CX0 1 f fd ["_law_script", "_law_at"] (spDice K) := by
  refine D.F.ok scLDice (fun vs H Q E h => ?_) (fun cdv A outer s H vs Q E hr h => ?_)
  · obtain ⟨d, n, i, rfl, _⟩ := h
    rfl
  · obtain ⟨a, ns, i, rfl, hS, q⟩ := h
    refine ⟨_, pss_cons (ps_set (i := 2) scLDice.nd rfl (.inl rfl) (pe_op op_add (pe_op op_mul pe_int (pv 1)) pe_int))
      (pss_cut (ps_if (pt_cmpR op_lt (pv 1) (pe_callB call_len_seq (by rfl) T.z_len PySem.boot_len (pa_cons (pv 0) pa_nil)) (nomark _))
        (pss_one (ps_set (i := 2) scLDice.nd rfl (.inl rfl) (pe_ix ix_list (pv 0) (pv 1) (fun _ _ => rfl)))) pss_nil)
      (pss_cons (ps_set (i := 3) scLDice.nd rfl (.inl rfl) (pe_op op_mod (pe_callTy call_int1 (by rfl) T.z_int (by decide +kernel) (pa_cons (pe_callB call_abs (by rfl) T.z_abs (by decide +kernel) (pa_cons (pv 2) pa_nil)) pa_nil)) (pe_op op_powW (pe_op op_pow pe_int pe_int) pe_int)))
      (pss_cons (ps_set (i := 4) scLDice.nd rfl (.inl rfl) (pe_op op_fdivW (pv 3) (pe_op op_pow pe_int pe_int)))
      (pss_cons (ps_set (i := 5) scLDice.nd rfl (.inl rfl) (pe_op op_add (pe_op op_add (pe_op op_add (pe_op op_mul (pe_op op_mod (pv 3) pe_int) pe_int) (pe_op op_mul pe_int (pv 1))) (pe_op op_mul pe_int (pe_callTy call_int1 (by rfl) T.z_int (by decide +kernel) (pa_cons (pe_cmpR op_lt (pv 2) pe_int (nomark _)) pa_nil)))) pe_int))
      (pss_one (ps_ret (pe_lst (pa_cons (pv 4) (pa_cons (pe_op op_mod (pv 5) pe_int) (pa_cons pe_int pa_nil))))))))) ), ?_⟩
    refine ⟨_, rfl, _, _, rfl, rfl, .inl (by decide), _, _, rfl, rfl, ?_⟩
    refine ⟨fun σ' H' => ∃ cell : Int, σ' = [some (.ref a), some (.int i), some (.int cell), none, none, none] ∧ H' = H, ?_, ?_⟩
    · refine ⟨_, rfl, .ref a, rfl, a, _, rfl, .inl hS, _, _, rfl, rfl, _, rfl, ite2 (fun c => ?_) (fun c => ⟨_, rfl, rfl⟩)⟩
      have c' : (i : Int) < ((ns.map V.int).length : Int) := of_decide_eq_true c
      rw [List.length_map] at c'
      have hx : (ns.map V.int)[i]? = some (.int (ns[i]'(by omega))) := by
        rw [List.getElem?_map, List.getElem?_eq_getElem (by omega)]
        rfl
      exact ⟨.ref a, rfl, _, rfl, a, _, _, _, rfl, rfl, hS, atI_nat hx, _, rfl, rfl⟩
    · rintro σ' H' ⟨cell, rfl, rfl⟩
      refine ⟨_, rfl, _, rfl, .inl ⟨_, rfl, _, _, rfl, rfl, ⟨by decide, by decide, by decide⟩, _, _, rfl, rfl, ⟨by decide, by decide +kernel⟩, _, _, rfl, rfl, by show (0 : Int) < (10 ^ Int.toNat 60) ^ Int.toNat 10; decide +kernel, ?_⟩⟩
      refine ⟨_, rfl, _, _, rfl, rfl, ⟨by decide, by decide, by decide⟩, _, _, rfl, rfl, wide_div (b := 60) (by decide +kernel) (by decide +kernel) (by decide) (by decide), ?_⟩
      refine ⟨_, rfl, _, _, rfl, rfl, by show (0 : Int) < _; decide, _, _, rfl, rfl, .inr (by decide), _, rfl, _, _, rfl, rfl, .inl (by decide), _, _, rfl, rfl, _, rfl, _, _, rfl, rfl, .inr ⟨_, rfl, _, _, rfl, rfl, .inl (by decide), _, _, rfl, rfl, _, _, rfl, rfl, ?_⟩⟩
      refine ⟨_, rfl, _, rfl, _, _, rfl, rfl, by show (0 : Int) < _; decide, by show 3 ≤ sizeLine; decide, fun p hp => ?_⟩
      exact q p _ hp (Ex.new hp) ⟨_, _, _, upd_same⟩
/-- the greatest common divisor -/
def spCommon : Sp := fun vs H Q _ => ∃ (a b : Nat), vs = [.int a, .int b] ∧ ∀ H', Ex H H' → Q (.int (Nat.gcd a b : Nat)) H'
/-- a drawn ring of one order -/
def spRingOf : Sp := fun vs H Q _ => ∃ (d : Addr) (k t : Int), vs = [.ref d, .int k, .int t] ∧ Dice H d ∧ 2 ≤ k ∧ k ≤ 100 ∧ 1 ≤ t ∧ t ≤ 1000 ∧ ∀ x n s H', RingAt H' (k * t) x n s → Dice H' d → Keep d H H' → Q x H'
end
end K1

/-! plain mathematics of heaps: heights of columns that do not ascend -/
namespace HM
def hAt (h : List Nat) (c : Nat) : Nat := h.getD c 0
theorem hAt_lt {h : List Nat} {c : Nat} (hc : c < h.length) : h[c]? = some (hAt h c) := by
  unfold hAt
  rw [List.getD_eq_getElem?_getD, List.getElem?_eq_getElem hc]
  rfl
theorem hAt_ge {h : List Nat} {c : Nat} (hc : h.length ≤ c) : hAt h c = 0 := by
  unfold hAt
  rw [List.getD_eq_getElem?_getD, List.getElem?_eq_none hc]
  rfl
structure IsHeap (h : List Nat) : Prop where
  pos : ∀ c, c < h.length → 0 < hAt h c
  fall : ∀ c, hAt h (c + 1) ≤ hAt h c
theorem IsHeap.nil : IsHeap [] := ⟨fun c hc => absurd hc (Nat.not_lt_zero c), fun c => by rw [hAt_ge (Nat.zero_le _), hAt_ge (Nat.zero_le _)]; exact Nat.le_refl _⟩
theorem IsHeap.le {h : List Nat} (H : IsHeap h) {c : Nat} : ∀ {d : Nat}, c ≤ d → hAt h d ≤ hAt h c
  | 0, hd => by
    have : c = 0 := by omega
    rw [this]
    exact Nat.le_refl _
  | d + 1, hd => by
    by_cases e : c = d + 1
    · rw [e]
      exact Nat.le_refl _
    · exact Nat.le_trans (H.fall d) (H.le (by omega))
/-- two heaps with the same heights are one -/
theorem heap_ext {h h' : List Nat} (H : IsHeap h) (H' : IsHeap h') (e : ∀ c, hAt h c = hAt h' c) : h = h' := by
  have l : h.length = h'.length := by
    rcases Nat.lt_trichotomy h.length h'.length with q | q | q
    · have a := H'.pos _ q
      rw [← e, hAt_ge (Nat.le_refl _)] at a
      omega
    · exact q
    · have a := H.pos _ q
      rw [e, hAt_ge (Nat.le_refl _)] at a
      omega
  refine List.ext_getElem? fun c => ?_
  by_cases hc : c < h.length
  · rw [hAt_lt hc, hAt_lt (by omega), e]
  · rw [List.getElem?_eq_none (by omega), List.getElem?_eq_none (by omega)]
/-- a square can be added on top of the column -/
def opn (h : List Nat) (c : Nat) : Bool := decide (c = 0) || decide (hAt h c < hAt h (c - 1))
theorem opn_le {h : List Nat} {c : Nat} (o : opn h c = true) : c ≤ h.length := by
  unfold opn at o
  by_cases hc : c ≤ h.length
  · exact hc
  · rw [decide_eq_false (show ¬ c = 0 by omega), hAt_ge (show h.length ≤ c by omega), hAt_ge (show h.length ≤ c - 1 by omega)] at o
    exact absurd o (by decide)
theorem opn_lt {h : List Nat} {c : Nat} (o : opn h (c + 1) = true) : hAt h (c + 1) < hAt h c := by
  unfold opn at o
  rw [decide_eq_false (show ¬ c + 1 = 0 by omega), Bool.false_or] at o
  exact of_decide_eq_true o
def b2n (b : Bool) : Nat := if b = true then 1 else 0
theorem b2n_le (b : Bool) : b2n b ≤ 1 := by cases b <;> decide
def grow (h : List Nat) (g : Nat → Bool) : List Nat := (List.range h.length).map (fun c => hAt h c + b2n (g c)) ++ (if g h.length = true then [1] else [])
theorem grow_len (h : List Nat) (g : Nat → Bool) : (grow h g).length = h.length + b2n (g h.length) := by
  unfold grow b2n
  rw [List.length_append, List.length_map, List.length_range]
  split <;> rfl
theorem hAt_grow {h : List Nat} {g : Nat → Bool} (hg : ∀ c, g c = true → opn h c = true) (c : Nat) : hAt (grow h g) c = hAt h c + b2n (g c) := by
  unfold hAt
  rw [List.getD_eq_getElem?_getD, List.getD_eq_getElem?_getD]
  unfold grow
  by_cases hc : c < h.length
  · rw [List.getElem?_append_left (by rw [List.length_map, List.length_range]; exact hc), List.getElem?_map, List.getElem?_range hc, hAt_lt hc]
    rfl
  · rw [List.getElem?_append_right (by rw [List.length_map, List.length_range]; omega), List.length_map, List.length_range, List.getElem?_eq_none (show h.length ≤ c by omega)]
    by_cases e : c = h.length
    · subst e
      rw [Nat.sub_self]
      unfold b2n
      by_cases q : g h.length = true
      · rw [if_pos q, if_pos q]
        rfl
      · rw [if_neg q, if_neg q]
        rfl
    · have q : g c = false := by
        cases q : g c with
        | false => rfl
        | true => exact absurd (opn_le (hg c q)) (by omega)
      rw [q]
      have l : (if g h.length = true then [1] else []).length ≤ 1 := by split <;> decide
      rw [List.getElem?_eq_none (by omega)]
      rfl
theorem grow_heap {h : List Nat} {g : Nat → Bool} (H : IsHeap h) (hg : ∀ c, g c = true → opn h c = true) : IsHeap (grow h g) := by
  refine ⟨fun c hc => ?_, fun c => ?_⟩
  · rw [hAt_grow hg]
    rw [grow_len] at hc
    by_cases q : c < h.length
    · have := H.pos c q
      omega
    · have : c = h.length := by
        have := b2n_le (g h.length)
        omega
      subst this
      omega
  · rw [hAt_grow hg, hAt_grow hg]
    have := H.fall c
    cases q : g (c + 1) with
    | false =>
      show hAt h (c + 1) + 0 ≤ _
      omega
    | true =>
      have := opn_lt (hg _ q)
      show hAt h (c + 1) + 1 ≤ _
      omega
/-- heights and one more, 0, with some more -/
def hts (h : List Nat) (f : Nat → Nat) : List Nat := (List.range (h.length + 1)).map fun c => hAt h c + f c
theorem hts_len (h : List Nat) (f : Nat → Nat) : (hts h f).length = h.length + 1 := by
  unfold hts
  rw [List.length_map, List.length_range]
theorem hts_get {h : List Nat} {f : Nat → Nat} {c : Nat} (hc : c ≤ h.length) : (hts h f)[c]? = some (hAt h c + f c) := by
  unfold hts
  rw [List.getElem?_map, List.getElem?_range (by omega)]
  rfl
theorem hts_zero (h : List Nat) : h ++ [0] = hts h fun _ => 0 := by
  refine List.ext_getElem? fun c => ?_
  by_cases q : c < h.length
  · rw [List.getElem?_append_left q, hAt_lt q, hts_get (by omega)]
    rfl
  · by_cases e : c = h.length
    · subst e
      rw [List.getElem?_append_right (Nat.le_refl _), Nat.sub_self, hts_get (Nat.le_refl _), hAt_ge (Nat.le_refl _)]
      rfl
    · rw [List.getElem?_eq_none (by rw [List.length_append]; show h.length + 1 ≤ c; omega), List.getElem?_eq_none (by rw [hts_len]; omega)]
def cnt (cols : List Nat) (c : Nat) : Nat := (cols.filter fun d => d == c).length
theorem cnt_snoc (cols : List Nat) (d c : Nat) : cnt (cols ++ [d]) c = cnt cols c + b2n (d == c) := by
  unfold cnt
  rw [List.filter_append, List.length_append]
  cases q : (d == c) with
  | true =>
    rw [List.filter_cons, if_pos q]
    rfl
  | false =>
    rw [List.filter_cons, if_neg (by rw [q]; decide)]
    rfl
theorem hts_set {h : List Nat} {cols : List Nat} {d : Nat} (hd : d ≤ h.length) : (hts h (cnt cols)).set d (hAt h d + cnt cols d + 1) = hts h (cnt (cols ++ [d])) := by
  refine List.ext_getElem? fun c => ?_
  rw [List.getElem?_set]
  by_cases e : d = c
  · subst e
    rw [if_pos rfl, if_pos (by rw [hts_len]; omega), hts_get hd, cnt_snoc]
    show some _ = some (hAt h d + (cnt cols d + b2n (d == d)))
    rw [beq_self_eq_true]
    rfl
  · rw [if_neg e]
    by_cases q : c ≤ h.length
    · rw [hts_get q, hts_get q, cnt_snoc]
      have : (d == c) = false := by simpa using e
      rw [this]
      rfl
    · rw [List.getElem?_eq_none (by rw [hts_len]; omega), List.getElem?_eq_none (by rw [hts_len]; omega)]
theorem range_filter_cnt (n : Nat) (g : Nat → Bool) (c : Nat) : cnt ((List.range n).filter g) c = b2n (decide (c < n) && g c) := by
  induction n with
  | zero => rfl
  | succ n ih =>
    rw [List.range_succ, List.filter_append]
    have e : cnt ((List.range n).filter g ++ [n].filter g) c = cnt ((List.range n).filter g) c + cnt ([n].filter g) c := by
      unfold cnt
      rw [List.filter_append, List.length_append]
    rw [e, ih]
    by_cases q : g n = true
    · have : [n].filter g = [n] := by
        rw [List.filter_cons, if_pos q]
        rfl
      rw [this]
      unfold cnt
      by_cases z : n = c
      · subst z
        rw [List.filter_cons, if_pos (beq_self_eq_true n), decide_eq_false (Nat.lt_irrefl n), decide_eq_true (Nat.lt_succ_self n), q]
        rfl
      · rw [List.filter_cons, if_neg (show ¬ (n == c) = true by simpa using z)]
        have : decide (c < n) = decide (c < n + 1) := decide_eq_decide.mpr (by omega)
        rw [this]
        rfl
    · have : [n].filter g = [] := by
        rw [List.filter_cons, if_neg q]
        rfl
      rw [this]
      by_cases z : c = n
      · subst z
        have : g c = false := by simpa using q
        rw [this, Bool.and_false, Bool.and_false]
        rfl
      · have : decide (c < n) = decide (c < n + 1) := decide_eq_decide.mpr (by omega)
        rw [this]
        rfl
/-- what heaped makes of columns -/
theorem hts_filter {h : List Nat} (hp : ∀ c, c < h.length → 0 < hAt h c) {g : Nat → Bool} {f : Nat → Nat} (hf : ∀ c, c ≤ h.length → f c = b2n (g c)) : (hts h f).filter (fun x => decide (0 < x)) = grow h g := by
  unfold hts grow
  rw [List.range_succ, List.map_append, List.filter_append]
  have e1 : ((List.range h.length).map fun c => hAt h c + f c).filter (fun x => decide (0 < x)) = (List.range h.length).map fun c => hAt h c + b2n (g c) := by
    have e : ((List.range h.length).map fun c => hAt h c + f c) = (List.range h.length).map fun c => hAt h c + b2n (g c) := by
      refine List.map_congr_left fun c hc => ?_
      rw [hf c (Nat.le_of_lt (List.mem_range.mp hc))]
    rw [e]
    refine List.filter_eq_self.mpr fun x hx => ?_
    obtain ⟨c, hc, rfl⟩ := List.mem_map.mp hx
    have := hp c (List.mem_range.mp hc)
    exact decide_eq_true (by omega)
  rw [e1]
  congr 1
  show [hAt h h.length + f h.length].filter _ = _
  rw [hAt_ge (Nat.le_refl _), hf _ (Nat.le_refl _)]
  unfold b2n
  by_cases q : g h.length = true
  · rw [if_pos q, if_pos q]
    rfl
  · rw [if_neg q, if_neg q]
    rfl
/-- the diagonal of the square on top -/
def dg (h : List Nat) (c : Nat) : Int := (c : Int) - (hAt h c : Int)
theorem dg_lt {h : List Nat} (H : IsHeap h) {c d : Nat} (hcd : c < d) : dg h c < dg h d := by
  unfold dg
  have := H.le (Nat.le_of_lt hcd)
  omega
theorem dg_inj {h : List Nat} (H : IsHeap h) {c d : Nat} (e : dg h c = dg h d) : c = d := by
  rcases Nat.lt_trichotomy c d with q | q | q
  · have := dg_lt H q
    omega
  · exact q
  · have := dg_lt H q
    omega
theorem dg_two {h : List Nat} (H : IsHeap h) {c d : Nat} (hcd : c < d) (o : opn h d = true) : dg h c + 2 ≤ dg h d := by
  obtain ⟨e, rfl⟩ : ∃ e, d = e + 1 := ⟨d - 1, by omega⟩
  have a := opn_lt o
  have b := H.le (show c ≤ e by omega)
  unfold dg
  omega
def oc (h : List Nat) : List Nat := (List.range (h.length + 1)).filter (opn h)
theorem oc_mem {h : List Nat} {c : Nat} : c ∈ oc h ↔ opn h c = true := by
  unfold oc
  rw [List.mem_filter, List.mem_range]
  exact ⟨fun z => z.2, fun z => ⟨Nat.lt_succ_of_le (opn_le z), z⟩⟩
end HM

/-! plain mathematics of heaps, continued: growing column by column, tries, squares added in any order -/
namespace HM
theorem range_hAt (h : List Nat) : (List.range h.length).map (hAt h) = h := by
  refine List.ext_getElem? fun c => ?_
  by_cases q : c < h.length
  · rw [List.getElem?_map, List.getElem?_range q, hAt_lt q]
    rfl
  · rw [List.getElem?_eq_none (by rw [List.length_map, List.length_range]; omega), List.getElem?_eq_none (by omega)]
/-- grown at the first columns -/
def fr (h : List Nat) (g : Nat → Bool) (i : Nat) : List Nat := (List.range h.length).map (fun c => hAt h c + b2n (decide (c < i) && g c)) ++ (if (decide (h.length < i) && g h.length) = true then [1] else [])
theorem fr_zero (h : List Nat) (g : Nat → Bool) : fr h g 0 = h := by
  unfold fr
  rw [decide_eq_false (Nat.not_lt_zero _), Bool.false_and, if_neg (by decide), List.append_nil]
  conv => rhs; rw [← range_hAt h]
  refine List.map_congr_left fun c _ => ?_
  rw [decide_eq_false (Nat.not_lt_zero _), Bool.false_and]
  rfl
theorem fr_end (h : List Nat) (g : Nat → Bool) : fr h g (h.length + 1) = grow h g := by
  unfold fr grow
  rw [decide_eq_true (Nat.lt_succ_self _), Bool.true_and]
  congr 1
  refine List.map_congr_left fun c hc => ?_
  rw [decide_eq_true (show c < h.length + 1 from Nat.lt_succ_of_lt (List.mem_range.mp hc)), Bool.true_and]
theorem fr_skip {h : List Nat} {g : Nat → Bool} {i : Nat} (q : g i = false) : fr h g (i + 1) = fr h g i := by
  have e : ∀ c, (decide (c < i + 1) && g c) = (decide (c < i) && g c) := fun c => by
    by_cases z : c = i
    · subst z
      rw [q, Bool.and_false, Bool.and_false]
    · have : decide (c < i + 1) = decide (c < i) := decide_eq_decide.mpr (by omega)
      rw [this]
  unfold fr
  rw [e]
  congr 1
  exact List.map_congr_left fun c _ => by rw [e]
theorem fr_low {h : List Nat} {g : Nat → Bool} {i : Nat} (hi : i ≤ h.length) : fr h g i = (List.range h.length).map (fun c => hAt h c + b2n (decide (c < i) && g c)) := by
  unfold fr
  rw [decide_eq_false (show ¬ h.length < i by omega), Bool.false_and, if_neg (by decide), List.append_nil]
theorem fr_low_len {h : List Nat} {g : Nat → Bool} {i : Nat} (hi : i ≤ h.length) : (fr h g i).length = h.length := by
  rw [fr_low hi, List.length_map, List.length_range]
theorem fr_set {h : List Nat} {g : Nat → Bool} {i : Nat} (hi : i < h.length) (q : g i = true) : (fr h g i).set i (hAt h i + 1) = fr h g (i + 1) := by
  rw [fr_low (show i ≤ h.length by omega), fr_low (show i + 1 ≤ h.length by omega)]
  refine List.ext_getElem? fun c => ?_
  rw [List.getElem?_set]
  by_cases e : i = c
  · subst e
    rw [if_pos rfl, if_pos (by rw [List.length_map, List.length_range]; exact hi), List.getElem?_map, List.getElem?_range hi]
    show some _ = some (hAt h i + b2n (decide (i < i + 1) && g i))
    rw [decide_eq_true (Nat.lt_succ_self i), q]
    rfl
  · rw [if_neg e, List.getElem?_map, List.getElem?_map]
    have : decide (c < i + 1) = decide (c < i) := decide_eq_decide.mpr (by omega)
    by_cases l : c < h.length
    · rw [List.getElem?_range l]
      show some (hAt h c + b2n (decide (c < i) && g c)) = some (hAt h c + b2n (decide (c < i + 1) && g c))
      rw [this]
    · rw [List.getElem?_eq_none (by rw [List.length_range]; omega)]
      rfl
theorem fr_app {h : List Nat} {g : Nat → Bool} (q : g h.length = true) : fr h g h.length ++ [1] = fr h g (h.length + 1) := by
  rw [fr_end, fr_low (Nat.le_refl _)]
  unfold grow
  rw [if_pos q]
  congr 1
  refine List.map_congr_left fun c hc => ?_
  rw [decide_eq_true (List.mem_range.mp hc), Bool.true_and]
/-! ### tries -/
def Falls (ns : List Int) : Prop := (∀ j, j + 1 < ns.length → ns.getD (j + 1) 0 ≤ ns.getD j 0) ∧ ∀ y ∈ ns, (0 : Int) ≤ y
/-- heights with 0 behind them, one changed -/
def chg (h : List Nat) (st : Int) (c : Nat) : List Int := (List.range (h.length + 1)).map fun x => (hAt h x : Int) + (if x = c then st else 0)
theorem chg_len (h : List Nat) (st : Int) (c : Nat) : (chg h st c).length = h.length + 1 := by
  unfold chg
  rw [List.length_map, List.length_range]
theorem chg_get {h : List Nat} {st : Int} {c x : Nat} (hx : x ≤ h.length) : (chg h st c).getD x 0 = (hAt h x : Int) + (if x = c then st else 0) := by
  unfold chg
  rw [List.getD_eq_getElem?_getD, List.getElem?_map, List.getElem?_range (by omega)]
  rfl
/-- columns at which a try leaves a heap -/
def tr (h : List Nat) (st : Int) (c : Nat) : Bool := if st = 1 then opn h c else decide (hAt h (c + 1) < hAt h c)
theorem chg_falls {h : List Nat} (H : IsHeap h) {st : Int} (hst : st = 1 ∨ st = -1) {c : Nat} (hc : c ≤ h.length) : Falls (chg h st c) ↔ tr h st c = true := by
  have hm : ∀ y, y ∈ chg h st c → ∃ x, x ≤ h.length ∧ y = (hAt h x : Int) + (if x = c then st else 0) := fun y hy => by
    unfold chg at hy
    obtain ⟨x, hx, rfl⟩ := List.mem_map.mp hy
    exact ⟨x, Nat.le_of_lt_succ (List.mem_range.mp hx), rfl⟩
  have hm2 : ∀ x, x ≤ h.length → (hAt h x : Int) + (if x = c then st else 0) ∈ chg h st c := fun x hx => List.mem_map.mpr ⟨x, List.mem_range.mpr (Nat.lt_succ_of_le hx), rfl⟩
  rcases hst with rfl | rfl
  · unfold tr
    rw [if_pos rfl]
    constructor
    · rintro ⟨f1, f2⟩
      unfold opn
      by_cases z : c = 0
      · rw [decide_eq_true z, Bool.true_or]
      · have a := f1 (c - 1) (by rw [chg_len]; omega)
        rw [show c - 1 + 1 = c by omega, chg_get hc, chg_get (by omega), if_pos rfl, if_neg (by omega)] at a
        rw [decide_eq_true (show hAt h c < hAt h (c - 1) by omega), Bool.or_true]
    · intro o
      refine ⟨fun j hj => ?_, fun y hy => ?_⟩
      · rw [chg_len] at hj
        rw [chg_get (show j + 1 ≤ h.length by omega), chg_get (show j ≤ h.length by omega)]
        have := H.fall j
        by_cases z : j + 1 = c
        · subst z
          have := opn_lt o
          rw [if_pos rfl, if_neg (by omega)]
          omega
        · rw [if_neg z]
          split <;> omega
      · obtain ⟨x, _, rfl⟩ := hm y hy
        split <;> omega
  · unfold tr
    rw [if_neg (by decide)]
    constructor
    · rintro ⟨f1, f2⟩
      by_cases z : c = h.length
      · have := f2 _ (hm2 c hc)
        rw [if_pos rfl, z, hAt_ge (Nat.le_refl _)] at this
        exact absurd this (by decide)
      · have a := f1 c (by rw [chg_len]; omega)
        rw [chg_get (by omega), chg_get hc, if_pos rfl, if_neg (by omega)] at a
        exact decide_eq_true (by omega)
    · intro o
      have o' := of_decide_eq_true o
      refine ⟨fun j hj => ?_, fun y hy => ?_⟩
      · rw [chg_len] at hj
        rw [chg_get (show j + 1 ≤ h.length by omega), chg_get (show j ≤ h.length by omega)]
        have := H.fall j
        by_cases z : j = c
        · subst z
          rw [if_pos rfl, if_neg (by omega)]
          omega
        · rw [if_neg z]
          split <;> omega
      · obtain ⟨x, _, rfl⟩ := hm y hy
        split
        · next z =>
          subst z
          omega
        · omega
def tv (h : List Nat) (st : Int) (c : Nat) : Int := if st = 1 then dg h c else dg h c + 1
def trs (h : List Nat) (st : Int) (i : Nat) : List Int := ((List.range i).filter (tr h st)).map (tv h st)
theorem tv_lt {h : List Nat} (H : IsHeap h) {st : Int} {c d : Nat} (hcd : c < d) : tv h st c < tv h st d := by
  have := dg_lt H hcd
  unfold tv
  split <;> omega
theorem range_lt (n : Nat) : (List.range n).Pairwise (· < ·) := List.pairwise_lt_range
theorem trs_sorted {h : List Nat} (H : IsHeap h) (st : Int) (i : Nat) : (trs h st i).Pairwise (· ≤ ·) := by
  unfold trs
  refine List.pairwise_map.mpr ?_
  refine ((range_lt i).filter _).imp fun {a b} hab => ?_
  have := tv_lt H (st := st) hab
  omega
theorem sorted_eq : ∀ {a b : List Int}, a.Perm b → a.Pairwise (· ≤ ·) → b.Pairwise (· ≤ ·) → a = b
  | [], b, p, _, _ => (List.nil_perm.mp p).symm
  | x :: a, [], p, _, _ => absurd p.length_eq (by simp)
  | x :: a, y :: b, p, ha, hb => by
    have e : x = y := by
      have h1 : y ∈ x :: a := p.mem_iff.mpr List.mem_cons_self
      have h2 : x ∈ y :: b := p.mem_iff.mp List.mem_cons_self
      rcases List.mem_cons.mp h1 with z | z
      · exact z.symm
      · rcases List.mem_cons.mp h2 with u | u
        · exact u
        · have q1 := (List.pairwise_cons.mp ha).1 y z
          have q2 := (List.pairwise_cons.mp hb).1 x u
          omega
    subst e
    rw [sorted_eq ((List.perm_cons x).mp p) (List.pairwise_cons.mp ha).2 (List.pairwise_cons.mp hb).2]
theorem trs_add (h : List Nat) : trs h 1 (h.length + 1) = (oc h).map (dg h) := by
  have e : tr h 1 = opn h := funext fun c => if_pos rfl
  have e2 : tv h 1 = dg h := funext fun c => if_pos rfl
  unfold trs oc
  rw [e, e2]
theorem trs_sub (h : List Nat) : trs h (-1) (h.length + 1) = ((List.range h.length).filter fun c => decide (hAt h (c + 1) < hAt h c)).map fun c => dg h c + 1 := by
  have e : tr h (-1) = fun c => decide (hAt h (c + 1) < hAt h c) := funext fun c => if_neg (by decide)
  have e2 : tv h (-1) = fun c => dg h c + 1 := funext fun c => if_neg (by decide)
  unfold trs
  rw [e, e2, List.range_succ, List.filter_append, List.filter_cons, if_neg (by rw [hAt_ge (Nat.le_refl h.length)]; simp)]
  simp
theorem oc_two {h : List Nat} (H : IsHeap h) : ((oc h).map (dg h)).Pairwise (fun a b => a + 2 ≤ b) := by
  refine List.pairwise_map.mpr ?_
  unfold oc
  have : ((List.range (h.length + 1)).filter (opn h)).Pairwise (fun a b => a < b) := (range_lt _).filter _
  refine (List.Pairwise.and_mem.mp this).imp fun {a b} hab => ?_
  exact dg_two H hab.2.2 (List.mem_filter.mp hab.2.1).2
theorem two_next {l : List Int} (h : l.Pairwise (fun a b => a + 2 ≤ b)) {i : Nat} {x y : Int} (hx : l[i]? = some x) (hy : l[i + 1]? = some y) : x + 2 ≤ y := by
  obtain ⟨h1, rfl⟩ := List.getElem?_eq_some_iff.mp hx
  obtain ⟨h2, rfl⟩ := List.getElem?_eq_some_iff.mp hy
  exact List.pairwise_iff_getElem.mp h i (i + 1) h1 h2 (by omega)
/-! ### squares added in any order -/
def adm (h : List Nat) (ms : List Int) (i : Nat) (c : Nat) : Bool := opn h c && decide (dg h c ∈ ms.take i)
theorem adm_opn {h : List Nat} {ms : List Int} {i : Nat} (c : Nat) (z : adm h ms i c = true) : opn h c = true := by
  unfold adm at z
  exact (Bool.and_eq_true_iff.mp z).1
theorem adm_zero (h : List Nat) (ms : List Int) : grow h (adm h ms 0) = h := by
  have e : adm h ms 0 = fun _ => false := funext fun c => by
    unfold adm
    rw [List.take_zero, decide_eq_false (by simp), Bool.and_false]
  rw [e]
  unfold grow
  rw [if_neg (show ¬ false = true by decide), List.append_nil]
  exact range_hAt h
theorem grow_opn {h : List Nat} {g : Nat → Bool} (hg : ∀ c, g c = true → opn h c = true) {c : Nat} (o : opn h c = true) (q : g c = false) : opn (grow h g) c = true := by
  unfold opn
  by_cases z : c = 0
  · rw [decide_eq_true z, Bool.true_or]
  · obtain ⟨e, rfl⟩ : ∃ e, c = e + 1 := ⟨c - 1, by omega⟩
    have a := opn_lt o
    have b : hAt (grow h g) (e + 1) < hAt (grow h g) (e + 1 - 1) := by
      rw [hAt_grow hg, hAt_grow hg, q, show e + 1 - 1 = e by omega]
      have : b2n false = 0 := rfl
      omega
    rw [decide_eq_true b, Bool.or_true]
theorem grow_dg {h : List Nat} {g : Nat → Bool} (hg : ∀ c, g c = true → opn h c = true) {c : Nat} (q : g c = false) : dg (grow h g) c = dg h c := by
  unfold dg
  rw [hAt_grow hg, q]
  rfl
theorem adm_no {h : List Nat} (_ : IsHeap h) {ms : List Int} (nd : ms.Nodup) {i c : Nat} (hi : ms[i]? = some (dg h c)) : adm h ms i c = false := by
  unfold adm
  have : ¬ dg h c ∈ ms.take i := fun z => by
    obtain ⟨j, hj, e⟩ := List.getElem_of_mem z
    rw [List.length_take] at hj
    obtain ⟨hi', e'⟩ := List.getElem?_eq_some_iff.mp hi
    rw [List.getElem_take] at e
    have := (List.nodup_iff_pairwise_ne.mp nd)
    have := List.pairwise_iff_getElem.mp this j i (by omega) hi' (by omega)
    exact this (e.trans e'.symm)
  rw [decide_eq_false this, Bool.and_false]
theorem adm_next {h : List Nat} (H : IsHeap h) {ms : List Int} (nd : ms.Nodup) {i c : Nat} (o : opn h c = true) (hi : ms[i]? = some (dg h c)) {g1 : Nat → Bool} (hg1 : ∀ x, g1 x = (c == x)) :
    grow (grow h (adm h ms i)) g1 = grow h (adm h ms (i + 1)) := by
  have no := adm_no H nd hi
  have h1 : IsHeap (grow h (adm h ms i)) := grow_heap H adm_opn
  have o1 : ∀ x, g1 x = true → opn (grow h (adm h ms i)) x = true := fun x z => by
    rw [hg1] at z
    have e : c = x := by simpa using z
    subst e
    exact grow_opn adm_opn o no
  refine heap_ext (grow_heap h1 o1) (grow_heap H adm_opn) fun x => ?_
  rw [hAt_grow o1, hAt_grow adm_opn, hAt_grow adm_opn, hg1]
  by_cases e : c = x
  · subst e
    have yes : adm h ms (i + 1) c = true := by
      unfold adm
      rw [o, List.take_add_one, hi, decide_eq_true (by simp)]
      rfl
    rw [no, yes, beq_self_eq_true]
    rfl
  · have e2 : (c == x) = false := by simpa using e
    have e3 : adm h ms (i + 1) x = adm h ms i x := by
      unfold adm
      have : (dg h x ∈ ms.take (i + 1)) ↔ dg h x ∈ ms.take i := by
        rw [List.take_add_one, hi, List.mem_append]
        constructor
        · rintro (z | z)
          · exact z
          · have : dg h x = dg h c := by simpa using z
            exact absurd (dg_inj H this).symm e
        · exact Or.inl
      rw [decide_eq_decide.mpr this]
    rw [e2, e3]
    rfl
end HM

/-! plain mathematics of heaps: what two have in common, what one holds, heaps turned over -/
namespace HM
theorem nat_ext {a b : Nat} (h : ∀ c, c < a ↔ c < b) : a = b := by
  rcases Nat.lt_trichotomy a b with q | q | q
  · exact absurd ((h a).mpr q) (Nat.lt_irrefl a)
  · exact q
  · exact absurd ((h b).mp q) (Nat.lt_irrefl b)
/-- the open columns whose diagonal is let -/
def gp (p : Int → Bool) (h : List Nat) (c : Nat) : Bool := opn h c && p (dg h c)
theorem gp_opn {p : Int → Bool} {h : List Nat} (c : Nat) (z : gp p h c = true) : opn h c = true := (Bool.and_eq_true_iff.mp z).1
/-! ### what two heaps have in common -/
def meet (a b : List Nat) : List Nat := (List.range (min a.length b.length)).map fun c => min (hAt a c) (hAt b c)
theorem hAt_meet (a b : List Nat) (c : Nat) : hAt (meet a b) c = min (hAt a c) (hAt b c) := by
  by_cases q : c < min a.length b.length
  · unfold hAt meet
    rw [List.getD_eq_getElem?_getD, List.getElem?_map, List.getElem?_range q]
    rfl
  · rw [hAt_ge (show (meet a b).length ≤ c by unfold meet; rw [List.length_map, List.length_range]; omega)]
    by_cases u : c < a.length
    · rw [hAt_ge (show b.length ≤ c by omega), Nat.min_zero]
    · rw [hAt_ge (show a.length ≤ c by omega), Nat.zero_min]
theorem meet_len (a b : List Nat) : (meet a b).length = min a.length b.length := by
  unfold meet
  rw [List.length_map, List.length_range]
theorem meet_heap {a b : List Nat} (A : IsHeap a) (B : IsHeap b) : IsHeap (meet a b) := by
  refine ⟨fun c hc => ?_, fun c => ?_⟩
  · rw [meet_len] at hc
    rw [hAt_meet]
    have := A.pos c (by omega)
    have := B.pos c (by omega)
    omega
  · rw [hAt_meet, hAt_meet]
    have := A.fall c
    have := B.fall c
    omega
theorem opn_iff {h : List Nat} {c : Nat} : opn h c = true ↔ (c = 0 ∨ hAt h c < hAt h (c - 1)) := by
  unfold opn
  rw [Bool.or_eq_true, decide_eq_true_iff, decide_eq_true_iff]
theorem bool_ext {a b : Bool} (h : a = true ↔ b = true) : a = b := by
  cases a <;> cases b <;> simp_all
theorem meet_gp {p : Int → Bool} {a b : List Nat} (B : IsHeap b) {c : Nat} (q : hAt a c < hAt b c) : gp p (meet a b) c = gp p a c := by
  have e : hAt (meet a b) c = hAt a c := by
    rw [hAt_meet]
    omega
  have d : dg (meet a b) c = dg a c := by
    unfold dg
    rw [e]
  have o : opn (meet a b) c = opn a c := bool_ext (by
    rw [opn_iff, opn_iff, e, hAt_meet]
    have := B.le (show c - 1 ≤ c by omega)
    omega)
  unfold gp
  rw [d, o]
theorem meet_comm (a b : List Nat) : meet a b = meet b a := by
  unfold meet
  rw [Nat.min_comm]
  exact List.map_congr_left fun c _ => Nat.min_comm _ _
theorem meet_gp2 {p : Int → Bool} {a b : List Nat} {c : Nat} (q : hAt a c = hAt b c) : gp p (meet a b) c = (gp p a c && gp p b c) := by
  have e : hAt (meet a b) c = hAt a c := by
    rw [hAt_meet]
    omega
  have d : dg (meet a b) c = dg a c := by
    unfold dg
    rw [e]
  have d2 : dg b c = dg a c := by
    unfold dg
    rw [q]
  have o : opn (meet a b) c = (opn a c && opn b c) := bool_ext (by
    rw [Bool.and_eq_true, opn_iff, opn_iff, opn_iff, e, hAt_meet, ← q]
    omega)
  unfold gp
  rw [d, d2, o]
  cases opn a c <;> cases opn b c <;> cases p (dg a c) <;> rfl
theorem meet_grow {p : Int → Bool} {a b : List Nat} (A : IsHeap a) (B : IsHeap b) : grow (meet a b) (gp p (meet a b)) = meet (grow a (gp p a)) (grow b (gp p b)) := by
  refine heap_ext (grow_heap (meet_heap A B) gp_opn) (meet_heap (grow_heap A gp_opn) (grow_heap B gp_opn)) fun c => ?_
  rw [hAt_grow gp_opn, hAt_meet, hAt_meet, hAt_grow gp_opn, hAt_grow gp_opn]
  rcases Nat.lt_trichotomy (hAt a c) (hAt b c) with q | q | q
  · rw [meet_gp B q]
    have := b2n_le (gp p a c)
    omega
  · rw [meet_gp2 q, q]
    cases gp p a c <;> cases gp p b c <;> (unfold b2n; simp) <;> omega
  · rw [meet_comm, meet_gp A q]
    have := b2n_le (gp p b c)
    omega
/-! ### what is held -/
def Sub (f h : List Nat) : Prop := ∀ c, hAt f c ≤ hAt h c
theorem Sub.refl (h : List Nat) : Sub h h := fun _ => Nat.le_refl _
theorem Sub.len {f h : List Nat} (F : IsHeap f) (s : Sub f h) : f.length ≤ h.length := by
  rcases Nat.lt_or_ge h.length f.length with q | q
  · have a := F.pos _ q
    have b := s h.length
    rw [hAt_ge (Nat.le_refl _)] at b
    omega
  · exact q
theorem sub_grow {p : Int → Bool} {f h : List Nat} {g : Nat → Bool} (s : Sub f h) (hg : ∀ c, g c = true → gp p f c = true) : Sub (grow f g) (grow h (gp p h)) := fun c => by
  rw [hAt_grow fun c z => gp_opn c (hg c z), hAt_grow gp_opn]
  have a := s c
  by_cases q : g c = true
  · have z := hg c q
    by_cases e : hAt f c < hAt h c
    · have := b2n_le (g c)
      omega
    · have e2 : hAt f c = hAt h c := by omega
      have : gp p h c = true := by
        unfold gp at z ⊢
        rw [Bool.and_eq_true] at z ⊢
        refine ⟨opn_iff.mpr ?_, ?_⟩
        · have := opn_iff.mp z.1
          have := s (c - 1)
          omega
        · have d : dg h c = dg f c := by
            unfold dg
            rw [e2]
          rw [d]
          exact z.2
      rw [q, this]
      omega
  · have : g c = false := by simpa using q
    rw [this]
    show _ + 0 ≤ _
    omega
theorem sub_more {f h : List Nat} {g : Nat → Bool} (s : Sub f h) (hg : ∀ c, g c = true → opn h c = true) : Sub f (grow h g) := fun c => by
  rw [hAt_grow hg]
  have := s c
  omega
/-! ### turned over -/
def conj (h : List Nat) : List Nat := (List.range (hAt h 0)).map fun r => (h.filter fun x => decide (r < x)).length
theorem IsHeap.pairs {h : List Nat} (H : IsHeap h) : h.Pairwise (fun a b => b ≤ a) := by
  refine List.pairwise_iff_getElem.mpr fun i j hi hj hij => ?_
  have := H.le (Nat.le_of_lt hij)
  have a := hAt_lt hi
  have b := hAt_lt hj
  rw [List.getElem?_eq_getElem hi] at a
  rw [List.getElem?_eq_getElem hj] at b
  rw [Option.some.inj a, Option.some.inj b]
  exact this
theorem cnt_iff : ∀ (l : List Nat), l.Pairwise (fun a b => b ≤ a) → ∀ c r, c < (l.filter fun x => decide (r < x)).length ↔ r < hAt l c
  | [], _, c, r => by
    rw [hAt_ge (Nat.zero_le _)]
    constructor
    · intro z
      exact absurd z (Nat.not_lt_zero c)
    · intro z
      exact absurd z (Nat.not_lt_zero r)
  | x :: l, hp, c, r => by
    obtain ⟨h1, h2⟩ := List.pairwise_cons.mp hp
    by_cases q : r < x
    · rw [List.filter_cons, if_pos (decide_eq_true q), List.length_cons]
      cases c with
      | zero => exact ⟨fun _ => q, fun _ => Nat.zero_lt_succ _⟩
      | succ c =>
        have := cnt_iff l h2 c r
        show c + 1 < _ + 1 ↔ r < hAt l c
        omega
    · have none : ∀ y ∈ x :: l, ¬ r < y := fun y hy => by
        rcases List.mem_cons.mp hy with rfl | hy
        · exact q
        · have := h1 y hy
          omega
      have e : ((x :: l).filter fun y => decide (r < y)) = [] := List.filter_eq_nil_iff.mpr fun y hy => by
        rw [decide_eq_false (none y hy)]
        decide
      rw [e]
      constructor
      · intro z
        exact absurd z (Nat.not_lt_zero c)
      · intro z
        by_cases u : c < (x :: l).length
        · exact absurd z (none _ (List.mem_of_getElem? (hAt_lt u)))
        · rw [hAt_ge (by omega)] at z
          exact absurd z (Nat.not_lt_zero r)
theorem conj_len (h : List Nat) : (conj h).length = hAt h 0 := by
  unfold conj
  rw [List.length_map, List.length_range]
theorem conj_iff {h : List Nat} (H : IsHeap h) (c r : Nat) : c < hAt (conj h) r ↔ r < hAt h c := by
  by_cases q : r < hAt h 0
  · have e : hAt (conj h) r = (h.filter fun x => decide (r < x)).length := by
      unfold hAt conj
      rw [List.getD_eq_getElem?_getD, List.getElem?_map, List.getElem?_range q]
      rfl
    rw [e]
    exact cnt_iff h H.pairs c r
  · rw [hAt_ge (by rw [conj_len]; omega)]
    have := H.le (Nat.zero_le c)
    constructor
    · intro z
      exact absurd z (Nat.not_lt_zero c)
    · intro z
      omega
theorem conj_heap {h : List Nat} (H : IsHeap h) : IsHeap (conj h) := by
  refine ⟨fun r hr => ?_, fun r => ?_⟩
  · rw [conj_len] at hr
    exact (conj_iff H 0 r).mpr hr
  · rcases Nat.lt_or_ge (hAt (conj h) r) (hAt (conj h) (r + 1)) with z | z
    · have a := (conj_iff H _ _).mp z
      exact absurd ((conj_iff H (hAt (conj h) r) r).mpr (by omega)) (Nat.lt_irrefl _)
    · exact z
theorem turn_sq {p p' : Int → Bool} (hp : ∀ z, p z = true → p' (-z) = true) {h k : List Nat} (hk : ∀ c r, c < hAt k r ↔ r < hAt h c) {c : Nat} (g : gp p h c = true) : c = hAt k (hAt h c) ∧ gp p' k (hAt h c) = true := by
  unfold gp at g
  obtain ⟨o, z⟩ := Bool.and_eq_true_iff.mp g
  have o' := opn_iff.mp o
  have e : hAt k (hAt h c) = c := by
    have a : ¬ c < hAt k (hAt h c) := fun z => absurd ((hk _ _).mp z) (Nat.lt_irrefl _)
    rcases Nat.lt_or_ge (hAt k (hAt h c)) c with q | q
    · have b : ¬ (c - 1 < hAt k (hAt h c)) := by omega
      rw [hk] at b
      omega
    · omega
  refine ⟨e.symm, ?_⟩
  unfold gp
  rw [Bool.and_eq_true]
  refine ⟨opn_iff.mpr ?_, ?_⟩
  · by_cases q : hAt h c = 0
    · exact .inl q
    · refine .inr ?_
      rw [e]
      exact (hk _ _).mpr (by omega)
  · have : dg k (hAt h c) = -(dg h c) := by
      unfold dg
      rw [e]
      omega
    rw [this]
    exact hp _ z
theorem conj_grow {p p' : Int → Bool} (hp : ∀ z, p' (-z) = p z) {h : List Nat} (H : IsHeap h) : conj (grow h (gp p h)) = grow (conj h) (gp p' (conj h)) := by
  have G := grow_heap H (gp_opn (p := p) (h := h))
  have C := conj_heap H
  refine heap_ext (conj_heap G) (grow_heap C gp_opn) fun r => nat_ext fun c => ?_
  rw [conj_iff G, hAt_grow gp_opn, hAt_grow gp_opn]
  have k := conj_iff H c r
  by_cases q : r < hAt h c
  · have := k.mpr q
    omega
  · have q2 : ¬ c < hAt (conj h) r := fun z => q (k.mp z)
    constructor
    · intro z
      cases u : gp p h c with
      | false =>
        rw [u] at z
        exact absurd z (by show ¬ r < hAt h c + 0; omega)
      | true =>
        rw [u] at z
        have z' : r < hAt h c + 1 := z
        have e : r = hAt h c := by omega
        obtain ⟨a, b⟩ := turn_sq (p := p) (p' := p') (fun z y => (hp z).trans y) (conj_iff H) u
        subst e
        rw [b]
        show c < _ + 1
        omega
    · intro z
      cases u : gp p' (conj h) r with
      | false =>
        rw [u] at z
        exact absurd z (by show ¬ c < hAt (conj h) r + 0; omega)
      | true =>
        rw [u] at z
        have z' : c < hAt (conj h) r + 1 := z
        have e : c = hAt (conj h) r := by omega
        have back : ∀ y, p' y = true → p (-y) = true := fun y hy => by
          have := hp (-y)
          rw [Int.neg_neg] at this
          rw [← this]
          exact hy
        obtain ⟨a, b⟩ := turn_sq (p := p') (p' := p) back (h := conj h) (k := h) (fun c r => (conj_iff H r c).symm) u
        subst e
        rw [b]
        show r < _ + 1
        omega
end HM

/-! own rules: xs[i] op= e of a list; range(n) as a value, walked later -/
namespace LX
open PySem PySem.Spec PyProof.Rows L2
section
variable {X : Cx}
/-- xs[i] by values, 0 ≤ i -/
def rGetL (K : PySem.W.Frag) : V → V → Hp → VK → Prop := fun o i H Q => ∃ (a : Addr) (ys : List V) (j : Nat) (v : V), o = .ref a ∧ i = .int (j : Int) ∧ SqL K H a ys ∧ ys[j]? = some v ∧ Q v H
theorem get_list : PGet X (rGetL X.K) := by
  intro pins s σ H o i ov iv Q I ro ri h
  obtain ⟨a, ys, j, v, rfl, rfl, hq, hv, q⟩ := h
  cases ro
  obtain ⟨t, rfl⟩ := ri
  obtain ⟨its, r, pl, hz⟩ := I.list hq
  obtain ⟨u, hu, ru⟩ := r.get hv
  have hn := line63
  have hj := (List.getElem?_eq_some_iff.mp hu).1
  have hl := r.length
  exact wpAny_getItem_list pl.isList (by omega) (by omega) (by simpa using hu) ⟨v, H, I, ru, q⟩
/-- range(n), a new range object -/
theorem cr_range1 : CallR X (.type "range") (fun vs H Q => ∃ j, vs = [V.int j] ∧ ∀ p, H p = none → Q (.ref p) (upd H p (.rng 0 j))) := by
  intro pins s σ H vs us Q I r h
  obtain ⟨j, rfl, q⟩ := h
  obtain ⟨u1, rfl, rj⟩ := vals1 r
  obtain ⟨t, rfl⟩ := rj
  have nw : ObjOk X.prog X.w (upd H s.heap.objs.size (.rng 0 j)) (s.heap.push { cls := .type "range", data := .fields #[.int 0 s.toks, .int j t, .int 1 (s.toks + 1)] }) s.heap.objs.size (.rng 0 j) := ⟨s.toks, t, s.toks + 1, Heap.get?_push_size _ rfl⟩
  exact call_range_1 ⟨.ref s.heap.objs.size, _, I.laid (t' := s.toks + 1 + 1) (fun b o e => Heap.get?_push_of_some _ e) (Nat.le_refl _) nw, rfl, q _ (I.hok.fresh (Nat.le_refl _))⟩
/-- a range object that stands, walked -/
def iRngV (te : TE) : TI := fun σ H R => te σ H fun x H1 => ∃ (p : Addr) (lo hi : Int), x = .ref p ∧ H1 p = some (.rng lo hi) ∧ (-(2 ^ 62) ≤ lo ∧ lo < 2 ^ 62 ∧ -(2 ^ 62) ≤ hi ∧ hi < 2 ^ 62) ∧ R (Itr lo (hi - lo).toNat) H1
theorem pi_rngV {tg e : Expr} {te : TE} (he : PE X e te) : PI X tg e (iRngV te) := by
  refine ⟨fun pins s σ H R I h => ?_⟩
  refine thn (he.run pins s σ H _ I h) fun u s1 ⟨x, H1, I1, r1, p, lo, hi, ex, hp, ⟨b1, b2, b3, b4⟩, q⟩ => ?_
  subst ex
  obtain rfl : u = Value.ref p := r1
  obtain ⟨t, u, v, g⟩ := (show ObjOk X.prog X.w H1 s1.heap p (.rng lo hi) from I1.hok p _ hp)
  refine wpAny_pyIter_range (s := s1) g (small_one b1 b2 b3 b4) ?_
  refine ⟨s1.heap.objs.size, [s1.heap.objs.size], _, _, H1, rfl, I1.kept (t' := s1.toks) fun b o e => Heap.get?_push_of_some _ e, turn_range _ lo (hi - lo).toNat, ?_, fun b hb => ?_, q⟩
  · have e1 : lo + ((0 : Nat) : Int) * 1 = lo := by simp
    have e2 : (((hi - lo).toNat : Nat) : Int) - ((0 : Nat) : Int) = Builtin.Range.rangeSize lo hi 1 := by
      rw [rangeSize_one]
      split <;> omega
    show IsRangeIter _ _ (lo + ((0 : Nat) : Int) * 1) ((((hi - lo).toNat : Nat) : Int) - ((0 : Nat) : Int)) 1
    rw [e1, e2]
    exact Heap.get?_push_size _ rfl
  · obtain rfl : b = s1.heap.objs.size := by simpa using hb
    exact I1.fpOk (Nat.le_refl _) (I1.hok.fresh (Nat.le_refl _))
end
end LX

namespace K1
open PySem PySem.Spec PyProof.Rows L2 Evl
/-! own words: comprehensions that map, without a test; nothing is changed -/
section
variable {K : PySem.W.Frag} {g : TG} {te : TE} {vs : List Nat} {σ : L2.St} {H1 : Hp} {D : Addr} {Qd : Hp → Prop}
theorem lc_tupM {a : Addr} {xs : List V} (f : Nat → V) (hD : H1 D = none) (ha : H1 a = some (.tup xs)) (hl : xs.length ≤ 1000)
    (hs : ∀ i x H (Qk : VK), xs[i]? = some x → Ex H1 H → (∀ H4, Ex H H4 → Qk (f i) H4) → g x (wipe σ vs) H fun σ2 H2 => wipe σ2 vs = wipe σ vs ∧ te σ2 H2 Qk)
    (hd : ∀ H, Ex H1 H → H D = some (.lst ((List.range xs.length).map f)) → Qd H) :
    ∃ W : Nat → Nat → Hp → Prop, (∃ m, W 0 m (upd H1 D (.lst []))) ∧ ∀ i m H, W i m H →
      ((Itt K a).stop i H ∧ Qd H) ∨ ((Itt K a).go i H ∧ ∃ Nx : Hp → Prop, (∀ H', Nx H' → ∃ m', m' < m ∧ W (i + 1) m' H') ∧ ∀ x H', (Itt K a).yld i H x H' → g x (wipe σ vs) H' fun σ2 H2 => wipe σ2 vs = wipe σ vs ∧ tYes σ2 H2 fun b H3 =>
        if b = true then te σ2 H3 fun y H4 => ∃ acc, H4 D = some (.lst acc) ∧ acc.length < sizeLine ∧ Nx (upd H4 D (.lst (acc ++ [y]))) else Nx H3) := by
  refine lc_tup (K := K) (a := a) (xs := xs) (fun i H' => H' D = some (.lst ((List.range i).map f)) ∧ Ex H1 H') ⟨upd_same, Ex.new hD⟩ (fun i H' _ hp => SqT.of (hp.2 _ _ ha)) (fun i x H' hx hp => ?_) (fun H hp => hd H hp.2 hp.1)
  have hi := (List.getElem?_eq_some_iff.mp hx).1
  refine hs i x H' _ hx hp.2 fun H4 e4 => ⟨_, e4 _ _ hp.1, ?_, ?_, Ex.mut (hp.2.trans e4) hD⟩
  · rw [List.length_map, List.length_range]
    exact small1000 (by omega)
  · rw [upd_same, List.range_succ, List.map_append]
    rfl
theorem lc_listM {a : Addr} {xs : List V} (f : Nat → V) (hD : H1 D = none) (ha : H1 a = some (.lst xs)) (hl : xs.length ≤ 1000)
    (hs : ∀ i x H (Qk : VK), xs[i]? = some x → Ex H1 H → (∀ H4, Ex H H4 → Qk (f i) H4) → g x (wipe σ vs) H fun σ2 H2 => wipe σ2 vs = wipe σ vs ∧ te σ2 H2 Qk)
    (hd : ∀ H, Ex H1 H → H D = some (.lst ((List.range xs.length).map f)) → Qd H) :
    ∃ W : Nat → Nat → Hp → Prop, (∃ m, W 0 m (upd H1 D (.lst []))) ∧ ∀ i m H, W i m H →
      ((Itl K a).stop i H ∧ Qd H) ∨ ((Itl K a).go i H ∧ ∃ Nx : Hp → Prop, (∀ H', Nx H' → ∃ m', m' < m ∧ W (i + 1) m' H') ∧ ∀ x H', (Itl K a).yld i H x H' → g x (wipe σ vs) H' fun σ2 H2 => wipe σ2 vs = wipe σ vs ∧ tYes σ2 H2 fun b H3 =>
        if b = true then te σ2 H3 fun y H4 => ∃ acc, H4 D = some (.lst acc) ∧ acc.length < sizeLine ∧ Nx (upd H4 D (.lst (acc ++ [y]))) else Nx H3) := by
  refine lc_list (K := K) (a := a) (xs := xs) (fun i H' => H' D = some (.lst ((List.range i).map f)) ∧ Ex H1 H') ⟨upd_same, Ex.new hD⟩ (fun i H' _ hp => SqL.of (hp.2 _ _ ha)) (fun i x H' hx hp => ?_) (fun H hp => hd H hp.2 hp.1)
  have hi := (List.getElem?_eq_some_iff.mp hx).1
  refine hs i x H' _ hx hp.2 fun H4 e4 => ⟨_, e4 _ _ hp.1, ?_, ?_, Ex.mut (hp.2.trans e4) hD⟩
  · rw [List.length_map, List.length_range]
    exact small1000 (by omega)
  · rw [upd_same, List.range_succ, List.map_append]
    rfl
theorem lc_rangeM {lo : Int} {n : Nat} (f : Nat → V) (hD : H1 D = none) (hl : n ≤ 1000)
    (hs : ∀ i H (Qk : VK), i < n → Ex H1 H → (∀ H4, Ex H H4 → Qk (f i) H4) → g (.int (lo + i)) (wipe σ vs) H fun σ2 H2 => wipe σ2 vs = wipe σ vs ∧ te σ2 H2 Qk)
    (hd : ∀ H, Ex H1 H → H D = some (.lst ((List.range n).map f)) → Qd H) :
    ∃ W : Nat → Nat → Hp → Prop, (∃ m, W 0 m (upd H1 D (.lst []))) ∧ ∀ i m H, W i m H →
      ((Itr lo n).stop i H ∧ Qd H) ∨ ((Itr lo n).go i H ∧ ∃ Nx : Hp → Prop, (∀ H', Nx H' → ∃ m', m' < m ∧ W (i + 1) m' H') ∧ ∀ x H', (Itr lo n).yld i H x H' → g x (wipe σ vs) H' fun σ2 H2 => wipe σ2 vs = wipe σ vs ∧ tYes σ2 H2 fun b H3 =>
        if b = true then te σ2 H3 fun y H4 => ∃ acc, H4 D = some (.lst acc) ∧ acc.length < sizeLine ∧ Nx (upd H4 D (.lst (acc ++ [y]))) else Nx H3) := by
  refine lc_range (lo := lo) (n := n) (fun i H' => H' D = some (.lst ((List.range i).map f)) ∧ Ex H1 H') ⟨upd_same, Ex.new hD⟩ (fun i H' hi hp => ?_) (fun H hp => hd H hp.2 hp.1)
  refine hs i H' _ hi hp.2 fun H4 e4 => ⟨_, e4 _ _ hp.1, ?_, ?_, Ex.mut (hp.2.trans e4) hD⟩
  · rw [List.length_map, List.length_range]
    exact small1000 (by omega)
  · rw [upd_same, List.range_succ, List.map_append]
    rfl
end
theorem mapI (n : Nat) (f : Nat → Int) : (List.range n).map (fun i => V.int (f i)) = ((List.range n).map f).map V.int := by
  rw [List.map_map]
  rfl
theorem mapB (n : Nat) (b : Bool) : (List.range n).map (fun _ => V.bl b) = (List.replicate n b).map V.bl := by
  rw [List.map_replicate, List.map_const', List.length_range]
theorem all_rep (n : Nat) : (List.replicate n true).all id = true := by simp
theorem any_rep (n : Nat) : (List.replicate n false).any id = false := by simp
theorem range_getD (ns : List Int) (f : Int → Int) : (List.range ns.length).map (fun i => f (ns.getD i 0)) = ns.map f := by
  refine List.ext_getElem (by rw [List.length_map, List.length_map, List.length_range]) fun i h1 h2 => ?_
  rw [List.length_map] at h2
  rw [List.getElem_map, List.getElem_map, List.getElem_range, List.getD_eq_getElem?_getD, List.getElem?_eq_getElem h2]
  rfl
end K1

/-! own walk: zip of a list and a tuple -/
namespace ZM
open PySem PySem.Spec PyProof.Rows L2
/-- a list and a tuple, their items in new pairs -/
def ItM (K : PySem.W.Frag) (a b : Addr) : It :=
  ⟨fun i H => ∃ (xs ys : List V) (x y : V), SqL K H a xs ∧ SqT K H b ys ∧ xs[i]? = some x ∧ ys[i]? = some y,
    fun i H v H' => ∃ T x y, v = .ref T ∧ H T = none ∧ H' = upd H T (.tup [x, y]) ∧ (∀ xs, SqL K H a xs → xs[i]? = some x) ∧ ∀ ys, SqT K H b ys → ys[i]? = some y,
    fun i H => ∃ xs ys : List V, SqL K H a xs ∧ SqT K H b ys ∧ xs.length = i ∧ ys.length = i⟩
theorem turnM {P : Program} {w : World} {K : PySem.W.Frag} {elts : List Expr} {kk : Nat} {tpos : Pos} {a b z TI TO i1 i2 : Addr} (S : ZipSep2 z TI TO i1 i2 [i1, a] [i2, b]) (na : a ≠ i1) (nb : b ≠ i2) (w1 : z ≠ i1 ∧ z ≠ i2) :
    Turn P w K (.Tuple elts kk tpos) (ItM K a b) [z, TI, TO, i1, i2] z (fun i h => IsZip h z TI TO .none ∧ IsTupOf2 h TI (.ref i1) (.ref i2) ∧ (∃ x y, IsTupOf2 h TO x y) ∧ h.IsListIter i1 a i ∧ h.IsTupleIter i2 b i) where
  mem := by simp
  obj := fun i h st t ht => by
    obtain ⟨hz, hTI, ⟨x, y, hTO⟩, ⟨o1, e1, _, d1⟩, ⟨o2, e2, _, d2⟩⟩ := st
    rcases (show t = z ∨ t = TI ∨ t = TO ∨ t = i1 ∨ t = i2 by simpa using ht) with q | q | q | q | q
    · rw [q]
      exact ⟨_, hz, fun v q => nomatch q⟩
    · rw [q]
      exact ⟨_, hTI, fun v q => nomatch q⟩
    · rw [q]
      exact ⟨_, hTO, fun v q => nomatch q⟩
    · exact ⟨o1, q ▸ e1, fun v q => by rw [d1] at q; cases q⟩
    · exact ⟨o2, q ▸ e2, fun v q => by rw [d2] at q; cases q⟩
  keep := fun i h h' st k => by
    obtain ⟨hz, hTI, ⟨x, y, hTO⟩, h1, h2⟩ := st
    exact ⟨k z (by simp) _ hz, k TI (by simp) _ hTI, ⟨x, y, k TO (by simp) _ hTO⟩, h1.at fun o q => k i1 (by simp) o q, h2.at fun o q => k i2 (by simp) o q⟩
  item := by
    intro X eP eW eK hc i pins s σ H E I hf st hg
    subst eP eW eK
    obtain ⟨hz, hTI, ⟨x0, y0, hTO⟩, h1, h2⟩ := st
    obtain ⟨xs, ys, x, y, qx, qy, gx, gy⟩ := hg
    obtain ⟨t1, r1, p1, _⟩ := I.list qx
    obtain ⟨t2, r2, p2, _⟩ := I.tuple qy
    obtain ⟨v1, m1, rv1⟩ := r1.get gx
    obtain ⟨v2, m2, rv2⟩ := r2.get gy
    have l1 : i < t1.toArray.size := by simpa using (List.getElem?_eq_some_iff.mp m1).1
    have l2 : i < t2.toArray.size := by simpa using (List.getElem?_eq_some_iff.mp m2).1
    have hzl : z < s.heap.objs.size := Heap.lt_size hz
    have hh : X.A.in1.handled = none := I.ok.hd hc
    refine wpAny_pyNext_zipD2_item S (Draws.list hh i1 a na t1.toArray) (Draws.tuple hh i2 b nb t2.toArray) hz hTI hTO ⟨h1, p1.isList⟩ ⟨h2, p2⟩ l1 l2 fun w1' w2' h' tk g1 g2 zz tt s1 s2 hT hsz hk => ?_
    have a1 : w1' = v1 := Option.some.inj (g1.symm.trans (by simpa using m1))
    have a2 : w2' = v2 := Option.some.inj (g2.symm.trans (by simpa using m2))
    subst a1 a2
    refine ⟨_, rfl, wpAny_letOwnedTupleGo_zip (s := { s with heap := h', toks := tk }) zz fun h2' z2 sb => ?_⟩
    have hT2 : h2'.get? s.heap.objs.size = some { cls := .type "tuple", data := .seq #[w1', w2'] } := (sb.2 _ (Nat.ne_of_gt hzl)).trans hT
    have made : ObjOk X.prog X.w (upd H s.heap.objs.size (.tup [x, y])) h2' s.heap.objs.size (.tup [x, y]) :=
      ⟨by show 2 ≤ sizeLine; decide, [w1', w2'], .cons rv1 (.cons rv2 .nil), ⟨_, hT2, rfl, _, rfl⟩⟩
    have I2 : Inv X pins σ (upd H s.heap.objs.size (.tup [x, y])) { s with heap := h2', toks := tk } :=
      I.turnedNew (ch := [z, TI, TO, i1, i2]) (fun t o ht q => (sb.2 t (fun e => ht (by simp [e]))).trans (hk t o (fun e => ht (by simp [e])) (fun e => ht (by simp [e])) (fun e => ht (by simp [e])) (fun e => ht (by simp [e])) q)) hf (Nat.le_refl _) made
    refine ⟨.ref s.heap.objs.size, _, I2, rfl, ⟨_, x, y, rfl, I.hok.fresh (Nat.le_refl _), rfl, fun l hl => by rw [I.list_inj hl qx]; exact gx, fun l hl => by rw [I.tuple_inj hl qy]; exact gy⟩,
      ⟨z2, (sb.2 _ S.TIz).trans (hk _ _ S.TIz S.TITO S.TIi1 S.TIi2 hTI), ⟨w1', w2', (sb.2 _ S.TOz).trans tt⟩, s1.1.at fun o q => (sb.2 _ w1.1.symm).trans q, s2.1.at fun o q => (sb.2 _ w1.2.symm).trans q⟩, fun t ht => ?_⟩
    have lt : t < s.heap.objs.size := by
      rcases (show t = z ∨ t = TI ∨ t = TO ∨ t = i1 ∨ t = i2 by simpa using ht) with q | q | q | q | q
      · exact q ▸ hzl
      · exact q ▸ Heap.lt_size hTI
      · exact q ▸ Heap.lt_size hTO
      · obtain ⟨_, e, _⟩ := h1
        exact q ▸ Heap.lt_size e
      · obtain ⟨_, e, _⟩ := h2
        exact q ▸ Heap.lt_size e
    rw [upd_ne (Nat.ne_of_lt lt)]
    exact (hf t ht).1
  done := by
    intro X eP eW eK hc i pins s σ H E I hf st hg
    subst eP eW eK
    obtain ⟨hz, hTI, ⟨x0, y0, hTO⟩, h1, h2⟩ := st
    obtain ⟨xs, ys, qx, qy, gx, gy⟩ := hg
    obtain ⟨t1, r1, p1, _⟩ := I.list qx
    obtain ⟨t2, r2, p2, _⟩ := I.tuple qy
    have k1 := r1.length
    have k2 := r2.length
    have hh : X.A.in1.handled = none := I.ok.hd hc
    exact wpAny_pyNext_zipD2_end S (Draws.list hh i1 a na t1.toArray) (Draws.tuple hh i2 b nb t2.toArray) hz hTI hTO ⟨h1, p1.isList⟩ ⟨h2, p2⟩ (by rw [List.size_toArray]; omega) (by rw [List.size_toArray]; omega) (.inl (by rw [List.size_toArray]; omega))
      fun h' tk hk => ⟨rfl, I.turnedL (ch := [z, TI, TO, i1, i2]) (fun t o ht q => hk t o (fun e => ht (by simp [e])) (fun e => ht (by simp [e])) (fun e => ht (by simp [e])) (fun e => ht (by simp [e])) q) hf⟩
  self := fun A i s Q E st h => wpAny_pyIter_zip st.1 h
def iZipM (K : PySem.W.Frag) (ta : TA) : TI := fun σ H R => ta σ H fun vs H1 => ∃ a b xs ys, vs = [.ref a, .ref b] ∧ SqL K H1 a xs ∧ SqT K H1 b ys ∧ R (ItM K a b) H1
theorem pi_zipM {X : Cx} {e e2 : Expr} {ta : TA} {p pos tpos : Pos} {elts : List Expr} {kk : Nat} (hg : Gl X "zip") (hm : X.mg "zip" = none) (ha : PA X [e, e2] ta)
    (hs : starEach [e, e2] X.env = (false, eval e X.env) :: starEach [e2] X.env := by rfl) (hpl : (backTo pos (starEach [e2] X.env)).any (·.1) = false := by rfl) :
    PI X (.Tuple elts kk tpos) (.Call (.Name "zip" p) [e, e2] [] pos) (iZipM X.K ta) := by
  refine ⟨fun pins s σ H R I h => ?_⟩
  refine Call_ (ld_blt I hg hm PyProof.Rows.boot_zip (PyProof.Rows.callWith_type1 (thn (ha.run pos pins s σ H _ I h) fun vs' s1 ⟨vs, H1, I1, r1, q1⟩ => ?_) hs hpl))
  obtain ⟨a, b, xs, ys, ex, qx, qy, q⟩ := q1
  subst ex
  obtain ⟨t1, r1', p1, _⟩ := I1.list qx
  obtain ⟨t2, r2', p2, _⟩ := I1.tuple qy
  cases r1 with
  | cons ra rr =>
    cases rr with
    | cons rb rr =>
      cases rr
      cases ra
      cases rb
      have la : a < s1.heap.objs.size := by
        obtain ⟨_, e, _⟩ := p1.isList
        exact Heap.lt_size e
      have lb : b < s1.heap.objs.size := by
        obtain ⟨_, e, _⟩ := p2
        exact Heap.lt_size e
      refine zip_begins2 (begins_list a t1.toArray) (begins_tuple b t2.toArray) p1.isList p2 fun h' hz hTI hTO g1 g2 _ hk => wpAny_pyIter_zip hz ?_
      have I2 : Inv X pins σ H1 { s1 with heap := h' } := I1.kept (t' := s1.toks) hk
      have S : ZipSep2 (s1.heap.objs.size + 4) (s1.heap.objs.size + 2) (s1.heap.objs.size + 3) s1.heap.objs.size (s1.heap.objs.size + 1) [s1.heap.objs.size, a] [s1.heap.objs.size + 1, b] :=
        zip_sep2 (fun t ht => by rw [List.mem_singleton.mp ht]; exact la) (fun t ht => by rw [List.mem_singleton.mp ht]; exact lb)
      have add : ∀ {m k : Nat}, m ≠ k → s1.heap.objs.size + m ≠ s1.heap.objs.size + k := fun n e => n (Nat.add_left_cancel e)
      refine ⟨s1.heap.objs.size + 4, [s1.heap.objs.size + 4, s1.heap.objs.size + 2, s1.heap.objs.size + 3, s1.heap.objs.size, s1.heap.objs.size + 1], _, _, H1, rfl, I2,
        turnM S (Nat.ne_of_lt la) (Nat.ne_of_lt (Nat.lt_succ_of_lt lb)) ⟨add (m := 4) (k := 0) (by decide), add (by decide)⟩,
        ⟨hz, hTI, ⟨_, _, hTO⟩, ⟨_, g1, rfl, rfl⟩, ⟨_, g2, rfl, rfl⟩⟩, fun t ht => ?_, q⟩
      have le : s1.heap.objs.size ≤ t := by
        rcases (show t = s1.heap.objs.size + 4 ∨ t = s1.heap.objs.size + 2 ∨ t = s1.heap.objs.size + 3 ∨ t = s1.heap.objs.size ∨ t = s1.heap.objs.size + 1 by simpa using ht) with q | q | q | q | q
        · exact q ▸ Nat.le_add_right _ _
        · exact q ▸ Nat.le_add_right _ _
        · exact q ▸ Nat.le_add_right _ _
        · exact q ▸ Nat.le_refl _
        · exact q ▸ Nat.le_add_right _ _
      exact I1.fpOk le (I1.hok.fresh le)
theorem lc_zipM {K : PySem.W.Frag} {a b : Addr} {xs ys : List V} {n : Nat} {g : TG} {tt : TT} {te : TE} {vs : List Nat} {σ : L2.St} {H1 : Hp} {D : Addr} {Qd : Hp → Prop} (hx : xs.length = n) (hy : ys.length = n)
    (Pv : Nat → Hp → Prop) (h0 : Pv 0 (upd H1 D (.lst []))) (hq : ∀ i H, Pv i H → SqL K H a xs ∧ SqT K H b ys)
    (hs : ∀ i x y T H, i < n → xs[i]? = some x → ys[i]? = some y → Pv i H → H T = none → g (.ref T) (wipe σ vs) (upd H T (.tup [x, y])) fun σ2 H2 => wipe σ2 vs = wipe σ vs ∧ tt σ2 H2 fun c H3 =>
      if c = true then te σ2 H3 fun z H4 => ∃ acc, H4 D = some (.lst acc) ∧ acc.length < sizeLine ∧ Pv (i + 1) (upd H4 D (.lst (acc ++ [z]))) else Pv (i + 1) H3) (hd : ∀ H, Pv n H → Qd H) :
    ∃ W : Nat → Nat → Hp → Prop, (∃ m, W 0 m (upd H1 D (.lst []))) ∧ ∀ i m H, W i m H →
      ((ItM K a b).stop i H ∧ Qd H) ∨ ((ItM K a b).go i H ∧ ∃ Nx : Hp → Prop, (∀ H', Nx H' → ∃ m', m' < m ∧ W (i + 1) m' H') ∧ ∀ v H', (ItM K a b).yld i H v H' → g v (wipe σ vs) H' fun σ2 H2 => wipe σ2 vs = wipe σ vs ∧ tt σ2 H2 fun c H3 =>
        if c = true then te σ2 H3 fun z H4 => ∃ acc, H4 D = some (.lst acc) ∧ acc.length < sizeLine ∧ Nx (upd H4 D (.lst (acc ++ [z]))) else Nx H3) := by
  refine ⟨fun i m H => m = n - i ∧ i ≤ n ∧ Pv i H, ⟨n, (Nat.sub_zero n).symm, Nat.zero_le _, h0⟩, ?_⟩
  rintro i m H ⟨rfl, hi, p⟩
  obtain ⟨qa, qb⟩ := hq i H p
  by_cases hlt : i < n
  · have e1 : xs[i]? = some (xs[i]'(by omega)) := List.getElem?_eq_getElem _
    have e2 : ys[i]? = some (ys[i]'(by omega)) := List.getElem?_eq_getElem _
    refine .inr ⟨⟨xs, ys, _, _, qa, qb, e1, e2⟩, Pv (i + 1), fun H' p' => ⟨n - (i + 1), by omega, rfl, hlt, p'⟩, fun v H' hy' => ?_⟩
    obtain ⟨T, x, y, rfl, nT, rfl, fx, fy⟩ := hy'
    exact hs i x y T H hlt (fx _ qa) (fy _ qb) p nT
  · have e : i = n := by omega
    subst e
    exact .inl ⟨⟨xs, ys, qa, qb, hx, hy⟩, hd H p⟩
end ZM

/-! own walks: comprehensions and loops over zip and enumerate of tuples, zip of lists of any lengths -/
namespace ZW
open PySem PySem.Spec PyProof.Rows L2
theorem lc_zipT {K : PySem.W.Frag} {a b : Addr} {xs ys : List V} {n : Nat} {g : TG} {tt : TT} {te : TE} {vs : List Nat} {σ : L2.St} {H1 : Hp} {D : Addr} {Qd : Hp → Prop} (hx : n ≤ xs.length) (hy : n ≤ ys.length) (hn : xs.length ≤ n ∨ ys.length ≤ n)
    (Pv : Nat → Hp → Prop) (h0 : Pv 0 (upd H1 D (.lst []))) (hq : ∀ i H, Pv i H → SqT K H a xs ∧ SqT K H b ys)
    (hs : ∀ i x y T H, i < n → xs[i]? = some x → ys[i]? = some y → Pv i H → H T = none → g (.ref T) (wipe σ vs) (upd H T (.tup [x, y])) fun σ2 H2 => wipe σ2 vs = wipe σ vs ∧ tt σ2 H2 fun c H3 =>
      if c = true then te σ2 H3 fun z H4 => ∃ acc, H4 D = some (.lst acc) ∧ acc.length < sizeLine ∧ Pv (i + 1) (upd H4 D (.lst (acc ++ [z]))) else Pv (i + 1) H3) (hd : ∀ H, Pv n H → Qd H) :
    ∃ W : Nat → Nat → Hp → Prop, (∃ m, W 0 m (upd H1 D (.lst []))) ∧ ∀ i m H, W i m H →
      ((RZ.ItzT K a b).stop i H ∧ Qd H) ∨ ((RZ.ItzT K a b).go i H ∧ ∃ Nx : Hp → Prop, (∀ H', Nx H' → ∃ m', m' < m ∧ W (i + 1) m' H') ∧ ∀ v H', (RZ.ItzT K a b).yld i H v H' → g v (wipe σ vs) H' fun σ2 H2 => wipe σ2 vs = wipe σ vs ∧ tt σ2 H2 fun c H3 =>
        if c = true then te σ2 H3 fun z H4 => ∃ acc, H4 D = some (.lst acc) ∧ acc.length < sizeLine ∧ Nx (upd H4 D (.lst (acc ++ [z]))) else Nx H3) := by
  refine ⟨fun i m H => m = n - i ∧ i ≤ n ∧ Pv i H, ⟨n, (Nat.sub_zero n).symm, Nat.zero_le _, h0⟩, ?_⟩
  rintro i m H ⟨rfl, hi, p⟩
  obtain ⟨qa, qb⟩ := hq i H p
  by_cases hlt : i < n
  · have e1 : xs[i]? = some (xs[i]'(by omega)) := List.getElem?_eq_getElem _
    have e2 : ys[i]? = some (ys[i]'(by omega)) := List.getElem?_eq_getElem _
    refine .inr ⟨⟨xs, ys, _, _, qa, qb, e1, e2⟩, Pv (i + 1), fun H' p' => ⟨n - (i + 1), by omega, rfl, hlt, p'⟩, fun v H' hy' => ?_⟩
    obtain ⟨T, x, y, rfl, nT, rfl, fx, fy⟩ := hy'
    exact hs i x y T H hlt (fx _ qa) (fy _ qb) p nT
  · have e : i = n := by omega
    subst e
    exact .inl ⟨⟨xs, ys, qa, qb, by omega⟩, hd H p⟩
theorem for_zipT {K : PySem.W.Frag} {a b : Addr} {xs ys : List V} {n : Nat} {g : TG} {tb : TS} {D : Ends} {σ : L2.St} {H : Hp} (hx : n ≤ xs.length) (hy : n ≤ ys.length) (hn : xs.length ≤ n ∨ ys.length ≤ n)
    (Pv : Nat → L2.St → Hp → Prop) (h0 : Pv 0 σ H) (hq : ∀ i σ H, Pv i σ H → SqT K H a xs ∧ SqT K H b ys)
    (hs : ∀ i x y T σ H, i < n → xs[i]? = some x → ys[i]? = some y → Pv i σ H → H T = none → g (.ref T) σ (upd H T (.tup [x, y])) fun σ2 H2 => tb { D with nx := Pv (i + 1), ct := Pv (i + 1), bk := D.nx } σ2 H2) (hd : ∀ σ H, Pv n σ H → D.nx σ H) :
    ∃ W : Nat → Nat → L2.St → Hp → Prop, (∃ m, W 0 m σ H) ∧ ∀ i m σ H, W i m σ H →
      ((RZ.ItzT K a b).stop i H ∧ D.nx σ H) ∨ ((RZ.ItzT K a b).go i H ∧ ∃ N : L2.St → Hp → Prop, (∀ σ' H', N σ' H' → ∃ m', m' < m ∧ W (i + 1) m' σ' H') ∧ ∀ v H', (RZ.ItzT K a b).yld i H v H' → g v σ H' fun σ2 H2 => tb { D with nx := N, ct := N, bk := D.nx } σ2 H2) := by
  refine ⟨fun i m σ H => m = n - i ∧ i ≤ n ∧ Pv i σ H, ⟨n, (Nat.sub_zero n).symm, Nat.zero_le _, h0⟩, ?_⟩
  rintro i m σ H ⟨rfl, hi, p⟩
  obtain ⟨qa, qb⟩ := hq i σ H p
  by_cases hlt : i < n
  · have e1 : xs[i]? = some (xs[i]'(by omega)) := List.getElem?_eq_getElem _
    have e2 : ys[i]? = some (ys[i]'(by omega)) := List.getElem?_eq_getElem _
    refine .inr ⟨⟨xs, ys, _, _, qa, qb, e1, e2⟩, Pv (i + 1), fun σ' H' p' => ⟨n - (i + 1), by omega, rfl, hlt, p'⟩, fun v H' hy' => ?_⟩
    obtain ⟨T, x, y, rfl, nT, rfl, fx, fy⟩ := hy'
    exact hs i x y T σ H hlt (fx _ qa) (fy _ qb) p nT
  · have e : i = n := by omega
    subst e
    exact .inl ⟨⟨xs, ys, qa, qb, by omega⟩, hd σ H p⟩
theorem lc_zipL {K : PySem.W.Frag} {a b : Addr} {xs ys : List V} {n : Nat} {g : TG} {tt : TT} {te : TE} {vs : List Nat} {σ : L2.St} {H1 : Hp} {D : Addr} {Qd : Hp → Prop} (hx : n ≤ xs.length) (hy : n ≤ ys.length) (hn : xs.length ≤ n ∨ ys.length ≤ n)
    (Pv : Nat → Hp → Prop) (h0 : Pv 0 (upd H1 D (.lst []))) (hq : ∀ i H, Pv i H → SqL K H a xs ∧ SqL K H b ys)
    (hs : ∀ i x y T H, i < n → xs[i]? = some x → ys[i]? = some y → Pv i H → H T = none → g (.ref T) (wipe σ vs) (upd H T (.tup [x, y])) fun σ2 H2 => wipe σ2 vs = wipe σ vs ∧ tt σ2 H2 fun c H3 =>
      if c = true then te σ2 H3 fun z H4 => ∃ acc, H4 D = some (.lst acc) ∧ acc.length < sizeLine ∧ Pv (i + 1) (upd H4 D (.lst (acc ++ [z]))) else Pv (i + 1) H3) (hd : ∀ H, Pv n H → Qd H) :
    ∃ W : Nat → Nat → Hp → Prop, (∃ m, W 0 m (upd H1 D (.lst []))) ∧ ∀ i m H, W i m H →
      ((Itz K a b).stop i H ∧ Qd H) ∨ ((Itz K a b).go i H ∧ ∃ Nx : Hp → Prop, (∀ H', Nx H' → ∃ m', m' < m ∧ W (i + 1) m' H') ∧ ∀ v H', (Itz K a b).yld i H v H' → g v (wipe σ vs) H' fun σ2 H2 => wipe σ2 vs = wipe σ vs ∧ tt σ2 H2 fun c H3 =>
        if c = true then te σ2 H3 fun z H4 => ∃ acc, H4 D = some (.lst acc) ∧ acc.length < sizeLine ∧ Nx (upd H4 D (.lst (acc ++ [z]))) else Nx H3) := by
  refine ⟨fun i m H => m = n - i ∧ i ≤ n ∧ Pv i H, ⟨n, (Nat.sub_zero n).symm, Nat.zero_le _, h0⟩, ?_⟩
  rintro i m H ⟨rfl, hi, p⟩
  obtain ⟨qa, qb⟩ := hq i H p
  by_cases hlt : i < n
  · have e1 : xs[i]? = some (xs[i]'(by omega)) := List.getElem?_eq_getElem _
    have e2 : ys[i]? = some (ys[i]'(by omega)) := List.getElem?_eq_getElem _
    refine .inr ⟨⟨xs, ys, _, _, qa, qb, e1, e2⟩, Pv (i + 1), fun H' p' => ⟨n - (i + 1), by omega, rfl, hlt, p'⟩, fun v H' hy' => ?_⟩
    obtain ⟨T, x, y, rfl, nT, rfl, fx, fy⟩ := hy'
    exact hs i x y T H hlt (fx _ qa) (fy _ qb) p nT
  · have e : i = n := by omega
    subst e
    exact .inl ⟨⟨xs, ys, qa, qb, by omega⟩, hd H p⟩
theorem for_zipL {K : PySem.W.Frag} {a b : Addr} {xs ys : List V} {n : Nat} {g : TG} {tb : TS} {D : Ends} {σ : L2.St} {H : Hp} (hx : n ≤ xs.length) (hy : n ≤ ys.length) (hn : xs.length ≤ n ∨ ys.length ≤ n)
    (Pv : Nat → L2.St → Hp → Prop) (h0 : Pv 0 σ H) (hq : ∀ i σ H, Pv i σ H → SqL K H a xs ∧ SqL K H b ys)
    (hs : ∀ i x y T σ H, i < n → xs[i]? = some x → ys[i]? = some y → Pv i σ H → H T = none → g (.ref T) σ (upd H T (.tup [x, y])) fun σ2 H2 => tb { D with nx := Pv (i + 1), ct := Pv (i + 1), bk := D.nx } σ2 H2) (hd : ∀ σ H, Pv n σ H → D.nx σ H) :
    ∃ W : Nat → Nat → L2.St → Hp → Prop, (∃ m, W 0 m σ H) ∧ ∀ i m σ H, W i m σ H →
      ((Itz K a b).stop i H ∧ D.nx σ H) ∨ ((Itz K a b).go i H ∧ ∃ N : L2.St → Hp → Prop, (∀ σ' H', N σ' H' → ∃ m', m' < m ∧ W (i + 1) m' σ' H') ∧ ∀ v H', (Itz K a b).yld i H v H' → g v σ H' fun σ2 H2 => tb { D with nx := N, ct := N, bk := D.nx } σ2 H2) := by
  refine ⟨fun i m σ H => m = n - i ∧ i ≤ n ∧ Pv i σ H, ⟨n, (Nat.sub_zero n).symm, Nat.zero_le _, h0⟩, ?_⟩
  rintro i m σ H ⟨rfl, hi, p⟩
  obtain ⟨qa, qb⟩ := hq i σ H p
  by_cases hlt : i < n
  · have e1 : xs[i]? = some (xs[i]'(by omega)) := List.getElem?_eq_getElem _
    have e2 : ys[i]? = some (ys[i]'(by omega)) := List.getElem?_eq_getElem _
    refine .inr ⟨⟨xs, ys, _, _, qa, qb, e1, e2⟩, Pv (i + 1), fun σ' H' p' => ⟨n - (i + 1), by omega, rfl, hlt, p'⟩, fun v H' hy' => ?_⟩
    obtain ⟨T, x, y, rfl, nT, rfl, fx, fy⟩ := hy'
    exact hs i x y T σ H hlt (fx _ qa) (fy _ qb) p nT
  · have e : i = n := by omega
    subst e
    exact .inl ⟨⟨xs, ys, qa, qb, by omega⟩, hd σ H p⟩
theorem for_enumT {K : PySem.W.Frag} {a : Addr} {xs : List V} {g : TG} {tb : TS} {D : Ends} {σ : L2.St} {H : Hp} (Pv : Nat → L2.St → Hp → Prop) (h0 : Pv 0 σ H) (hq : ∀ i σ H, Pv i σ H → SqT K H a xs)
    (hs : ∀ i x T σ H, xs[i]? = some x → Pv i σ H → H T = none → g (.ref T) σ (upd H T (.tup [.int (i : Nat), x])) fun σ2 H2 => tb { D with nx := Pv (i + 1), ct := Pv (i + 1), bk := D.nx } σ2 H2) (hd : ∀ σ H, Pv xs.length σ H → D.nx σ H) :
    ∃ W : Nat → Nat → L2.St → Hp → Prop, (∃ m, W 0 m σ H) ∧ ∀ i m σ H, W i m σ H →
      ((EnT.IteT K a).stop i H ∧ D.nx σ H) ∨ ((EnT.IteT K a).go i H ∧ ∃ N : L2.St → Hp → Prop, (∀ σ' H', N σ' H' → ∃ m', m' < m ∧ W (i + 1) m' σ' H') ∧ ∀ v H', (EnT.IteT K a).yld i H v H' → g v σ H' fun σ2 H2 => tb { D with nx := N, ct := N, bk := D.nx } σ2 H2) := by
  refine ⟨fun i m σ H => m = xs.length - i ∧ i ≤ xs.length ∧ Pv i σ H, ⟨xs.length, (Nat.sub_zero _).symm, Nat.zero_le _, h0⟩, ?_⟩
  rintro i m σ H ⟨rfl, hi, p⟩
  have qa := hq i σ H p
  by_cases hlt : i < xs.length
  · have e1 : xs[i]? = some (xs[i]'hlt) := List.getElem?_eq_getElem _
    refine .inr ⟨⟨xs, _, qa, e1⟩, Pv (i + 1), fun σ' H' p' => ⟨xs.length - (i + 1), by omega, rfl, hlt, p'⟩, fun v H' hy' => ?_⟩
    obtain ⟨T, x, rfl, nT, rfl, fx⟩ := hy'
    exact hs i x T σ H (fx _ qa) p nT
  · have e : i = xs.length := by omega
    subst e
    exact .inl ⟨⟨xs, qa, rfl⟩, hd σ H p⟩
theorem lc_enumT {K : PySem.W.Frag} {a : Addr} {xs : List V} {g : TG} {tt : TT} {te : TE} {vs : List Nat} {σ : L2.St} {H1 : Hp} {D : Addr} {Qd : Hp → Prop} (Pv : Nat → Hp → Prop) (h0 : Pv 0 (upd H1 D (.lst []))) (hq : ∀ i H, Pv i H → SqT K H a xs)
    (hs : ∀ i x T H, xs[i]? = some x → Pv i H → H T = none → g (.ref T) (wipe σ vs) (upd H T (.tup [.int (i : Nat), x])) fun σ2 H2 => wipe σ2 vs = wipe σ vs ∧ tt σ2 H2 fun c H3 =>
      if c = true then te σ2 H3 fun z H4 => ∃ acc, H4 D = some (.lst acc) ∧ acc.length < sizeLine ∧ Pv (i + 1) (upd H4 D (.lst (acc ++ [z]))) else Pv (i + 1) H3) (hd : ∀ H, Pv xs.length H → Qd H) :
    ∃ W : Nat → Nat → Hp → Prop, (∃ m, W 0 m (upd H1 D (.lst []))) ∧ ∀ i m H, W i m H →
      ((EnT.IteT K a).stop i H ∧ Qd H) ∨ ((EnT.IteT K a).go i H ∧ ∃ Nx : Hp → Prop, (∀ H', Nx H' → ∃ m', m' < m ∧ W (i + 1) m' H') ∧ ∀ v H', (EnT.IteT K a).yld i H v H' → g v (wipe σ vs) H' fun σ2 H2 => wipe σ2 vs = wipe σ vs ∧ tt σ2 H2 fun c H3 =>
        if c = true then te σ2 H3 fun z H4 => ∃ acc, H4 D = some (.lst acc) ∧ acc.length < sizeLine ∧ Nx (upd H4 D (.lst (acc ++ [z]))) else Nx H3) := by
  refine ⟨fun i m H => m = xs.length - i ∧ i ≤ xs.length ∧ Pv i H, ⟨xs.length, (Nat.sub_zero _).symm, Nat.zero_le _, h0⟩, ?_⟩
  rintro i m H ⟨rfl, hi, p⟩
  have qa := hq i H p
  by_cases hlt : i < xs.length
  · have e1 : xs[i]? = some (xs[i]'hlt) := List.getElem?_eq_getElem _
    refine .inr ⟨⟨xs, _, qa, e1⟩, Pv (i + 1), fun H' p' => ⟨xs.length - (i + 1), by omega, rfl, hlt, p'⟩, fun v H' hy' => ?_⟩
    obtain ⟨T, x, rfl, nT, rfl, fx⟩ := hy'
    exact hs i x T H (fx _ qa) p nT
  · have e : i = xs.length := by omega
    subst e
    exact .inl ⟨⟨xs, qa, rfl⟩, hd H p⟩
end ZW

/-! own rules: slices of a tuple and sums of tuples, whole or empty ones too, by what stands afterwards -/
namespace TE
open PySem PySem.Spec PyProof.Rows L2 Evl
section
variable {X : Cx}
def rSlE : V → Option Int → Option Int → Hp → VK → Prop := fun x lo hi H Q => ∃ a xs, x = .ref a ∧ H a = some (.tup xs) ∧ ∀ p H', Ex H H' → H' p = some (.tup (cutV xs lo hi)) → Q (.ref p) H'
theorem sl_tupE : SlR X rSlE := by
  intro pins s σ H x v vl vu lo hi sl Q I rx hs pl pu h
  obtain ⟨a, xs, rfl, hx, q⟩ := h
  refine sl_tupA pins s σ H _ v vl vu lo hi sl Q I rx hs pl pu ⟨a, xs, rfl, SqT.of hx, fun w => q a H (Ex.refl _) ?_, fun _ p hp => q p _ (Ex.new hp) upd_same⟩
  obtain ⟨w1, w2⟩ := w
  have e : cutV xs lo hi = xs := by
    unfold cutV
    rw [w1, w2, List.drop_zero, Nat.sub_zero, List.take_length]
  rw [e]
  exact hx
def rCatE : R2 := fun x y H Q => ∃ a b xs ys, x = .ref a ∧ y = .ref b ∧ H a = some (.tup xs) ∧ H b = some (.tup ys) ∧ xs.length + ys.length ≤ sizeLine ∧ ∀ p H', Ex H H' → H' p = some (.tup (xs ++ ys)) → Q (.ref p) H'
theorem op_catE : OpR X (binaryOp .Add) rCatE := by
  intro pins s σ H x y v u Q I rx ry h
  obtain ⟨a, b, xs, ys, rfl, rfl, ha, hb, hz, q⟩ := h
  refine op_catA pins s σ H _ _ v u Q I rx ry ⟨a, b, xs, ys, rfl, rfl, SqT.of ha, SqT.of hb, hz, fun e => q b H (Ex.refl _) ?_, fun _ e => q a H (Ex.refl _) ?_, fun _ _ p hp => q p _ (Ex.new hp) upd_same⟩
  · rw [e, List.nil_append]
    exact hb
  · rw [e, List.append_nil]
    exact ha
end
end TE

namespace K1
open HM
def lamr (h : List Nat) (r : Nat) : Nat := hAt (conj h) r
def bead (h : List Nat) (c : Nat) : Int := (hAt h c : Int) - (c : Int) - 1
def hk (h : List Nat) (c r : Nat) : Int := (hAt h c : Int) - (r : Int) + (lamr h r : Int) - (c : Int) - 1
def isB (h : List Nat) (z : Int) : Prop := ∃ c, c < h.length ∧ z = bead h c
def coreB (h : List Nat) (k : Int) : Prop := ∀ c, c < h.length → isB h (bead h c - k) ∨ bead h c - k < -(h.length : Int)
theorem bead_split {h : List Nat} (H : IsHeap h) (z : Int) : ∀ n : Nat, ∃ j, j ≤ n ∧ (∀ c, c < j → z < bead h c) ∧ ∀ c, j ≤ c → c < n → bead h c ≤ z
  | 0 => ⟨0, Nat.le_refl _, fun c hc => absurd hc (Nat.not_lt_zero _), fun c _ hc => absurd hc (Nat.not_lt_zero _)⟩
  | n + 1 => by
    obtain ⟨j, a, b, d⟩ := bead_split H z n
    by_cases q : z < bead h n
    · refine ⟨n + 1, Nat.le_refl _, fun c hc => ?_, fun c h1 h2 => by omega⟩
      have := H.le (show c ≤ n by omega)
      unfold bead at q ⊢
      omega
    · refine ⟨j, by omega, b, fun c h1 h2 => ?_⟩
      by_cases e : c = n
      · rw [e]
        omega
      · exact d c h1 (by omega)
theorem lam_le {h : List Nat} (H : IsHeap h) (r : Nat) : lamr h r ≤ h.length := by
  rcases Nat.lt_or_ge h.length (lamr h r) with q | q
  · have := (conj_iff H h.length r).mp q
    rw [hAt_ge (Nat.le_refl _)] at this
    omega
  · exact q
theorem hole {h : List Nat} (H : IsHeap h) {z : Int} (hz : -(h.length : Int) ≤ z) (nb : ¬ isB h z) : ∃ r : Nat, z = (r : Int) - (lamr h r : Int) := by
  obtain ⟨j, a, b, d⟩ := bead_split H z h.length
  have nn : 0 ≤ z + (j : Int) := by
    by_cases q : j < h.length
    · have h1 := d j (Nat.le_refl _) q
      have h2 : z ≠ bead h j := fun e => nb ⟨j, q, e⟩
      unfold bead at h1 h2
      omega
    · omega
  refine ⟨(z + j).toNat, ?_⟩
  have key : ∀ c, c < j ↔ (z + j).toNat < hAt h c := fun c => by
    constructor
    · intro hc
      have h1 := b (j - 1) (by omega)
      have h2 := H.le (show c ≤ j - 1 by omega)
      unfold bead at h1
      omega
    · intro hc
      rcases Nat.lt_or_ge c j with q | q
      · exact q
      · exfalso
        by_cases q2 : c < h.length
        · have h1 := d j (Nat.le_refl _) (by omega)
          have h2 : z ≠ bead h j := fun e => nb ⟨j, by omega, e⟩
          have h3 := H.le q
          unfold bead at h1 h2
          omega
        · rw [hAt_ge (by omega)] at hc
          omega
  have e : lamr h (z + j).toNat = j := by
    have k := fun c => (conj_iff H c (z + j).toNat).trans (key c).symm
    rcases Nat.lt_trichotomy (lamr h (z + j).toNat) j with q | q | q
    · exact absurd ((k _).mpr q) (Nat.lt_irrefl _)
    · exact q
    · exact absurd ((k _).mp q) (Nat.lt_irrefl _)
  rw [e]
  omega
theorem no_both {h : List Nat} (H : IsHeap h) {r : Nat} (b : isB h ((r : Int) - (lamr h r : Int))) : False := by
  obtain ⟨c, hc, e⟩ := b
  have k := conj_iff H c r
  unfold bead at e
  rcases Nat.lt_or_ge r (hAt h c) with q | q
  · have : c < lamr h r := k.mpr q
    omega
  · have : ¬ c < lamr h r := fun z => absurd (k.mp z) (by omega)
    omega
theorem not_low {h : List Nat} (H : IsHeap h) {r : Nat} : ¬ (r : Int) - (lamr h r : Int) < -(h.length : Int) := by
  have := lam_le H r
  omega
theorem core_iff {h : List Nat} (H : IsHeap h) {k : Int} (hk1 : 1 ≤ k) : coreB h k ↔ ∀ c r, r < hAt h c → hk h c r ≠ k := by
  constructor
  · intro C c r hr e
    have hc : c < h.length := by
      rcases Nat.lt_or_ge c h.length with q | q
      · exact q
      · rw [hAt_ge q] at hr
        omega
    have z : bead h c - k = (r : Int) - (lamr h r : Int) := by
      unfold hk at e
      unfold bead
      omega
    have := C c hc
    rw [z] at this
    rcases this with q | q
    · exact no_both H q
    · exact not_low H q
  · intro A c hc
    by_cases q : bead h c - k < -(h.length : Int)
    · exact .inr q
    · refine .inl ?_
      by_cases q2 : isB h (bead h c - k)
      · exact q2
      · exfalso
        obtain ⟨r, hr⟩ := hole H (by omega) q2
        have kk := conj_iff H c r
        rcases Nat.lt_or_ge r (hAt h c) with g | g
        · refine A c r g ?_
          unfold hk
          unfold bead at hr
          omega
        · have : ¬ c < lamr h r := fun z => absurd (kk.mp z) (by omega)
          unfold bead at hr
          omega
theorem core_down {h : List Nat} {k : Int} (hk1 : 1 ≤ k) (C : coreB h k) : ∀ (m : Nat) (c : Nat), c < h.length → isB h (bead h c - (m : Int) * k) ∨ bead h c - (m : Int) * k < -(h.length : Int)
  | 0, c, hc => .inl ⟨c, hc, by rw [show ((0 : Nat) : Int) = 0 from rfl, Int.zero_mul]; omega⟩
  | m + 1, c, hc => by
    rw [show ((m + 1 : Nat) : Int) = (m : Int) + 1 by omega, Int.add_mul, Int.one_mul]
    rcases core_down hk1 C m c hc with ⟨c2, h2, e⟩ | q
    · have := C c2 h2
      rw [← e] at this
      rw [show bead h c - ((m : Int) * k + k) = bead h c - (m : Int) * k - k by omega]
      exact this
    · exact .inr (by omega)
theorem core_mult {h : List Nat} (H : IsHeap h) {k : Int} (hk1 : 1 ≤ k) (C : coreB h k) {c r : Nat} (hr : r < hAt h c) : ¬ hk h c r % k = 0 := by
  intro e
  have hc : c < h.length := by
    rcases Nat.lt_or_ge c h.length with q | q
    · exact q
    · rw [hAt_ge q] at hr
      omega
  have pos : 0 ≤ hk h c r := by
    have : c < lamr h r := (conj_iff H c r).mpr hr
    unfold hk
    omega
  have d := Int.mul_ediv_add_emod (hk h c r) k
  rw [e, Int.mul_comm] at d
  have nd : 0 ≤ hk h c r / k := Int.ediv_nonneg pos (by omega)
  have := core_down hk1 C (hk h c r / k).toNat c hc
  rw [Int.toNat_of_nonneg nd] at this
  have z : bead h c - hk h c r / k * k = (r : Int) - (lamr h r : Int) := by
    have : hk h c r = (hAt h c : Int) - (r : Int) + (lamr h r : Int) - (c : Int) - 1 := rfl
    unfold bead
    omega
  rw [z] at this
  rcases this with q | q
  · exact no_both H q
  · exact not_low H q
theorem lam_count {h : List Nat} (H : IsHeap h) (r : Nat) : lamr h r = (h.filter fun x => decide (r < x)).length := by
  unfold lamr
  by_cases q : r < hAt h 0
  · unfold hAt conj
    rw [List.getD_eq_getElem?_getD, List.getElem?_map, List.getElem?_range q]
    rfl
  · rw [hAt_ge (by rw [conj_len]; omega)]
    symm
    rw [List.length_eq_zero_iff, List.filter_eq_nil_iff]
    intro x hx
    obtain ⟨i, hi, rfl⟩ := List.getElem_of_mem hx
    have := H.le (Nat.zero_le i)
    have e : hAt h i = h[i] := by
      unfold hAt
      rw [List.getD_eq_getElem?_getD, List.getElem?_eq_getElem hi]
      rfl
    rw [decide_eq_true_eq]
    omega
theorem right_count {h : List Nat} (H : IsHeap h) {c r : Nat} (hr : r < hAt h c) : (((h.drop (c + 1)).filter fun x => decide (r < x)).length : Int) = (lamr h r : Int) - (c : Int) - 1 := by
  have hc : c < h.length := by
    rcases Nat.lt_or_ge c h.length with q | q
    · exact q
    · rw [hAt_ge q] at hr
      omega
  rw [lam_count H r]
  have e : (h.filter fun x => decide (r < x)).length = ((h.take (c + 1)).filter fun x => decide (r < x)).length + ((h.drop (c + 1)).filter fun x => decide (r < x)).length := by
    rw [← List.length_append, ← List.filter_append, List.take_append_drop]
  have t : (h.take (c + 1)).filter (fun x => decide (r < x)) = h.take (c + 1) := by
    rw [List.filter_eq_self]
    intro x hx
    obtain ⟨i, hi, rfl⟩ := List.getElem_of_mem hx
    rw [List.length_take] at hi
    rw [List.getElem_take]
    have e2 : hAt h i = h[i] := by
      unfold hAt
      rw [List.getD_eq_getElem?_getD, List.getElem?_eq_getElem (by omega)]
      rfl
    have := H.le (show i ≤ c by omega)
    rw [decide_eq_true_eq]
    omega
  rw [t, List.length_take] at e
  omega
end K1

set_option exponentiation.threshold 400
namespace K1
open PySem PySem.Spec PyProof.Rows L2 Evl HM LX
section
variable {P : Program} {w : World} {K : PySem.W.Frag} {mg : Str → Option Value} {base : Heap}
inductive NotTup (K : PySem.W.Frag) (H : Hp) : V → Prop where
  | bl (b : Bool) : NotTup K H (.bl b)
  | non : NotTup K H .non
  | int (i : Int) : NotTup K H (.int i)
  | str (x : Str) : NotTup K H (.str x)
  | lst {a : Addr} {xs : List V} (e : H a = some (.lst xs)) : NotTup K H (.ref a)
  | dK {a : Addr} {kvs : List (Key × V)} (e : H a = some (.dK kvs)) : NotTup K H (.ref a)
theorem NotTup.ty {K : PySem.W.Frag} {H : Hp} {x : V} (h : NotTup K H x) : ∃ t : Value, TyX K H x t ∧ PySem.W.kitOne K t (.type "tuple") = some false := by
  cases h with
  | bl b => exact ⟨_, .base (.bl b), (kit_ty (by decide +kernel))⟩
  | non => exact ⟨_, .base .non, (kit_ty (by decide +kernel))⟩
  | int x => exact ⟨_, .base (.int x), (kit_ty (by decide +kernel))⟩
  | str x => exact ⟨_, .base (.str x), (kit_ty (by decide +kernel))⟩
  | lst e => exact ⟨_, .base (.lst e), (kit_ty (by decide +kernel))⟩
  | dK e => exact ⟨_, .base (.dK e), (kit_ty (by decide +kernel))⟩
theorem NotTup.mono {K : PySem.W.Frag} {H H' : Hp} {x : V} (e : Ex H H') (h : NotTup K H x) : NotTup K H' x := by
  cases h with
  | bl b => exact .bl b
  | non => exact .non
  | int x => exact .int x
  | str x => exact .str x
  | lst q => exact .lst (e _ _ q)
  | dK q => exact .dK (e _ _ q)
theorem BtwB.mono {K : PySem.W.Frag} {H H' : Hp} {lo hi : Int} {x : V} {b : Bool} (e : Ex H H') (h : BtwB K H lo hi x b) : BtwB K H' lo hi x b := by
  cases h with
  | int i => exact .int i
  | no h => exact .no (h.mono e)
theorem BtwB.yes {K : PySem.W.Frag} {H : Hp} {lo hi i : Int} (h1 : lo ≤ i) (h2 : i ≤ hi) (h3 : -(10 ^ 60) < i) (h4 : i < 10 ^ 60) : BtwB K H lo hi (.int i) true := by
  have := BtwB.int (K := K) (H := H) (lo := lo) (hi := hi) i
  rw [decide_eq_true h1, decide_eq_true h2, decide_eq_true h3, decide_eq_true h4] at this
  exact this
theorem BtwB.out {K : PySem.W.Frag} {H : Hp} {lo hi i : Int} (h1 : ¬ (lo ≤ i ∧ i ≤ hi)) : BtwB K H lo hi (.int i) false := by
  have := BtwB.int (K := K) (H := H) (lo := lo) (hi := hi) i
  have e : (decide (lo ≤ i) && decide (i ≤ hi)) = false := by
    by_cases c : lo ≤ i
    · have c2 : ¬ i ≤ hi := fun z => h1 ⟨c, z⟩
      rw [decide_eq_false c2, Bool.and_false]
    · rw [decide_eq_false c, Bool.false_and]
  rw [e, Bool.and_false] at this
  exact this
inductive PairB (K : PySem.W.Frag) (H : Hp) : V → Bool → Prop where
  | no {x : V} (h : NotTup K H x) : PairB K H x false
  | tup {a : Addr} {xs : List V} (e : H a = some (.tup xs)) : PairB K H (.ref a) (decide (xs.length = 2))
def spIsPair (K : PySem.W.Frag) : Sp := fun vs H Q _ => ∃ x b, vs = [x] ∧ PairB K H x b ∧ ∀ H', Ex H H' → Q (.bl b) H'
def hv (h : List Nat) : List V := h.map fun (n : Nat) => V.int (n : Int)
theorem hv_len (h : List Nat) : (hv h).length = h.length := List.length_map ..
theorem hv_get {h : List Nat} {c : Nat} (hc : c < h.length) : (hv h)[c]? = some (V.int (hAt h c : Int)) := by
  unfold hv
  rw [List.getElem?_map, hAt_lt hc]
  rfl
def HeapAt (H : Hp) (p : Addr) (h : List Nat) : Prop := H p = some (.tup (hv h))
structure Good (h : List Nat) : Prop where
  heap : IsHeap h
  len : h.length ≤ 60
  top : hAt h 0 ≤ 60
theorem Good.all {h : List Nat} (G : Good h) (c : Nat) : hAt h c ≤ 60 := Nat.le_trans (G.heap.le (Nat.zero_le c)) G.top
def spCheckBetween (K : PySem.W.Frag) : Sp := fun vs H Q _ => ∃ i lo hi : Int, vs = [.int i, .int lo, .int hi] ∧ lo ≤ i ∧ i ≤ hi ∧ -(10 ^ 60) < i ∧ i < 10 ^ 60 ∧ ∀ H', Ex H H' → Q .non H'
theorem ok_check_between (T : Txt K mg) {f : Addr} {fd : FuncData} (D : DefAt K mg "check_between" sCheckBetween ["value", "low", "high"] f fd) : FnOk P w K mg base CX0 3 f fd ["value", "low", "high"] (spCheckBetween K) := by
  refine D.F.ok scCheckBetween (fun vs H Q E h => ?_) (fun cdv A outer s H vs Q E hr h => ?_)
  · obtain ⟨i, lo, hi, rfl, _⟩ := h
    rfl
  · obtain ⟨i, lo, hi, rfl, h1, h2, h3, h4, q⟩ := h
    obtain ⟨f1, fd1, D1⟩ := T.d_is_between
    refine ⟨_, pss_one (ps_if (pt_not (pt_val (pe_call (ok_is_between T D1) hr (by rfl) D1.g D1.F.kp D1.b .nil pass0 (pa_cons (pv 0) (pa_cons (pv 1) (pa_cons (pv 2) pa_nil)))))) pss_never pss_nil), ?_⟩
    exact ⟨_, rfl, _, rfl, _, rfl, _, lo, hi, true, rfl, .yes h1 h2 h3 h4, fun H1 e1 => ⟨true, rfl, iteF (q _ e1)⟩⟩
def spHeightAt : Sp := fun vs H Q _ => ∃ p h, ∃ c : Nat, vs = [.ref p, .int (c : Int)] ∧ HeapAt H p h ∧ ∀ H', Ex H H' → Q (.int (hAt h c : Int)) H'
theorem ok_height_at (T : Txt K mg) {f : Addr} {fd : FuncData} (D : DefAt K mg "height_at" sHeightAt ["heap", "column"] f fd) : FnOk P w K mg base CX0 1 f fd ["heap", "column"] spHeightAt := by
  refine D.F.ok scHeightAt (fun vs H Q E h => ?_) (fun cdv A outer s H vs Q E hr h => ?_)
  · obtain ⟨p, h, c, rfl, _⟩ := h
    rfl
  · obtain ⟨p, h, c, rfl, hp, q⟩ := h
    refine ⟨_, pss_one (ps_ret (pe_ifExp (pt_cmpR op_lt (pv 1) (pe_callB call_len_seq (by rfl) T.z_len PySem.boot_len (pa_cons (pv 0) pa_nil)) (nomark _)) (pe_ix ix_tup (pv 0) (pv 1) (fun _ _ => rfl)) pe_int)), ?_⟩
    refine ⟨_, rfl, _, rfl, p, _, rfl, .inr (SqT.of hp), _, _, rfl, rfl, _, rfl, ite2 (fun cc => ?_) (fun cc => ?_)⟩
    · have hc : c < h.length := by
        have : (c : Int) < ((hv h).length : Int) := of_decide_eq_true cc
        rw [hv_len] at this
        omega
      exact ⟨_, rfl, _, rfl, p, _, _, _, rfl, rfl, SqT.of hp, atI_nat (hv_get hc), q _ (Ex.refl _)⟩
    · have hc : h.length ≤ c := by
        have : ¬ (c : Int) < ((hv h).length : Int) := fun z => cc (decide_eq_true z)
        rw [hv_len] at this
        omega
      have := hAt_ge hc
      have q2 := q _ (Ex.refl _)
      rw [this] at q2
      exact q2
theorem int_get5 {ns : List Int} {i : Nat} (h : i < ns.length) : (ns.map V.int)[i]? = some (V.int (ns.getD i 0)) := by
  rw [List.getElem?_map, List.getD_eq_getElem?_getD, List.getElem?_eq_getElem h]
  rfl
end
end K1

/-! own rule: name = {k: v for ..}, keys ints or texts -/
namespace DI
open PySem PySem.Spec PyProof.Rows L2
theorem ps_setDcK {X : Cx} {i : Nat} {y : Str} {py : Pos} {kx vx tg iter : Expr} {ifs : List Expr} {scope : Scope} {own : List (Str × Nat)} {pos spos : Pos} {wi : TI} {g : TG} {tt : TT} {tk tv : TE} (hc : X.calm = true) (hN : X.N.Nodup) (hy : X.N[i]? = some y) (hyl : X.env.scope.names.lookup y = some .local)
    (hsw : swapsWith (.DictComp kx vx [⟨tg, iter, ifs, 0⟩] scope pos) (some (.Name y py)) spos.line X.env = pure true) (hi : PI X tg iter wi) (ok : BlkOk X.N X.env.scope scope own)
    (hg : ∀ (s : Shared) (H : Hp) (C : Addr) (cl : List (Str × Addr)) (fp : List Addr), PG (X.blk s H scope (compEnvC scope cl C X.env) fp) tg g) (ht : ∀ (s : Shared) (H : Hp) (C : Addr) (cl : List (Str × Addr)) (fp : List Addr), PTs (X.blk s H scope (compEnvC scope cl C X.env) fp) ifs tt)
    (hk : ∀ (s : Shared) (H : Hp) (C : Addr) (cl : List (Str × Addr)) (fp : List Addr), PE (X.blk s H scope (compEnvC scope cl C X.env) fp) kx tk)
    (he : ∀ (s : Shared) (H : Hp) (C : Addr) (cl : List (Str × Addr)) (fp : List Addr), PE (X.blk s H scope (compEnvC scope cl C X.env) fp) vx tv) (hs : ∀ x, foldedSetIterable iter X.env x = pure x := by intro _; rfl) :
    PS X (.Assign [.Name y py] (.DictComp kx vx [⟨tg, iter, ifs, 0⟩] scope pos) spos) (tAsg (tDc wi g tt tk tv (own.map (·.2))) (gName i)) := by
  refine ⟨fun pins s σ H D I h => ?_⟩
  rw [exec_Assign_Name_used _ _ _ _ hsw]
  refine wpAny_bind (wpAny_standAt (wpAny_bind ?_))
  show wpAny _ X.A (do let _ ← comprehension (.DictComp kx vx [⟨tg, iter, ifs, 0⟩] scope pos) scope X.env (firstIterPos [⟨tg, iter, ifs, 0⟩] pos) newDict false (eval iter X.env) (some (assign (.Name y py) X.env))) _ _ s
  have h : tDc wi g tt tk tv (own.map (·.2)) σ H (fun x H1 => gName i x σ H1 D.nx) := h
  refine wpAny_bind (thn (dc_core (Qf := fun _ s' => SP X pins D .next s') hc hN I hi ok hg ht hk he hs h fun L C s' m H' I' q hn f => ?_) fun _ s' hq => wpAny_pure (wpAny_pure hq))
  show wpAny _ _ (assign (.Name y py) X.env (.ref L)) _ _ _
  refine wpAny_assign_Name (store_ok2 (v := V.ref L) I' hN hy (.inl hyl) rfl (fun s2 I2 ⟨a, sb, ha⟩ => ?_) (.inr hyl))
  obtain ⟨f0, f1, f2, f3, f4, f5⟩ := f
  have haC : C ≠ a := by
    rcases ha with z | z
    · rw [z]; exact f1
    · exact fun e => f4 y a z e.symm
  refine ⟨m, hn.sameBut sb haC, fun h3 sb3 => ?_⟩
  exact ⟨_, H', I2.turned (t' := s2.toks) (fun b o hb e => (sb3.2 b hb).trans e) f0 f1 f3 f4 f5, q⟩
theorem swd_true {kx vx : Expr} {gs : List Comprehension} {scope : Scope} {pos py : Pos} {y : Str} {l : Nat} {env : Env} (hk : env.scope.kind = .function) (hy : env.scope.names.lookup y = some .local) (hl : (py.line == pos.line) = true)
    (ha : (scope.names.any fun (n, k) => n == y && (k == .local || k == .cell)) = false) : swapsWith (.DictComp kx vx gs scope pos) (some (.Name y py)) l env = pure true := by
  have ky : env.kindOf y = some .local := hy
  have hb : env.blockKind = .function := by unfold Env.blockKind; rw [hk]; rfl
  unfold swapsWith
  simp only [hb, ky, ha, Expr.pos, hl]
  rfl
end DI
namespace DI
open PySem PySem.Spec PyProof.Rows L2
theorem dcK_it {J : It} {n : Nat} {G : Hp → Prop} {Y : Nat → Hp → V → Hp → Prop} (w : Walk J n G Y) {g : TG} {tt : TT} {tk tv : TE} {vs : List Nat} {σ : L2.St} {H1 : Hp} {D : Addr} {Qd : Hp → Prop} (Pv : Nat → Hp → Prop) (h0 : Pv 0 (upd H1 D (.dK []))) (hG : ∀ i H, i ≤ n → Pv i H → G H)
    (hs : ∀ i x H H', i < n → Pv i H → Y i H x H' → g x (wipe σ vs) H' fun σ2 H2 => wipe σ2 vs = wipe σ vs ∧ tt σ2 H2 fun b H3 =>
      if b = true then tk σ2 H3 fun y H4 => tv σ2 H4 fun z H5 => ∃ kvs k, y = kV k ∧ H5 D = some (.dK kvs) ∧ kvs.length < sizeLine ∧ Pv (i + 1) (upd H5 D (.dK (putK kvs k z))) else Pv (i + 1) H3) (hd : ∀ H, Pv n H → Qd H) :
    ∃ W : Nat → Nat → Hp → Prop, (∃ m, W 0 m (upd H1 D (.dK []))) ∧ ∀ i m H, W i m H →
      (J.stop i H ∧ Qd H) ∨ (J.go i H ∧ ∃ Nx : Hp → Prop, (∀ H', Nx H' → ∃ m', m' < m ∧ W (i + 1) m' H') ∧ ∀ x H', J.yld i H x H' → g x (wipe σ vs) H' fun σ2 H2 => wipe σ2 vs = wipe σ vs ∧ tt σ2 H2 fun b H3 =>
        if b = true then tk σ2 H3 fun y H4 => tv σ2 H4 fun z H5 => ∃ kvs k, y = kV k ∧ H5 D = some (.dK kvs) ∧ kvs.length < sizeLine ∧ Nx (upd H5 D (.dK (putK kvs k z))) else Nx H3) := by
  refine ⟨fun i m H => m = n - i ∧ i ≤ n ∧ Pv i H, ⟨n, (Nat.sub_zero n).symm, Nat.zero_le _, h0⟩, ?_⟩
  rintro i m H ⟨rfl, hi, p⟩
  by_cases c : i < n
  · exact .inr ⟨w.goes i H c (hG i H hi p), Pv (i + 1), fun H' p' => ⟨n - (i + 1), by omega, rfl, c, p'⟩, fun x H' y => hs i x H H' c p (w.yields i H x H' c (hG i H hi p) y)⟩
  · have e : i = n := by omega
    subst e
    exact .inl ⟨w.stops H (hG i H hi p), hd H p⟩
end DI

set_option exponentiation.threshold 400
namespace K1
open PySem PySem.Spec PyProof.Rows L2 Evl HM LX ZW TE
/-- what is_heap tells of a value -/
inductive HeapB (K : PySem.W.Frag) (H : Hp) : V → Bool → Prop where
  | no {x : V} (h : NotTup K H x) : HeapB K H x false
  | yes {p : Addr} {h : List Nat} (e : HeapAt H p h) (G : Good h) : HeapB K H (.ref p) true
  | bad {p : Addr} {h : List Nat} {y : V} (e : H p = some (.tup (hv h ++ [y]))) (G : Good h) (l : h.length < 60) (b : BtwB K H 1 (if h.length = 0 then 60 else (hAt h (h.length - 1) : Int)) y false) : HeapB K H (.ref p) false
theorem iteT' {b : Bool} {A B : Prop} (h : b = true) (a : A) : if b = true then A else B := by
  rw [if_pos h]
  exact a
theorem iteF' {b : Bool} {A B : Prop} (h : b = false) (a : B) : if b = true then A else B := by
  rw [if_neg (by rw [h]; decide)]
  exact a
theorem walk_enumT {K : PySem.W.Frag} {a : Addr} {xs : List V} : Walk (EnT.IteT K a) xs.length (fun H => SqT K H a xs) (YPair (fun i => some (.int (i : Nat))) (fun i => xs[i]?)) :=
  ⟨fun i _ hi q => ⟨xs, xs[i], q, by simp [hi]⟩, fun _ q => ⟨xs, q, rfl⟩, fun i H v H' _ q y => by
    obtain ⟨T, x, h1, h2, h3, h4⟩ := y
    exact ⟨T, .int (i : Nat), x, h1, h2, h3, rfl, h4 xs q⟩⟩
section
variable {P : Program} {w : World} {K : PySem.W.Frag} {mg : Str → Option Value} {base : Heap}
def spIsHeapB (K : PySem.W.Frag) : Sp := fun vs H Q _ => ∃ x b, vs = [x] ∧ HeapB K H x b ∧ ∀ H', Ex H H' → Q (.bl b) H'
theorem ok_is_heap (T : Txt K mg) {f : Addr} {fd : FuncData} (D : DefAt K mg "is_heap" sIsHeap ["value"] f fd) : FnOk P w K mg base CX0 3 f fd ["value"] (spIsHeapB K) := by
  refine D.F.ok scIsHeap (fun vs H Q E h => ?_) (fun cdv A outer s H vs Q E hr h => ?_)
  · obtain ⟨x, b, rfl, _⟩ := h
    rfl
  · obtain ⟨x, b, rfl, hb, q⟩ := h
    obtain ⟨f1, fd1, D1⟩ := T.d_is_between
    obtain ⟨tMOST_SIDE, vMOST_SIDE⟩ := T.v_SIDE
    have hr2 : Room 2 _ := hr.mono (by decide)
    refine ⟨_, pss_cons (ps_if (PW.pt (pw_or (pt_not (pt_val (pe_callB call_isi (by rfl) T.z_isinstance (by decide +kernel) (pa_cons (pv 0) (pa_cons (pe_bltn (v := .ty "tuple") (by rfl) T.z_tuple (by decide +kernel) rfl) pa_nil)))))
          (pw_or1 (pt_cmpR op_gt (pe_callB call_len_seq (by rfl) T.z_len PySem.boot_len (pa_cons (pv 0) pa_nil)) (pe_glob (v := .int 60) rfl vMOST_SIDE ⟨_, rfl⟩) (nomark _))))) (pss_one (ps_ret pe_bl)) pss_nil)
      (pss_cons (ps_set (i := 1) scIsHeap.nd rfl (.inl rfl) (pe_glob (v := .int 60) rfl vMOST_SIDE ⟨_, rfl⟩))
      (pss_cons (ps_for PassesOwn.never rfl (pi_tup (pv 0)) (pg_name (i := 2) scIsHeap.nd rfl (.inl rfl))
        (pss_cons (ps_if (pt_not (pt_val (pe_call (ok_is_between T D1) hr2 (by rfl) D1.g D1.F.kp D1.b .nil pass0 (pa_cons (pv 2) (pa_cons pe_int (pa_cons (pv 1) pa_nil)))))) (pss_one (ps_ret pe_bl)) pss_nil)
      (pss_one (ps_set (i := 1) scIsHeap.nd rfl (.inl rfl) (pv 2)))))
      (pss_one (ps_ret pe_bl)))), ?_⟩
    cases hb with
    | no hn =>
      obtain ⟨t, ty, h⟩ := hn.ty
      exact ⟨_, rfl, x, .ty "tuple", t, .type "tuple", false, rfl, .ty _, ty, h, false, rfl, iteT (q _ (Ex.refl _))⟩
    | @yes p h e G =>
      have Gl := G.len
      refine ⟨_, rfl, .ref p, .ty "tuple", .type "tuple", .type "tuple", true, rfl, .ty _, .base (.tup e), kit_ty (by decide +kernel), true, rfl, iteF ?_⟩
      refine ⟨_, rfl, p, _, rfl, .inr (SqT.of e), _, _, rfl, rfl, _, rfl, iteF' (decide_eq_false (by rw [hv_len]; omega)) ?_⟩
      refine ⟨_, rfl, p, rfl, ⟨_, SqT.of e⟩, for_tup (K := K) (a := p) (xs := hv h) (fun i σ' H' => ∃ (a : Nat) (y : Option V), σ' = [some (.ref p), some (.int (a : Int)), y] ∧ hAt h i ≤ a ∧ a ≤ 60 ∧ Ex H H') ⟨60, none, rfl, G.all 0, Nat.le_refl _, Ex.refl _⟩ (fun i σ' H' _ hW => ?_) (fun i x σ' H' hx hW => ?_) (fun σ' H' hW => ?_)⟩
      · obtain ⟨_, _, _, _, _, e'⟩ := hW
        exact SqT.of (e' _ _ e)
      · obtain ⟨a, y, rfl, h1, h2, e'⟩ := hW
        have hi : i < h.length := by
          have := (List.getElem?_eq_some_iff.mp hx).1
          rw [hv_len] at this
          exact this
        rw [hv_get hi] at hx
        obtain rfl := Option.some.inj hx
        have hp0 := G.heap.pos i hi
        refine ⟨_, rfl, _, rfl, _, 1, a, true, rfl, .yes (by omega) (by omega) (by omega) (by omega), fun H1 e1 => ⟨true, rfl, iteF ?_⟩⟩
        exact ⟨_, rfl, hAt h i, _, rfl, G.heap.fall i, by omega, e'.trans e1⟩
      · obtain ⟨a, y, rfl, h1, h2, e'⟩ := hW
        exact q _ e'
    | @bad p h y e G l hy =>
      have ln : (hv h ++ [y]).length = h.length + 1 := by rw [List.length_append, hv_len]; rfl
      refine ⟨_, rfl, .ref p, .ty "tuple", .type "tuple", .type "tuple", true, rfl, .ty _, .base (.tup e), kit_ty (by decide +kernel), true, rfl, iteF ?_⟩
      refine ⟨_, rfl, p, _, rfl, .inr (SqT.of e), _, _, rfl, rfl, _, rfl, iteF' (decide_eq_false (by rw [ln]; omega)) ?_⟩
      refine ⟨_, rfl, p, rfl, ⟨_, SqT.of e⟩, for_tup (K := K) (a := p) (xs := hv h ++ [y]) (fun i σ' H' => ∃ y2, i ≤ h.length ∧ σ' = [some (.ref p), some (.int (if i = 0 then 60 else (hAt h (i - 1) : Int))), y2] ∧ Ex H H') ⟨none, Nat.zero_le _, rfl, Ex.refl _⟩ (fun i σ' H' _ hW => ?_) (fun i x σ' H' hx hW => ?_) (fun σ' H' hW => ?_)⟩
      · obtain ⟨_, _, _, e'⟩ := hW
        exact SqT.of (e' _ _ e)
      · obtain ⟨y2, hi, rfl, e'⟩ := hW
        by_cases c : i < h.length
        · rw [List.getElem?_append_left (by rw [hv_len]; exact c), hv_get c] at hx
          obtain rfl := Option.some.inj hx
          have hp0 := G.heap.pos i c
          have up : (hAt h i : Int) ≤ (if i = 0 then 60 else (hAt h (i - 1) : Int)) := by
            split
            · have := G.all i
              omega
            · have := G.heap.le (show i - 1 ≤ i by omega)
              omega
          refine ⟨_, rfl, _, rfl, _, 1, _, true, rfl, .yes (by omega) up (by omega) (by have := G.all i; omega), fun H1 e1 => ⟨true, rfl, iteF ?_⟩⟩
          exact ⟨_, rfl, _, by omega, by rw [if_neg (show ¬ i + 1 = 0 by omega), Nat.add_sub_cancel]; rfl, e'.trans e1⟩
        · have ei : i = h.length := by omega
          subst ei
          rw [List.getElem?_append_right (by rw [hv_len]; exact Nat.le_refl _), hv_len, Nat.sub_self] at hx
          obtain rfl := Option.some.inj hx
          exact ⟨_, rfl, _, rfl, _, 1, _, false, rfl, hy.mono e', fun H1 e1 => ⟨false, rfl, iteT (q _ (e'.trans e1))⟩⟩
      · obtain ⟨y2, hi, rfl, e'⟩ := hW
        rw [ln] at hi
        omega
def spCheckHeap (K : PySem.W.Frag) : Sp := fun vs H Q _ => ∃ p h, vs = [.ref p] ∧ HeapAt H p h ∧ Good h ∧ ∀ H', Ex H H' → Q .non H'
def sqr (h : List Nat) (i j : Nat) : List (Int × Int) := ((List.range i).map fun (c : Nat) => (List.range (hAt h c)).map fun (r : Nat) => ((c : Int), (r : Int))).flatten ++ (List.range j).map fun (r : Nat) => ((i : Int), (r : Int))
theorem sqr_next (h : List Nat) (i : Nat) : sqr h i (hAt h i) = sqr h (i + 1) 0 := by
  unfold sqr
  rw [List.range_succ (n := i), List.map_append, List.flatten_append]
  simp
theorem sqr_one (h : List Nat) (i j : Nat) : sqr h i (j + 1) = sqr h i j ++ [((i : Int), (j : Int))] := by
  unfold sqr
  rw [List.range_succ (n := j), List.map_append, ← List.append_assoc]
  rfl
theorem sqr_le (h : List Nat) {i j : Nat} (hj : j ≤ hAt h i) : (sqr h i j).length ≤ (sqr h (i + 1) 0).length := by
  rw [← sqr_next]
  unfold sqr
  rw [List.length_append, List.length_append, List.length_map, List.length_map, List.length_range, List.length_range]
  omega
theorem sqr_mono (h : List Nat) {i : Nat} : ∀ {n : Nat}, i ≤ n → (sqr h i 0).length ≤ (sqr h n 0).length
  | 0, q => by
    have : i = 0 := by omega
    rw [this]
    exact Nat.le_refl _
  | n + 1, q => by
    by_cases c : i = n + 1
    · rw [c]
      exact Nat.le_refl _
    · exact Nat.le_trans (sqr_mono h (by omega)) (sqr_le h (Nat.zero_le _))
theorem paired_imp2 {α β : Type} {R S : α → β → Prop} (h : ∀ x y, R x y → S x y) : ∀ {xs : List α} {ys : List β}, Paired R xs ys → Paired S xs ys
  | _, _, .nil => .nil
  | _, _, .cons a r => .cons (h _ _ a) (paired_imp2 h r)
theorem paired_snoc2 {α β : Type} {R : α → β → Prop} {x : α} {y : β} (h : R x y) : ∀ {xs : List α} {ys : List β}, Paired R xs ys → Paired R (xs ++ [x]) (ys ++ [y])
  | _, _, .nil => .cons h .nil
  | _, _, .cons a r => .cons a (paired_snoc2 h r)
def sqAll (h : List Nat) : List (Int × Int) := sqr h h.length 0
def PlAt (H : Hp) (x : V) (p : Int × Int) : Prop := ∃ t, x = .ref t ∧ H t = some (.tup [.int p.1, .int p.2])
theorem PlAt.ex {H H' : Hp} {x : V} {p : Int × Int} (e : Ex H H') (h : PlAt H x p) : PlAt H' x p := by
  obtain ⟨t, h1, h2⟩ := h
  exact ⟨t, h1, e _ _ h2⟩
abbrev Pls (H : Hp) (xs : List V) (ps : List (Int × Int)) : Prop := Paired (PlAt H) xs ps
def spSquares (K : PySem.W.Frag) : Sp := fun vs H Q _ => ∃ p h, vs = [.ref p] ∧ HeapAt H p h ∧ Good h ∧ (sqAll h).length ≤ 900 ∧ ∀ r ys H', Ex H H' → H' r = some (.tup ys) → Pls H' ys (sqAll h) → Q (.ref r) H'
end
end K1

set_option exponentiation.threshold 400
namespace K1
open PySem PySem.Spec PyProof.Rows L2 Evl HM LX ZW TE
section
variable {P : Program} {w : World} {K : PySem.W.Frag} {mg : Str → Option Value} {base : Heap}
theorem hv_snoc (l : List Nat) (c : Nat) : hv (l ++ [c]) = hv l ++ [V.int (c : Int)] := by
  unfold hv
  rw [List.map_append]
  rfl
theorem hv_inv {l : List Nat} {i : Nat} {v : V} (h : (hv l)[i]? = some v) : ∃ x, l[i]? = some x ∧ v = V.int (x : Int) := by
  unfold hv at h
  rw [List.getElem?_map] at h
  cases e : l[i]? with
  | none =>
    rw [e] at h
    cases h
  | some x =>
    rw [e] at h
    exact ⟨x, rfl, (Option.some.inj h).symm⟩
theorem take_filter_snoc {α : Type} {l : List α} {i : Nat} {x : α} (g : α → Bool) (h : l[i]? = some x) : (l.take (i + 1)).filter g = (l.take i).filter g ++ (if g x = true then [x] else []) := by
  rw [List.take_add_one, h, List.filter_append]
  show _ ++ [x].filter g = _
  by_cases q : g x = true
  · rw [if_pos q, List.filter_cons, if_pos q]
    rfl
  · rw [if_neg q, List.filter_cons, if_neg q]
    rfl
def rLenS (K : PySem.W.Frag) : List V → Hp → VK → Prop := fun xs H Q => ∃ (p : Addr) (ys : List V), xs = [V.ref p] ∧ (SqL K H p ys ∨ SqT K H p ys) ∧ Q (V.int (ys.length : Int)) H
def scRows : Scope := { kind := .function, names := [(".0", .local), ("row", .cell), ("len", .globalImplicit), ("heap", .free)], isGenerator := false, isCoroutine := false, more := [] }
def spLengthsOf (K : PySem.W.Frag) : Sp := fun vs H Q _ => ∃ p h, vs = [.ref p] ∧ HeapAt H p h ∧ Good h ∧ ∀ r H', Ex H H' → HeapAt H' r (conj h) → Q (.ref r) H'
theorem ok_lengths_of (T : Txt K mg) {f : Addr} {fd : FuncData} (D : DefAt K mg "lengths_of" sLengthsOf ["heap"] f fd) : FnOk P w K mg base CX0 2 f fd ["heap"] (spLengthsOf K) := by
  refine D.F.ok scLengthsOf (fun vs H Q E h => ?_) (fun cdv A outer s H vs Q E hr h => ?_)
  · obtain ⟨p, h, rfl, _⟩ := h
    rfl
  · obtain ⟨p, h, rfl, hp1, G, k⟩ := h
    obtain ⟨f1, fd1, D1⟩ := T.d_height_at
    have hr1 : Room 1 _ := hr.mono (by decide)
    refine ⟨_, pss_one (ps_ret (pe_callTy call_tuple_of (by rfl) T.z_tuple (by decide +kernel) (pa_cons (pe_lc (own := [("row", 2)]) (g := gName 2) (tt := tYes) rfl scLengthsOf.nd (pi_range1 (by rfl) T.z_range (pa_cons (pe_call (ok_height_at T D1) hr1 (by rfl) D1.g D1.F.kp D1.b .nil pass0 (pa_cons (pv 0) (pa_cons pe_int pa_nil))) pa_nil))
        (blkOk_by (N := nLengthsOf) (sc := defScope sLengthsOf) (by decide +kernel)) (fun _ _ _ _ _ => (pg_name (i := 2) scLengthsOf.nd rfl (.inr rfl))) (fun _ _ _ _ _ => pts_nil)
        (fun _ _ _ _ _ => pe_callB (show CallR _ _ (rLenS K) from call_len_seq) (by rfl) T.z_len PySem.boot_len (pa_cons (pe_lc (own := [("height", 1)]) (g := gName 1) (wi := iTup K (tVar 0)) rfl scLengthsOf.nd (pi_tup (pv 0))
          (blkOk_by (N := nLengthsOf) (sc := relS scRows (defScope sLengthsOf)) (by decide +kernel)) (fun _ _ _ _ _ => pg_name (i := 1) scLengthsOf.nd rfl (Or.inl rfl))
          (fun _ _ _ _ _ => pts_one (pt_cmpR op_gt (pv 1) (pv 2) (nomark _))) (fun _ _ _ _ _ => pv 1)) pa_nil))) pa_nil))), ?_⟩
    refine ⟨_, rfl, p, h, 0, rfl, hp1, fun H2 e2 => ?_⟩
    have hp2 := e2 _ _ hp1
    have ht := G.top
    have hl60 := G.len
    refine ⟨_, rfl, by omega, by omega, fun Dl hD => ?_⟩
    refine lc_range (lo := 0) (n := (hAt h 0 : Int).toNat) (fun i H' => H' Dl = some (.lst (hv ((List.range i).map fun r => (h.filter fun x => decide (r < x)).length))) ∧ Ex H2 H') ⟨upd_same, Ex.new hD⟩ (fun i H' hi hW => ?_) (fun H' hW => ?_)
    · obtain ⟨w1, w2⟩ := hW
      have hp4 := w2 _ _ hp2
      refine ⟨rfl, ?_⟩
      dsimp only [tYes]
      rw [if_pos rfl]
      refine ⟨_, rfl, p, rfl, ⟨_, SqT.of hp4⟩, fun D2 hD2 => ?_⟩
      refine lc_tup (K := K) (a := p) (xs := hv h) (fun j H5 => H5 D2 = some (.lst (hv ((h.take j).filter fun x => decide (i < x)))) ∧ Ex H' H5) ⟨upd_same, Ex.new hD2⟩ (fun j H5 _ hp5 => SqT.of (hp5.2 _ _ hp4)) (fun j x H5 hx hp5 => ?_) (fun H5 hp5 => ?_)
      · obtain ⟨u1, u2⟩ := hp5
        obtain ⟨y, hy, rfl⟩ := hv_inv hx
        refine ⟨rfl, _, rfl, _, rfl, _, _, rfl, rfl, _, rfl, ite2 (fun cc => ?_) (fun cc => ?_)⟩
        · have c0 : i < y := by
            have := of_decide_eq_true cc
            omega
          refine ⟨_, rfl, _, u1, ?_, ?_, Ex.mut u2 hD2⟩
          · rw [hv_len]
            have a1 := List.length_filter_le (fun x => decide (i < x)) (h.take j)
            rw [List.length_take] at a1
            exact small1000 (by omega)
          · rw [upd_same, take_filter_snoc _ hy, if_pos (decide_eq_true c0), hv_snoc]
        · have c0 : ¬ i < y := fun z => cc (decide_eq_true (by omega))
          refine ⟨?_, u2⟩
          rw [take_filter_snoc _ hy, if_neg (by rw [decide_eq_false c0]; decide), List.append_nil]
          exact u1
      · obtain ⟨u1, u2⟩ := hp5
        rw [hv_len, List.take_length] at u1
        refine ⟨D2, _, rfl, .inl (SqL.of u1), _, u2 _ _ w1, ?_, ?_, Ex.mut (w2.trans u2) hD⟩
        · rw [hv_len, List.length_map, List.length_range]
          exact small1000 (by omega)
        · rw [upd_same, List.range_succ, List.map_append, hv_len]
          show _ = some (HO.lst (hv (_ ++ [(h.filter fun x => decide (i < x)).length])))
          rw [hv_snoc]
    · obtain ⟨w1, w2⟩ := hW
      rw [show (hAt h 0 : Int).toNat = hAt h 0 by omega] at w1
      exact ⟨Dl, _, rfl, .inl ⟨SqL.of w1, fun r' hr' => k r' _ ((e2.trans w2).trans (Ex.new hr')) upd_same⟩⟩
end
end K1

set_option exponentiation.threshold 400
namespace K1
open PySem PySem.Spec PyProof.Rows L2 Evl HM LX ZW TE
def beadsL (h : List Nat) : List Int := (List.range h.length).map fun c => bead h c
theorem beads_nd {h : List Nat} (H : IsHeap h) : (beadsL h).Nodup := by
  refine List.pairwise_map.mpr ?_
  refine List.pairwise_lt_range.imp fun {a b} q e => ?_
  have := H.le (show a ≤ b by omega)
  unfold bead at e
  omega
theorem mem_beads {h : List Nat} {z : Int} : z ∈ beadsL h ↔ isB h z := by
  unfold beadsL isB
  rw [List.mem_map]
  constructor
  · rintro ⟨c, hc, rfl⟩
    exact ⟨c, List.mem_range.mp hc, rfl⟩
  · rintro ⟨c, hc, rfl⟩
    exact ⟨c, List.mem_range.mpr hc, rfl⟩
theorem int_inv {ns : List Int} {i : Nat} {x : V} (h : (ns.map V.int)[i]? = some x) : i < ns.length ∧ ∃ n, ns[i]? = some n ∧ x = V.int n := by
  rw [List.getElem?_map] at h
  obtain ⟨n, hn, rfl⟩ := Option.map_eq_some_iff.mp h
  exact ⟨(List.getElem?_eq_some_iff.mp hn).1, n, hn, rfl⟩
theorem take_snoc1 {α : Type} {l : List α} {i : Nat} {x : α} (h : l[i]? = some x) : l.take (i + 1) = l.take i ++ [x] := by
  rw [List.take_add_one, h]
  rfl
def tst (h : List Nat) (k n : Int) : Bool := decide (n - k ∈ beadsL h) || decide (n - k < -(h.length : Int))
theorem tst_iff (h : List Nat) (k : Int) : ((beadsL h).map (tst h k)).all id = true ↔ coreB h k := by
  rw [List.all_eq_true]
  constructor
  · intro a c hc
    have := a (tst h k (bead h c)) (List.mem_map.mpr ⟨_, mem_beads.mpr ⟨c, hc, rfl⟩, rfl⟩)
    rcases Bool.or_eq_true_iff.mp this with q | q
    · exact .inl (mem_beads.mp (of_decide_eq_true q))
    · exact .inr (of_decide_eq_true q)
  · intro C x hx
    obtain ⟨n, hn, rfl⟩ := List.mem_map.mp hx
    obtain ⟨c, hc, rfl⟩ := mem_beads.mp hn
    rcases C c hc with q | q
    · exact Bool.or_eq_true_iff.mpr (.inl (decide_eq_true (mem_beads.mpr q)))
    · exact Bool.or_eq_true_iff.mpr (.inr (decide_eq_true q))
def kB (ns : List Int) : List (Key × V) := ns.map fun n => (.inl n, .bl true)
theorem valB : ∀ (ns : List Int) (z : Int), (valV (kB ns) (.inl z : Key)).isSome = decide (z ∈ ns)
  | [], z => by
    rw [decide_eq_false (by simp)]
    rfl
  | n :: r, z => by
    by_cases c : n = z
    · rw [decide_eq_true (by rw [c]; exact List.mem_cons_self ..)]
      show (valV ((Sum.inl n, V.bl true) :: kB r) (.inl z : Key)).isSome = true
      rw [valV_pos (by rw [c])]
      rfl
    · show (valV ((Sum.inl n, V.bl true) :: kB r) (.inl z : Key)).isSome = _
      rw [valV_neg (fun e => c (Sum.inl.inj e)), valB r z, decide_eq_decide]
      constructor
      · exact fun h => List.mem_cons_of_mem _ h
      · intro h
        rcases List.mem_cons.mp h with h | h
        · exact absurd h.symm c
        · exact h
theorem Ex.of_keepD {H H' : Hp} {d : Addr} {u : HO} (h : H d = some u) (k : Keep d H H') : Ex H (upd H' d u) := fun b o e => by
  by_cases z : b = d
  · rw [z] at e ⊢
    rw [upd_same, ← e, h]
  · rw [upd_ne z]
    exact k b o z e
section
variable {P : Program} {w : World} {K : PySem.W.Frag} {mg : Str → Option Value} {base : Heap}
def spHookAt : Sp := fun vs H Q _ => ∃ p l h, ∃ c r : Nat, vs = [.ref p, .ref l, .int (c : Int), .int (r : Int)] ∧ HeapAt H p h ∧ HeapAt H l (conj h) ∧ IsHeap h ∧ r < hAt h c ∧ Q (.int (hk h c r)) H
theorem ok_hook_at (T : Txt K mg) {f : Addr} {fd : FuncData} (D : DefAt K mg "hook_at" sHookAt ["heap", "lengths", "column", "row"] f fd) : FnOk P w K mg base CX0 1 f fd ["heap", "lengths", "column", "row"] spHookAt := by
  refine D.F.ok scHookAt (fun vs H Q E h => ?_) (fun cdv A outer s₀ H vs Q E hr h => ?_)
  · obtain ⟨p, l, h, c, r, rfl, _⟩ := h
    rfl
  · obtain ⟨p, l, h, c, r, rfl, hp, hl, Hh, hrc, q⟩ := h
    refine ⟨_, pss_one (ps_ret (pe_op op_sub (pe_op op_sub (pe_op op_add (pe_op op_sub (pe_ix ix_tup (pv 0) (pv 2) (fun _ _ => rfl)) (pv 3)) (pe_ix ix_tup (pv 1) (pv 3) (fun _ _ => rfl))) (pv 2)) pe_int)), ?_⟩
    have hc : c < h.length := by
      rcases Nat.lt_or_ge c h.length with z | z
      · exact z
      · rw [hAt_ge z] at hrc
        omega
    have hrl : r < (conj h).length := by
      rw [conj_len]
      have := Hh.le (Nat.zero_le c)
      omega
    exact ⟨_, rfl, _, rfl, p, _, (c : Int), .int (hAt h c : Int), rfl, rfl, SqT.of hp, atI_nat (hv_get hc), _, rfl, _, _, rfl, rfl, _, rfl, _, rfl, l, _, (r : Int), .int (hAt (conj h) r : Int), rfl, rfl, SqT.of hl, atI_nat (hv_get hrl), _, _, rfl, rfl, _, rfl, _, _, rfl, rfl, _, _, rfl, rfl, q⟩
def spHook (K : PySem.W.Frag) : Sp := fun vs H Q _ => ∃ p t h, ∃ c r : Nat, vs = [.ref p, .ref t] ∧ HeapAt H p h ∧ Good h ∧ H t = some (.tup [.int (c : Int), .int (r : Int)]) ∧ r < hAt h c ∧ ∀ H', Ex H H' → Q (.int (hk h c r)) H'
def spBeads (K : PySem.W.Frag) : Sp := fun vs H Q _ => ∃ p h, vs = [.ref p] ∧ HeapAt H p h ∧ h.length ≤ 100 ∧ ∀ l H', Ex H H' → H l = none → H' l = some (.lst ((beadsL h).map V.int)) → Q (.ref l) H'
theorem ok_beads_of (T : Txt K mg) {f : Addr} {fd : FuncData} (D : DefAt K mg "beads_of" sBeadsOf ["heap"] f fd) : FnOk P w K mg base CX0 1 f fd ["heap"] (spBeads K) := by
  refine D.F.ok scBeadsOf (fun vs H Q E h => ?_) (fun cdv A outer s₀ H vs Q E hr h => ?_)
  · obtain ⟨p, h, rfl, _⟩ := h
    rfl
  · obtain ⟨p, h, rfl, hp, hl, q⟩ := h
    refine ⟨_, pss_one (ps_ret (pe_lc (own := [("column", 1), ("height", 2)]) (g := gTup K 2 (gCons (gName 1) (gCons (gName 2) gNil))) (tt := tYes) rfl scBeadsOf.nd (EnT.pi_enumT (by rfl) T.z_enumerate (pa_cons (pv 0) pa_nil))
        (blkOk_by (N := nBeadsOf) (sc := defScope sBeadsOf) (by decide +kernel)) (fun _ _ _ _ _ => (pg_tup (by rfl) (pgs_cons (pg_name (i := 1) scBeadsOf.nd rfl (.inl rfl)) (pgs_cons (pg_name (i := 2) scBeadsOf.nd rfl (.inl rfl)) pgs_nil)))) (fun _ _ _ _ _ => pts_nil)
        (fun _ _ _ _ _ => (pe_op op_sub (pe_op op_sub (pv 2) (pv 1)) pe_int)))), ?_⟩
    refine ⟨_, rfl, p, _, rfl, SqT.of hp, fun Dl hD => ?_⟩
    refine lc_enumT (K := K) (a := p) (xs := hv h) (fun i H' => H' Dl = some (.lst (((List.range i).map fun c => bead h c).map V.int)) ∧ Ex H H') ⟨upd_same, Ex.new hD⟩ (fun i H' hp2 => SqT.of (hp2.2 _ _ hp)) (fun i x Tp H' hx hp2 nT => ?_) (fun H' hp2 => ?_)
    · obtain ⟨w1, w2⟩ := hp2
      have hi : i < h.length := by
        have := (List.getElem?_eq_some_iff.mp hx).1
        rw [hv_len] at this
        exact this
      rw [hv_get hi] at hx
      obtain rfl := Option.some.inj hx
      have eT := Ex.new (o := .tup [.int (i : Nat), .int (hAt h i : Int)]) nT
      refine ⟨Tp, _, rfl, SqT.of upd_same, rfl, .int (i : Nat), [_], rfl, _, [], rfl, rfl, rfl, ?_⟩
      dsimp only [tYes]
      rw [if_pos rfl]
      refine ⟨_, rfl, _, rfl, _, _, rfl, rfl, _, _, rfl, rfl, _, eT _ _ w1, ?_, ?_, Ex.mut (w2.trans eT) hD⟩
      · rw [List.length_map, List.length_map, List.length_range]
        exact small1000 (by omega)
      · rw [upd_same, List.range_succ, List.map_append, List.map_append]
        rfl
    · rw [hv_len] at hp2
      exact q Dl H' hp2.2 hD hp2.1
def spCheckOrder : Sp := fun vs H Q _ => ∃ k : Int, vs = [.int k] ∧ 2 ≤ k ∧ k ≤ 60 ∧ ∀ H', Ex H H' → Q .non H'
theorem ok_check_order (T : Txt K mg) {f : Addr} {fd : FuncData} (D : DefAt K mg "check_order" sCheckOrder ["k"] f fd) : FnOk P w K mg base CX0 4 f fd ["k"] spCheckOrder := by
  refine D.F.ok scCheckOrder (fun vs H Q E h => ?_) (fun cdv A outer s₀ H vs Q E hr h => ?_)
  · obtain ⟨k, rfl, _⟩ := h
    rfl
  · obtain ⟨k, rfl, h1, h2, q⟩ := h
    obtain ⟨f1, fd1, D1⟩ := T.d_check_between
    obtain ⟨tMAX_ORDER, vMAX_ORDER⟩ := T.v_MAX_ORDER
    have hr3 : Room 3 _ := hr.mono (by decide)
    refine ⟨_, pss_one (ps_expr (pe_call (ok_check_between T D1) hr3 (by rfl) D1.g D1.F.kp D1.b .nil pass0 (pa_cons (pv 0) (pa_cons pe_int (pa_cons (pe_glob (v := .int 60) rfl vMAX_ORDER ⟨_, rfl⟩) pa_nil))))), ?_⟩
    exact ⟨_, rfl, _, _, _, rfl, h1, h2, by omega, by omega, q⟩
def spStays : Sp := fun vs H Q _ => ∃ k p h, vs = [.int k, .ref p] ∧ HeapAt H p h ∧ Good h ∧ 2 ≤ k ∧ ∀ b H', (b = true ↔ coreB h k) → Ex H H' → Q (.bl b) H'
theorem ok_stays_core (T : Txt K mg) {f : Addr} {fd : FuncData} (D : DefAt K mg "stays_core" sStaysCore ["k", "heap"] f fd) : FnOk P w K mg base CX0 2 f fd ["k", "heap"] spStays := by
  refine D.F.ok scStaysCore (fun vs H Q E h => ?_) (fun cdv A outer s₀ H vs Q E hr h => ?_)
  · obtain ⟨k, p, h, rfl, _⟩ := h
    rfl
  · obtain ⟨k, p, h, rfl, hp, G, k2, q⟩ := h
    obtain ⟨f1, fd1, D1⟩ := T.d_beads_of
    have hr1 : Room 1 _ := hr.mono (by decide)
    have hu1 := Nat.lt_of_le_of_lt (Nat.add_le_add_left (show 1 ≤ 64 by decide) _) hr.units
    refine ⟨_, pss_cons (ps_set (i := 2) scStaysCore.nd rfl (.inr rfl) (pe_dc (own := [("bead", 3)]) (g := gName 3) (tt := tYes) rfl scStaysCore.nd (pi_list (pe_call (ok_beads_of T D1) hr1 (by rfl) D1.g D1.F.kp D1.b .nil pass0 (pa_cons (pv 1) pa_nil)))
        (blkOk_by (N := nStaysCore) (sc := defScope sStaysCore) (by decide +kernel)) (fun _ _ _ _ _ => (pg_name (i := 3) scStaysCore.nd rfl (.inl rfl))) (fun _ _ _ _ _ => pts_nil)
        (fun _ _ _ _ _ => (pv 3)) (fun _ _ _ _ _ => pe_bl)))
      (pss_one (ps_ret (pe_callB (cr_all rfl) (by rfl) T.z_all (by decide +kernel) (pa_cons (pe_lock (pe_lc (own := [("bead", 3)]) (g := gName 3) (tt := tYes) rfl scStaysCore.nd (pi_keys (pv 2))
        (blkOk_by (N := nStaysCore) (sc := defScope sStaysCore) (by decide +kernel)) (fun _ _ _ _ _ => (pg_name (i := 3) scStaysCore.nd rfl (.inl rfl))) (fun _ _ _ _ _ => pts_nil)
        (fun _ _ _ _ _ => (pe_or (pe_cmp (pc_din hu1 (pe_op op_sub (pv 3) (pv 0)) (pv 2)) (by rfl)) (pe_one (pe_cmpR op_lt (pe_op op_sub (pv 3) (pv 0)) (pe_un un_neg (pe_callB (show CallR _ (.builtin "len") (rLenS K) from call_len_seq) (by rfl) T.z_len PySem.boot_len (pa_cons (pv 1) pa_nil))) (nomark _))))))) pa_nil)))), ?_⟩
    have gl := G.len
    refine ⟨_, rfl, p, h, rfl, hp, by omega, fun l H1 e1 hl0 hl1 => ?_⟩
    have bl : (beadsL h).length = h.length := by unfold beadsL; rw [List.length_map, List.length_range]
    refine ⟨l, rfl, ⟨_, SqL.of hl1⟩, fun Dd hDd => ?_⟩
    refine DI.dcK_it (walk_list (K := K) (a := l) (xs := (beadsL h).map V.int)) (fun i H' => H' Dd = some (.dK (kB ((beadsL h).take i))) ∧ Ex H1 H') ⟨upd_same, Ex.new hDd⟩ (fun i H' _ hp2 => SqL.of (hp2.2 _ _ hl1)) (fun i x H2 H3 hi hp2 hy => ?_) (fun H2 hp2 => ?_)
    · obtain ⟨w1, w2⟩ := hp2
      obtain ⟨rfl, hx⟩ := hy
      obtain ⟨hi2, n, hn, rfl⟩ := int_inv hx
      refine ⟨rfl, ?_⟩
      dsimp only [tYes]
      rw [if_pos rfl]
      refine ⟨_, rfl, _, .inl n, rfl, w1, ?_, ?_, Ex.mut w2 hDd⟩
      · unfold kB
        rw [List.length_map, List.length_take]
        exact small1000 (by omega)
      · rw [upd_same, take_snoc1 hn, putK_new]
        · unfold kB
          rw [List.map_append]
          rfl
        · have nd := beads_nd G.heap
          have sp : beadsL h = (beadsL h).take i ++ [n] ++ (beadsL h).drop (i + 1) := by rw [← take_snoc1 hn, List.take_append_drop]
          have nin : ¬ n ∈ (beadsL h).take i := fun z => by
            rw [sp] at nd
            exact (List.nodup_append.mp (List.nodup_append.mp nd).1).2.2 n z n (List.mem_singleton.mpr rfl) rfl
          have := valB ((beadsL h).take i) n
          rw [decide_eq_false nin] at this
          cases hv0 : valV (kB ((beadsL h).take i)) (.inl n : Key) with
          | none => rfl
          | some v =>
            rw [hv0] at this
            cases this
    · obtain ⟨w1, w2⟩ := hp2
      rw [List.length_map, List.take_length] at w1
      refine ⟨Dd, _, w1, trivial, fun od => ?_⟩
      have hp2 := (e1.trans w2) _ _ hp
      have nDp : p ≠ Dd := ne_of hp2 w1 (by intro z; cases z)
      have g0 : (upd H2 Dd (.frz od (.dK (kB (beadsL h))))) Dd = some (.frz od (.dK (kB (beadsL h)))) := upd_same
      have gp : HeapAt (upd H2 Dd (.frz od (.dK (kB (beadsL h))))) p h := (upd_ne nDp).trans hp2
      have kp : Keep Dd H2 (upd H2 Dd (.frz od (.dK (kB (beadsL h))))) := Keep.dice
      generalize upd H2 Dd (.frz od (.dK (kB (beadsL h)))) = H3 at g0 gp kp ⊢
      refine ⟨_, rfl, Dd, od, rfl, .inl ⟨_, g0, fun Lq hLq => ?_⟩⟩
      refine lc_it walk_keys (fun i H4 => H4 Lq = some (.lst ((((beadsL h).take i).map (tst h k)).map V.bl)) ∧ Ex H3 H4) ⟨upd_same, Ex.new hLq⟩ (fun i H4 _ hp4 => hp4.2 _ _ g0) (fun i x H4 H5 hi hp4 hy => ?_) (fun H4 hp4 => ?_)
      · obtain ⟨v1, v2⟩ := hp4
        obtain ⟨rfl, ky, vv, hkv, rfl⟩ := hy
        unfold kB at hkv
        rw [List.getElem?_map] at hkv
        obtain ⟨n, hn, hkk⟩ := Option.map_eq_some_iff.mp hkv
        cases hkk
        have hi2 := (List.getElem?_eq_some_iff.mp hn).1
        have fin : ∀ b : Bool, b = tst h k n → ∃ acc, H5 Lq = some (.lst acc) ∧ acc.length < sizeLine ∧ (upd H5 Lq (.lst (acc ++ [V.bl b]))) Lq = some (.lst ((((beadsL h).take (i + 1)).map (tst h k)).map V.bl)) ∧ Ex H3 (upd H5 Lq (.lst (acc ++ [V.bl b]))) := fun b hb => by
          refine ⟨_, v1, ?_, ?_, Ex.mut v2 hLq⟩
          · rw [List.length_map, List.length_map, List.length_take]
            exact small1000 (by omega)
          · rw [upd_same, take_snoc1 hn, hb, List.map_append, List.map_append]
            rfl
        refine ⟨rfl, ?_⟩
        dsimp only [tYes]
        rw [if_pos rfl]
        refine ⟨_, rfl, _, rfl, _, _, rfl, rfl, _, rfl, Dd, valV (kB (beadsL h)) (.inl (n - k) : Key), rfl, .inl ⟨_, .inl (n - k), .inr ⟨od, v2 _ _ g0⟩, rfl, rfl⟩, ?_⟩
        rw [valB]
        by_cases c : n - k ∈ beadsL h
        · rw [decide_eq_true c]
          refine ⟨true, rfl, iteT (fin true ?_)⟩
          unfold tst
          rw [decide_eq_true c]
          rfl
        · rw [decide_eq_false c]
          refine ⟨false, rfl, iteF ⟨_, rfl, _, rfl, _, _, rfl, rfl, _, rfl, p, _, rfl, .inr (SqT.of (v2 _ _ gp)), _, rfl, _, _, rfl, rfl, fin _ ?_⟩⟩
          unfold tst
          rw [decide_eq_false c, hv_len, Bool.false_or]
      · obtain ⟨v1, v2⟩ := hp4
        have kl : (kB (beadsL h)).length = (beadsL h).length := by unfold kB; rw [List.length_map]
        rw [kl, List.take_length] at v1
        refine ⟨v2 _ _ g0, ?_⟩
        have nL : Lq ≠ Dd := fun z => by
          rw [z, g0] at hLq
          cases hLq
        refine ⟨Lq, (beadsL h).map (tst h k), rfl, SqL.of ((upd_ne nL).trans v1), ?_⟩
        refine q _ _ (tst_iff h k) ?_
        exact (e1.trans w2).trans (Ex.of_keepD w1 (kp.trans (Keep.ex v2)))
end
end K1

set_option exponentiation.threshold 400
namespace K1
open PySem PySem.Spec PyProof.Rows L2 Evl HM LX ZW TE
section
variable {P : Program} {w : World} {K : PySem.W.Frag} {mg : Str → Option Value} {base : Heap}
theorem dp_ints {K : PySem.W.Frag} {H : Hp} : ∀ ns : List Int, DpAll K H (ns.map V.int) (ns.map PyData.int)
  | [] => .nil
  | n :: r => .cons (.int n) (dp_ints r)
theorem can_ints : ∀ l : List Int, PyData.canLayAll0 (l.map PyData.int) = true
  | [] => rfl
  | b :: r => by simp [PyData.canLayAll0, PyData.canLay0, can_ints r]
theorem shaped_intsL (ns : List Int) : SeqAt.shaped (.list (ns.map PyData.int)) = true := by
  induction ns with
  | nil => rfl
  | cons b r ih => exact ih
theorem depth_ints : ∀ l : List Int, PyData.depthAll (l.map PyData.int) ≤ 60
  | [] => by decide
  | b :: r => by
    have := depth_ints r
    simp only [List.map_cons, PyData.depthAll, PyData.depth]
    omega
theorem shaped_intsT (ns : List Int) : SeqAt.shaped (.tuple (ns.map PyData.int)) = true := by
  unfold SeqAt.shaped
  have h1 : (PyData.tuple (ns.map PyData.int)).canLay0 = true := by simp [PyData.canLay0, can_ints ns]
  have h2 : (PyData.tuple (ns.map PyData.int)).depth ≤ 64 := by
    have := depth_ints ns
    simp only [PyData.depth]
    omega
  rw [h1, decide_eq_true h2]
  rfl
theorem eqv_intsL (ns : List Int) : PyData.eqv (.list (ns.map PyData.int)) (.list (ns.map PyData.int)) = true := SeqAt.eqv_refl _ (by simp [PyData.canLay0, can_ints ns])
theorem eqv_intsT (ns : List Int) : PyData.eqv (.tuple (ns.map PyData.int)) (.tuple (ns.map PyData.int)) = true := SeqAt.eqv_refl _ (by simp [PyData.canLay0, can_ints ns])
theorem eqv_nil : PyData.eqv (.list []) (.list []) = true := eqv_intsL []
theorem eqv_consnil (d : PyData) (ds : List PyData) : PyData.eqv (.list (d :: ds)) (.list []) = false := by simp [PyData.eqv, PyData.eqvAll]
def gl (h : List Nat) (n s q : Int) (c : Nat) : Bool := opn h c && decide ((dg h c * s - q) % n = 0)
theorem gl_opn {h : List Nat} {n s q : Int} (c : Nat) (z : gl h n s q c = true) : opn h c = true := by
  unfold gl at z
  exact (Bool.and_eq_true_iff.mp z).1
theorem hv_set {l : List Nat} {d x : Nat} : (hv l).set d (V.int (x : Int)) = hv (l.set d x) := by
  unfold hv
  rw [List.map_set]
def spLGrown : Sp := fun vs H Q _ => ∃ p h x n s q, vs = [.ref p, x, .int q] ∧ HeapAt H p h ∧ h.length ≤ 100 ∧ RingAt H 60 x n s ∧ ∀ r H', Ex H H' → HeapAt H' r (grow h (gl h n s q)) → Q (.ref r) H'
theorem ok_lgrown (T : Txt K mg) {f : Addr} {fd : FuncData} (D : DefAt K mg "_law_grown" sLGrown ["_law_heap", "_law_ring", "_law_x"] f fd) : FnOk P w K mg base CX0 1 f fd ["_law_heap", "_law_ring", "_law_x"] spLGrown := by
  refine D.F.ok scLGrown (fun vs H Q E h => ?_) (fun cdv A outer s₀ H vs Q E hr h => ?_)
  · obtain ⟨p, h, x, n, s, q, rfl, _⟩ := h
    rfl
  · obtain ⟨p, h, x, n, s, q, rfl, hp, hl, hx, k⟩ := h
    refine ⟨_, pss_cons (ps_asg (pv 1) (pg_tup (by rfl) (pgs_cons (pg_name (i := 3) scLGrown.nd rfl (.inl rfl)) (pgs_cons (pg_name (i := 4) scLGrown.nd rfl (.inl rfl)) pgs_nil))))
      (pss_cons (ps_set (i := 5) scLGrown.nd rfl (.inl rfl) (pe_callTy call_list_of (by rfl) T.z_list (by decide +kernel) (pa_cons (pv 0) pa_nil)))
      (pss_cons (ps_for PassesOwn.never rfl (pi_range1 (by rfl) T.z_range (pa_cons (pe_op op_add (pe_callB call_len_seq (by rfl) T.z_len PySem.boot_len (pa_cons (pv 0) pa_nil)) pe_int) pa_nil)) (pg_name (i := 6) scLGrown.nd rfl (.inl rfl))
        (pss_cut (ps_set (i := 7) scLGrown.nd rfl (.inl rfl) (pe_ifExp (pt_cmpR op_lt (pv 6) (pe_callB call_len_seq (by rfl) T.z_len PySem.boot_len (pa_cons (pv 0) pa_nil)) (nomark _)) (pe_ix ix_tup (pv 0) (pv 6) (fun _ _ => rfl)) pe_int))
        (pss_cut (ps_set (i := 8) scLGrown.nd rfl (.inl rfl) (pe_or (pe_cmpR op_eq (pv 6) pe_int (nomark _)) (pe_one (pe_cmpR op_gt (pe_ix ix_tup (pv 0) (pe_op op_sub (pv 6) pe_int) (fun _ _ => rfl)) (pv 7) (nomark _)))))
        (pss_one (ps_if (PW.pt (pw_and (pt_val (pv 8)) (pw_and1 (pt_cmpR op_eq (pe_op op_mod (pe_op op_sub (pe_op op_mul (pe_op op_sub (pv 6) (pv 7)) (pv 4)) (pv 2)) (pv 3)) pe_int (nomark _)))))
          (pss_one (ps_if (pt_cmpR op_lt (pv 6) (pe_callB call_len_seq (by rfl) T.z_len PySem.boot_len (pa_cons (pv 0) pa_nil)) (nomark _))
            (pss_one (ps_asg (pe_op op_add (pv 7) pe_int) (pg_sub (pv 5) (pv 6) set_list)))
            (pss_one (ps_expr (pe_bm PySem.F.plainAttrs_list PySem.F.slot_list_append PySem.F.type_list_append mt_append (pv 5) (pa_cons pe_int pa_nil)))))) pss_nil)))))
      (pss_one (ps_ret (pe_callTy call_tuple_of (by rfl) T.z_tuple (by decide +kernel) (pa_cons (pv 5) pa_nil)))))), ?_⟩
    obtain ⟨t, rfl, ht, b1, b2, b3, b4⟩ := id hx
    refine ⟨_, rfl, t, [.int n, .int s], rfl, SqT.of ht, rfl, .int n, [.int s], rfl, .int s, [], rfl, rfl, ?_⟩
    refine ⟨_, rfl, p, hv h, rfl, .inr (SqT.of hp), fun l hl0 => ?_⟩
    have e1 := Ex.new (o := .lst (hv h)) hl0
    have g0 : (upd H l (.lst (hv h))) l = some (.lst (hv (fr h (gl h n s q) 0))) := by
      rw [upd_same, fr_zero]
    generalize upd H l (.lst (hv h)) = H1 at *
    refine ⟨_, rfl, p, _, rfl, .inr (SqT.of (e1 _ _ hp)), _, _, rfl, rfl, _, rfl, by rw [hv_len]; omega, by rw [hv_len]; omega, ?_⟩
    refine for_range (lo := 0) (n := (((hv h).length : Int) + 1).toNat) (fun i σ' H' => ∃ (y6 y7 y8 : Option V), σ' = [some (.ref p), some (.ref t), some (.int q), some (.int n), some (.int s), some (.ref l), y6, y7, y8] ∧ H' l = some (.lst (hv (fr h (gl h n s q) i))) ∧ Ex H H')
      ⟨none, none, none, rfl, g0, e1⟩ (fun i σ' H' hi hW => ?_) (fun σ' H' hW => ?_)
    · obtain ⟨y6, y7, y8, rfl, w1, w2⟩ := hW
      rw [hv_len] at hi
      have hi' : i ≤ h.length := by omega
      have hp2 := w2 _ _ hp
      have e0 : (0 : Int) + (i : Int) = (i : Int) := Int.zero_add _
      refine ⟨fun σ2 H2 => σ2 = [some (.ref p), some (.ref t), some (.int q), some (.int n), some (.int s), some (.ref l), some (.int (0 + (i : Int))), some (.int (hAt h i : Int)), y8] ∧ H2 = H', ?_, ?_⟩
      · refine ⟨_, rfl, _, rfl, p, _, rfl, .inr (SqT.of hp2), _, _, rfl, rfl, _, rfl, ite2 (fun cc => ?_) (fun cc => ?_)⟩
        · have c2 : i < h.length := by
            have := of_decide_eq_true cc
            rw [hv_len] at this
            omega
          exact ⟨_, rfl, _, rfl, p, _, _, _, rfl, rfl, SqT.of hp2, at_of e0 (hv_get c2), rfl, rfl⟩
        · have c2 : h.length ≤ i := by
            have : ¬ ((0 : Int) + (i : Int) < ((hv h).length : Int)) := fun z => cc (decide_eq_true z)
            rw [hv_len] at this
            omega
          refine ⟨?_, rfl⟩
          rw [hAt_ge c2]
          rfl
      · rintro σ2 H2 ⟨rfl, rfl⟩
        refine ⟨fun σ3 H3 => σ3 = [some (.ref p), some (.ref t), some (.int q), some (.int n), some (.int s), some (.ref l), some (.int (0 + (i : Int))), some (.int (hAt h i : Int)), some (.bl (opn h i))] ∧ H3 = H2, ?_, ?_⟩
        · refine ⟨_, rfl, rfl, _, rfl, ite2 (fun cc => ?_) (fun cc => ?_)⟩
          · have c2 : i = 0 := by
              have := V.int.inj (of_decide_eq_true cc)
              omega
            refine ⟨?_, rfl⟩
            have : opn h i = true := by
              unfold opn
              rw [decide_eq_true c2, Bool.true_or]
            rw [this]
            rfl
          · have c2 : i ≠ 0 := fun z => cc (by subst z; rfl)
            refine ⟨_, rfl, _, rfl, _, _, rfl, rfl, p, _, _, _, rfl, rfl, SqT.of hp2, at_of (show (0 + (i : Int)) - 1 = ((i - 1 : Nat) : Int) by omega) (hv_get (by omega)), _, rfl, _, _, rfl, rfl, ?_, rfl⟩
            have : opn h i = decide ((hAt h i : Int) < (hAt h (i - 1) : Int)) := by
              unfold opn
              rw [decide_eq_false c2, Bool.false_or]
              exact decide_eq_decide.mpr (by omega)
            rw [this]
            rfl
        · rintro σ3 H3 ⟨rfl, rfl⟩
          refine ⟨_, rfl, _, rfl, ite2 (fun cc => ?_) (fun cc => ?_)⟩
          · refine ⟨_, rfl, _, rfl, _, _, rfl, rfl, _, rfl, _, _, rfl, rfl, .inr (by constructor <;> omega), _, rfl, _, _, rfl, rfl, _, rfl, _, _, rfl, rfl, by omega, rfl, _, rfl, ite2 (fun c3 => ?_) (fun c3 => ?_)⟩
            · have yes : gl h n s q i = true := by
                unfold gl
                rw [cc, Bool.true_and]
                have z := V.int.inj (of_decide_eq_true c3)
                rw [Int.zero_add] at z
                exact decide_eq_true z
              refine ⟨_, rfl, _, rfl, p, _, rfl, .inr (SqT.of hp2), _, _, rfl, rfl, _, rfl, ite2 (fun c4 => ?_) (fun c4 => ?_)⟩
              · have c5 : i < h.length := by
                  have := of_decide_eq_true c4
                  rw [hv_len] at this
                  omega
                refine ⟨_, rfl, _, _, rfl, rfl, _, rfl, _, rfl, l, _, _, i, rfl, rfl, w1, ?_, _, _, _, rfl, ?_, Ex.mut w2 hl0⟩
                · rw [e0]
                  refine ixN_nat ?_
                  rw [hv_len, fr_low_len hi']
                  exact c5
                · rw [upd_same]
                  dsimp only
                  rw [show ((hAt h i : Int)) + 1 = ((hAt h i + 1 : Nat) : Int) by omega, hv_set, fr_set c5 yes]
              · have c5 : i = h.length := by
                  have : ¬ ((0 : Int) + (i : Int) < ((hv h).length : Int)) := fun z => c4 (decide_eq_true z)
                  rw [hv_len] at this
                  omega
                subst c5
                refine ⟨_, rfl, .inl ⟨rfl, _, SqL.of w1⟩, l, _, _, rfl, rfl, w1, ?_, _, _, _, rfl, ?_, Ex.mut w2 hl0⟩
                · rw [hv_len, fr_low_len (Nat.le_refl _)]
                  exact small1000 (by omega)
                · rw [upd_same, ← fr_app yes, hv_snoc]
                  rfl
            · have no : gl h n s q i = false := by
                unfold gl
                have z : ¬ ((dg h i * s - q) % n = 0) := fun z => c3 (decide_eq_true (congrArg V.int (by rw [Int.zero_add]; exact z)))
                rw [decide_eq_false z, Bool.and_false]
              refine ⟨_, _, _, rfl, ?_, w2⟩
              rw [fr_skip no]
              exact w1
          · have no : gl h n s q i = false := by
              unfold gl
              rw [Bool.eq_false_iff.mpr cc, Bool.false_and]
            refine ⟨_, _, _, rfl, ?_, w2⟩
            rw [fr_skip no]
            exact w1
    · obtain ⟨y6, y7, y8, rfl, w1, w2⟩ := hW
      have e : (((hv h).length : Int) + 1).toNat = h.length + 1 := by
        rw [hv_len]
        omega
      rw [e, fr_end] at w1
      exact ⟨_, rfl, l, _, rfl, .inl ⟨SqL.of w1, fun r hr' => k r _ (w2.trans (Ex.new hr')) upd_same⟩⟩
end
end K1

set_option exponentiation.threshold 400
namespace K1
open PySem PySem.Spec PyProof.Rows L2 Evl HM LX ZW TE
theorem inV_ints (z : Int) (ns : List Int) : inV (.int z) (ns.map V.int) = decide (z ∈ ns) := by
  unfold inV
  rw [Bool.eq_iff_iff, List.any_eq_true, decide_eq_true_eq]
  constructor
  · rintro ⟨y, hy, e⟩
    obtain ⟨n, hn, rfl⟩ := List.mem_map.mp hy
    have : n = z := eq_of_beq e
    rw [← this]
    exact hn
  · intro h
    exact ⟨.int z, List.mem_map.mpr ⟨z, h, rfl⟩, beq_self_eq_true z⟩
theorem flat_ints (ns : List Int) : (ns.map V.int).all flatV = true := List.all_eq_true.mpr fun z hz => by
  obtain ⟨i, _, rfl⟩ := List.mem_map.mp hz
  rfl
theorem eq_empty {K : PySem.W.Frag} {H : Hp} {p q : Addr} {l : List Int} {Q : VK} (h1 : H p = some (.lst (l.map V.int))) (h2 : H q = some (.lst [])) (k : Q (.bl (decide (l = []))) H) : rEqD K (.ref p) (.ref q) H Q := by
  refine ⟨.list _, .list [], .lst (SqL.of h1) (dp_ints l), .lst (SqL.of h2) .nil, shaped_intsL _, rfl, ?_⟩
  cases l with
  | nil =>
    rw [show PyData.eqv (.list (([] : List Int).map PyData.int)) (.list []) = true from eqv_nil]
    exact k
  | cons a r =>
    rw [show PyData.eqv (.list ((a :: r).map PyData.int)) (.list []) = false from eqv_consnil _ _]
    rw [decide_eq_false (by simp)] at k
    exact k
theorem ne_empty {K : PySem.W.Frag} {H : Hp} {p q : Addr} {l : List Int} {Q : VK} (h1 : H p = some (.lst (l.map V.int))) (h2 : H q = some (.lst [])) (k : Q (.bl (!decide (l = []))) H) : rNeD K (.ref p) (.ref q) H Q := by
  refine ⟨.list _, .list [], .lst (SqL.of h1) (dp_ints l), .lst (SqL.of h2) .nil, shaped_intsL _, rfl, ?_⟩
  cases l with
  | nil =>
    rw [show PyData.eqv (.list (([] : List Int).map PyData.int)) (.list []) = true from eqv_nil]
    exact k
  | cons a r =>
    rw [show PyData.eqv (.list ((a :: r).map PyData.int)) (.list []) = false from eqv_consnil _ _]
    rw [decide_eq_false (by simp)] at k
    exact k
theorem filt_snoc {ns : List Int} {i : Nat} {n : Int} (f : Int → Bool) (h : ns[i]? = some n) : (ns.take (i + 1)).filter f = (ns.take i).filter f ++ (if f n = true then [n] else []) := by
  rw [take_snoc1 h, List.filter_append]
  congr 1
  by_cases c : f n = true
  · rw [if_pos c, List.filter_cons_of_pos c]
    rfl
  · rw [if_neg c, List.filter_cons_of_neg c]
    rfl
section
variable {P : Program} {w : World} {K : PySem.W.Frag} {mg : Str → Option Value} {base : Heap}
def spIsCore (K : PySem.W.Frag) : Sp := fun vs H Q _ => ∃ k x, vs = [.int k, x] ∧ 2 ≤ k ∧ k ≤ 60 ∧ ((HeapB K H x false ∧ ∀ H', Ex H H' → Q (.bl false) H') ∨ ∃ p h, x = .ref p ∧ HeapAt H p h ∧ Good h ∧ ∀ b H', (b = true ↔ coreB h k) → Ex H H' → Q (.bl b) H')
theorem HeapB.mono {K : PySem.W.Frag} {H H' : Hp} {x : V} {b : Bool} (e : Ex H H') (h : HeapB K H x b) : HeapB K H' x b := by
  cases h with
  | no n => exact .no (n.mono e)
  | yes a G => exact .yes (e _ _ a) G
  | bad a G l bb => exact .bad (e _ _ a) G l (bb.mono e)
theorem ok_is_core (T : Txt K mg) {f : Addr} {fd : FuncData} (D : DefAt K mg "is_core" sIsCore ["k", "value"] f fd) : FnOk P w K mg base CX0 5 f fd ["k", "value"] (spIsCore K) := by
  refine D.F.ok scIsCore (fun vs H Q E h => ?_) (fun cdv A outer s₀ H vs Q E hr h => ?_)
  · obtain ⟨k, x, rfl, _⟩ := h
    rfl
  · obtain ⟨k, x, rfl, h1, h2, h⟩ := h
    obtain ⟨f1, fd1, D1⟩ := T.d_stays_core
    obtain ⟨f2, fd2, D2⟩ := T.d_is_heap
    obtain ⟨f3, fd3, D3⟩ := T.d_check_order
    have hr2 : Room 2 _ := hr.mono (by decide)
    have hr3 : Room 3 _ := hr.mono (by decide)
    have hr4 : Room 4 _ := hr.mono (by decide)
    refine ⟨_, pss_cons (ps_expr (pe_call (ok_check_order T D3) hr4 (by rfl) D3.g D3.F.kp D3.b .nil pass0 (pa_cons (pv 0) pa_nil)))
      (pss_one (ps_ret (pe_and (pe_call (ok_is_heap T D2) hr3 (by rfl) D2.g D2.F.kp D2.b .nil pass0 (pa_cons (pv 1) pa_nil)) (pe_one (pe_call (ok_stays_core T D1) hr2 (by rfl) D1.g D1.F.kp D1.b .nil pass0 (pa_cons (pv 0) (pa_cons (pv 1) pa_nil))))))), ?_⟩
    refine ⟨_, rfl, k, rfl, h1, h2, fun H1 e1 => ?_⟩
    rcases h with ⟨hb, q⟩ | ⟨p, h, rfl, hp, G, q⟩
    · exact ⟨_, rfl, x, false, rfl, hb.mono e1, fun H2 e2 => ⟨false, rfl, iteF (q _ (e1.trans e2))⟩⟩
    · refine ⟨_, rfl, .ref p, true, rfl, .yes (e1 _ _ hp) G, fun H2 e2 => ⟨true, rfl, iteT ?_⟩⟩
      exact ⟨_, rfl, _, rfl, k, p, h, rfl, (e1.trans e2) _ _ hp, G, h1, fun b H3 hb e3 => q b H3 hb ((e1.trans e2).trans e3)⟩
theorem ok_lbeads (T : Txt K mg) {f : Addr} {fd : FuncData} (D : DefAt K mg "_law_beads" sLBeads ["_law_heap"] f fd) : FnOk P w K mg base CX0 1 f fd ["_law_heap"] (spBeads K) := by
  refine D.F.ok scLBeads (fun vs H Q E h => ?_) (fun cdv A outer s₀ H vs Q E hr h => ?_)
  · obtain ⟨p, h, rfl, _⟩ := h
    rfl
  · obtain ⟨p, h, rfl, hp, hl, q⟩ := h
    refine ⟨_, pss_one (ps_ret (pe_lc (own := [("_law_at", 1)]) (g := gName 1) (tt := tYes) rfl scLBeads.nd (pi_range1 (by rfl) T.z_range (pa_cons (pe_callB call_len_seq (by rfl) T.z_len PySem.boot_len (pa_cons (pv 0) pa_nil)) pa_nil))
        (blkOk_by (N := nLBeads) (sc := defScope sLBeads) (by decide +kernel)) (fun _ _ _ _ _ => (pg_name (i := 1) scLBeads.nd rfl (.inl rfl))) (fun _ _ _ _ _ => pts_nil)
        (fun _ _ _ _ _ => (pe_op op_sub (pe_op op_sub (pe_ix (show IxR _ (rIxT K) from ix_tup) (pv 0) (pv 1) (fun _ _ => rfl)) (pv 1)) pe_int)))), ?_⟩
    refine ⟨_, rfl, p, _, rfl, .inr (SqT.of hp), _, rfl, by omega, by rw [hv_len]; omega, fun Dl hD => ?_⟩
    refine lc_rangeM (fun c => V.int (bead h c)) hD (by rw [hv_len]; omega) (fun i H' Qk hi e' qk => ?_) (fun H' e' h' => ?_)
    · rw [hv_len] at hi
      rw [show (0 : Int) + (i : Int) = ((i : Nat) : Int) by omega]
      exact ⟨rfl, _, rfl, _, rfl, p, _, (i : Int), .int (hAt h i : Int), rfl, rfl, SqT.of (e' _ _ hp), atI_nat (hv_get (by omega)), _, rfl, _, _, rfl, rfl, _, _, rfl, rfl, qk _ (Ex.refl _)⟩
    · rw [hv_len, Int.toNat_natCast, mapI] at h'
      exact q Dl H' e' hD h'
def lowf (h : List Nat) (k n : Int) : Bool := decide (n - k ≥ 0 - (h.length : Int)) && !decide (n - k ∈ beadsL h)
theorem lowf_iff (h : List Nat) (k : Int) : (beadsL h).filter (lowf h k) = [] ↔ coreB h k := by
  rw [List.filter_eq_nil_iff]
  constructor
  · intro a c hc
    have := a _ (mem_beads.mpr ⟨c, hc, rfl⟩)
    by_cases q : isB h (bead h c - k)
    · exact .inl q
    · by_cases r : bead h c - k < -(h.length : Int)
      · exact .inr r
      · exfalso
        apply this
        unfold lowf
        rw [decide_eq_true (by omega), decide_eq_false (fun z => q (mem_beads.mp z))]
        rfl
  · intro C n hn z
    obtain ⟨c, hc, rfl⟩ := mem_beads.mp hn
    obtain ⟨z1, z2⟩ := Bool.and_eq_true_iff.mp z
    have z1' := of_decide_eq_true z1
    rcases C c hc with q | q
    · rw [decide_eq_true (mem_beads.mpr q)] at z2
      cases z2
    · omega
def spLIsCore : Sp := fun vs H Q _ => ∃ k p h, vs = [.int k, .ref p] ∧ HeapAt H p h ∧ h.length ≤ 60 ∧ ∀ b H', (b = true ↔ coreB h k) → Ex H H' → Q (.bl b) H'
theorem ok_lis_core (T : Txt K mg) {f : Addr} {fd : FuncData} (D : DefAt K mg "_law_is_core" sLIsCore ["_law_k", "_law_heap"] f fd) : FnOk P w K mg base CX0 2 f fd ["_law_k", "_law_heap"] spLIsCore := by
  refine D.F.ok scLIsCore (fun vs H Q E h => ?_) (fun cdv A outer s₀ H vs Q E hr h => ?_)
  · obtain ⟨k, p, h, rfl, _⟩ := h
    rfl
  · obtain ⟨k, p, h, rfl, hp, hl, q⟩ := h
    obtain ⟨f1, fd1, D1⟩ := T.d_l_beads
    have hr1 : Room 1 _ := hr.mono (by decide)
    refine ⟨_, pss_cons (ps_asg (pe_tup (pa_cons (pe_call (ok_lbeads T D1) hr1 (by rfl) D1.g D1.F.kp D1.b .nil pass0 (pa_cons (pv 1) pa_nil)) (pa_cons (pe_op op_sub pe_int (pe_callB call_len_seq (by rfl) T.z_len PySem.boot_len (pa_cons (pv 1) pa_nil))) pa_nil))) (pg_tup (by rfl) (pgs_cons (pg_name (i := 2) scLIsCore.nd rfl (.inr rfl)) (pgs_cons (pg_name (i := 3) scLIsCore.nd rfl (.inr rfl)) pgs_nil))))
      (pss_one (ps_ret (pe_cmpR (op_eqD hr.units) (pe_lc (own := [("_law_bead", 4)]) (g := gName 4) rfl scLIsCore.nd (pi_list (pv 2))
        (blkOk_by (N := nLIsCore) (sc := defScope sLIsCore) (by decide +kernel)) (fun _ _ _ _ _ => (pg_name (i := 4) scLIsCore.nd rfl (.inl rfl))) (fun _ _ _ _ _ => pts_one (PW.pt (pw_and (pt_cmpR op_ge (pe_op op_sub (pv 4) (pv 0)) (pv 3) (nomark _))
          (pw_and1 (pt_cmpR (show OpR _ (compareOp .NotIn) (rIn K true) from op_notIn_seq) (pe_op op_sub (pv 4) (pv 0)) (pv 2) (by rfl))))))
        (fun _ _ _ _ _ => (pv 4))) (pe_lst pa_nil) (nomark _)))), ?_⟩
    refine ⟨_, rfl, p, h, rfl, hp, by omega, fun l H1 e1 hl0 hl1 => ?_⟩
    refine ⟨_, rfl, p, _, rfl, .inr (SqT.of (e1 _ _ hp)), _, _, rfl, rfl, by show 2 ≤ sizeLine; decide, fun t ht => ?_⟩
    have x1 := Ex.new (o := .tup [.ref l, .int (0 - ((hv h).length : Int))]) ht
    refine ⟨t, _, rfl, SqT.of upd_same, rfl, .ref l, [_], rfl, .int _, [], rfl, rfl, ?_⟩
    have hlx := x1 _ _ hl1
    have rn : (fun i j => V.int (i - j)) 0 ((hv h).length : Int) = V.int (0 - ((hv h).length : Int)) := rfl
    rw [rn]
    generalize upd H1 t (.tup [.ref l, .int (0 - ((hv h).length : Int))]) = H2 at x1 hlx ⊢
    have bl : (beadsL h).length = h.length := by unfold beadsL; rw [List.length_map, List.length_range]
    refine ⟨_, rfl, l, rfl, ⟨_, SqL.of hlx⟩, fun Lq hLq => ?_⟩
    refine lc_list (K := K) (a := l) (xs := (beadsL h).map V.int) (fun i H4 => H4 Lq = some (.lst ((((beadsL h).take i).filter (lowf h k)).map V.int)) ∧ Ex H2 H4) ⟨upd_same, Ex.new hLq⟩ (fun i H4 _ hp4 => SqL.of (hp4.2 _ _ hlx)) (fun i x H4 hx hp4 => ?_) (fun H4 hp4 => ?_)
    · obtain ⟨v1, v2⟩ := hp4
      obtain ⟨hi, n, hn, rfl⟩ := int_inv hx
      have fz := filt_snoc (lowf h k) hn
      refine ⟨rfl, _, rfl, _, rfl, _, _, rfl, rfl, _, rfl, _, _, rfl, rfl, _, rfl, ite2 (fun c => ?_) (fun c => ?_)⟩
      · have c2 : n - k ≥ 0 - (h.length : Int) := by
          have := of_decide_eq_true c
          rw [hv_len] at this
          exact this
        refine ⟨_, rfl, _, rfl, _, _, rfl, rfl, _, rfl, l, _, rfl, .inl (SqL.of (v2 _ _ hlx)), rfl, flat_ints _, _, rfl, ?_⟩
        rw [if_pos rfl, inV_ints]
        refine ite2 (fun cc => ?_) (fun cc => ?_)
        · have lw : lowf h k n = true := by
            unfold lowf
            rw [decide_eq_true c2, Bool.true_and]
            exact cc
          rw [if_pos lw] at fz
          refine ⟨_, rfl, _, v1, ?_, ?_, Ex.mut v2 hLq⟩
          · rw [List.length_map]
            have := List.length_filter_le (lowf h k) ((beadsL h).take i)
            rw [List.length_take] at this
            exact small1000 (by omega)
          · rw [upd_same, fz, List.map_append]
            rfl
        · have lw : ¬ lowf h k n = true := by
            unfold lowf
            rw [decide_eq_true c2, Bool.true_and]
            exact cc
          rw [if_neg lw, List.append_nil] at fz
          exact ⟨by rw [fz]; exact v1, v2⟩
      · have lw : ¬ lowf h k n = true := by
          unfold lowf
          rw [decide_eq_false (fun z => c (decide_eq_true (by rw [hv_len]; exact z))), Bool.false_and]
          decide
        rw [if_neg lw, List.append_nil] at fz
        exact iteF ⟨by rw [fz]; exact v1, v2⟩
    · obtain ⟨v1, v2⟩ := hp4
      rw [List.length_map, List.take_length] at v1
      refine ⟨by show 0 ≤ sizeLine; decide, fun e he => ?_⟩
      have x5 := Ex.new (o := .lst []) he
      refine eq_empty (x5 _ _ v1) upd_same ?_
      refine q _ _ ?_ (((e1.trans x1).trans v2).trans x5)
      rw [decide_eq_true_eq]
      exact lowf_iff h k
def spLHook : Sp := fun vs H Q _ => ∃ p t h, ∃ c r : Nat, vs = [.ref p, .ref t] ∧ HeapAt H p h ∧ IsHeap h ∧ h.length ≤ 60 ∧ H t = some (.tup [.int (c : Int), .int (r : Int)]) ∧ r < hAt h c ∧ ∀ H', Ex H H' → Q (.int (hk h c r)) H'
theorem ok_lhook (T : Txt K mg) {f : Addr} {fd : FuncData} (D : DefAt K mg "_law_hook" sLHook ["_law_heap", "_law_square"] f fd) : FnOk P w K mg base CX0 1 f fd ["_law_heap", "_law_square"] spLHook := by
  refine D.F.ok scLHook (fun vs H Q E h => ?_) (fun cdv A outer s₀ H vs Q E hr h => ?_)
  · obtain ⟨p, t, h, c, r, rfl, _⟩ := h
    rfl
  · obtain ⟨p, t, h, c, r, rfl, hp, Hh, hl, ht, hrc, q⟩ := h
    refine ⟨_, pss_cons (ps_asg (pv 1) (pg_tup (by rfl) (pgs_cons (pg_name (i := 2) scLHook.nd rfl (.inl rfl)) (pgs_cons (pg_name (i := 3) scLHook.nd rfl (.inr rfl)) pgs_nil))))
      (pss_one (ps_ret (pe_op op_add (pe_op op_sub (pe_ix ix_tup (pv 0) (pv 2) (fun _ _ => rfl)) (pv 3)) (pe_callB call_len_seq (by rfl) T.z_len PySem.boot_len (pa_cons (pe_lc (own := [("_law_height", 4)]) (g := gName 4) rfl scLHook.nd (pi_tup (pe_slice sl_tupE (pv 0) (po_some (pe_op op_add (pv 2) pe_int)) po_none))
        (blkOk_by (N := nLHook) (sc := defScope sLHook) (by decide +kernel)) (fun _ _ _ _ _ => (pg_name (i := 4) scLHook.nd rfl (.inl rfl))) (fun _ _ _ _ _ => pts_one (pt_cmpR op_gt (pv 4) (pv 3) (nomark _)))
        (fun _ _ _ _ _ => (pv 4))) pa_nil))))), ?_⟩
    have hc : c < h.length := by
      rcases Nat.lt_or_ge c h.length with z | z
      · exact z
      · rw [hAt_ge z] at hrc
        omega
    refine ⟨_, rfl, t, _, rfl, SqT.of ht, rfl, .int (c : Int), [_], rfl, .int (r : Int), [], rfl, rfl, ?_⟩
    refine ⟨_, rfl, _, rfl, p, _, (c : Int), .int (hAt h c : Int), rfl, rfl, SqT.of hp, atI_nat (hv_get hc), _, rfl, _, _, rfl, rfl, ?_⟩
    refine ⟨_, rfl, _, rfl, _, _, rfl, rfl, (c : Int) + 1, rfl, p, _, rfl, hp, fun t1 H1 e1 h1 => ?_⟩
    have cf : cutV (hv h) (some ((c : Int) + 1)) none = hv (h.drop (c + 1)) := by
      unfold cutV hv
      rw [show (c : Int) + 1 = ((c + 1 : Nat) : Int) by omega, HT.sIx_nat, HT.sIx_none, List.length_map, Nat.min_eq_left (by omega), List.take_of_length_le (by rw [List.length_drop, List.length_map]; exact Nat.le_refl _), List.map_drop]
    rw [cf] at h1
    refine ⟨t1, rfl, ⟨_, SqT.of h1⟩, fun Lq hLq => ?_⟩
    have dl : (h.drop (c + 1)).length ≤ 60 := by rw [List.length_drop]; omega
    refine lc_tup (K := K) (a := t1) (xs := hv (h.drop (c + 1))) (fun j H5 => H5 Lq = some (.lst (hv (((h.drop (c + 1)).take j).filter fun x => decide (r < x)))) ∧ Ex H1 H5) ⟨upd_same, Ex.new hLq⟩ (fun j H5 _ hp5 => SqT.of (hp5.2 _ _ h1)) (fun j x H5 hx hp5 => ?_) (fun H5 hp5 => ?_)
    · obtain ⟨u1, u2⟩ := hp5
      obtain ⟨y, hy, rfl⟩ := hv_inv hx
      refine ⟨rfl, _, rfl, _, rfl, _, _, rfl, rfl, _, rfl, ite2 (fun cc => ?_) (fun cc => ?_)⟩
      · have c0 : r < y := by
          have := of_decide_eq_true cc
          omega
        refine ⟨_, rfl, _, u1, ?_, ?_, Ex.mut u2 hLq⟩
        · rw [hv_len]
          have a1 := List.length_filter_le (fun x => decide (r < x)) ((h.drop (c + 1)).take j)
          rw [List.length_take] at a1
          exact small1000 (by omega)
        · rw [upd_same, take_filter_snoc _ hy, if_pos (decide_eq_true c0), hv_snoc]
      · have c0 : ¬ r < y := fun z => cc (decide_eq_true (by omega))
        refine ⟨?_, u2⟩
        rw [take_filter_snoc _ hy, if_neg (by rw [decide_eq_false c0]; decide), List.append_nil]
        exact u1
    · obtain ⟨u1, u2⟩ := hp5
      rw [hv_len, List.take_length] at u1
      refine ⟨Lq, _, rfl, .inl (SqL.of u1), _, _, rfl, rfl, ?_⟩
      rw [hv_len, right_count Hh hrc]
      have e : (hAt h c : Int) - (r : Int) + ((lamr h r : Int) - (c : Int) - 1) = hk h c r := by
        unfold hk
        omega
      show Q (V.int ((hAt h c : Int) - (r : Int) + ((lamr h r : Int) - (c : Int) - 1))) H5
      rw [e]
      exact q _ (e1.trans u2)
end
end K1

set_option exponentiation.threshold 400
namespace K1
open PySem PySem.Spec PyProof.Rows L2 Evl HM LX ZW TE
section
variable {P : Program} {w : World} {K : PySem.W.Frag} {mg : Str → Option Value} {base : Heap}
theorem pair_heap {l : List Nat} (hp : l.Pairwise (fun a b => b ≤ a)) (h0 : ∀ x ∈ l, 0 < x) : IsHeap l := by
  refine ⟨fun c hc => h0 _ (List.mem_of_getElem? (hAt_lt hc)), fun c => ?_⟩
  by_cases q : c + 1 < l.length
  · obtain ⟨h1, e1⟩ := List.getElem?_eq_some_iff.mp (hAt_lt q)
    obtain ⟨h2, e2⟩ := List.getElem?_eq_some_iff.mp (hAt_lt (show c < l.length by omega))
    have := List.pairwise_iff_getElem.mp hp c (c + 1) h2 h1 (by omega)
    rw [e1, e2] at this
    exact this
  · rw [hAt_ge (show l.length ≤ c + 1 by omega)]
    exact Nat.zero_le _
theorem hv_nat {js : List Int} (h : ∀ j ∈ js, 0 ≤ j) : js.map V.int = hv (js.map Int.toNat) := by
  unfold hv
  rw [List.map_map]
  refine List.map_congr_left fun j hj => ?_
  show V.int j = V.int ((j.toNat : Nat) : Int)
  rw [Int.toNat_of_nonneg (h j hj)]
end
end K1

set_option exponentiation.threshold 400
namespace K1
open PySem PySem.Spec PyProof.Rows L2 Evl HM LX ZW TE
theorem Keep.lst {d p : Addr} {H H' : Hp} {o : HO} (e : Keep d H H') (n : p ≠ d) (h : H p = some o) : H' p = some o := e _ _ n h
theorem hvI (h : List Nat) : hv h = (h.map fun (n : Nat) => (n : Int)).map V.int := by
  unfold hv
  rw [List.map_map]
  rfl
theorem cutT {h : List Nat} {i : Nat} (hi : i ≤ h.length) : cutV (hv h) none (some (i : Int)) = hv (h.take i) := by
  unfold cutV hv
  rw [HT.sIx_nat, HT.sIx_none, List.length_map, Nat.min_eq_left hi, List.drop_zero, Nat.sub_zero, List.map_take]
theorem cutF {h : List Nat} {i : Nat} (hi : i ≤ h.length) : cutV (hv h) (some (i : Int)) none = hv (h.drop i) := by
  unfold cutV hv
  rw [HT.sIx_nat, HT.sIx_none, List.length_map, Nat.min_eq_left hi, List.take_of_length_le (by rw [List.length_drop, List.length_map]; exact Nat.le_refl _), List.map_drop]
theorem hAt_set (h : List Nat) (i x c : Nat) (hi : i < h.length) : hAt (h.set i x) c = if c = i then x else hAt h c := by
  by_cases z : c < h.length
  · have a := hAt_lt (h := h.set i x) (c := c) (by rw [List.length_set]; exact z)
    have b := hAt_lt (h := h) (c := c) z
    rw [List.getElem?_set] at a
    by_cases e : c = i
    · subst e
      rw [if_pos rfl, if_pos hi] at a
      rw [if_pos rfl]
      exact (Option.some.inj a).symm
    · rw [if_neg (fun q => e q.symm), b] at a
      rw [if_neg e]
      exact (Option.some.inj a).symm
  · rw [hAt_ge (by rw [List.length_set]; omega), if_neg (by omega), hAt_ge (by omega)]
theorem set_heap {h : List Nat} (IH : IsHeap h) {i : Nat} (hi : i < h.length) (o : i = 0 ∨ hAt h i < hAt h (i - 1)) : IsHeap (h.set i (hAt h i + 1)) := by
  obtain ⟨p1, p2⟩ := IH
  refine ⟨fun c hc => ?_, fun c => ?_⟩
  · rw [List.length_set] at hc
    rw [hAt_set _ _ _ _ hi]
    have := p1 c hc
    split <;> omega
  · rw [hAt_set _ _ _ _ hi, hAt_set _ _ _ _ hi]
    have := p2 c
    have := p2 i
    by_cases e : c + 1 = i
    · rw [if_pos e, if_neg (by omega)]
      subst e
      rcases o with z | z
      · omega
      · exact z
    · rw [if_neg e]
      split
      · rename_i z
        subst z
        omega
      · assumption
theorem mem_le {h : List Nat} (IH : IsHeap h) {x : Nat} (hx : x ∈ h) : 0 < x ∧ x ≤ hAt h 0 := by
  obtain ⟨c, hc⟩ := List.mem_iff_getElem?.mp hx
  have cl : c < h.length := (List.getElem?_eq_some_iff.mp hc).1
  have := hAt_lt cl
  rw [hc] at this
  rw [Option.some.inj this]
  have q := IH.1 c cl
  exact ⟨q, IH.le (Nat.zero_le c)⟩
theorem del_heap {h : List Nat} (IH : IsHeap h) (i : Nat) : IsHeap (h.take i ++ h.drop (i + 1)) ∧ (h.take i ++ h.drop (i + 1)).length ≤ h.length ∧ hAt (h.take i ++ h.drop (i + 1)) 0 ≤ hAt h 0 := by
  rw [← List.eraseIdx_eq_take_drop_succ]
  have sb := List.eraseIdx_sublist h i
  refine ⟨pair_heap (IH.pairs.sublist sb) fun x hx => (mem_le IH (sb.subset hx)).1, sb.length_le, ?_⟩
  by_cases z : 0 < (h.eraseIdx i).length
  · exact (mem_le IH (sb.subset (List.mem_of_getElem? (hAt_lt z)))).2
  · rw [hAt_ge (by omega)]
    exact Nat.zero_le _
section
variable {P : Program} {w : World} {K : PySem.W.Frag} {mg : Str → Option Value} {base : Heap}
def spSomeCore : Sp := fun vs H Q _ => ∃ d k m, vs = [.ref d, .int k, .int m] ∧ Dice H d ∧ 2 ≤ k ∧ k ≤ 60 ∧ 0 ≤ m ∧ m ≤ 20 ∧ ∀ b h H', HeapAt H' b h → IsHeap h → (h.length : Int) ≤ m → (hAt h 0 : Int) ≤ m → Dice H' d → Keep d H H' → Q (.ref b) H'
theorem ok_some_core (T : Txt K mg) {f : Addr} {fd : FuncData} (D : DefAt K mg "_law_some_core" sLSomeCore ["_law_dice_here", "_law_k", "_law_most"] f fd) : FnOk P w K mg base CX0 2 f fd ["_law_dice_here", "_law_k", "_law_most"] spSomeCore := by
  refine D.F.ok scLSomeCore (fun vs H Q E h => ?_) (fun cdv A outer s₀ H vs Q E hr h => ?_)
  · obtain ⟨d, k, m, rfl, _⟩ := h
    rfl
  · obtain ⟨d, k, m, rfl, hd, k1, k2, m1, m2, q⟩ := h
    obtain ⟨f1, fd1, D1⟩ := T.d_l_roll
    obtain ⟨f2, fd2, D2⟩ := T.d_l_grown
    have hr1 : Room 1 _ := hr.mono (by decide)
    refine ⟨_, pss_cons (ps_set (i := 3) scLSomeCore.nd rfl (.inl rfl) (pe_tup pa_nil))
      (pss_cons (ps_for PassesOwn.never rfl (pi_range1 (by rfl) T.z_range (pa_cons (pe_call (ok_roll T D1) hr1 (by rfl) D1.g D1.F.kp D1.b .nil pass0 (pa_cons (pv 0) (pa_cons (pe_op op_add (pv 2) pe_int) pa_nil))) pa_nil)) (pg_name (i := 4) scLSomeCore.nd rfl (.inl rfl))
        (pss_one (ps_set (i := 3) scLSomeCore.nd rfl (.inl rfl) (pe_call (ok_lgrown T D2) hr1 (by rfl) D2.g D2.F.kp D2.b .nil pass0 (pa_cons (pv 3) (pa_cons (pe_tup (pa_cons (pv 1) (pa_cons pe_int pa_nil))) (pa_cons (pe_call (ok_roll T D1) hr1 (by rfl) D1.g D1.F.kp D1.b .nil pass0 (pa_cons (pv 0) (pa_cons (pv 1) pa_nil))) pa_nil)))))))
      (pss_one (ps_ret (pv 3)))), ?_⟩
    refine ⟨by show 0 ≤ sizeLine; decide, fun t0 ht0 => ?_⟩
    have e1 := Ex.new (o := .tup []) ht0
    have g0 : HeapAt (upd H t0 (.tup [])) t0 [] := upd_same
    have hd0 := hd.ex e1
    generalize upd H t0 (.tup []) = H1 at *
    refine ⟨_, rfl, _, rfl, m, 1, rfl, rfl, d, m + 1, rfl, hd0, by omega, by omega, fun r H2 r0 r1 hd2 kp2 => ?_⟩
    refine ⟨r, rfl, by omega, by omega, ?_⟩
    refine for_range (lo := 0) (n := r.toNat) (fun i σ' H' => ∃ (b : Addr) (y4 : Option V) (h : List Nat), σ' = [some (.ref d), some (.int k), some (.int m), some (.ref b), y4] ∧ HeapAt H' b h ∧ IsHeap h ∧ h.length ≤ i ∧ hAt h 0 ≤ i ∧ Dice H' d ∧ Keep d H H')
      ⟨t0, none, [], rfl, kp2.tup hd0 g0, IsHeap.nil, by simp, by rw [hAt_ge (by simp)]; omega, hd2, (Keep.ex e1).trans kp2⟩ (fun i σ' H' hi hW => ?_) (fun σ' H' hW => ?_)
    · obtain ⟨b, y4, h, rfl, w1, w2, w3, w4, w5, w6⟩ := hW
      refine ⟨_, rfl, _, rfl, by show 2 ≤ sizeLine; decide, fun t ht => ?_⟩
      have et := Ex.new (o := .tup [V.int k, V.int 1]) ht
      have gt : (upd H' t (.tup [V.int k, V.int 1])) t = some (.tup [V.int k, V.int 1]) := upd_same
      generalize upd H' t (.tup [V.int k, V.int 1]) = H3 at *
      have hd3 := w5.ex et
      refine ⟨_, rfl, _, rfl, d, k, rfl, hd3, by omega, by omega, fun q1 H4 q10 q11 hd4 kp4 => ?_⟩
      refine ⟨b, h, .ref t, k, 1, q1, rfl, kp4.tup hd3 (et _ _ w1), by omega, ⟨t, rfl, kp4.tup hd3 gt, k1, k2, by omega, by omega⟩, fun r2 H5 e5 h5 => ?_⟩
      have gw : ∀ c, gl h k 1 q1 c = true → opn h c = true := fun c z => gl_opn c z
      refine ⟨r2, _, _, rfl, h5, grow_heap w2 gw, ?_, ?_, hd4.ex e5, ((w6.trans (Keep.ex et)).trans kp4).trans (Keep.ex e5)⟩
      · rw [grow_len]
        have := b2n_le (gl h k 1 q1 h.length)
        omega
      · rw [hAt_grow gw]
        have := b2n_le (gl h k 1 q1 0)
        omega
    · obtain ⟨b, y4, h, rfl, w1, w2, w3, w4, w5, w6⟩ := hW
      exact ⟨_, rfl, q b h _ w1 w2 (by omega) (by omega) w5 w6⟩
def spSomeHeap : Sp := fun vs H Q _ => ∃ d k, vs = [.ref d, .int k] ∧ Dice H d ∧ 2 ≤ k ∧ k ≤ 60 ∧ ∀ b h H', HeapAt H' b h → IsHeap h → h.length ≤ 8 → hAt h 0 ≤ 8 → Dice H' d → Keep d H H' → Q (.ref b) H'
end
end K1

namespace K1
open PySem PySem.Spec PyProof.Rows L2 Evl HM LX ZW TE
def bump (l : List Int) (k z d : Int) : List Int := l.set (z % k).toNat (l.getD (z % k).toNat 0 + d)
theorem bump_len (l : List Int) (k z d : Int) : (bump l k z d).length = l.length := by
  unfold bump
  rw [List.length_set]
def upF (k : Int) (l : List Int) (b : Int) : List Int := if 0 ≤ b then bump l k b 1 else l
def dnF (h : List Nat) (k : Int) (l : List Int) (m : Nat) : List Int := if (m : Int) - (h.length : Int) ∈ beadsL h then l else bump l k ((m : Int) - (h.length : Int)) (-1)
def up (k : Int) (bs : List Int) (l : List Int) : List Int := bs.foldl (upF k) l
def dn (h : List Nat) (k : Int) (n : Nat) (l : List Int) : List Int := (List.range n).foldl (dnF h k) l
def zs (k : Int) : List Int := List.replicate k.toNat 0
def chL (h : List Nat) (k : Int) : List Int := dn h k h.length (up k (beadsL h) (zs k))
theorem upF_len (k : Int) (l : List Int) (b : Int) : (upF k l b).length = l.length := by
  unfold upF
  split
  · exact bump_len _ _ _ _
  · rfl
theorem dnF_len (h : List Nat) (k : Int) (l : List Int) (m : Nat) : (dnF h k l m).length = l.length := by
  unfold dnF
  split
  · rfl
  · exact bump_len _ _ _ _
theorem up_len (k : Int) : ∀ (bs : List Int) (l : List Int), (up k bs l).length = l.length
  | [], _ => rfl
  | b :: r, l => by
    show (up k r (upF k l b)).length = _
    rw [up_len k r, upF_len]
theorem dn_next (h : List Nat) (k : Int) (n : Nat) (l : List Int) : dn h k (n + 1) l = dnF h k (dn h k n l) n := by
  unfold dn
  rw [List.range_succ, List.foldl_append]
  rfl
theorem dn_len (h : List Nat) (k : Int) (l : List Int) : ∀ n : Nat, (dn h k n l).length = l.length
  | 0 => rfl
  | n + 1 => by rw [dn_next, dnF_len, dn_len h k l n]
theorem up_next {k : Int} {bs l : List Int} {i : Nat} {n : Int} (e : bs[i]? = some n) : up k (bs.take (i + 1)) l = upF k (up k (bs.take i) l) n := by
  unfold up
  rw [take_snoc1 e, List.foldl_append]
  rfl
theorem zs_len {k : Int} (h : 0 ≤ k) : ((zs k).length : Int) = k := by
  unfold zs
  rw [List.length_replicate]
  omega
theorem set_ints (l : List Int) (j : Nat) (z : Int) : (l.map V.int).set j (V.int z) = (l.set j z).map V.int := List.map_set.symm
theorem ints_at {l : List Int} {j : Nat} (h : j < l.length) : (l.map V.int)[j]? = some (V.int (l.getD j 0)) := by
  rw [List.getElem?_map, List.getD_eq_getElem?_getD, List.getElem?_eq_getElem h]
  rfl
end K1

set_option exponentiation.threshold 400
namespace K1
open PySem PySem.Spec PyProof.Rows L2 Evl HM LX ZW TE
section
variable {P : Program} {w : World} {K : PySem.W.Frag} {mg : Str → Option Value} {base : Heap}
def spCheckCore (K : PySem.W.Frag) : Sp := fun vs H Q _ => ∃ k p h, vs = [.int k, .ref p] ∧ HeapAt H p h ∧ Good h ∧ 2 ≤ k ∧ coreB h k ∧ ∀ H', Ex H H' → Q .non H'
theorem ok_check_core (T : Txt K mg) {f : Addr} {fd : FuncData} (D : DefAt K mg "check_core" sCheckCore ["k", "core"] f fd) : FnOk P w K mg base CX0 4 f fd ["k", "core"] (spCheckCore K) := by
  refine D.F.ok scCheckCore (fun vs H Q E h => ?_) (fun cdv A outer s₀ H vs Q E hr h => ?_)
  · obtain ⟨k, p, h, rfl, _⟩ := h
    rfl
  · obtain ⟨k, p, h, rfl, hp, G, k2, C, q⟩ := h
    obtain ⟨f1, fd1, D1⟩ := T.d_stays_core
    obtain ⟨f2, fd2, D2⟩ := T.d_is_heap
    have hr2 : Room 2 _ := hr.mono (by decide)
    have hr3 : Room 3 _ := hr.mono (by decide)
    refine ⟨_, pss_one (ps_if (PW.pt (pw_or (pt_not (pt_val (pe_call (ok_is_heap T D2) hr3 (by rfl) D2.g D2.F.kp D2.b .nil pass0 (pa_cons (pv 1) pa_nil))))
          (pw_or1 (pt_not (pt_val (pe_call (ok_stays_core T D1) hr2 (by rfl) D1.g D1.F.kp D1.b .nil pass0 (pa_cons (pv 0) (pa_cons (pv 1) pa_nil)))))))) pss_never pss_nil), ?_⟩
    refine ⟨_, rfl, .ref p, true, rfl, .yes hp G, fun H1 e1 => ⟨true, rfl, iteF' rfl ?_⟩⟩
    refine ⟨_, rfl, _, rfl, k, p, h, rfl, e1 _ _ hp, G, k2, fun b H2 hb e2 => ?_⟩
    obtain rfl : b = true := hb.mpr C
    exact ⟨true, rfl, iteF' rfl (q _ (e1.trans e2))⟩
def spCheckTold (K : PySem.W.Frag) : Sp := fun vs H Q _ => ∃ k p h, vs = [.int k, .ref p] ∧ HeapAt H p h ∧ Good h ∧ 2 ≤ k ∧ k ≤ 60 ∧ coreB h k ∧ ∀ H', Ex H H' → Q .non H'
theorem ok_check_told (T : Txt K mg) {f : Addr} {fd : FuncData} (D : DefAt K mg "check_told" sCheckTold ["k", "core"] f fd) : FnOk P w K mg base CX0 5 f fd ["k", "core"] (spCheckTold K) := by
  refine D.F.ok scCheckTold (fun vs H Q E h => ?_) (fun cdv A outer s₀ H vs Q E hr h => ?_)
  · obtain ⟨k, p, h, rfl, _⟩ := h
    rfl
  · obtain ⟨k, p, h, rfl, hp, G, k2, k3, C, q⟩ := h
    obtain ⟨f1, fd1, D1⟩ := T.d_check_core
    obtain ⟨f2, fd2, D2⟩ := T.d_check_order
    have hr4 : Room 4 _ := hr.mono (by decide)
    refine ⟨_, pss_cons (ps_expr (pe_call (ok_check_order T D2) hr4 (by rfl) D2.g D2.F.kp D2.b .nil pass0 (pa_cons (pv 0) pa_nil)))
      (pss_one (ps_expr (pe_call (ok_check_core T D1) hr4 (by rfl) D1.g D1.F.kp D1.b .nil pass0 (pa_cons (pv 0) (pa_cons (pv 1) pa_nil))))), ?_⟩
    refine ⟨_, rfl, k, rfl, k2, k3, fun H1 e1 => ?_⟩
    exact ⟨_, rfl, _, rfl, k, p, h, rfl, e1 _ _ hp, G, k2, C, fun H2 e2 => q _ (e1.trans e2)⟩
def spCharges (K : PySem.W.Frag) : Sp := fun vs H Q _ => ∃ k p h, vs = [.int k, .ref p] ∧ HeapAt H p h ∧ Good h ∧ 2 ≤ k ∧ k ≤ 60 ∧ coreB h k ∧ ∀ r H', Ex H H' → H' r = some (.tup ((chL h k).map V.int)) → Q (.ref r) H'
theorem ok_charges (T : Txt K mg) {f : Addr} {fd : FuncData} (D : DefAt K mg "charges" sCharges ["k", "core"] f fd) : FnOk P w K mg base CX0 6 f fd ["k", "core"] (spCharges K) := by
  refine D.F.ok scCharges (fun vs H Q E h => ?_) (fun cdv A outer s₀ H vs Q E hr h => ?_)
  · obtain ⟨k, p, h, rfl, _⟩ := h
    rfl
  · obtain ⟨k, p, h, rfl, hp0, G, k2, k3, C, q⟩ := h
    obtain ⟨f1, fd1, D1⟩ := T.d_beads_of
    obtain ⟨f2, fd2, D2⟩ := T.d_check_told
    have hr1 : Room 1 _ := hr.mono (by decide)
    have hr5 : Room 5 _ := hr.mono (by decide)
    refine ⟨_, pss_cons (ps_expr (pe_call (ok_check_told T D2) hr5 (by rfl) D2.g D2.F.kp D2.b .nil pass0 (pa_cons (pv 0) (pa_cons (pv 1) pa_nil))))
      (pss_cons (ps_set (i := 2) scCharges.nd rfl (.inl rfl) (pe_call (ok_beads_of T D1) hr1 (by rfl) D1.g D1.F.kp D1.b .nil pass0 (pa_cons (pv 1) pa_nil)))
      (pss_cons (ps_setLc (i := 3) (own := [("_", 6)]) (g := gName 6) (tt := tYes) (by rfl) scCharges.nd rfl rfl (sw_true rfl rfl rfl (by decide +kernel)) (pi_range1 (by rfl) T.z_range (pa_cons (pv 0) pa_nil))
        (blkOk_by (N := nCharges) (sc := defScope sCharges) (by decide +kernel)) (fun _ _ _ _ _ => (pg_name (i := 6) scCharges.nd rfl (.inl rfl))) (fun _ _ _ _ _ => pts_nil)
        (fun _ _ _ _ _ => pe_int))
      (pss_cons (ps_for PassesOwn.never rfl (pi_list (pv 2)) (pg_name (i := 4) scCharges.nd rfl (.inl rfl))
        (pss_one (ps_if (pt_cmpR op_ge (pv 4) pe_int (nomark _)) (pss_one (ps_augS (pv 3) (pe_op op_mod (pv 4) (pv 0)) get_list pe_int ip_add set_list)) pss_nil)))
      (pss_cons (ps_for PassesOwn.never rfl (pi_range2 (by rfl) T.z_range (pa_cons (pe_un un_neg (pe_callB call_len_seq (by rfl) T.z_len PySem.boot_len (pa_cons (pv 1) pa_nil))) (pa_cons pe_int pa_nil))) (pg_name (i := 5) scCharges.nd rfl (.inl rfl))
        (pss_one (ps_if (pt_cmpR (show OpR _ (compareOp .NotIn) (rIn K true) from op_notIn_seq) (pv 5) (pv 2) (by rfl)) (pss_one (ps_augS (pv 3) (pe_op op_mod (pv 5) (pv 0)) get_list pe_int ip_sub set_list)) pss_nil)))
      (pss_one (ps_ret (pe_callTy call_tuple_of (by rfl) T.z_tuple (by decide +kernel) (pa_cons (pv 3) pa_nil)))))))), ?_⟩
    refine ⟨_, rfl, _, rfl, k, p, h, rfl, hp0, G, k2, k3, C, fun H1 e1 => ?_⟩
    have hl60 := G.len
    refine ⟨_, rfl, p, h, rfl, e1 _ _ hp0, by omega, fun l H2 e2 hl0 hl1 => ?_⟩
    have bl : (beadsL h).length = h.length := by unfold beadsL; rw [List.length_map, List.length_range]
    refine ⟨_, rfl, k, rfl, by omega, by omega, fun Ls hLs => ?_⟩
    refine lc_rangeM (fun _ => V.int 0) hLs (by omega) (fun i H' Qk hi e' qk => ⟨rfl, qk _ (Ex.refl _)⟩) (fun H3 e3 h3 => ?_)
    have z3 : (List.range k.toNat).map (fun _ => V.int 0) = (zs k).map V.int := by
      unfold zs
      rw [List.map_replicate, List.map_const', List.length_range]
    rw [z3] at h3
    have hl3 := e3 _ _ hl1
    have nH : H Ls = none := fresh_back (e1.trans e2) hLs
    have ne : l ≠ Ls := ne_of_none hl1 hLs
    refine ⟨_, rfl, l, rfl, ⟨_, SqL.of hl3⟩, ?_⟩
    refine for_list (K := K) (a := l) (xs := (beadsL h).map V.int) (fun i σ' H' => ∃ y4, σ' = [some (.int k), some (.ref p), some (.ref l), some (.ref Ls), y4, none, none] ∧ H' Ls = some (.lst ((up k ((beadsL h).take i) (zs k)).map V.int)) ∧ H' l = some (.lst ((beadsL h).map V.int)) ∧ Ex H H') ⟨none, rfl, h3, hl3, (e1.trans e2).trans e3⟩ (fun i σ' H' _ hp => ?_) (fun i x σ' H' hx hp => ?_) (fun σ' H' hp => ?_)
    · obtain ⟨_, _, _, w2, _⟩ := hp
      exact SqL.of w2
    · obtain ⟨y4, rfl, w1, w2, w3⟩ := hp
      obtain ⟨hi, n, hn, rfl⟩ := int_inv hx
      have jl : (n % k).toNat < (up k ((beadsL h).take i) (zs k)).length := by
        rw [up_len]
        have := zs_len (k := k) (by omega)
        have := Int.emod_lt_of_pos n (show 0 < k by omega)
        have := Int.emod_nonneg n (show k ≠ 0 by omega)
        omega
      have jz : n % k = (((n % k).toNat : Nat) : Int) := by
        have := Int.emod_nonneg n (show k ≠ 0 by omega)
        omega
      have fz := up_next (k := k) (l := zs k) hn
      refine ⟨_, rfl, _, _, rfl, rfl, _, rfl, ite2 (fun c => ?_) (fun c => ?_)⟩
      · have c0 : 0 ≤ n := of_decide_eq_true c
        refine ⟨_, rfl, _, rfl, _, rfl, n, k, rfl, rfl, by omega, Ls, _, (n % k).toNat, _, rfl, congrArg V.int jz, SqL.of w1, ints_at jl, _, _, rfl, rfl, Ls, _, n % k, (n % k).toNat, rfl, rfl, w1, ?_, _, rfl, ?_, ?_, Ex.mut w3 nH⟩
        · rw [jz]
          exact ixN_nat (by rw [List.length_map]; exact jl)
        · rw [upd_same, set_ints, fz]
          unfold upF
          rw [if_pos c0]
          rfl
        · rw [upd_ne ne]
          exact w2
      · have c0 : ¬ 0 ≤ n := fun z => c (decide_eq_true z)
        refine ⟨_, rfl, ?_, w2, w3⟩
        rw [fz]
        unfold upF
        rw [if_neg c0]
        exact w1
    · obtain ⟨y4, rfl, w1, w2, w3⟩ := hp
      rw [List.length_map, List.take_length] at w1
      have hp3 := w3 _ _ hp0
      refine ⟨_, rfl, p, _, rfl, .inr (SqT.of hp3), _, rfl, _, 0, rfl, ⟨by rw [hv_len]; omega, by rw [hv_len]; omega, by decide, by decide⟩, ?_⟩
      have e9 : (0 - -((hv h).length : Int)).toNat = h.length := by
        rw [hv_len]
        omega
      refine for_range (lo := -((hv h).length : Int)) (n := (0 - -((hv h).length : Int)).toNat) (fun i σ' H' => ∃ y5, σ' = [some (.int k), some (.ref p), some (.ref l), some (.ref Ls), y4, y5, none] ∧ H' Ls = some (.lst ((dn h k i (up k (beadsL h) (zs k))).map V.int)) ∧ H' l = some (.lst ((beadsL h).map V.int)) ∧ Ex H H') ⟨none, rfl, w1, w2, w3⟩ (fun i σ' H' hi hp => ?_) (fun σ' H' hp => ?_)
      · obtain ⟨y5, rfl, w1, w2, w3⟩ := hp
        rw [e9] at hi
        rw [hv_len, show -(h.length : Int) + (i : Int) = (i : Int) - (h.length : Int) by omega]
        obtain ⟨n, hn⟩ : ∃ n : Int, n = (i : Int) - (h.length : Int) := ⟨_, rfl⟩
        rw [← hn]
        have jl : (n % k).toNat < (dn h k i (up k (beadsL h) (zs k))).length := by
          rw [dn_len, up_len]
          have := zs_len (k := k) (by omega)
          have := Int.emod_lt_of_pos n (show 0 < k by omega)
          have := Int.emod_nonneg n (show k ≠ 0 by omega)
          omega
        have jz : n % k = (((n % k).toNat : Nat) : Int) := by
          have := Int.emod_nonneg n (show k ≠ 0 by omega)
          omega
        refine ⟨_, rfl, _, rfl, l, _, rfl, .inl (SqL.of w2), rfl, flat_ints _, _, rfl, ?_⟩
        rw [inV_ints]
        refine ite2 (fun c => ?_) (fun c => ?_)
        · have c0 : ¬ n ∈ beadsL h := fun z => by
            rw [decide_eq_true z] at c
            cases c
          refine ⟨_, rfl, _, rfl, _, rfl, n, k, rfl, rfl, by omega, Ls, _, (n % k).toNat, _, rfl, congrArg V.int jz, SqL.of w1, ints_at jl, _, _, rfl, rfl, Ls, _, n % k, (n % k).toNat, rfl, rfl, w1, ?_, _, rfl, ?_, ?_, Ex.mut w3 nH⟩
          · rw [jz]
            exact ixN_nat (by rw [List.length_map]; exact jl)
          · rw [upd_same, set_ints, dn_next]
            unfold dnF
            rw [← hn, if_neg c0]
            rfl
          · rw [upd_ne ne]
            exact w2
        · have c0 : n ∈ beadsL h := by
            by_cases z : n ∈ beadsL h
            · exact z
            · rw [decide_eq_false z] at c
              exact absurd rfl c
          refine ⟨_, rfl, ?_, w2, w3⟩
          rw [dn_next]
          unfold dnF
          rw [← hn, if_pos c0]
          exact w1
      · obtain ⟨y5, rfl, w1, w2, w3⟩ := hp
        rw [e9] at w1
        exact ⟨_, rfl, Ls, _, rfl, .inl ⟨SqL.of w1, fun r hr' => q r _ (w3.trans (Ex.new hr')) upd_same⟩⟩
end
end K1

set_option exponentiation.threshold 400
namespace K1
open PySem PySem.Spec PyProof.Rows L2 Evl HM LX ZW TE
section
variable {P : Program} {w : World} {K : PySem.W.Frag} {mg : Str → Option Value} {base : Heap}
def spLCharges : Sp := fun vs H Q _ => ∃ k p h, vs = [.int k, .ref p] ∧ HeapAt H p h ∧ h.length ≤ 60 ∧ 2 ≤ k ∧ k ≤ 60 ∧ ∀ r H', Ex H H' → H' r = some (.tup ((chL h k).map V.int)) → Q (.ref r) H'
theorem ok_lcharges (T : Txt K mg) {f : Addr} {fd : FuncData} (D : DefAt K mg "_law_charges" sLCharges ["_law_k", "_law_heap"] f fd) : FnOk P w K mg base CX0 2 f fd ["_law_k", "_law_heap"] spLCharges := by
  refine D.F.ok scLCharges (fun vs H Q E h => ?_) (fun cdv A outer s₀ H vs Q E hr h => ?_)
  · obtain ⟨k, p, h, rfl, _⟩ := h
    rfl
  · obtain ⟨k, p, h, rfl, hp0, hl60, k2, k3, q⟩ := h
    obtain ⟨f1, fd1, D1⟩ := T.d_l_beads
    have hr1 : Room 1 _ := hr.mono (by decide)
    refine ⟨_, pss_cons (ps_par (i := 2) (j := 3) (by rfl) scLCharges.nd rfl rfl (by decide) rfl rfl (pa_cons (pe_call (ok_lbeads T D1) hr1 (by rfl) D1.g D1.F.kp D1.b .nil pass0 (pa_cons (pv 1) pa_nil)) (pa_cons (pe_op op_rep (pe_lst (pa_cons pe_int pa_nil)) (pv 0)) pa_nil)) (by rfl))
      (pss_cons (ps_for PassesOwn.never rfl (pi_list (pv 2)) (pg_name (i := 4) scLCharges.nd rfl (.inl rfl))
        (pss_one (ps_if (pt_cmpR op_ge (pv 4) pe_int (nomark _)) (pss_one (ps_asg (pe_op op_add (pe_ix ix_list (pv 3) (pe_op op_mod (pv 4) (pv 0)) (fun _ _ => rfl)) pe_int) (pg_sub (pv 3) (pe_op op_mod (pv 4) (pv 0)) set_list))) pss_nil)))
      (pss_cons (ps_for PassesOwn.never rfl (pi_range2 (by rfl) T.z_range (pa_cons (pe_op op_sub pe_int (pe_callB call_len_seq (by rfl) T.z_len PySem.boot_len (pa_cons (pv 1) pa_nil))) (pa_cons pe_int pa_nil))) (pg_name (i := 5) scLCharges.nd rfl (.inl rfl))
        (pss_one (ps_if (pt_cmpR (show OpR _ (compareOp .NotIn) (rIn K true) from op_notIn_seq) (pv 5) (pv 2) (by rfl)) (pss_one (ps_asg (pe_op op_sub (pe_ix ix_list (pv 3) (pe_op op_mod (pv 5) (pv 0)) (fun _ _ => rfl)) pe_int) (pg_sub (pv 3) (pe_op op_mod (pv 5) (pv 0)) set_list))) pss_nil)))
      (pss_one (ps_ret (pe_callTy call_tuple_of (by rfl) T.z_tuple (by decide +kernel) (pa_cons (pv 3) pa_nil)))))), ?_⟩
    refine ⟨_, rfl, p, h, rfl, hp0, by omega, fun l H2 e2 hl0 hl1 => ?_⟩
    have bl : (beadsL h).length = h.length := by unfold beadsL; rw [List.length_map, List.length_range]
    refine ⟨by show 1 ≤ sizeLine; decide, fun l0 hl00 => ?_⟩
    have x1 := Ex.new (o := .lst [V.int 0]) hl00
    refine ⟨_, rfl, l0, k, _, rfl, rfl, upd_same, by omega, by omega, sz_of (by show 1 * k.toNat ≤ _; omega), fun Ls hLs => ?_⟩
    have x2 := Ex.new (o := .lst (List.replicate k.toNat [V.int 0]).flatten) hLs
    have z3 : (List.replicate k.toNat [V.int 0]).flatten = (zs k).map V.int := by
      unfold zs
      rw [List.map_replicate]
      exact List.flatten_replicate_singleton
    have h3 : (upd (upd H2 l0 (.lst [V.int 0])) Ls (.lst (List.replicate k.toNat [V.int 0]).flatten)) Ls = some (.lst ((zs k).map V.int)) := by
      rw [upd_same, z3]
    have nH : H Ls = none := fresh_back (e2.trans x1) hLs
    have hl2 := x1 _ _ hl1
    have ne : l ≠ Ls := ne_of_none hl2 hLs
    have hl3 := x2 _ _ hl2
    have e3 := (e2.trans x1).trans x2
    generalize upd (upd H2 l0 (.lst [V.int 0])) Ls (.lst (List.replicate k.toNat [V.int 0]).flatten) = H3 at *
    refine ⟨_, _, rfl, ?_⟩
    refine ⟨_, rfl, l, rfl, ⟨_, SqL.of hl3⟩, ?_⟩
    refine for_list (K := K) (a := l) (xs := (beadsL h).map V.int) (fun i σ' H' => ∃ y4, σ' = [some (.int k), some (.ref p), some (.ref l), some (.ref Ls), y4, none] ∧ H' Ls = some (.lst ((up k ((beadsL h).take i) (zs k)).map V.int)) ∧ H' l = some (.lst ((beadsL h).map V.int)) ∧ Ex H H') ⟨none, rfl, h3, hl3, e3⟩ (fun i σ' H' _ hp => ?_) (fun i x σ' H' hx hp => ?_) (fun σ' H' hp => ?_)
    · obtain ⟨_, _, _, w2, _⟩ := hp
      exact SqL.of w2
    · obtain ⟨y4, rfl, w1, w2, w3⟩ := hp
      obtain ⟨hi, n, hn, rfl⟩ := int_inv hx
      have jl : (n % k).toNat < (up k ((beadsL h).take i) (zs k)).length := by
        rw [up_len]
        have := zs_len (k := k) (by omega)
        have := Int.emod_lt_of_pos n (show 0 < k by omega)
        have := Int.emod_nonneg n (show k ≠ 0 by omega)
        omega
      have jz : n % k = (((n % k).toNat : Nat) : Int) := by
        have := Int.emod_nonneg n (show k ≠ 0 by omega)
        omega
      have fz := up_next (k := k) (l := zs k) hn
      refine ⟨_, rfl, _, _, rfl, rfl, _, rfl, ite2 (fun c => ?_) (fun c => ?_)⟩
      · have c0 : 0 ≤ n := of_decide_eq_true c
        refine ⟨_, rfl, _, rfl, _, rfl, n, k, rfl, rfl, by omega, Ls, _, n % k, _, rfl, rfl, SqL.of w1, at_of jz (ints_at jl), _, _, rfl, rfl, _, rfl, _, rfl, _, rfl, n, k, rfl, rfl, by omega, Ls, _, n % k, (n % k).toNat, rfl, rfl, w1, ?_, _, rfl, ?_, ?_, Ex.mut w3 nH⟩
        · rw [jz]
          exact ixN_nat (by rw [List.length_map]; exact jl)
        · rw [upd_same]
          dsimp only
          rw [set_ints, fz]
          unfold upF
          rw [if_pos c0]
          rfl
        · rw [upd_ne ne]
          exact w2
      · have c0 : ¬ 0 ≤ n := fun z => c (decide_eq_true z)
        refine ⟨_, rfl, ?_, w2, w3⟩
        rw [fz]
        unfold upF
        rw [if_neg c0]
        exact w1
    · obtain ⟨y4, rfl, w1, w2, w3⟩ := hp
      rw [List.length_map, List.take_length] at w1
      have hp3 := w3 _ _ hp0
      refine ⟨_, rfl, p, _, rfl, .inr (SqT.of hp3), _, _, rfl, rfl, _, 0, rfl, ⟨by rw [hv_len]; omega, by rw [hv_len]; omega, by decide, by decide⟩, ?_⟩
      have e9 : (0 - (0 - ((hv h).length : Int))).toNat = h.length := by
        rw [hv_len]
        omega
      refine for_range (lo := 0 - ((hv h).length : Int)) (n := (0 - (0 - ((hv h).length : Int))).toNat) (fun i σ' H' => ∃ y5, σ' = [some (.int k), some (.ref p), some (.ref l), some (.ref Ls), y4, y5] ∧ H' Ls = some (.lst ((dn h k i (up k (beadsL h) (zs k))).map V.int)) ∧ H' l = some (.lst ((beadsL h).map V.int)) ∧ Ex H H') ⟨none, rfl, w1, w2, w3⟩ (fun i σ' H' hi hp => ?_) (fun σ' H' hp => ?_)
      · obtain ⟨y5, rfl, w1, w2, w3⟩ := hp
        rw [e9] at hi
        rw [hv_len, show 0 - (h.length : Int) + (i : Int) = (i : Int) - (h.length : Int) by omega]
        obtain ⟨n, hn⟩ : ∃ n : Int, n = (i : Int) - (h.length : Int) := ⟨_, rfl⟩
        rw [← hn]
        have jl : (n % k).toNat < (dn h k i (up k (beadsL h) (zs k))).length := by
          rw [dn_len, up_len]
          have := zs_len (k := k) (by omega)
          have := Int.emod_lt_of_pos n (show 0 < k by omega)
          have := Int.emod_nonneg n (show k ≠ 0 by omega)
          omega
        have jz : n % k = (((n % k).toNat : Nat) : Int) := by
          have := Int.emod_nonneg n (show k ≠ 0 by omega)
          omega
        refine ⟨_, rfl, _, rfl, l, _, rfl, .inl (SqL.of w2), rfl, flat_ints _, _, rfl, ?_⟩
        rw [inV_ints]
        refine ite2 (fun c => ?_) (fun c => ?_)
        · have c0 : ¬ n ∈ beadsL h := fun z => by
            rw [decide_eq_true z] at c
            cases c
          refine ⟨_, rfl, _, rfl, _, rfl, n, k, rfl, rfl, by omega, Ls, _, n % k, _, rfl, rfl, SqL.of w1, at_of jz (ints_at jl), _, _, rfl, rfl, _, rfl, _, rfl, _, rfl, n, k, rfl, rfl, by omega, Ls, _, n % k, (n % k).toNat, rfl, rfl, w1, ?_, _, rfl, ?_, ?_, Ex.mut w3 nH⟩
          · rw [jz]
            exact ixN_nat (by rw [List.length_map]; exact jl)
          · rw [upd_same]
            dsimp only
            rw [set_ints, dn_next]
            unfold dnF
            rw [← hn, if_neg c0]
            rfl
          · rw [upd_ne ne]
            exact w2
        · have c0 : n ∈ beadsL h := by
            by_cases z : n ∈ beadsL h
            · exact z
            · rw [decide_eq_false z] at c
              exact absurd rfl c
          refine ⟨_, rfl, ?_, w2, w3⟩
          rw [dn_next]
          unfold dnF
          rw [← hn, if_pos c0]
          exact w1
      · obtain ⟨y5, rfl, w1, w2, w3⟩ := hp
        rw [e9] at w1
        exact ⟨_, rfl, Ls, _, rfl, .inl ⟨SqL.of w1, fun r hr' => q r _ (w3.trans (Ex.new hr')) upd_same⟩⟩
end
end K1

/-! own rule: sum of a tuple of ints -/
namespace ST
open PySem PySem.Spec PyProof.Rows L2
section
variable {prog : Program} {w : World} {A : Around} {E : Value → Shared → Prop} {s : Shared} {l : Addr}
theorem sum_tup {xs : Array (Int × Tok)} {Q : Value → Shared → Prop} (hh : A.handled = none) (hl : s.heap.IsTuple l (intItems xs))
    (h : ∀ h' tk t', (∀ b o, s.heap.get? b = some o → h'.get? b = some o) → Q (.int (preSum (numAt xs) xs.size) t') { s with heap := h', toks := tk }) :
    wpAny (model prog w) A (call (.builtin "sum") [.ref l]) Q E s := by
  have hlt : l < s.heap.objs.size := by
    obtain ⟨_, e, _⟩ := hl
    exact Heap.lt_size e
  refine call_sum_walkG (wpAny_pyIter_tuple hl ?_)
  refine ⟨_, _, _, _, _, _, numAt xs, rfl, Walks.tuple (A := A.in1) hh s.heap.objs.size l (Nat.ne_of_lt hlt) (intItems xs), ⟨⟨_, Heap.get?_push_size _ rfl, rfl, rfl⟩, hl.push _⟩, fun b hb => ?_, (fun _ _ => intItems_at), fun h' tk t' hk => ?_⟩
  · show b < (s.heap.push _).objs.size
    rw [Heap.size_push]
    rcases List.mem_cons.mp hb with rfl | hb
    · exact Nat.lt_succ_self _
    · rcases List.mem_cons.mp hb with rfl | hb
      · exact Nat.lt_succ_of_lt hlt
      · cases hb
  · have := h h' tk t' fun b o e => by
      refine hk b o (fun hm => ?_) (Heap.get?_push_of_some _ e)
      rcases List.mem_cons.mp hm with e1 | hm
      · exact absurd (e1 ▸ Heap.lt_size e) (Nat.lt_irrefl _)
      · cases hm
    simpa [intItems] using this
theorem sum_tupR {its : List Value} {ns : List Int} {Q : Value → Shared → Prop} (hh : A.handled = none) (hl : s.heap.IsTuple l its.toArray) (hi : IntsAre its ns)
    (h : ∀ h' tk t', (∀ b o, s.heap.get? b = some o → h'.get? b = some o) → Q (.int ns.sum t') { s with heap := h', toks := tk }) : wpAny (model prog w) A (call (.builtin "sum") [.ref l]) Q E s := by
  obtain ⟨xs, e⟩ := hi.allInts.items
  have hn : numsOf (intItems xs).toList = ns := by rw [← e]; exact hi.numsOf
  rw [nums_intItems] at hn
  rw [e] at hl
  refine sum_tup hh hl fun h' tk t' hk => ?_
  have := h h' tk t' hk
  rw [preSum_eq, List.take_of_length_le (by simp), hn]
  exact this
end
section
variable {X : Cx}
def rSumT (K : PySem.W.Frag) : List V → Hp → VK → Prop := fun vs H Q => ∃ (a : Addr) (ns : List Int), vs = [V.ref a] ∧ SqT K H a (ns.map V.int) ∧ Q (.int ns.sum) H
theorem cr_sumT (hc : X.calm = true) : CallR X (.builtin "sum") (rSumT X.K) := by
  intro pins s σ H vs us Q I r h
  obtain ⟨a, ns, rfl, hs, q⟩ := h
  obtain ⟨its, rv, hl, _⟩ := I.tuple hs
  rw [Vals.ref1 r]
  exact sum_tupR (I.ok.hd hc) hl rv.ints fun h' tk t' hk => ⟨.int _, H, I.kept hk, ⟨_, rfl⟩, q⟩
end
end ST

set_option exponentiation.threshold 400
namespace K1
open PySem PySem.Spec PyProof.Rows L2 Evl HM LX ZW TE
/-- how many squares of a column have a hook below k -/
def lt1 (h : List Nat) (k : Int) (c : Nat) (n : Nat) : List Nat := (List.range n).filter fun r => decide (hk h c r < k)
def ltL (h : List Nat) (k : Int) (n : Nat) : List Int := (List.range n).map fun c => ((lt1 h k c (hAt h c)).length : Int)
theorem lt1_next (h : List Nat) (k : Int) (c n : Nat) : lt1 h k c (n + 1) = lt1 h k c n ++ (if hk h c n < k then [n] else []) := by
  unfold lt1
  rw [List.range_succ, List.filter_append]
  congr 1
  by_cases z : hk h c n < k
  · rw [if_pos z]
    simp [z]
  · rw [if_neg z]
    simp [z]
theorem lt1_le (h : List Nat) (k : Int) (c n : Nat) : (lt1 h k c n).length ≤ n := by
  have := List.length_filter_le (fun r => decide (hk h c r < k)) (List.range n)
  rw [List.length_range] at this
  exact this
theorem ltL_next (h : List Nat) (k : Int) (n : Nat) : ltL h k (n + 1) = ltL h k n ++ [((lt1 h k n (hAt h n)).length : Int)] := by
  unfold ltL
  rw [List.range_succ, List.map_append]
  rfl
theorem ltL_len (h : List Nat) (k : Int) (n : Nat) : (ltL h k n).length = n := by
  unfold ltL
  rw [List.length_map, List.length_range]
section
variable {P : Program} {w : World} {K : PySem.W.Frag} {mg : Str → Option Value} {base : Heap}
def spParts (K : PySem.W.Frag) : Sp := fun vs H Q _ => ∃ k p h, vs = [.int k, .ref p] ∧ HeapAt H p h ∧ Good h ∧ ∀ r H', Ex H H' → H' r = some (.tup ((ltL h k h.length).map V.int)) → Q (.ref r) H'
theorem ok_parts_of (T : Txt K mg) {f : Addr} {fd : FuncData} (D : DefAt K mg "parts_of" sPartsOf ["k", "heap"] f fd) : FnOk P w K mg base CX0 3 f fd ["k", "heap"] (spParts K) := by
  refine D.F.ok scPartsOf (fun vs H Q E h => ?_) (fun cdv A outer s₀ H vs Q E hr h => ?_)
  · obtain ⟨k, p, h, rfl, _⟩ := h
    rfl
  · obtain ⟨k, p, h, rfl, hp0, G, q⟩ := h
    obtain ⟨f1, fd1, D1⟩ := T.d_hook_at
    obtain ⟨f2, fd2, D2⟩ := T.d_lengths_of
    have hr1 : Room 1 _ := hr.mono (by decide)
    have hr2 : Room 2 _ := hr.mono (by decide)
    refine ⟨_, pss_cons (ps_set (i := 2) scPartsOf.nd rfl (.inr rfl) (pe_call (ok_lengths_of T D2) hr2 (by rfl) D2.g D2.F.kp D2.b .nil pass0 (pa_cons (pv 1) pa_nil)))
      (pss_cons (ps_set (i := 3) scPartsOf.nd rfl (.inl rfl) (pe_lst pa_nil))
      (pss_cons (ps_for PassesOwn.never rfl (EnT.pi_enumT (by rfl) T.z_enumerate (pa_cons (pv 1) pa_nil)) (pg_tup (by rfl) (pgs_cons (pg_name (i := 4) scPartsOf.nd rfl (.inr rfl)) (pgs_cons (pg_name (i := 5) scPartsOf.nd rfl (.inl rfl)) pgs_nil)))
        (pss_one (ps_expr (pe_bm PySem.F.plainAttrs_list PySem.F.slot_list_append PySem.F.type_list_append mt_append (pv 3) (pa_cons (pe_callB call_len_seq (by rfl) T.z_len PySem.boot_len (pa_cons (pe_lc (own := [("row", 6)]) (g := gName 6) rfl scPartsOf.nd (pi_range1 (by rfl) T.z_range (pa_cons (pv 5) pa_nil))
        (blkOk_by (N := nPartsOf) (sc := defScope sPartsOf) (by decide +kernel)) (fun _ _ _ _ _ => (pg_name (i := 6) scPartsOf.nd rfl (.inl rfl))) (fun _ _ _ _ _ => pts_one (pt_cmpR op_lt (pe_call (ok_hook_at T D1) hr1 (by rfl) D1.g D1.F.kp D1.b .nil pass0 (pa_cons (pv 1) (pa_cons (pv 2) (pa_cons (pv 4) (pa_cons (pv 6) pa_nil))))) (pv 0) (nomark _)))
        (fun _ _ _ _ _ => (pv 6))) pa_nil)) pa_nil)))))
      (pss_one (ps_ret (pe_callTy call_tuple_of (by rfl) T.z_tuple (by decide +kernel) (pa_cons (pv 3) pa_nil)))))), ?_⟩
    have hl60 := G.len
    refine ⟨_, rfl, p, h, rfl, hp0, G, fun ln H1 e1 hln => ?_⟩
    refine ⟨by show 0 ≤ sizeLine; decide, fun Lp hLp => ?_⟩
    have x2 := Ex.new (o := .lst []) hLp
    have nH : H Lp = none := fresh_back e1 hLp
    have h2 : (upd H1 Lp (.lst [])) Lp = some (.lst ((ltL h k 0).map V.int)) := upd_same
    have e2 := e1.trans x2
    have hln2 := x2 _ _ hln
    generalize upd H1 Lp (.lst []) = H2 at *
    refine ⟨_, rfl, p, _, rfl, SqT.of (e2 _ _ hp0), for_it (walk_enumT (K := K) (a := p) (xs := hv h)) (fun i σ' H' => ∃ y4 y5, σ' = [some (.int k), some (.ref p), some (.ref ln), some (.ref Lp), y4, y5, none] ∧ H' Lp = some (.lst ((ltL h k i).map V.int)) ∧ H' ln = some (.tup (hv (conj h))) ∧ Ex H H') ⟨none, none, rfl, h2, hln2, e2⟩ (fun i σ' H' _ hp => ?_) (fun i x σ' H' H8 hi hp hy => ?_) (fun σ' H' hp => ?_)⟩
    · obtain ⟨_, _, _, _, _, w3⟩ := hp
      exact SqT.of (w3 _ _ hp0)
    · obtain ⟨y4, y5, rfl, w1, w2, w3⟩ := hp
      obtain ⟨Tp, x1, z1, rfl, nT, rfl, hx1, hz1⟩ := hy
      obtain rfl := Option.some.inj hx1
      have hi' : i < h.length := by
        rw [hv_len] at hi
        exact hi
      have hz2 : (hv h)[i]? = some z1 := hz1
      rw [hv_get hi'] at hz2
      obtain rfl := Option.some.inj hz2
      have eT := Ex.new (o := .tup [.int (i : Nat), .int (hAt h i : Int)]) nT
      refine ⟨Tp, _, rfl, SqT.of upd_same, rfl, .int (i : Nat), [_], rfl, _, [], rfl, rfl, ?_⟩
      have w1' := eT _ _ w1
      have w2' := eT _ _ w2
      have w3' := w3.trans eT
      generalize upd H' Tp (.tup [.int (i : Nat), .int (hAt h i : Int)]) = H3 at *
      have ha := G.all i
      refine ⟨_, rfl, .inl ⟨rfl, _, SqL.of w1'⟩, ?_⟩
      refine ⟨_, rfl, _, rfl, by omega, by omega, fun Dl hD => ?_⟩
      refine lc_range (lo := 0) (n := ((hAt h i : Int)).toNat) (fun r H7 => H7 Dl = some (.lst (hv (lt1 h k i r))) ∧ Ex H3 H7) ⟨upd_same, Ex.new hD⟩ (fun r H7 hr7 hp7 => ?_) (fun H7 hp7 => ?_)
      · obtain ⟨u1, u2⟩ := hp7
        have lr := lt1_le h k i r
        rw [show (0 : Int) + (r : Int) = (r : Int) by omega]
        refine ⟨rfl, _, rfl, _, rfl, _, rfl, _, rfl, p, ln, h, i, r, rfl, (w3'.trans u2) _ _ hp0, u2 _ _ w2', G.heap, by omega, _, rfl, _, _, rfl, rfl, _, rfl, ite2 (fun cc => ?_) (fun cc => ?_)⟩
        · have c0 : hk h i r < k := of_decide_eq_true cc
          refine ⟨_, rfl, _, u1, by rw [hv_len]; exact small1000 (by omega), ?_, Ex.mut u2 hD⟩
          rw [upd_same, lt1_next, if_pos c0, hv_snoc]
        · have c0 : ¬ hk h i r < k := fun z => cc (decide_eq_true z)
          refine ⟨?_, u2⟩
          rw [lt1_next, if_neg c0, List.append_nil]
          exact u1
      · obtain ⟨u1, u2⟩ := hp7
        rw [Int.toNat_natCast] at u1
        have ne : ln ≠ Lp := fun z => by
          have a := w2'
          rw [z, w1'] at a
          cases a
        refine ⟨Dl, _, rfl, .inl (SqL.of u1), Lp, _, _, rfl, rfl, u2 _ _ w1', ?_, _, _, rfl, ?_, ?_, Ex.mut (w3'.trans u2) nH⟩
        · rw [List.length_map, ltL_len]
          exact small1000 (by omega)
        · rw [upd_same, hv_len, ltL_next, List.map_append]
          rfl
        · rw [upd_ne ne]
          exact u2 _ _ w2'
    · obtain ⟨y4, y5, rfl, w1, w2, w3⟩ := hp
      rw [hv_len] at w1
      exact ⟨_, rfl, Lp, _, rfl, .inl ⟨SqL.of w1, fun r hr' => q r _ (w3.trans (Ex.new hr')) upd_same⟩⟩
end
end K1

set_option exponentiation.threshold 400
namespace K1
open PySem PySem.Spec PyProof.Rows L2 Evl HM LX ZW TE
section
variable {P : Program} {w : World} {K : PySem.W.Frag} {mg : Str → Option Value} {base : Heap}
def spLettersOf (K : PySem.W.Frag) : Sp := fun vs H Q _ => ∃ k p h, vs = [.int k, .ref p] ∧ HeapAt H p h ∧ Good h ∧ 2 ≤ k ∧ k ≤ 60 ∧ coreB h k ∧ ∀ H', Ex H H' → Q (.int (ltL h k h.length).sum) H'
theorem ok_letters_of (T : Txt K mg) {f : Addr} {fd : FuncData} (D : DefAt K mg "letters_of" sLettersOf ["k", "core"] f fd) : FnOk P w K mg base CX0 6 f fd ["k", "core"] (spLettersOf K) := by
  refine D.F.ok scLettersOf (fun vs H Q E h => ?_) (fun cdv A outer s₀ H vs Q E hr h => ?_)
  · obtain ⟨k, p, h, rfl, _⟩ := h
    rfl
  · obtain ⟨k, p, h, rfl, hp0, G, k2, k3, C, q⟩ := h
    obtain ⟨f1, fd1, D1⟩ := T.d_parts_of
    obtain ⟨f2, fd2, D2⟩ := T.d_check_told
    have hr3 : Room 3 _ := hr.mono (by decide)
    have hr5 : Room 5 _ := hr.mono (by decide)
    refine ⟨_, pss_cons (ps_expr (pe_call (ok_check_told T D2) hr5 (by rfl) D2.g D2.F.kp D2.b .nil pass0 (pa_cons (pv 0) (pa_cons (pv 1) pa_nil))))
      (pss_one (ps_ret (pe_callB (ST.cr_sumT rfl) (by rfl) T.z_sum (by decide +kernel) (pa_cons (pe_call (ok_parts_of T D1) hr3 (by rfl) D1.g D1.F.kp D1.b .nil pass0 (pa_cons (pv 0) (pa_cons (pv 1) pa_nil))) pa_nil)))), ?_⟩
    refine ⟨_, rfl, _, rfl, k, p, h, rfl, hp0, G, k2, k3, C, fun H1 e1 => ?_⟩
    refine ⟨_, rfl, _, rfl, k, p, h, rfl, e1 _ _ hp0, G, fun r H2 e2 hr2 => ?_⟩
    exact ⟨r, _, rfl, SqT.of hr2, q _ (e1.trans e2)⟩
def spLLetters : Sp := fun vs H Q _ => ∃ k p h, vs = [.int k, .ref p] ∧ HeapAt H p h ∧ Good h ∧ ∀ r H', Ex H H' → H' r = some (.lst ((ltL h k h.length).map V.int)) → Q (.ref r) H'
theorem ok_lletters (T : Txt K mg) {f : Addr} {fd : FuncData} (D : DefAt K mg "_law_letters" sLLetters ["_law_k", "_law_heap"] f fd) : FnOk P w K mg base CX0 2 f fd ["_law_k", "_law_heap"] spLLetters := by
  refine D.F.ok scLLetters (fun vs H Q E h => ?_) (fun cdv A outer s₀ H vs Q E hr h => ?_)
  · obtain ⟨k, p, h, rfl, _⟩ := h
    rfl
  · obtain ⟨k, p, h, rfl, hp0, G, q⟩ := h
    obtain ⟨f1, fd1, D1⟩ := T.d_l_hook
    have hr1 : Room 1 _ := hr.mono (by decide)
    refine ⟨_, pss_cons (ps_set (i := 2) scLLetters.nd rfl (.inl rfl) (pe_lst pa_nil))
      (pss_cons (ps_for PassesOwn.never rfl (pi_range1 (by rfl) T.z_range (pa_cons (pe_callB call_len_seq (by rfl) T.z_len PySem.boot_len (pa_cons (pv 1) pa_nil)) pa_nil)) (pg_name (i := 3) scLLetters.nd rfl (.inr rfl))
        (pss_one (ps_expr (pe_bm PySem.F.plainAttrs_list PySem.F.slot_list_append PySem.F.type_list_append mt_append (pv 2) (pa_cons (pe_callB call_len_seq (by rfl) T.z_len PySem.boot_len (pa_cons (pe_lc (own := [("_law_row", 4)]) (g := gName 4) rfl scLLetters.nd (pi_range1 (by rfl) T.z_range (pa_cons (pe_ix ix_tup (pv 1) (pv 3) (fun _ _ => rfl)) pa_nil))
        (blkOk_by (N := nLLetters) (sc := defScope sLLetters) (by decide +kernel)) (fun _ _ _ _ _ => (pg_name (i := 4) scLLetters.nd rfl (.inl rfl))) (fun _ _ _ _ _ => pts_one (pt_cmpR op_lt (pe_call (ok_lhook T D1) hr1 (by rfl) D1.g D1.F.kp D1.b .nil pass0 (pa_cons (pv 1) (pa_cons (pe_tup (pa_cons (pv 3) (pa_cons (pv 4) pa_nil))) pa_nil))) (pv 0) (nomark _)))
        (fun _ _ _ _ _ => (pv 4))) pa_nil)) pa_nil)))))
      (pss_one (ps_ret (pv 2)))), ?_⟩
    have hl60 := G.len
    refine ⟨by show 0 ≤ sizeLine; decide, fun Lp hLp => ?_⟩
    have x2 := Ex.new (o := .lst []) hLp
    have h2 : (upd H Lp (.lst [])) Lp = some (.lst ((ltL h k 0).map V.int)) := upd_same
    generalize upd H Lp (.lst []) = H2 at *
    refine ⟨_, rfl, p, _, rfl, .inr (SqT.of (x2 _ _ hp0)), _, rfl, by rw [hv_len]; omega, by rw [hv_len]; omega, ?_⟩
    refine for_range (lo := 0) (n := ((hv h).length : Int).toNat) (fun i σ' H' => ∃ y3, σ' = [some (.int k), some (.ref p), some (.ref Lp), y3, none] ∧ H' Lp = some (.lst ((ltL h k i).map V.int)) ∧ Ex H H') ⟨none, rfl, h2, x2⟩ (fun i σ' H' hi hp => ?_) (fun σ' H' hp => ?_)
    · obtain ⟨y3, rfl, w1, w3⟩ := hp
      rw [hv_len] at hi
      have hi' : i < h.length := by omega
      rw [show (0 : Int) + (i : Int) = (i : Int) by omega]
      have ha := G.all i
      refine ⟨_, rfl, .inl ⟨rfl, _, SqL.of w1⟩, ?_⟩
      refine ⟨_, rfl, _, rfl, p, _, (i : Int), .int (hAt h i : Int), rfl, rfl, SqT.of (w3 _ _ hp0), atI_nat (hv_get hi'), _, rfl, by omega, by omega, fun Dl hD => ?_⟩
      refine lc_range (lo := 0) (n := ((hAt h i : Int)).toNat) (fun r H7 => H7 Dl = some (.lst (hv (lt1 h k i r))) ∧ Ex H' H7) ⟨upd_same, Ex.new hD⟩ (fun r H7 hr7 hp7 => ?_) (fun H7 hp7 => ?_)
      · obtain ⟨u1, u2⟩ := hp7
        have lr := lt1_le h k i r
        rw [show (0 : Int) + (r : Int) = (r : Int) by omega]
        refine ⟨rfl, _, rfl, _, rfl, _, rfl, by show 2 ≤ sizeLine; decide, fun t ht => ?_⟩
        have et := Ex.new (o := .tup [V.int (i : Int), V.int (r : Int)]) ht
        refine ⟨p, t, h, i, r, rfl, et _ _ ((w3.trans u2) _ _ hp0), G.heap, hl60, upd_same, by omega, fun H8 e8 => ?_⟩
        have u1' := (et.trans e8) _ _ u1
        have e78 := (u2.trans et).trans e8
        refine ⟨_, rfl, _, _, rfl, rfl, _, rfl, ite2 (fun cc => ?_) (fun cc => ?_)⟩
        · have c0 : hk h i r < k := of_decide_eq_true cc
          refine ⟨_, rfl, _, u1', by rw [hv_len]; exact small1000 (by omega), ?_, Ex.mut e78 hD⟩
          rw [upd_same, lt1_next, if_pos c0, hv_snoc]
        · have c0 : ¬ hk h i r < k := fun z => cc (decide_eq_true z)
          refine ⟨?_, e78⟩
          rw [lt1_next, if_neg c0, List.append_nil]
          exact u1'
      · obtain ⟨u1, u2⟩ := hp7
        rw [Int.toNat_natCast] at u1
        refine ⟨Dl, _, rfl, .inl (SqL.of u1), Lp, _, _, rfl, rfl, u2 _ _ w1, ?_, _, rfl, ?_, Ex.mut (w3.trans u2) hLp⟩
        · rw [List.length_map, ltL_len]
          exact small1000 (by omega)
        · rw [upd_same, hv_len, ltL_next, List.map_append]
          rfl
    · obtain ⟨y3, rfl, w1, w3⟩ := hp
      rw [hv_len, Int.toNat_natCast] at w1
      exact ⟨_, rfl, q Lp _ w3 w1⟩
end
end K1

namespace K1
open PySem PySem.Spec PyProof.Rows L2 Evl HM LX ZW TE
theorem set_sum : ∀ (l : List Int) (j : Nat) (x : Int), j < l.length → (l.set j x).sum = l.sum - l.getD j 0 + x
  | [], _, _, h => absurd h (Nat.not_lt_zero _)
  | a :: r, 0, x, _ => by
    simp only [List.set_cons_zero, List.sum_cons, List.getD_cons_zero]
    omega
  | a :: r, j + 1, x, h => by
    have := set_sum r j x (by simpa using h)
    simp only [List.set_cons_succ, List.sum_cons, List.getD_cons_succ]
    omega
theorem mod_lt {k n : Int} {m : Nat} (hk : 0 < k) (hm : (m : Int) = k) : (n % k).toNat < m := by
  have := Int.emod_lt_of_pos n hk
  have := Int.emod_nonneg n (show k ≠ 0 by omega)
  omega
theorem bump_sum {l : List Int} {k : Int} (z d : Int) (hk : 0 < k) (hl : (l.length : Int) = k) : (bump l k z d).sum = l.sum + d := by
  unfold bump
  rw [set_sum _ _ _ (mod_lt hk hl)]
  omega
theorem up_sum {k : Int} (hk : 0 < k) : ∀ (bs l : List Int), (l.length : Int) = k → (up k bs l).sum = l.sum + ((bs.filter fun b => decide (0 ≤ b)).length : Int)
  | [], l, _ => by
    show l.sum = _
    simp
  | b :: r, l, hl => by
    show (up k r (upF k l b)).sum = _
    rw [up_sum hk r (upF k l b) (by rw [upF_len]; exact hl)]
    unfold upF
    by_cases c : 0 ≤ b
    · rw [if_pos c, bump_sum _ _ hk hl]
      simp [c]
      omega
    · rw [if_neg c]
      simp [c]
theorem dn_sum {h : List Nat} {k : Int} (hk : 0 < k) {l : List Int} (hl : (l.length : Int) = k) : ∀ n : Nat, (dn h k n l).sum = l.sum - (((List.range n).filter fun (m : Nat) => !decide ((m : Int) - (h.length : Int) ∈ beadsL h)).length : Int)
  | 0 => by
    show l.sum = _
    simp
  | n + 1 => by
    rw [dn_next]
    unfold dnF
    rw [List.range_succ, List.filter_append, List.length_append]
    have ih := dn_sum (h := h) hk hl n
    by_cases c : (n : Int) - (h.length : Int) ∈ beadsL h
    · rw [if_pos c, ih]
      simp [c]
    · rw [if_neg c, bump_sum _ _ hk (by rw [dn_len]; exact hl), ih]
      simp [c]
      omega
theorem bead_count {h : List Nat} (IH : IsHeap h) : ((beadsL h).filter fun b => decide (0 ≤ b)).length = ((List.range h.length).filter fun (m : Nat) => !decide ((m : Int) - (h.length : Int) ∈ beadsL h)).length := by
  have bl : (beadsL h).length = h.length := by unfold beadsL; rw [List.length_map, List.length_range]
  have p1 : ∀ (l : List Int) (f : Int → Bool), (l.filter f).length + (l.filter fun b => !f b).length = l.length := fun l f => by
    induction l with
    | nil => rfl
    | cons a r ih =>
      cases e : f a <;> simp [e] <;> omega
  have p2 : ∀ (l : List Nat) (f : Nat → Bool), (l.filter f).length + (l.filter fun b => !f b).length = l.length := fun l f => by
    induction l with
    | nil => rfl
    | cons a r ih =>
      cases e : f a <;> simp [e] <;> omega
  have a1 := p1 (beadsL h) (fun b => decide (0 ≤ b))
  have a2 := p2 (List.range h.length) (fun (m : Nat) => decide ((m : Int) - (h.length : Int) ∈ beadsL h))
  rw [bl] at a1
  rw [List.length_range] at a2
  have e : ((beadsL h).filter fun b => !decide (0 ≤ b)).Perm (((List.range h.length).filter fun (m : Nat) => decide ((m : Int) - (h.length : Int) ∈ beadsL h)).map fun (m : Nat) => (m : Int) - (h.length : Int)) := by
    refine (List.perm_ext_iff_of_nodup ((beads_nd IH).filter _) ?_).mpr fun b => ?_
    · refine List.pairwise_map.mpr ((List.nodup_range.filter _).imp fun {x y} hne e => hne ?_)
      have e' : (x : Int) - (h.length : Int) = (y : Int) - (h.length : Int) := e
      omega
    · rw [List.mem_filter, List.mem_map]
      constructor
      · rintro ⟨hb, hn⟩
        obtain ⟨c, hc, rfl⟩ := mem_beads.mp hb
        have pos := IH.1 c hc
        have lt : ¬ 0 ≤ bead h c := by simpa using hn
        have ge : -(h.length : Int) ≤ bead h c := by
          unfold bead
          omega
        refine ⟨(bead h c + h.length).toNat, List.mem_filter.mpr ⟨List.mem_range.mpr (by omega), ?_⟩, by omega⟩
        rw [show (((bead h c + h.length).toNat : Nat) : Int) - (h.length : Int) = bead h c by omega]
        exact decide_eq_true hb
      · rintro ⟨m, hm, rfl⟩
        obtain ⟨h1, h2⟩ := List.mem_filter.mp hm
        have := List.mem_range.mp h1
        refine ⟨of_decide_eq_true h2, ?_⟩
        rw [decide_eq_false (by omega)]
        rfl
  have l1 := e.length_eq
  rw [List.length_map] at l1
  omega
theorem ch_len {h : List Nat} {k : Int} (hk : 0 ≤ k) : ((chL h k).length : Int) = k := by
  unfold chL
  rw [dn_len, up_len]
  exact zs_len hk
theorem ch_sum {h : List Nat} (IH : IsHeap h) {k : Int} (hk : 0 < k) : (chL h k).sum = 0 := by
  have z0 : (zs k).sum = 0 := by
    unfold zs
    simp
  have zl := zs_len (k := k) (by omega)
  unfold chL
  rw [dn_sum hk (by rw [up_len]; exact zl), up_sum hk _ _ zl, z0, bead_count IH]
  omega
end K1

namespace K1
open HM
/-- the beads of all columns, those beyond the heap too -/
def inB (h : List Nat) (z : Int) : Prop := ∃ c : Nat, z = bead h c
theorem bead_out {h : List Nat} {c : Nat} (hc : h.length ≤ c) : bead h c = -(c : Int) - 1 := by
  unfold bead
  rw [hAt_ge hc]
  omega
theorem inB_iff {h : List Nat} (z : Int) : inB h z ↔ isB h z ∨ z < -(h.length : Int) := by
  constructor
  · rintro ⟨c, rfl⟩
    by_cases hc : c < h.length
    · exact .inl ⟨c, hc, rfl⟩
    · rw [bead_out (by omega)]
      exact .inr (by omega)
  · rintro (⟨c, _, rfl⟩ | hz)
    · exact ⟨c, rfl⟩
    · exact ⟨(-z - 1).toNat, by rw [bead_out (by omega)]; omega⟩
theorem core_inB {h : List Nat} {k : Int} (hk : 0 ≤ k) : coreB h k ↔ ∀ z, inB h z → inB h (z - k) := by
  constructor
  · intro C z hz
    rcases (inB_iff z).mp hz with ⟨c, hc, rfl⟩ | hz
    · exact (inB_iff _).mpr (C c hc)
    · exact (inB_iff _).mpr (.inr (by omega))
  · intro a c hc
    exact (inB_iff _).mp (a _ ⟨c, rfl⟩)
theorem bead_lt {h : List Nat} (IH : IsHeap h) {c d : Nat} (hcd : c < d) : bead h d < bead h c := by
  have := IH.le (show c ≤ d by omega)
  unfold bead
  omega
theorem opn_inB {h : List Nat} (IH : IsHeap h) (c : Nat) : opn h c = true ↔ ¬ inB h (bead h c + 1) := by
  have key : opn h c = true ↔ (c = 0 ∨ hAt h c < hAt h (c - 1)) := by
    unfold opn
    simp
  rw [key]
  constructor
  · rintro o ⟨d, hd⟩
    rcases Nat.lt_trichotomy d c with z | z | z
    · rcases o with o | o
      · omega
      · have := IH.le (show d ≤ c - 1 by omega)
        unfold bead at hd
        omega
    · subst z
      omega
    · have := bead_lt IH z
      omega
  · intro o
    by_cases z : c = 0
    · exact .inl z
    · refine .inr ?_
      have := IH.le (show c - 1 ≤ c by omega)
      rcases Nat.lt_or_ge (hAt h c) (hAt h (c - 1)) with y | y
      · exact y
      · exfalso
        apply o
        refine ⟨c - 1, ?_⟩
        unfold bead
        omega
theorem bead_grow {h : List Nat} {g : Nat → Bool} (hg : ∀ c, g c = true → opn h c = true) (c : Nat) : bead (grow h g) c = bead h c + (b2n (g c) : Int) := by
  unfold bead
  rw [hAt_grow hg]
  omega
theorem dg_bead (h : List Nat) (c : Nat) : dg h c = -(bead h c) - 1 := by
  unfold dg bead
  omega

/-! ### sums -/
def sm : Nat → (Nat → Int) → Int
  | 0, _ => 0
  | n + 1, f => sm n f + f n
theorem sm_congr {f g : Nat → Int} : ∀ {n : Nat}, (∀ i, i < n → f i = g i) → sm n f = sm n g
  | 0, _ => rfl
  | n + 1, h => by
    show sm n f + f n = sm n g + g n
    rw [sm_congr (n := n) (fun i hi => h i (by omega)), h n (by omega)]
theorem sm_add (f g : Nat → Int) : ∀ n : Nat, sm n (fun i => f i + g i) = sm n f + sm n g
  | 0 => rfl
  | n + 1 => by
    show sm n (fun i => f i + g i) + (f n + g n) = sm n f + f n + (sm n g + g n)
    rw [sm_add f g n]
    omega
theorem sm_zero : ∀ n : Nat, sm n (fun _ => 0) = 0
  | 0 => rfl
  | n + 1 => by
    show sm n (fun _ => 0) + 0 = 0
    rw [sm_zero n]
    rfl
theorem sm_swap (f : Nat → Nat → Int) (m : Nat) : ∀ n : Nat, sm n (fun i => sm m (fun j => f i j)) = sm m (fun j => sm n (fun i => f i j))
  | 0 => (sm_zero m).symm
  | n + 1 => by
    show sm n (fun i => sm m (fun j => f i j)) + sm m (fun j => f n j) = sm m (fun j => sm n (fun i => f i j) + f n j)
    rw [sm_swap f m n, ← sm_add]
theorem sm_pick (f : Nat → Int) {i : Nat} : ∀ {n : Nat}, i < n → sm n f = f i + sm n (fun x => if x = i then 0 else f x)
  | 0, h => absurd h (Nat.not_lt_zero _)
  | n + 1, h => by
    show sm n f + f n = f i + (sm n (fun x => if x = i then 0 else f x) + (if n = i then 0 else f n))
    by_cases e : i = n
    · subst e
      rw [if_pos rfl, sm_congr (n := i) (g := fun x => if x = i then 0 else f x) (fun j hj => (if_neg (show ¬ j = i by omega)).symm)]
      omega
    · rw [if_neg (show ¬ n = i by omega), sm_pick f (i := i) (n := n) (by omega)]
      omega
theorem sm_pick2 (f : Nat → Int) {i j n : Nat} (hi : i < n) (hj : j < n) (hij : i ≠ j) : sm n f = f i + f j + sm n (fun x => if x = i ∨ x = j then 0 else f x) := by
  rw [sm_pick f hi, sm_pick (fun x => if x = i then 0 else f x) hj]
  show f i + ((if j = i then 0 else f j) + _) = _
  rw [if_neg (by omega), sm_congr (g := fun x => if x = i ∨ x = j then 0 else f x) (fun x _ => ?_)]
  · omega
  · by_cases a : x = i <;> by_cases b : x = j <;> simp [a, b]
theorem sm_split (f : Nat → Int) (m : Nat) : ∀ n : Nat, sm (m + n) f = sm m f + sm n (fun i => f (m + i))
  | 0 => by show sm m f = sm m f + 0; omega
  | n + 1 => by
    show sm (m + n) f + f (m + n) = sm m f + (sm n (fun i => f (m + i)) + f (m + n))
    rw [sm_split f m n]
    omega
theorem sm_front (f : Nat → Int) : ∀ n : Nat, sm (n + 1) f = f 0 + sm n (fun i => f (i + 1))
  | 0 => by show 0 + f 0 = f 0 + 0; omega
  | n + 1 => by
    show sm (n + 1) f + f (n + 1) = f 0 + (sm n (fun i => f (i + 1)) + f (n + 1))
    rw [sm_front f n]
    omega
theorem sm_rev (f : Nat → Int) : ∀ n : Nat, sm n f = sm n (fun i => f (n - 1 - i))
  | 0 => rfl
  | n + 1 => by
    rw [sm_front (fun i => f (n + 1 - 1 - i)) n]
    show sm n f + f n = f (n + 1 - 1 - 0) + sm n (fun i => f (n + 1 - 1 - (i + 1)))
    rw [show n + 1 - 1 - 0 = n by omega, sm_rev f n, sm_congr (g := fun i => f (n + 1 - 1 - (i + 1))) (fun i hi => by
      show f (n - 1 - i) = f (n + 1 - 1 - (i + 1))
      rw [show n - 1 - i = n + 1 - 1 - (i + 1) by omega])]
    omega
theorem sm_cls {n k : Nat} (cls : Nat → Nat) (g : Nat → Int) (h : ∀ i, i < n → cls i < k) : sm n g = sm k (fun r => sm n (fun i => if cls i = r then g i else 0)) := by
  rw [← sm_swap (fun i r => if cls i = r then g i else 0) k n]
  refine sm_congr fun i hi => ?_
  rw [sm_pick (fun r => if cls i = r then g i else 0) (h i hi), sm_congr (g := fun _ => 0) (fun x _ => ?_), sm_zero, if_pos rfl]
  · omega
  · show (if x = cls i then 0 else if cls i = x then g i else 0) = 0
    by_cases e : x = cls i
    · rw [if_pos e]
    · rw [if_neg e, if_neg (fun z => e z.symm)]
theorem sm_cnt (p : Nat → Bool) : ∀ n : Nat, (((List.range n).filter p).length : Int) = sm n (fun i => if p i = true then 1 else 0)
  | 0 => rfl
  | n + 1 => by
    show _ = sm n (fun i => if p i = true then 1 else 0) + (if p n = true then 1 else 0)
    rw [← sm_cnt p n, List.range_succ, List.filter_append, List.length_append]
    by_cases e : p n = true
    · rw [if_pos e]
      simp [e]
    · rw [if_neg e]
      simp [e]
theorem sm_sum (f : Nat → Int) : ∀ n : Nat, ((List.range n).map f).sum = sm n f
  | 0 => rfl
  | n + 1 => by
    show _ = sm n f + f n
    rw [List.range_succ, List.map_append, List.sum_append, sm_sum f n]
    simp
theorem cnt_bij {n m : Nat} {p q : Nat → Bool} (φ : Nat → Nat) (inj : ∀ i j, i < n → j < n → p i = true → p j = true → φ i = φ j → i = j) (to : ∀ i, i < n → p i = true → φ i < m ∧ q (φ i) = true) (on : ∀ j, j < m → q j = true → ∃ i, i < n ∧ p i = true ∧ φ i = j) : ((List.range n).filter p).length = ((List.range m).filter q).length := by
  rw [← List.length_map (f := φ)]
  refine List.Perm.length_eq ((List.perm_ext_iff_of_nodup ?_ (List.nodup_range.filter _)).mpr fun j => ?_)
  · refine List.pairwise_map.mpr (List.Pairwise.imp ?_ (List.Pairwise.and_mem.mp ((List.nodup_range (n := n)).filter p)))
    rintro x y ⟨hx, hy, ne⟩ e
    obtain ⟨hx1, hx2⟩ := List.mem_filter.mp hx
    obtain ⟨hy1, hy2⟩ := List.mem_filter.mp hy
    exact ne (inj x y (List.mem_range.mp hx1) (List.mem_range.mp hy1) hx2 hy2 e)
  · rw [List.mem_map, List.mem_filter, List.mem_range]
    constructor
    · rintro ⟨i, hi, rfl⟩
      obtain ⟨h1, h2⟩ := List.mem_filter.mp hi
      exact to i (List.mem_range.mp h1) h2
    · rintro ⟨h1, h2⟩
      obtain ⟨i, hi, hp, e⟩ := on j h1 h2
      exact ⟨i, List.mem_filter.mpr ⟨List.mem_range.mpr hi, hp⟩, e⟩
theorem cnt_all (n : Nat) : ((List.range n).filter fun _ => true).length = n := by
  rw [List.filter_eq_self.mpr (fun _ _ => rfl), List.length_range]
end K1

namespace K1
open HM
/-! ### runners of a core -/
/-- the beads of each rest are those with a quotient below a number -/
def fl (h : List Nat) (k : Int) (a : Nat → Int) : Prop := ∀ z, inB h z ↔ z / k < a (z % k).toNat
theorem inB_low {h : List Nat} {z : Int} (hz : z < -(h.length : Int)) : inB h z := (inB_iff z).mpr (.inr hz)
theorem bead_top {h : List Nat} (IH : IsHeap h) (c : Nat) : bead h c < (hAt h 0 : Int) := by
  have := IH.le (Nat.zero_le c)
  unfold bead
  omega
theorem inB_top {h : List Nat} (IH : IsHeap h) {z : Int} (hz : inB h z) : z < (hAt h 0 : Int) := by
  obtain ⟨c, rfl⟩ := hz
  exact bead_top IH c
theorem inB_down {h : List Nat} {k : Int} (hk : 0 ≤ k) (C : coreB h k) {z : Int} (hz : inB h z) : ∀ m : Nat, inB h (z - (m : Int) * k)
  | 0 => by rw [show z - ((0 : Nat) : Int) * k = z by rw [show ((0 : Nat) : Int) = 0 from rfl, Int.zero_mul]; omega]; exact hz
  | m + 1 => by
    have := (core_inB hk).mp C _ (inB_down hk C hz m)
    rw [show z - ((m + 1 : Nat) : Int) * k = z - (m : Int) * k - k by rw [show ((m + 1 : Nat) : Int) = (m : Int) + 1 by omega, Int.add_mul, Int.one_mul]; omega]
    exact this
theorem fl_ex {h : List Nat} (IH : IsHeap h) {k : Int} (hk : 1 ≤ k) (C : coreB h k) : ∃ a, fl h k a := by
  have key : ∀ r : Int, ∃ t : Int, ∀ u : Int, inB h (r + u * k) ↔ u < t := fun r => by
    -- the least quotient without a bead
    have up : ∀ u : Int, inB h (r + u * k) → ∀ v, v ≤ u → inB h (r + v * k) := fun u hu v hv => by
      have := inB_down (by omega) C hu (u - v).toNat
      rw [Int.toNat_of_nonneg (by omega), Int.sub_mul] at this
      rw [show r + v * k = r + u * k - (u * k - v * k) by omega]
      exact this
    have lo : ∃ L : Int, inB h (r + L * k) := by
      refine ⟨-(h.length : Int) - 1 - r.natAbs, inB_low ?_⟩
      have : (-(h.length : Int) - 1 - (r.natAbs : Int)) * k ≤ (-(h.length : Int) - 1 - (r.natAbs : Int)) * 1 := Int.mul_le_mul_of_nonpos_left (by omega) hk
      omega
    have hi : ∃ U : Int, ¬ inB h (r + U * k) := by
      refine ⟨(hAt h 0 : Int) + r.natAbs, fun z => ?_⟩
      have := inB_top IH z
      have : ((hAt h 0 : Int) + (r.natAbs : Int)) * 1 ≤ ((hAt h 0 : Int) + (r.natAbs : Int)) * k := Int.mul_le_mul_of_nonneg_left hk (by omega)
      omega
    obtain ⟨L, hL⟩ := lo
    obtain ⟨U, hU⟩ := hi
    have lu : L < U := by
      rcases Int.lt_or_le L U with q | q
      · exact q
      · exact absurd (up L hL U q) hU
    -- go up from L
    have st : ∀ n : Nat, (∀ v : Int, v ≤ L + n → inB h (r + v * k)) ∨ ∃ t : Int, ∀ u : Int, inB h (r + u * k) ↔ u < t := fun n => by
      induction n with
      | zero => exact .inl fun v hv => up L hL v (by omega)
      | succ n ih =>
        rcases ih with ih | ih
        · by_cases b : inB h (r + (L + (n + 1 : Nat)) * k)
          · exact .inl fun v hv => up _ b v hv
          · refine .inr ⟨L + (n + 1 : Nat), fun u => ⟨fun hu => ?_, fun hu => ih u (by omega)⟩⟩
            rcases Int.lt_or_le u (L + (n + 1 : Nat)) with q | q
            · exact q
            · exact absurd (up u hu _ q) b
        · exact .inr ih
    rcases st (U - L).toNat with q | q
    · exact absurd (q U (by omega)) hU
    · exact q
  refine ⟨fun x => (key x).choose, fun z => ?_⟩
  have := (key ((z % k).toNat : Int)).choose_spec (z / k)
  rw [← this]
  have e := Int.emod_nonneg z (show k ≠ 0 by omega)
  rw [Int.toNat_of_nonneg e, Int.emod_add_ediv_mul]
theorem fl_core {h : List Nat} {k : Int} (hk : 1 ≤ k) {a : Nat → Int} (F : fl h k a) : coreB h k := by
  rw [core_inB (by omega)]
  intro z hz
  have a1 := (F z).mp hz
  refine (F _).mpr ?_
  rw [Int.sub_emod_right, Int.sub_ediv_of_dvd _ (Int.dvd_refl k), Int.ediv_self (by omega)]
  omega
def ho (k : Int) (a : Nat → Int) (z : Int) : Bool := decide (a (z % k).toNat ≤ z / k)
theorem ho_iff {h : List Nat} {k : Int} {a : Nat → Int} (F : fl h k a) (z : Int) : ho k a z = true ↔ ¬ inB h z := by
  unfold ho
  rw [decide_eq_true_eq, F z]
  omega
/-- the squares of a column with a hook below k, by its holes -/
theorem col_part {h : List Nat} (IH : IsHeap h) {k : Int} (k1 : 1 ≤ k) {a : Nat → Int} (F : fl h k a) (c : Nat) : ((List.range (hAt h c)).filter fun r => decide (hk h c r < k)).length = ((List.range k.toNat).filter fun d => ho k a (bead h c - (d : Nat))).length := by
  have hkb : ∀ r : Nat, hk h c r = bead h c - ((r : Int) - (lamr h r : Int)) := fun r => by
    unfold hk bead
    omega
  have nb : ∀ r : Nat, ¬ inB h ((r : Int) - (lamr h r : Int)) := fun r z => by
    rcases (inB_iff _).mp z with z | z
    · exact no_both IH z
    · exact not_low IH z
  refine cnt_bij (fun r => (hk h c r).toNat) (fun i j hi hj _ _ e => ?_) (fun r hr p => ?_) (fun d hd p => ?_)
  · have pi : c < lamr h i := (conj_iff IH c i).mpr hi
    have pj : c < lamr h j := (conj_iff IH c j).mpr hj
    have ei := hkb i
    have ej := hkb j
    have e' : (hk h c i).toNat = (hk h c j).toNat := e
    have li : 0 ≤ hk h c i := by unfold hk; omega
    have lj : 0 ≤ hk h c j := by unfold hk; omega
    have ee : (i : Int) - (lamr h i : Int) = (j : Int) - (lamr h j : Int) := by omega
    rcases Nat.lt_trichotomy i j with q | q | q
    · have := (conj_heap IH).le (Nat.le_of_lt q)
      unfold lamr at ee
      omega
    · exact q
    · have := (conj_heap IH).le (Nat.le_of_lt q)
      unfold lamr at ee
      omega
  · have pr : c < lamr h r := (conj_iff IH c r).mpr hr
    have l0 : 0 ≤ hk h c r := by unfold hk; omega
    have lk : hk h c r < k := of_decide_eq_true p
    refine ⟨by omega, ?_⟩
    rw [ho_iff F, Int.toNat_of_nonneg l0, hkb r, show bead h c - (bead h c - ((r : Int) - (lamr h r : Int))) = (r : Int) - (lamr h r : Int) by omega]
    exact nb r
  · rw [ho_iff F] at p
    have p2 := fun z => p ((inB_iff _).mpr z)
    obtain ⟨r, hr⟩ := hole IH (z := bead h c - (d : Int)) (by
      rcases Int.lt_or_le (bead h c - (d : Int)) (-(h.length : Int)) with q | q
      · exact absurd (.inr q) p2
      · exact q) (fun z => p2 (.inl z))
    have kk := conj_iff IH c r
    have d0 : (d : Nat) ≠ 0 := fun z => by
      apply p
      rw [z]
      exact ⟨c, by omega⟩
    have lr : r < hAt h c := by
      rcases Nat.lt_or_ge r (hAt h c) with g | g
      · exact g
      · exfalso
        have : ¬ c < lamr h r := fun z => absurd (kk.mp z) (by omega)
        unfold bead at hr
        omega
    have e := hkb r
    refine ⟨r, lr, decide_eq_true (by omega), ?_⟩
    show (hk h c r).toNat = d
    omega
/-! ### letters: the squares with hooks below k, by the charges -/
def lw (a : Nat → Int) (r s : Nat) : Int := max 0 (a r - a s - (if r < s then 1 else 0))
def LS (n : Nat) (a : Nat → Int) : Int := sm n fun r => sm n fun s => lw a r s
def rd (n r d : Nat) : Nat := if d ≤ r then r - d else r + n - d
theorem rd_lt {n r d : Nat} (hr : r < n) (hd : d < n) : rd n r d < n := by
  unfold rd
  split <;> omega
theorem rd_sm (G : Nat → Int) {n r : Nat} (hr : r < n) : sm n (fun d => G (rd n r d)) = sm n G := by
  obtain ⟨m, rfl⟩ : ∃ m, n = (r + 1) + m := ⟨n - (r + 1), by omega⟩
  rw [sm_split (fun d => G (rd (r + 1 + m) r d)), sm_split G, sm_rev G (r + 1), sm_rev (fun i => G (r + 1 + i)) m]
  congr 1
  · refine sm_congr fun d hd => ?_
    unfold rd
    rw [if_pos (by omega)]
    rfl
  · refine sm_congr fun d hd => ?_
    unfold rd
    show G _ = G _
    rw [if_neg (by omega)]
    congr 1
    omega
theorem divmod {k z t x : Int} (hk : 0 < k) (h0 : 0 ≤ x) (h1 : x < k) (e : z = x + k * t) : z / k = t ∧ z % k = x := by
  subst e
  exact ⟨by rw [Int.add_mul_ediv_left _ _ (by omega), Int.ediv_eq_zero_of_lt h0 h1, Int.zero_add], by rw [Int.add_mul_emod_self_left, Int.emod_eq_of_lt h0 h1]⟩
/-- beads at one rest whose place d below is a hole -/
theorem run_cnt {h : List Nat} (IH : IsHeap h) {k : Int} (k1 : 1 ≤ k) {a : Nat → Int} (F : fl h k a) {d r : Nat} (hd : d < k.toNat) (hr : r < k.toNat) : ((List.range h.length).filter fun c => decide ((bead h c % k).toNat = r) && ho k a (bead h c - (d : Nat))).length = (lw a r (rd k.toNat r d)).toNat := by
  have low : ∀ t : Int, (((r : Int) + k * t) - (d : Int)) / k = t - (if r < rd k.toNat r d then 1 else 0) ∧ ((((r : Int) + k * t) - (d : Int)) % k).toNat = rd k.toNat r d := fun t => by
    unfold rd
    by_cases q : d ≤ r
    · rw [if_pos q, if_neg (by omega)]
      obtain ⟨e1, e2⟩ := divmod (k := k) (z := (r : Int) + k * t - (d : Int)) (t := t) (x := (r : Int) - d) (by omega) (by omega) (by omega) (by omega)
      rw [e1, e2]
      omega
    · rw [if_neg q, if_pos (by omega)]
      obtain ⟨e1, e2⟩ := divmod (k := k) (z := (r : Int) + k * t - (d : Int)) (t := t - 1) (x := (r : Int) + k - d) (by omega) (by omega) (by omega) (by rw [Int.mul_sub]; omega)
      rw [e1, e2]
      omega
  have bd : ∀ c, (bead h c % k).toNat = r → bead h c = (r : Int) + k * (bead h c / k) := fun c e => by
    have := Int.emod_add_mul_ediv (bead h c) k
    have := Int.emod_nonneg (bead h c) (show k ≠ 0 by omega)
    omega
  have q2 := cnt_bij (n := h.length) (m := (lw a r (rd k.toNat r d)).toNat) (p := fun c => decide ((bead h c % k).toNat = r) && ho k a (bead h c - (d : Nat))) (q := fun _ => true) (fun c => (bead h c / k - (a (rd k.toNat r d) + (if r < rd k.toNat r d then 1 else 0))).toNat) ?_ ?_ ?_
  · rw [q2, cnt_all]
  · intro i j hi hj pi pj e
    obtain ⟨pi1, pi2⟩ := Bool.and_eq_true_iff.mp pi
    obtain ⟨pj1, pj2⟩ := Bool.and_eq_true_iff.mp pj
    have bi := bd i (of_decide_eq_true pi1)
    have bj := bd j (of_decide_eq_true pj1)
    have li := low (bead h i / k)
    have lj := low (bead h j / k)
    rw [← bi] at li
    rw [← bj] at lj
    have hi2 := of_decide_eq_true pi2
    have hj2 := of_decide_eq_true pj2
    rw [li.2, li.1] at hi2
    rw [lj.2, lj.1] at hj2
    have e' : (bead h i / k - (a (rd k.toNat r d) + (if r < rd k.toNat r d then 1 else 0))).toNat = (bead h j / k - (a (rd k.toNat r d) + (if r < rd k.toNat r d then 1 else 0))).toNat := e
    have ee : bead h i / k = bead h j / k := by omega
    rw [ee] at bi
    rcases Nat.lt_trichotomy i j with q | q | q
    · have := bead_lt IH q
      omega
    · exact q
    · have := bead_lt IH q
      omega
  · intro c hc p
    obtain ⟨p1, p2⟩ := Bool.and_eq_true_iff.mp p
    have p1' := of_decide_eq_true p1
    have b := bd c p1'
    have l := low (bead h c / k)
    rw [← b] at l
    have h2 := of_decide_eq_true p2
    rw [l.2, l.1] at h2
    have up := (F (bead h c)).mp ⟨c, rfl⟩
    rw [p1'] at up
    refine ⟨?_, rfl⟩
    show (bead h c / k - _).toNat < _
    unfold lw
    omega
  · intro j hj _
    unfold lw at hj
    have l := low (j + a (rd k.toNat r d) + (if r < rd k.toNat r d then 1 else 0))
    obtain ⟨m1, m2⟩ := divmod (k := k) (z := (r : Int) + k * (j + a (rd k.toNat r d) + (if r < rd k.toNat r d then 1 else 0))) (by omega) (by omega) (by omega) rfl
    have isb : inB h ((r : Int) + k * (j + a (rd k.toNat r d) + (if r < rd k.toNat r d then 1 else 0))) := by
      rw [F, m1, m2, Int.toNat_natCast]
      omega
    have ish : ho k a ((r : Int) + k * (j + a (rd k.toNat r d) + (if r < rd k.toNat r d then 1 else 0)) - (d : Int)) = true := by
      unfold ho
      rw [l.1, l.2]
      exact decide_eq_true (by omega)
    have nish := (ho_iff F _).mp ish
    obtain ⟨c, hc⟩ := isb
    have cl : c < h.length := by
      rcases Nat.lt_or_ge c h.length with q | q
      · exact q
      · exfalso
        apply nish
        refine inB_low ?_
        rw [hc, bead_out q]
        rcases Nat.eq_zero_or_pos d with z | z
        · subst z
          exfalso
          rw [hc, show bead h c - ((0 : Nat) : Int) = bead h c by omega] at nish
          exact nish ⟨c, rfl⟩
        · omega
    refine ⟨c, cl, ?_, ?_⟩
    · rw [Bool.and_eq_true_iff]
      rw [← hc]
      exact ⟨decide_eq_true (by rw [m2]; omega), ish⟩
    · show (bead h c / k - _).toNat = j
      rw [← hc, m1]
      omega
end K1

namespace K1
open HM
def lts (h : List Nat) (k : Int) : Int := sm h.length fun c => (((List.range (hAt h c)).filter fun r => decide (hk h c r < k)).length : Int)
theorem lts_LS {h : List Nat} (IH : IsHeap h) {k : Int} (k1 : 1 ≤ k) {a : Nat → Int} (F : fl h k a) : lts h k = LS k.toNat a := by
  unfold lts
  rw [sm_congr (n := h.length) (g := fun c => sm k.toNat fun d => if ho k a (bead h c - (d : Nat)) = true then 1 else 0) (fun c _ => by
    rw [col_part IH k1 F c, sm_cnt]), sm_swap]
  have step : ∀ d, d < k.toNat → sm h.length (fun c => if ho k a (bead h c - (d : Nat)) = true then 1 else 0) = sm k.toNat fun r => lw a r (rd k.toNat r d) := fun d hd => by
    rw [sm_cls (k := k.toNat) (fun c => (bead h c % k).toNat) _ (fun c _ => by
      have := Int.emod_lt_of_pos (bead h c) (show 0 < k by omega)
      have := Int.emod_nonneg (bead h c) (show k ≠ 0 by omega)
      omega)]
    refine sm_congr fun r hr => ?_
    have e := run_cnt IH k1 F hd hr
    have p0 : 0 ≤ lw a r (rd k.toNat r d) := by unfold lw; omega
    rw [← Int.toNat_of_nonneg p0, ← e, sm_cnt]
    refine sm_congr fun c _ => ?_
    show (if (bead h c % k).toNat = r then (if ho k a (bead h c - (d : Nat)) = true then (1 : Int) else 0) else 0) = _
    by_cases q : (bead h c % k).toNat = r
    · rw [if_pos q, decide_eq_true q, Bool.true_and]
    · rw [if_neg q, decide_eq_false q, Bool.false_and, if_neg (by decide)]
  rw [sm_congr step, sm_swap]
  refine sm_congr fun r hr => ?_
  exact rd_sm (fun s => lw a r s) hr
/-! ### a letter -/
/-- what a letter makes of charges: at rests p and s (the next one) -/
def lt2 (a : Nat → Int) (p s : Nat) (e : Int) (x : Nat) : Int := if x = p then min (a p) (a s - e) else if x = s then max (a p + e) (a s) else a x
theorem LS_pick (a : Nat → Int) {n p s : Nat} (hp : p < n) (hs : s < n) (ps : p ≠ s) : LS n a = lw a p p + lw a p s + lw a s p + lw a s s + sm n (fun x => if x = p ∨ x = s then 0 else lw a p x + lw a s x) + sm n (fun x => if x = p ∨ x = s then 0 else lw a x p + lw a x s) + sm n (fun x => if x = p ∨ x = s then 0 else sm n fun y => if y = p ∨ y = s then 0 else lw a x y) := by
  unfold LS
  rw [sm_pick2 _ hp hs ps, sm_pick2 (fun y => lw a p y) hp hs ps, sm_pick2 (fun y => lw a s y) hp hs ps]
  have e1 : sm n (fun x => if x = p ∨ x = s then 0 else lw a p x + lw a s x) = sm n (fun x => if x = p ∨ x = s then 0 else lw a p x) + sm n (fun x => if x = p ∨ x = s then 0 else lw a s x) := by
    rw [← sm_add]
    refine sm_congr fun x _ => ?_
    by_cases q : x = p ∨ x = s
    · simp [q]
    · simp [q]
  have e2 : sm n (fun x => if x = p ∨ x = s then 0 else sm n fun y => lw a x y) = sm n (fun x => if x = p ∨ x = s then 0 else lw a x p + lw a x s) + sm n (fun x => if x = p ∨ x = s then 0 else sm n fun y => if y = p ∨ y = s then 0 else lw a x y) := by
    rw [← sm_add]
    refine sm_congr fun x _ => ?_
    by_cases q : x = p ∨ x = s
    · simp [q]
    · simp only [q, if_false]
      exact sm_pick2 (fun y => lw a x y) hp hs ps
  rw [e1, e2]
  omega
theorem LS_step {n p s : Nat} (hp : p < n) (hs : s < n) (e : Int) (he : (s = p + 1 ∧ e = 0) ∨ (p = n - 1 ∧ s = 0 ∧ e = 1 ∧ 2 ≤ n)) (a : Nat → Int) : LS n (lt2 a p s e) = LS n a + (if a p ≤ a s - e then 0 else 1) := by
  have ps : p ≠ s := by omega
  have vp : lt2 a p s e p = min (a p) (a s - e) := if_pos rfl
  have vs : lt2 a p s e s = max (a p + e) (a s) := by unfold lt2; rw [if_neg (Ne.symm ps), if_pos rfl]
  have vo : ∀ x, x ≠ p → x ≠ s → lt2 a p s e x = a x := fun x h1 h2 => by unfold lt2; rw [if_neg h1, if_neg h2]
  rw [LS_pick (lt2 a p s e) hp hs ps, LS_pick a hp hs ps]
  have c1 : sm n (fun x => if x = p ∨ x = s then 0 else lw (lt2 a p s e) p x + lw (lt2 a p s e) s x) = sm n (fun x => if x = p ∨ x = s then 0 else lw a p x + lw a s x) := by
    refine sm_congr fun x hx => ?_
    by_cases q : x = p ∨ x = s
    · simp [q]
    · simp only [q, if_false]
      unfold lw
      rw [vp, vs, vo x (fun z => q (.inl z)) (fun z => q (.inr z))]
      rcases he with ⟨h1, h2⟩ | ⟨h1, h2, h3, h4⟩
      · subst h2
        by_cases u : p < x
        · rw [if_pos u, if_pos (show s < x by omega)]
          omega
        · rw [if_neg u, if_neg (show ¬ s < x by omega)]
          omega
      · subst h3
        rw [if_neg (show ¬ p < x by omega), if_pos (show s < x by omega)]
        omega
  have c2 : sm n (fun x => if x = p ∨ x = s then 0 else lw (lt2 a p s e) x p + lw (lt2 a p s e) x s) = sm n (fun x => if x = p ∨ x = s then 0 else lw a x p + lw a x s) := by
    refine sm_congr fun x hx => ?_
    by_cases q : x = p ∨ x = s
    · simp [q]
    · simp only [q, if_false]
      unfold lw
      rw [vp, vs, vo x (fun z => q (.inl z)) (fun z => q (.inr z))]
      rcases he with ⟨h1, h2⟩ | ⟨h1, h2, h3, h4⟩
      · subst h2
        by_cases u : x < p
        · rw [if_pos u, if_pos (show x < s by omega)]
          omega
        · rw [if_neg u, if_neg (show ¬ x < s by omega)]
          omega
      · subst h3
        rw [if_pos (show x < p by omega), if_neg (show ¬ x < s by omega)]
        omega
  have c3 : sm n (fun x => if x = p ∨ x = s then 0 else sm n fun y => if y = p ∨ y = s then 0 else lw (lt2 a p s e) x y) = sm n (fun x => if x = p ∨ x = s then 0 else sm n fun y => if y = p ∨ y = s then 0 else lw a x y) := by
    refine sm_congr fun x hx => ?_
    by_cases q : x = p ∨ x = s
    · simp [q]
    · simp only [q, if_false]
      refine sm_congr fun y hy => ?_
      by_cases q2 : y = p ∨ y = s
      · simp [q2]
      · simp only [q2, if_false]
        unfold lw
        rw [vo x (fun z => q (.inl z)) (fun z => q (.inr z)), vo y (fun z => q2 (.inl z)) (fun z => q2 (.inr z))]
  rw [c1, c2, c3]
  have c4 : lw (lt2 a p s e) p p + lw (lt2 a p s e) p s + lw (lt2 a p s e) s p + lw (lt2 a p s e) s s = lw a p p + lw a p s + lw a s p + lw a s s + (if a p ≤ a s - e then 0 else 1) := by
    unfold lw
    rw [vp, vs]
    rcases he with ⟨h1, h2⟩ | ⟨h1, h2, h3, h4⟩
    · subst h2
      rw [if_pos (show p < s by omega), if_neg (show ¬ s < p by omega), if_neg (show ¬ p < p by omega), if_neg (show ¬ s < s by omega)]
      split <;> omega
    · subst h3
      rw [if_neg (show ¬ p < s by omega), if_pos (show s < p by omega), if_neg (show ¬ p < p by omega), if_neg (show ¬ s < s by omega)]
      split <;> omega
  omega
end K1

namespace K1
open HM
/-- where a letter acts: the rest of the beads that move, the next rest, and 1 where it goes round -/
def lp (k q : Int) : Nat := (k - 1 - q).toNat
def lq (k q : Int) : Nat := if q = 0 then 0 else (k - q).toNat
def le1 (q : Int) : Int := if q = 0 then 1 else 0
theorem letter_fl {h : List Nat} (IH : IsHeap h) {k q : Int} (hk : 2 ≤ k) (q0 : 0 ≤ q) (q1 : q < k) {a : Nat → Int} (F : fl h k a) {g : Nat → Bool} (hg : ∀ c, g c = true ↔ (opn h c = true ∧ (dg h c - q) % k = 0)) : fl (grow h g) k (lt2 a (lp k q) (lq k q) (le1 q)) ∧ (grow h g = h ↔ a (lp k q) ≤ a (lq k q) - le1 q) := by
  have go : ∀ c, g c = true → opn h c = true := fun c z => ((hg c).mp z).1
  have mvg : ∀ c, g c = true ↔ (¬ inB h (bead h c + 1) ∧ (-(bead h c) - 1 - q) % k = 0) := fun c => by
    rw [hg c, opn_inB IH, dg_bead]
  have rest : ∀ x t : Int, 0 ≤ x → x < k → ((-(x + k * t) - 1 - q) % k = 0 ↔ x = k - 1 - q) := fun x t h0 h1 => by
    constructor
    · intro e
      obtain ⟨m, hm⟩ := Int.dvd_of_emod_eq_zero e
      have e2 : x + 1 + q = k * (-t - m) := by
        rw [Int.mul_sub, Int.mul_neg]
        omega
      have m1 : -t - m = 1 := by
        rcases Int.lt_or_le (-t - m) 1 with z | z
        · have := Int.mul_le_mul_of_nonneg_left (show -t - m ≤ 0 by omega) (show 0 ≤ k by omega)
          omega
        · rcases Int.lt_or_le 1 (-t - m) with z2 | z2
          · have := Int.mul_le_mul_of_nonneg_left (show 2 ≤ -t - m by omega) (show 0 ≤ k by omega)
            omega
          · omega
      rw [m1] at e2
      omega
    · intro e
      rw [e]
      refine Int.emod_eq_zero_of_dvd ⟨-t - 1, ?_⟩
      rw [Int.mul_sub, Int.mul_neg]
      omega
  have inG : ∀ z, inB (grow h g) z ↔ ((inB h z ∧ ¬ (¬ inB h (z + 1) ∧ (-z - 1 - q) % k = 0)) ∨ (inB h (z - 1) ∧ ¬ inB h z ∧ (-z - q) % k = 0)) := fun z => by
    constructor
    · rintro ⟨c, rfl⟩
      rw [bead_grow go]
      by_cases gc : g c = true
      · have m := (mvg c).mp gc
        refine .inr ?_
        rw [gc, show ((b2n true : Nat) : Int) = 1 from rfl, show bead h c + 1 - 1 = bead h c by omega, show -(bead h c + 1) - q = -(bead h c) - 1 - q by omega]
        exact ⟨⟨c, rfl⟩, m⟩
      · have gf : g c = false := by simpa using gc
        refine .inl ?_
        rw [gf, show ((b2n false : Nat) : Int) = 0 from rfl, Int.add_zero]
        exact ⟨⟨c, rfl⟩, fun z => gc ((mvg c).mpr z)⟩
    · rintro (⟨⟨c, hc⟩, n⟩ | ⟨⟨c, hc⟩, n, m⟩)
      · refine ⟨c, ?_⟩
        rw [bead_grow go]
        have gf : g c = false := by
          by_cases gc : g c = true
          · exact absurd (hc ▸ (mvg c).mp gc) n
          · simpa using gc
        rw [gf, hc]
        show _ = _ + (0 : Int)
        omega
      · refine ⟨c, ?_⟩
        have gt : g c = true := (mvg c).mpr (by
          rw [← hc, show z - 1 + 1 = z by omega, show -(z - 1) - 1 - q = -z - q by omega]
          exact ⟨n, m⟩)
        rw [bead_grow go, gt, ← hc]
        show _ = _ + (1 : Int)
        omega
  have lpk : lp k q < k.toNat := by unfold lp; omega
  have bq : ∀ x t : Int, 0 ≤ x → x < k → (inB h (x + k * t) ↔ t < a x.toNat) := fun x t h0 h1 => by
    obtain ⟨e1, e2⟩ := divmod (k := k) (z := x + k * t) (by omega) h0 h1 rfl
    rw [F, e1, e2]
  refine ⟨fun z => ?_, ?_⟩
  · have zz : z = z % k + k * (z / k) := (Int.emod_add_mul_ediv z k).symm
    have x0 := Int.emod_nonneg z (show k ≠ 0 by omega)
    have x1 := Int.emod_lt_of_pos z (show 0 < k by omega)
    revert zz x0 x1
    generalize z % k = x
    generalize z / k = t
    intro zz x0 x1
    subst zz
    rw [inG]
    have B0 := bq x t x0 x1
    have up : inB h (x + k * t + 1) ↔ (if x = k - 1 then t + 1 < a 0 else t < a (x + 1).toNat) := by
      by_cases e : x = k - 1
      · rw [if_pos e, show x + k * t + 1 = 0 + k * (t + 1) by rw [Int.mul_add]; omega, bq 0 (t + 1) (by omega) (by omega)]
        rfl
      · rw [if_neg e, show x + k * t + 1 = (x + 1) + k * t by omega, bq (x + 1) t (by omega) (by omega)]
    have dn : inB h (x + k * t - 1) ↔ (if x = 0 then t - 1 < a (k - 1).toNat else t < a (x - 1).toNat) := by
      by_cases e : x = 0
      · rw [if_pos e, show x + k * t - 1 = (k - 1) + k * (t - 1) by rw [Int.mul_sub]; omega, bq (k - 1) (t - 1) (by omega) (by omega)]
      · rw [if_neg e, show x + k * t - 1 = (x - 1) + k * t by omega, bq (x - 1) t (by omega) (by omega)]
    have r1 := rest x t x0 x1
    have r2 : (-(x + k * t) - q) % k = 0 ↔ x = (if q = 0 then 0 else k - q) := by
      by_cases e : x = 0
      · have := rest (k - 1) (t - 1) (by omega) (by omega)
        rw [show -(k - 1 + k * (t - 1)) - 1 - q = -(x + k * t) - q by rw [Int.mul_sub]; omega] at this
        rw [this]
        split <;> omega
      · have := rest (x - 1) t (by omega) (by omega)
        rw [show -(x - 1 + k * t) - 1 - q = -(x + k * t) - q by omega] at this
        rw [this]
        split <;> omega
    rw [B0, up, dn, r1, r2]
    unfold lt2 lp lq le1
    by_cases hq : q = 0
    · subst hq
      rw [if_pos rfl, if_pos rfl, if_pos rfl]
      by_cases xp : x = k - 1
      · subst xp
        rw [if_pos rfl, if_pos (show (k - 1).toNat = (k - 1 - 0).toNat by omega), if_neg (show ¬ k - 1 = 0 by omega), show (k - 1 - 0).toNat = (k - 1).toNat by omega]
        omega
      · by_cases xs : x = 0
        · subst xs
          rw [if_neg xp, if_pos rfl, if_neg (show ¬ (0 : Int).toNat = (k - 1 - 0).toNat by omega), if_pos (show (0 : Int).toNat = 0 by omega), show (k - 1 - 0).toNat = (k - 1).toNat by omega, show (0 : Int).toNat = 0 from rfl]
          omega
        · rw [if_neg xp, if_neg xs, if_neg (show ¬ x.toNat = (k - 1 - 0).toNat by omega), if_neg (show ¬ x.toNat = 0 by omega)]
          omega
    · rw [if_neg hq, if_neg hq, if_neg hq]
      by_cases xp : x = k - 1 - q
      · subst xp
        rw [if_pos rfl, if_neg (show ¬ k - 1 - q = k - 1 by omega), show (k - 1 - q + 1).toNat = (k - q).toNat by omega]
        omega
      · by_cases xs : x = k - q
        · subst xs
          rw [if_neg (show ¬ (k - q).toNat = (k - 1 - q).toNat by omega), if_pos rfl, if_neg (show ¬ k - q = 0 by omega), show (k - q - 1).toNat = (k - 1 - q).toNat by omega]
          omega
        · rw [if_neg (show ¬ x.toNat = (k - 1 - q).toNat by omega), if_neg (show ¬ x.toNat = (k - q).toNat by omega)]
          omega
  · -- idle
    have same : grow h g = h ↔ ∀ c, ¬ g c = true := by
      constructor
      · intro e c gc
        have := hAt_grow go c
        rw [e, gc] at this
        have : b2n true = 1 := rfl
        omega
      · intro n
        refine heap_ext (grow_heap IH go) IH fun c => ?_
        rw [hAt_grow go]
        have : g c = false := by simpa using n c
        rw [this]
        rfl
    rw [same]
    have nx : ∀ t : Int, inB h ((k - 1 - q) + k * t + 1) ↔ t + le1 q < a (lq k q) := fun t => by
      unfold lq le1
      by_cases hq : q = 0
      · subst hq
        rw [if_pos rfl, if_pos rfl, show k - 1 - 0 + k * t + 1 = 0 + k * (t + 1) by rw [Int.mul_add]; omega, bq 0 (t + 1) (by omega) (by omega)]
        rfl
      · rw [if_neg hq, if_neg hq, show k - 1 - q + k * t + 1 = (k - q) + k * t by omega, bq (k - q) t (by omega) (by omega), Int.add_zero]
    constructor
    · intro n
      rcases Int.lt_or_le (a (lq k q) - le1 q) (a (lp k q)) with z | z
      · exfalso
        obtain ⟨c, hc⟩ := (bq (k - 1 - q) (a (lp k q) - 1) (by omega) (by omega)).mpr (by unfold lp; omega)
        apply n c
        rw [mvg c, ← hc]
        refine ⟨fun i => ?_, (rest (k - 1 - q) (a (lp k q) - 1) (by omega) (by omega)).mpr rfl⟩
        have := (nx (a (lp k q) - 1)).mp i
        omega
      · exact z
    · intro le c gc
      obtain ⟨n, m⟩ := (mvg c).mp gc
      have zz : bead h c = bead h c % k + k * (bead h c / k) := (Int.emod_add_mul_ediv (bead h c) k).symm
      have x0 := Int.emod_nonneg (bead h c) (show k ≠ 0 by omega)
      have x1 := Int.emod_lt_of_pos (bead h c) (show 0 < k by omega)
      have e := (rest (bead h c % k) (bead h c / k) x0 x1).mp (by rw [← zz]; exact m)
      have b := (bq (bead h c % k) (bead h c / k) x0 x1).mp ⟨c, zz.symm⟩
      rw [e] at b zz
      apply n
      rw [zz, nx]
      unfold lp at le
      omega
/-- the letters of a core behind a letter -/
theorem letter_lts {h : List Nat} (IH : IsHeap h) {k q : Int} (hk : 2 ≤ k) (q0 : 0 ≤ q) (q1 : q < k) (C : coreB h k) {g : Nat → Bool} (hg : ∀ c, g c = true ↔ (opn h c = true ∧ (dg h c - q) % k = 0)) : coreB (grow h g) k ∧ lts (grow h g) k = lts h k + (if grow h g = h then 0 else 1) := by
  obtain ⟨a, F⟩ := fl_ex IH (by omega) C
  obtain ⟨F2, id⟩ := letter_fl IH hk q0 q1 F hg
  have G := grow_heap IH fun c z => ((hg c).mp z).1
  refine ⟨fl_core (by omega) F2, ?_⟩
  rw [lts_LS G (by omega) F2, lts_LS IH (by omega) F, LS_step (n := k.toNat) (p := lp k q) (s := lq k q) (by unfold lp; omega) (by unfold lq; split <;> omega) (le1 q) ?_ a]
  · by_cases z : grow h g = h
    · rw [if_pos z, if_pos (id.mp z)]
    · rw [if_neg z, if_neg (fun y => z (id.mpr y))]
  · unfold lp lq le1
    by_cases z : q = 0
    · rw [if_pos z, if_pos z]
      right
      omega
    · rw [if_neg z, if_neg z]
      left
      omega
/-! ### turned over -/
theorem conj_inB {h : List Nat} (IH : IsHeap h) (z : Int) : inB (conj h) z ↔ ¬ inB h (-1 - z) := by
  have e : ∀ r : Nat, bead (conj h) r = -1 - ((r : Int) - (lamr h r : Int)) := fun r => by
    unfold bead lamr
    omega
  constructor
  · rintro ⟨r, hr⟩ b
    rw [hr, e r, show -1 - (-1 - ((r : Int) - (lamr h r : Int))) = (r : Int) - (lamr h r : Int) by omega] at b
    rcases (inB_iff _).mp b with z | z
    · exact no_both IH z
    · exact not_low IH z
  · intro n
    have p2 := fun y => n ((inB_iff _).mpr y)
    obtain ⟨r, hr⟩ := hole IH (z := -1 - z) (by
      rcases Int.lt_or_le (-1 - z) (-(h.length : Int)) with q | q
      · exact absurd (.inr q) p2
      · exact q) (fun y => p2 (.inl y))
    exact ⟨r, by rw [e r]; omega⟩
def rva (n : Nat) (a : Nat → Int) (x : Nat) : Int := -a (n - 1 - x)
theorem conj_fl {h : List Nat} (IH : IsHeap h) {k : Int} (k1 : 1 ≤ k) {a : Nat → Int} (F : fl h k a) : fl (conj h) k (rva k.toNat a) := by
  intro z
  rw [conj_inB IH]
  have zz : z = z % k + k * (z / k) := (Int.emod_add_mul_ediv z k).symm
  have x0 := Int.emod_nonneg z (show k ≠ 0 by omega)
  have x1 := Int.emod_lt_of_pos z (show 0 < k by omega)
  obtain ⟨e1, e2⟩ := divmod (k := k) (z := -1 - z) (t := -(z / k) - 1) (x := k - 1 - z % k) (by omega) (by omega) (by omega) (by rw [Int.mul_sub, Int.mul_neg]; omega)
  rw [F, e1, e2]
  unfold rva
  rw [show k.toNat - 1 - (z % k).toNat = (k - 1 - z % k).toNat by omega]
  omega
theorem LS_rev (n : Nat) (a : Nat → Int) : LS n (rva n a) = LS n a := by
  unfold LS
  rw [sm_rev, sm_congr (n := n) (g := fun r => sm n fun s => lw (rva n a) (n - 1 - r) (n - 1 - s)) (fun r _ => sm_rev _ n), sm_swap]
  refine sm_congr fun s hs => sm_congr fun r hr => ?_
  unfold lw rva
  rw [show n - 1 - (n - 1 - r) = r by omega, show n - 1 - (n - 1 - s) = s by omega]
  by_cases q : s < r
  · rw [if_pos q, if_pos (show n - 1 - r < n - 1 - s by omega)]
    omega
  · rw [if_neg q, if_neg (show ¬ n - 1 - r < n - 1 - s by omega)]
    omega
theorem conj_lts {h : List Nat} (IH : IsHeap h) {k : Int} (k1 : 1 ≤ k) (C : coreB h k) : coreB (conj h) k ∧ lts (conj h) k = lts h k := by
  obtain ⟨a, F⟩ := fl_ex IH k1 C
  have F2 := conj_fl IH k1 F
  exact ⟨fl_core k1 F2, by rw [lts_LS (conj_heap IH) k1 F2, lts_LS IH k1 F, LS_rev]⟩
/-! ### an order above all hooks -/
theorem hk_most {h : List Nat} (IH : IsHeap h) {c r : Nat} (hr : r < hAt h c) : hk h c r ≤ (h.length : Int) + (hAt h 0 : Int) - 1 := by
  have := IH.le (Nat.zero_le c)
  have := lam_le IH r
  unfold hk
  omega
theorem great_core {h : List Nat} (IH : IsHeap h) {k : Int} (k1 : 1 ≤ k) (hk2 : (h.length : Int) + (hAt h 0 : Int) ≤ k) : coreB h k := by
  rw [core_iff IH k1]
  intro c r hr
  have := hk_most IH hr
  omega
theorem great_col {h : List Nat} (IH : IsHeap h) {k : Int} (hk2 : (h.length : Int) + (hAt h 0 : Int) ≤ k) (c : Nat) : ((List.range (hAt h c)).filter fun r => decide (hk h c r < k)).length = hAt h c := by
  rw [List.filter_eq_self.mpr (fun r hr => decide_eq_true ?_), List.length_range]
  have := hk_most IH (List.mem_range.mp hr)
  omega
end K1

namespace K1
open HM
/-! ### the sum over all pairs, in any order -/
theorem sum_perm {l l' : List Int} (p : l.Perm l') : l.sum = l'.sum := by
  induction p with
  | nil => rfl
  | cons x _ ih => simp only [List.sum_cons, ih]
  | swap x y l =>
    simp only [List.sum_cons]
    omega
  | trans _ _ a b => exact a.trans b
def gs (k : Int) (l : List Int) : Int := (l.map fun x => (l.map fun y => max 0 ((x - y) / k)).sum).sum
theorem gs_perm (k : Int) {l l' : List Int} (p : l.Perm l') : gs k l = gs k l' := by
  unfold gs
  rw [sum_perm (p.map _)]
  congr 1
  refine List.map_congr_left fun x _ => ?_
  exact sum_perm (p.map _)
theorem map_sm (f : Int → Int) : ∀ l : List Int, (l.map f).sum = sm l.length (fun i => f (l.getD i 0))
  | [] => rfl
  | x :: r => by
    rw [List.length_cons, sm_front, List.map_cons, List.sum_cons, map_sm f r]
    simp only [List.getD_cons_zero, List.getD_cons_succ]
theorem getD_mem {l : List Int} {i : Nat} (h : i < l.length) : l.getD i 0 ∈ l := by
  rw [List.getD_eq_getElem?_getD, List.getElem?_eq_getElem h]
  exact List.getElem_mem h
theorem pw_get {R : Int → Int → Prop} {l : List Int} (h : l.Pairwise R) {i j : Nat} (hij : i < j) (hj : j < l.length) : R (l.getD i 0) (l.getD j 0) := by
  rw [List.getD_eq_getElem?_getD, List.getD_eq_getElem?_getD, List.getElem?_eq_getElem hj, List.getElem?_eq_getElem (show i < l.length by omega)]
  exact List.pairwise_iff_getElem.mp h i j (by omega) hj hij
theorem gs_sorted {k : Int} (hk : 0 < k) {l : List Int} (pw : l.Pairwise (· ≤ ·)) : sm l.length (fun i => sm i fun j => (l.getD i 0 - l.getD j 0) / k) = gs k l := by
  unfold gs
  rw [map_sm]
  refine sm_congr fun i hi => ?_
  rw [map_sm]
  obtain ⟨m, hm⟩ : ∃ m, l.length = i + m := ⟨l.length - i, by omega⟩
  rw [hm, sm_split]
  have z : sm m (fun j => max 0 ((l.getD i 0 - l.getD (i + j) 0) / k)) = 0 := by
    rw [sm_congr (g := fun _ => 0) (fun j hj => ?_), sm_zero]
    show max 0 ((l.getD i 0 - l.getD (i + j) 0) / k) = 0
    have le : l.getD i 0 ≤ l.getD (i + j) 0 := by
      by_cases e : j = 0
      · subst e
        exact Int.le_refl _
      · exact pw_get pw (by omega) (by omega)
    have := Int.ediv_le_ediv hk (show l.getD i 0 - l.getD (i + j) 0 ≤ 0 by omega)
    rw [Int.zero_ediv] at this
    omega
  rw [z, Int.add_zero]
  refine sm_congr fun j hj => ?_
  have le := pw_get pw hj hi
  have := Int.ediv_nonneg (show 0 ≤ l.getD i 0 - l.getD j 0 by omega) (show 0 ≤ k by omega)
  omega
def fhA (k : Int) (a : Nat → Int) (n : Nat) : List Int := (List.range n).map fun r => k * a r + (r : Int)
theorem map_range_sum (g : Int → Int) (f : Nat → Int) (n : Nat) : (((List.range n).map f).map g).sum = sm n (fun i => g (f i)) := by
  rw [List.map_map, ← sm_sum]
  rfl
theorem gs_holes {k : Int} {n : Nat} (hn : (n : Int) = k) (a : Nat → Int) : gs k (fhA k a n) = LS n a := by
  unfold gs fhA LS
  rw [map_range_sum (fun x => (((List.range n).map fun r => k * a r + (r : Int)).map fun y => max 0 ((x - y) / k)).sum)]
  refine sm_congr fun r hr => ?_
  rw [map_range_sum]
  refine sm_congr fun s hs => ?_
  unfold lw
  have e : (k * a r + (r : Int) - (k * a s + (s : Int))) / k = a r - a s - (if r < s then 1 else 0) := by
    by_cases q : r < s
    · rw [if_pos q]
      exact (divmod (k := k) (x := k + (r : Int) - s) (by omega) (by omega) (by omega) (by rw [Int.mul_sub, Int.mul_sub]; omega)).1
    · rw [if_neg q]
      exact (divmod (k := k) (x := (r : Int) - s) (by omega) (by omega) (by omega) (by rw [Int.mul_sub, Int.mul_sub]; omega)).1
  rw [e]
/-! ### a core found again from its beads -/
theorem filt_hAt : ∀ (t : List Nat), t.Pairwise (fun a b => b ≤ a) → ∀ c, hAt (t.filter fun x => decide (0 < x)) c = t.getD c 0
  | [], _, c => by
    unfold hAt
    simp
  | x :: r, h, c => by
    rw [List.pairwise_cons] at h
    by_cases z : 0 < x
    · rw [List.filter_cons_of_pos (by simpa using z)]
      cases c with
      | zero => rfl
      | succ c =>
        unfold hAt
        rw [List.getD_cons_succ, List.getD_cons_succ]
        exact filt_hAt r h.2 c
    · rw [List.filter_cons_of_neg (by simpa using z)]
      have all0 : ∀ y ∈ r, y = 0 := fun y hy => by
        have := h.1 y hy
        omega
      have e : (r.filter fun x => decide (0 < x)) = [] := by
        rw [List.filter_eq_nil_iff]
        intro y hy
        rw [all0 y hy]
        decide
      rw [e]
      cases c with
      | zero =>
        rw [List.getD_cons_zero]
        show (0 : Nat) = x
        omega
      | succ c =>
        rw [List.getD_cons_succ]
        show (0 : Nat) = _
        rw [List.getD_eq_getElem?_getD]
        cases q : r[c]? with
        | none => rfl
        | some y => exact (all0 y (List.mem_of_getElem? q)).symm
theorem filt_heap {t : List Nat} (h : t.Pairwise (fun a b => b ≤ a)) : IsHeap (t.filter fun x => decide (0 < x)) := by
  refine ⟨fun c hc => ?_, fun c => ?_⟩
  · have := List.getElem_mem hc
    have e : hAt (t.filter fun x => decide (0 < x)) c = (t.filter fun x => decide (0 < x))[c] := by
      unfold hAt
      rw [List.getD_eq_getElem?_getD, List.getElem?_eq_getElem hc]
      rfl
    rw [e]
    exact of_decide_eq_true (List.mem_filter.mp this).2
  · rw [filt_hAt t h, filt_hAt t h, List.getD_eq_getElem?_getD, List.getD_eq_getElem?_getD]
    by_cases q : c + 1 < t.length
    · rw [List.getElem?_eq_getElem q, List.getElem?_eq_getElem (show c < t.length by omega)]
      exact List.pairwise_iff_getElem.mp h c (c + 1) (by omega) q (by omega)
    · rw [List.getElem?_eq_none (by omega)]
      exact Nat.zero_le _
/-- heights of beads, the greatest ahead -/
def hgt (s : List Int) : List Int := (List.range s.length).map fun (i : Nat) => s.getD i 0 + (i : Int) + 1
theorem from_beads {k L : Int} {a : Nat → Int} {s : List Int} (pw : s.Pairwise (· ≥ ·)) (nd : s.Nodup) (mem : ∀ z, z ∈ s ↔ (L ≤ z ∧ z / k < a (z % k).toNat)) (len : (s.length : Int) = -L) (low : ∀ z, z < L → z / k < a (z % k).toNat) :
    ∃ h : List Nat, IsHeap h ∧ fl h k a ∧ (hgt s).filter (fun x => decide (0 < x)) = h.map (fun (n : Nat) => (n : Int)) ∧ h.length ≤ s.length ∧ ((hAt h 0 : Int) = s.getD 0 0 + 1 ∨ hAt h 0 = 0) := by
  have st : ∀ i j, i < j → j < s.length → s.getD j 0 < s.getD i 0 := fun i j hij hj => by
    have h1 := pw_get pw hij hj
    have h2 := pw_get (R := fun x y => x ≠ y) nd hij hj
    omega
  have gap : ∀ n i : Nat, i + n < s.length → s.getD (i + n) 0 + (n : Int) ≤ s.getD i 0 := fun n => by
    induction n with
    | zero =>
      intro i _
      show s.getD i 0 + (0 : Int) ≤ _
      omega
    | succ n ih =>
      intro i hi
      have a1 := ih i (by omega)
      have a2 := st (i + n) (i + n + 1) (by omega) hi
      have : s.getD (i + (n + 1)) 0 = s.getD (i + n + 1) 0 := rfl
      omega
  have ge : ∀ i, i < s.length → L + (s.length : Int) - 1 - i ≤ s.getD i 0 := fun i hi => by
    have h1 := gap (s.length - 1 - i) i (by omega)
    have h2 := ((mem _).mp (getD_mem (l := s) (i := i + (s.length - 1 - i)) (by omega))).1
    omega
  have t : ∃ t : List Nat, hgt s = t.map (fun (n : Nat) => (n : Int)) ∧ t.length = s.length ∧ t.Pairwise (fun a b => b ≤ a) ∧ ∀ c, c < s.length → ((t.getD c 0 : Nat) : Int) = s.getD c 0 + c + 1 := by
    have gd : ∀ c, c < s.length → (((hgt s).map Int.toNat).getD c 0 : Nat) = (s.getD c 0 + (c : Int) + 1).toNat := fun c hc => by
      rw [List.getD_eq_getElem?_getD, List.getElem?_map]
      unfold hgt
      rw [List.getElem?_map, List.getElem?_range hc]
      rfl
    refine ⟨(hgt s).map Int.toNat, ?_, by unfold hgt; simp, ?_, fun c hc => ?_⟩
    · rw [List.map_map]
      symm
      conv => rhs; rw [← List.map_id (hgt s)]
      refine List.map_congr_left fun x hx => ?_
      unfold hgt at hx
      obtain ⟨i, hi, rfl⟩ := List.mem_map.mp hx
      have := ge i (List.mem_range.mp hi)
      show (((s.getD i 0 + (i : Int) + 1).toNat : Nat) : Int) = _
      rw [Int.toNat_of_nonneg (by omega)]
      rfl
    · refine List.pairwise_map.mpr ?_
      unfold hgt
      refine List.pairwise_map.mpr ?_
      refine (List.Pairwise.and_mem.mp (List.pairwise_lt_range (n := s.length))).imp fun {i j} hij => ?_
      have hj := List.mem_range.mp hij.2.1
      have := gap (j - i) i (by omega)
      rw [show i + (j - i) = j by omega] at this
      show (s.getD j 0 + (j : Int) + 1).toNat ≤ (s.getD i 0 + (i : Int) + 1).toNat
      omega
    · rw [gd c hc]
      have := ge c hc
      omega
  obtain ⟨t, t1, t2, t3, t4⟩ := t
  have hA := filt_hAt t t3
  refine ⟨t.filter fun x => decide (0 < x), filt_heap t3, fun z => ?_, ?_, ?_, ?_⟩
  · have b1 : ∀ c, c < s.length → bead (t.filter fun x => decide (0 < x)) c = s.getD c 0 := fun c hc => by
      unfold bead
      rw [hA c, t4 c hc]
      omega
    have b2 : ∀ c, s.length ≤ c → bead (t.filter fun x => decide (0 < x)) c = -(c : Int) - 1 := fun c hc => by
      unfold bead
      rw [hA c, List.getD_eq_getElem?_getD, List.getElem?_eq_none (by omega)]
      show (0 : Int) - c - 1 = _
      omega
    constructor
    · rintro ⟨c, rfl⟩
      by_cases hc : c < s.length
      · rw [b1 c hc]
        exact ((mem _).mp (getD_mem hc)).2
      · rw [b2 c (by omega)]
        exact low _ (by omega)
    · intro hz
      by_cases q : L ≤ z
      · obtain ⟨c, hc⟩ := List.mem_iff_getElem?.mp ((mem z).mpr ⟨q, hz⟩)
        have cl := (List.getElem?_eq_some_iff.mp hc).1
        refine ⟨c, ?_⟩
        rw [b1 c cl, List.getD_eq_getElem?_getD, hc]
        rfl
      · exact ⟨(-z - 1).toNat, by rw [b2 _ (by omega)]; omega⟩
  · rw [t1, List.filter_map]
    congr 1
    refine List.filter_congr fun x _ => ?_
    show decide ((0 : Int) < (x : Int)) = decide (0 < x)
    exact decide_eq_decide.mpr (by omega)
  · have := List.length_filter_le (fun x => decide (0 < x)) t
    omega
  · rw [hA 0]
    by_cases q : 0 < s.length
    · left
      have := t4 0 q
      omega
    · right
      rw [List.getD_eq_getElem?_getD, List.getElem?_eq_none (by omega)]
      rfl
theorem fl_unique {h h' : List Nat} (IH : IsHeap h) (IH' : IsHeap h') {k : Int} {a : Nat → Int} (F : fl h k a) (F' : fl h' k a) : h = h' := by
  have same : ∀ z, inB h z ↔ inB h' z := fun z => (F z).trans (F' z).symm
  have key : ∀ n : Nat, ∀ c, c < n → bead h c = bead h' c := fun n => by
    induction n with
    | zero => exact fun c hc => absurd hc (Nat.not_lt_zero _)
    | succ n ih =>
      intro c hc
      by_cases e : c < n
      · exact ih c e
      · have e : c = n := by omega
        subst e
        have le : ∀ {u v : List Nat}, IsHeap u → IsHeap v → (∀ z, inB u z ↔ inB v z) → (∀ d, d < c → bead u d = bead v d) → bead u c ≤ bead v c := fun {u v} U V s i => by
          obtain ⟨d, hd⟩ := (s _).mp ⟨c, rfl⟩
          rcases Nat.lt_trichotomy d c with q | q | q
          · have := i d q
            have := bead_lt U q
            omega
          · rw [hd, q]
            exact Int.le_refl _
          · have := bead_lt V q
            omega
        have l1 := le IH IH' same ih
        have l2 := le IH' IH (fun z => (same z).symm) (fun d hd => (ih d hd).symm)
        omega
  refine heap_ext IH IH' fun c => ?_
  have := key (c + 1) c (by omega)
  unfold bead at this
  omega
/-- charges of a small heap are small -/
theorem fl_small {h : List Nat} (IH : IsHeap h) {k : Int} (k1 : 1 ≤ k) {a : Nat → Int} (F : fl h k a) {r : Nat} (hr : (r : Int) < k) : a r ≤ (hAt h 0 : Int) + 1 ∧ -(h.length : Int) - 1 ≤ a r := by
  constructor
  · rcases Int.lt_or_le ((hAt h 0 : Int) + 1) (a r) with q | q
    · exfalso
      obtain ⟨m1, m2⟩ := divmod (k := k) (z := (r : Int) + k * ((hAt h 0 : Int) + 1)) (by omega) (by omega) hr rfl
      have := inB_top IH ((F _).mpr (by rw [m1, m2, Int.toNat_natCast]; exact q))
      have := Int.mul_le_mul_of_nonneg_right k1 (show 0 ≤ (hAt h 0 : Int) + 1 by omega)
      omega
    · exact q
  · rcases Int.lt_or_le (a r) (-(h.length : Int) - 1) with q | q
    · exfalso
      obtain ⟨m1, m2⟩ := divmod (k := k) (z := (r : Int) + k * (-(h.length : Int) - 2)) (by omega) (by omega) hr rfl
      have lowz : (r : Int) + k * (-(h.length : Int) - 2) < -(h.length : Int) := by
        have := Int.mul_le_mul_of_nonneg_right k1 (show 0 ≤ (h.length : Int) + 1 by omega)
        have e : k * (-(h.length : Int) - 2) = -(k * ((h.length : Int) + 1)) - k := by
          rw [show -(h.length : Int) - 2 = -((h.length : Int) + 1) - 1 by omega, Int.mul_sub, Int.mul_neg, Int.mul_one]
        omega
      have := (F _).mp (inB_low lowz)
      rw [m1, m2, Int.toNat_natCast] at this
      omega
    · exact q
end K1

/-! own rules: range with a step up or down, and list(range(i, j, c)) -/
namespace L2
open PySem PySem.Spec PyProof.Rows
theorem RgC.of {i j c : Int} {n : Nat} (c0 : c ≠ 0) (c1 : c.natAbs < 1073741824) (ha : -(2 ^ 61) ≤ i) (ha' : i < 2 ^ 61) (hb : -(2 ^ 61) ≤ j) (hb' : j < 2 ^ 61) (hn : Builtin.Range.rangeSize i j c = n) (h60 : (n : Int) < 2 ^ 61) : RgC i j c n := by
  refine ⟨c0, c1, ?_, hn⟩
  unfold Builtin.Range.small
  rw [hn]
  have f : ∀ x : Int, -(2 ^ 63) ≤ x → x < 2 ^ 63 → Builtin.Range.rangeFitsLong x = true := fun x h1 h2 => by
    unfold Builtin.Range.rangeFitsLong
    rw [decide_eq_true h1, decide_eq_true h2]
    rfl
  rw [f i (by omega) (by omega), f j (by omega) (by omega), f c (by omega) (by omega), f n (by omega) (by omega)]
  by_cases z : c > 0
  · rw [if_pos z, f _ (by omega) (by omega), Bool.or_true]
    rfl
  · rw [if_neg z, f _ (by omega) (by omega), Bool.or_true]
    rfl
/-- up by k: as many as t with i + t k < j -/
theorem size_up {i j k : Int} {n : Nat} (hk : 0 < k) (h : ∀ t : Nat, t < n ↔ i + (t : Int) * k < j) : Builtin.Range.rangeSize i j k = n := by
  unfold Builtin.Range.rangeSize
  rw [if_pos hk]
  by_cases z : i < j
  · rw [if_pos z]
    have d0 : 0 ≤ (j - i - 1) / k := Int.ediv_nonneg (by omega) (by omega)
    have d1 := Int.ediv_mul_le (j - i - 1) (show k ≠ 0 by omega)
    have d2 := Int.lt_ediv_add_one_mul_self (j - i - 1) hk
    have a := h ((j - i - 1) / k).toNat
    have b := h ((j - i - 1) / k + 1).toNat
    rw [show ((((j - i - 1) / k).toNat : Nat) : Int) = (j - i - 1) / k by omega] at a
    rw [show ((((j - i - 1) / k + 1).toNat : Nat) : Int) = (j - i - 1) / k + 1 by omega] at b
    have a1 := a.mpr (by omega)
    have b1 : ¬ ((j - i - 1) / k + 1).toNat < n := fun y => by
      have := b.mp y
      omega
    omega
  · rw [if_neg z]
    have := h 0
    have : ¬ 0 < n := fun y => by
      have := this.mp y
      rw [show ((0 : Nat) : Int) = 0 from rfl, Int.zero_mul] at this
      omega
    omega
theorem size_dn {i j k : Int} {n : Nat} (hk : 0 < k) (h : ∀ t : Nat, t < n ↔ j < i - (t : Int) * k) : Builtin.Range.rangeSize i j (-k) = n := by
  have u := size_up (i := -i) (j := -j) (n := n) hk (fun t => by rw [h t]; omega)
  unfold Builtin.Range.rangeSize at u ⊢
  rw [if_pos hk] at u
  rw [if_neg (show ¬ -k > 0 by omega), ← u, Int.neg_neg]
  by_cases z : i > j
  · rw [if_pos z, if_pos (show -i < -j by omega), show -j - -i - 1 = i - j - 1 by omega]
  · rw [if_neg z, if_neg (show ¬ -i < -j by omega)]
theorem RgC.dn {i j k : Int} {n : Nat} (k1 : 0 < k) (k2 : k < 1000000) (ha : -(2 ^ 61) ≤ i) (ha' : i < 2 ^ 61) (hb : -(2 ^ 61) ≤ j) (hb' : j < 2 ^ 61) (h60 : (n : Int) < 2 ^ 61) (h : ∀ t : Nat, t < n ↔ j < i - (t : Int) * k) : RgC i j (-k) n :=
  .of (by omega) (by omega) ha ha' hb hb' (size_dn k1 h) h60
theorem RgC.up {i j k : Int} {n : Nat} (k1 : 0 < k) (k2 : k < 1000000) (ha : -(2 ^ 61) ≤ i) (ha' : i < 2 ^ 61) (hb : -(2 ^ 61) ≤ j) (hb' : j < 2 ^ 61) (h60 : (n : Int) < 2 ^ 61) (h : ∀ t : Nat, t < n ↔ i + (t : Int) * k < j) : RgC i j k n :=
  .of (by omega) (by omega) ha ha' hb hb' (size_up k1 h) h60
section
variable {X : Cx}
/-- the ints i, i + c, .., n of them -/
def rgC (i c : Int) (n : Nat) : List Int := (List.range n).map fun (t : Nat) => i + (t : Int) * c
theorem vals_rgC {a c : Int} {n : Nat} {acc : Array Value} (h : ItemsOf (fun i v => ∃ t, v = .int (a + i * c) t) acc n) : Vals ((rgC a c n).map V.int) acc.toList := by
  have e : acc.toList.length = n := by rw [Array.length_toList]; exact h.1
  unfold rgC
  rw [← e, List.map_map]
  refine vals_of_get acc.toList _ fun j u hj => ?_
  obtain ⟨t, rfl⟩ := h.2 j u (by rw [← hj, Array.getElem?_toList])
  exact ⟨t, rfl⟩
def tLstRg3 (ta : TA) : TE := fun σ H Q => ta σ H fun vs H1 => ∃ (i j c : Int) (n : Nat), vs = [.int i, .int j, .int c] ∧ RgC i j c n ∧ n ≤ 16777216 ∧ ∀ q, H1 q = none → Q (.ref q) (upd H1 q (.lst ((rgC i c n).map V.int)))
theorem pe_listRg3 {a b c : Expr} {ta : TA} {p pos p2 pos2 : Pos} (hc : X.calm = true) (hg : Gl X "list") (hm : X.mg "list" = none) (hg2 : Gl X "range") (hm2 : X.mg "range" = none) (ha : PA X [a, b, c] ta)
    (na : starEach [.Call (.Name "range" p2) [a, b, c] [] pos2] X.env = (false, eval (.Call (.Name "range" p2) [a, b, c] [] pos2) X.env) :: starEach [] X.env := by rfl)
    (hs : starEach [a, b, c] X.env = (false, eval a X.env) :: starEach [b, c] X.env := by rfl) (hpl : (backTo pos2 (starEach [b, c] X.env)).any (·.1) = false := by rfl) :
    PE X (.Call (.Name "list" p) [.Call (.Name "range" p2) [a, b, c] [] pos2] [] pos) (tLstRg3 ta) := by
  refine ⟨fun pins s σ H Q I h => ?_⟩
  have he : wpAny (model X.prog X.w) X.A (eval (.Call (.Name "range" p2) [a, b, c] [] pos2) X.env) (fun x s' => ∃ (r : Addr) (i j k : Int) (t u v : Tok) (H' : Hp) (n : Nat), x = .ref r ∧ IsRange s'.heap r i j k t u v ∧ Inv X pins σ H' s' ∧ RgC i j k n ∧ n ≤ 16777216 ∧ ∀ q, H' q = none → Q (.ref q) (upd H' q (.lst ((rgC i k n).map V.int)))) X.xe s := by
    refine Call_ (ld_blt I hg2 hm2 boot_range (PyProof.Rows.callWith_type1 (thn (ha.run pos2 pins s σ H _ I h) fun us s1 ⟨vs, H1, I1, r1, q1⟩ => ?_) hs hpl))
    obtain ⟨i, j, k, n, e, R, hn, q⟩ := q1
    subst e
    cases r1 with
    | cons r rr =>
      cases rr with
      | cons r' rr =>
        cases rr with
        | cons r'' rr =>
          cases rr
          obtain ⟨t, rfl⟩ := r
          obtain ⟨t', rfl⟩ := r'
          obtain ⟨t'', rfl⟩ := r''
          refine call_range_3 R.1 ?_ (.inl (PyProof.noPylong_small R.2.1))
          exact ⟨_, i, j, k, _, _, _, H1, n, rfl, IsRange.new .., I1.kept (t' := s1.toks) fun b o e => Heap.get?_push_of_some _ e, R, hn, q⟩
  refine Call_ (ld_blt I hg hm boot_list (PyProof.Rows.callWith_type1 (args_cons (thn he fun x s1 ⟨r, i, j, k, t, u, v, H1, n, ex, hr, I1, R, hn, q⟩ => args_nil ?_) na) na))
  subst ex
  refine call_list_range (n := n) (I1.ok.hd hc) hr R.2.2.1 R.2.2.2 hn fun h' tk acc c' hk e' hi => ?_
  refine ⟨.ref s1.heap.objs.size, upd H1 s1.heap.objs.size (.lst ((rgC i k n).map V.int)), I1.laid hk (Nat.le_refl _) (show ObjOk X.prog X.w _ _ _ (.lst ((rgC i k n).map V.int)) from ⟨?_, acc.toList, c', vals_rgC hi, ?_⟩), rfl, q _ (I1.hok.fresh (Nat.le_refl _))⟩
  · unfold rgC
    rw [List.length_map, List.length_map, List.length_range, sizeLine_eq]
    omega
  · rw [Array.toArray_toList]
    exact e'
end
end L2

namespace K1
open HM L2
/-- beads from the quotient m on, rest by rest -/
def bs1 (k m : Int) (a : Nat → Int) : Nat → List Int
  | 0 => []
  | n + 1 => bs1 k m a n ++ rgC ((n : Int) + k * m) k (a n - m).toNat
def c2 (a : Nat → Int) (r0 r : Nat) : Int := a r - a r0 - (if r < r0 then 1 else 0)
/-- beads from the first hole of rest r0 on, rest by rest, downward -/
def bs2 (k : Int) (r0 : Nat) (a : Nat → Int) : Nat → List Int
  | 0 => []
  | n + 1 => bs2 k r0 a n ++ rgC (k * a n + (n : Int) - k) (-k) (c2 a r0 n).toNat
theorem mem_rgC {i c z : Int} {n : Nat} : z ∈ rgC i c n ↔ ∃ t : Nat, t < n ∧ z = i + (t : Int) * c := by
  unfold rgC
  rw [List.mem_map]
  constructor
  · rintro ⟨t, ht, rfl⟩
    exact ⟨t, List.mem_range.mp ht, rfl⟩
  · rintro ⟨t, ht, rfl⟩
    exact ⟨t, List.mem_range.mpr ht, rfl⟩
theorem rgC_len (i c : Int) (n : Nat) : (rgC i c n).length = n := by
  unfold rgC
  rw [List.length_map, List.length_range]
theorem rgC_nd {i c : Int} {n : Nat} (hc : c ≠ 0) : (rgC i c n).Nodup := by
  unfold rgC
  refine List.pairwise_map.mpr (List.nodup_range.imp fun {x y} ne e => ne ?_)
  have e' : (x : Int) * c = (y : Int) * c := by omega
  have := Int.eq_of_mul_eq_mul_right hc e'
  omega
theorem mod_of {k z : Int} (hk : 0 < k) {x : Nat} (h : (z % k).toNat = x) : z = (x : Int) + k * (z / k) := by
  have := Int.emod_add_mul_ediv z k
  have := Int.emod_nonneg z (show k ≠ 0 by omega)
  omega
theorem mem_bs1 {k m : Int} (hk : 0 < k) {a : Nat → Int} : ∀ {n : Nat}, (n : Int) ≤ k → ∀ z, z ∈ bs1 k m a n ↔ ((z % k).toNat < n ∧ m ≤ z / k ∧ z / k < a (z % k).toNat)
  | 0, _, z => by
    constructor
    · intro h
      cases h
    · rintro ⟨h, _⟩
      exact absurd h (Nat.not_lt_zero _)
  | n + 1, hn, z => by
    show z ∈ bs1 k m a n ++ _ ↔ _
    rw [List.mem_append, mem_bs1 hk (by omega), mem_rgC]
    constructor
    · rintro (⟨h1, h2, h3⟩ | ⟨t, ht, rfl⟩)
      · exact ⟨by omega, h2, h3⟩
      · obtain ⟨e1, e2⟩ := divmod (k := k) (z := (n : Int) + k * m + (t : Int) * k) (t := m + t) (x := n) hk (by omega) (by omega) (by rw [Int.mul_add, Int.mul_comm k (t : Int)]; omega)
        rw [e1, e2, Int.toNat_natCast]
        omega
    · rintro ⟨h1, h2, h3⟩
      by_cases q : (z % k).toNat < n
      · exact .inl ⟨q, h2, h3⟩
      · have e : (z % k).toNat = n := by omega
        rw [e] at h3
        refine .inr ⟨(z / k - m).toNat, by omega, ?_⟩
        have := mod_of hk e
        rw [Int.toNat_of_nonneg (by omega), Int.sub_mul, Int.mul_comm (z / k) k, Int.mul_comm m k]
        omega
theorem bs1_nd {k m : Int} (hk : 0 < k) {a : Nat → Int} : ∀ {n : Nat}, (n : Int) ≤ k → (bs1 k m a n).Nodup
  | 0, _ => List.nodup_nil
  | n + 1, hn => by
    show (bs1 k m a n ++ _).Nodup
    refine List.nodup_append.mpr ⟨bs1_nd hk (by omega), rgC_nd (by omega), fun x hx y hy e => ?_⟩
    subst e
    have h1 := (mem_bs1 hk (by omega) x).mp hx
    obtain ⟨t, ht, e⟩ := mem_rgC.mp hy
    obtain ⟨e1, e2⟩ := divmod (k := k) (z := x) (t := m + t) (x := n) hk (by omega) (by omega) (by rw [e, Int.mul_add, Int.mul_comm k (t : Int)]; omega)
    rw [e2] at h1
    omega
theorem bs1_len {k m : Int} {a : Nat → Int} : ∀ {n : Nat}, (∀ r, r < n → m ≤ a r) → ((bs1 k m a n).length : Int) = sm n a - (n : Int) * m
  | 0, _ => by
    rw [show ((0 : Nat) : Int) = 0 from rfl, Int.zero_mul]
    rfl
  | n + 1, h => by
    have ih := bs1_len (k := k) (m := m) (a := a) (n := n) fun r hr => h r (by omega)
    have hn := h n (by omega)
    show ((bs1 k m a n ++ rgC _ _ _).length : Int) = sm n a + a n - ((n + 1 : Nat) : Int) * m
    rw [List.length_append, rgC_len, show ((n + 1 : Nat) : Int) = (n : Int) + 1 by omega, Int.add_mul, Int.one_mul]
    omega
/-- which t are counted downward -/
theorem c2_iff {k : Int} (hk : 0 < k) {r r0 : Nat} (hr : (r : Int) < k) (hr0 : (r0 : Int) < k) {a : Nat → Int} (t : Int) : k * a r0 + (r0 : Int) ≤ k * a r + (r : Int) - k - t * k ↔ t < c2 a r0 r := by
  unfold c2
  have e : k * a r + (r : Int) - k - t * k - (k * a r0 + (r0 : Int)) = k * (a r - a r0 - 1 - t) + ((r : Int) - (r0 : Int)) := by
    rw [Int.mul_sub, Int.mul_sub, Int.mul_sub, Int.mul_one, Int.mul_comm k t]
    omega
  have key : 0 ≤ k * (a r - a r0 - 1 - t) + ((r : Int) - (r0 : Int)) ↔ (if r < r0 then 1 else 0) ≤ a r - a r0 - 1 - t := by
    by_cases q : r < r0
    · rw [if_pos q]
      constructor
      · intro h
        rcases Int.lt_or_le (a r - a r0 - 1 - t) 1 with z | z
        · have := Int.mul_le_mul_of_nonneg_left (show a r - a r0 - 1 - t ≤ 0 by omega) (show 0 ≤ k by omega)
          omega
        · exact z
      · intro h
        have := Int.mul_le_mul_of_nonneg_left h (show 0 ≤ k by omega)
        omega
    · rw [if_neg q]
      constructor
      · intro h
        rcases Int.lt_or_le (a r - a r0 - 1 - t) 0 with z | z
        · have := Int.mul_le_mul_of_nonneg_left (show a r - a r0 - 1 - t ≤ -1 by omega) (show 0 ≤ k by omega)
          omega
        · exact z
      · intro h
        have := Int.mul_le_mul_of_nonneg_left h (show 0 ≤ k by omega)
        omega
  split at key <;> omega
theorem mem_bs2 {k : Int} (hk : 0 < k) {r0 : Nat} (hr0 : (r0 : Int) < k) {a : Nat → Int} : ∀ {n : Nat}, (n : Int) ≤ k → ∀ z, z ∈ bs2 k r0 a n ↔ ((z % k).toNat < n ∧ k * a r0 + (r0 : Int) ≤ z ∧ z / k < a (z % k).toNat)
  | 0, _, z => by
    constructor
    · intro h
      cases h
    · rintro ⟨h, _⟩
      exact absurd h (Nat.not_lt_zero _)
  | n + 1, hn, z => by
    show z ∈ bs2 k r0 a n ++ _ ↔ _
    rw [List.mem_append, mem_bs2 hk hr0 (by omega), mem_rgC]
    constructor
    · rintro (⟨h1, h2, h3⟩ | ⟨t, ht, rfl⟩)
      · exact ⟨by omega, h2, h3⟩
      · obtain ⟨e1, e2⟩ := divmod (k := k) (z := k * a n + (n : Int) - k + (t : Int) * -k) (t := a n - 1 - t) (x := n) hk (by omega) (by omega) (by rw [Int.mul_sub, Int.mul_sub, Int.mul_neg, Int.mul_one, Int.mul_comm k (t : Int)]; omega)
        have := (c2_iff hk (show (n : Int) < k by omega) hr0 (a := a) (t : Int)).mpr (by omega)
        rw [e1, e2, Int.toNat_natCast, Int.mul_neg]
        omega
    · rintro ⟨h1, h2, h3⟩
      by_cases q : (z % k).toNat < n
      · exact .inl ⟨q, h2, h3⟩
      · have e : (z % k).toNat = n := by omega
        rw [e] at h3
        have zz := mod_of hk e
        have ez : z = k * a n + (n : Int) - k - (a n - 1 - z / k) * k := by
          rw [Int.sub_mul, Int.sub_mul, Int.one_mul, Int.mul_comm (a n) k, Int.mul_comm (z / k) k]
          omega
        have := (c2_iff hk (show (n : Int) < k by omega) hr0 (a := a) (a n - 1 - z / k)).mp (by rw [← ez]; exact h2)
        refine .inr ⟨(a n - 1 - z / k).toNat, by omega, ?_⟩
        rw [Int.toNat_of_nonneg (by omega), Int.mul_neg]
        omega
theorem bs2_nd {k : Int} (hk : 0 < k) {r0 : Nat} (hr0 : (r0 : Int) < k) {a : Nat → Int} : ∀ {n : Nat}, (n : Int) ≤ k → (bs2 k r0 a n).Nodup
  | 0, _ => List.nodup_nil
  | n + 1, hn => by
    show (bs2 k r0 a n ++ _).Nodup
    refine List.nodup_append.mpr ⟨bs2_nd hk hr0 (by omega), rgC_nd (by omega), fun x hx y hy e => ?_⟩
    subst e
    have h1 := (mem_bs2 hk hr0 (by omega) x).mp hx
    obtain ⟨t, ht, e⟩ := mem_rgC.mp hy
    obtain ⟨e1, e2⟩ := divmod (k := k) (z := x) (t := a n - 1 - t) (x := n) hk (by omega) (by omega) (by rw [e, Int.mul_sub, Int.mul_sub, Int.mul_neg, Int.mul_one, Int.mul_comm k (t : Int)]; omega)
    rw [e2] at h1
    omega
theorem bs2_len {k : Int} {r0 : Nat} {a : Nat → Int} : ∀ {n : Nat}, (∀ r, r < n → 0 ≤ c2 a r0 r) → ((bs2 k r0 a n).length : Int) = sm n (c2 a r0)
  | 0, _ => rfl
  | n + 1, h => by
    have ih := bs2_len (k := k) (r0 := r0) (a := a) (n := n) fun r hr => h r (by omega)
    have hn := h n (by omega)
    show ((bs2 k r0 a n ++ rgC _ _ _).length : Int) = sm n (c2 a r0) + c2 a r0 n
    rw [List.length_append, rgC_len]
    omega
theorem sm_const (x : Int) : ∀ n : Nat, sm n (fun _ => x) = (n : Int) * x
  | 0 => by
    rw [show ((0 : Nat) : Int) = 0 from rfl, Int.zero_mul]
    rfl
  | n + 1 => by
    show sm n (fun _ => x) + x = _
    rw [sm_const x n, show ((n + 1 : Nat) : Int) = (n : Int) + 1 by omega, Int.add_mul, Int.one_mul]
theorem sm_less {r0 : Nat} : ∀ {n : Nat}, r0 ≤ n → sm n (fun r => if r < r0 then (1 : Int) else 0) = (r0 : Int)
  | 0, h => by
    have : r0 = 0 := by omega
    subst this
    rfl
  | n + 1, h => by
    show sm n _ + (if n < r0 then (1 : Int) else 0) = _
    by_cases e : r0 = n + 1
    · subst e
      rw [if_pos (by omega), sm_congr (g := fun r => if r < n then (1 : Int) else 0) (fun r hr => by
        show (if r < n + 1 then (1 : Int) else 0) = if r < n then 1 else 0
        rw [if_pos (by omega), if_pos hr]), sm_less (Nat.le_refl n)]
      omega
    · rw [if_neg (by omega), sm_less (show r0 ≤ n by omega)]
      omega
theorem sm_c2 {r0 n : Nat} (h : r0 ≤ n) (a : Nat → Int) : sm n (c2 a r0) = sm n a - (n : Int) * a r0 - (r0 : Int) := by
  have e : sm n a = sm n (fun r => c2 a r0 r + (a r0 + (if r < r0 then (1 : Int) else 0))) := sm_congr fun r _ => by
    unfold c2
    omega
  rw [e, sm_add, sm_add, sm_const, sm_less h]
  have e2 : sm n (c2 a r0) = sm n (fun r => c2 a r0 r) := rfl
  omega
/-- the core of charges, by the law's list of beads -/
theorem core1 {k m : Int} {n : Nat} (hn : (n : Int) = k) (hk : 0 < k) {a : Nat → Int} (h0 : sm n a = 0) (hm : ∀ r, r < n → m < a r) {s : List Int} (p : s.Perm (bs1 k m a n)) (pw : s.Pairwise (· ≥ ·)) :
    ∃ h : List Nat, IsHeap h ∧ fl h k a ∧ (hgt s).filter (fun x => decide (0 < x)) = h.map (fun (n : Nat) => (n : Int)) ∧ h.length ≤ s.length ∧ ((hAt h 0 : Int) = s.getD 0 0 + 1 ∨ hAt h 0 = 0) := by
  have lt : ∀ z : Int, (z % k).toNat < n := fun z => by
    have := Int.emod_lt_of_pos z hk
    have := Int.emod_nonneg z (show k ≠ 0 by omega)
    omega
  refine from_beads (L := k * m) pw (p.nodup_iff.mpr (bs1_nd hk (by omega))) (fun z => ?_) ?_ fun z hz => ?_
  · rw [p.mem_iff, mem_bs1 hk (by omega)]
    have e : m ≤ z / k ↔ k * m ≤ z := by rw [Int.le_ediv_iff_mul_le hk, Int.mul_comm]
    rw [← e]
    exact ⟨fun h => h.2, fun h => ⟨lt z, h⟩⟩
  · rw [p.length_eq, bs1_len fun r hr => Int.le_of_lt (hm r hr), h0, hn]
    omega
  · have e : z / k < m := by
      rw [Int.ediv_lt_iff_lt_mul hk, Int.mul_comm]
      exact hz
    have := hm _ (lt z)
    omega
theorem core2 {k : Int} {n r0 : Nat} (hn : (n : Int) = k) (hk : 0 < k) (hr0 : r0 < n) {a : Nat → Int} (h0 : sm n a = 0) (hm : ∀ r, r < n → k * a r0 + (r0 : Int) ≤ k * a r + (r : Int)) {s : List Int} (p : s.Perm (bs2 k r0 a n)) (pw : s.Pairwise (· ≥ ·)) :
    ∃ h : List Nat, IsHeap h ∧ fl h k a ∧ (hgt s).filter (fun x => decide (0 < x)) = h.map (fun (n : Nat) => (n : Int)) ∧ h.length ≤ s.length ∧ ((hAt h 0 : Int) = s.getD 0 0 + 1 ∨ hAt h 0 = 0) := by
  have lt : ∀ z : Int, (z % k).toNat < n := fun z => by
    have := Int.emod_lt_of_pos z hk
    have := Int.emod_nonneg z (show k ≠ 0 by omega)
    omega
  refine from_beads (L := k * a r0 + (r0 : Int)) pw (p.nodup_iff.mpr (bs2_nd hk (by omega) (by omega))) (fun z => ?_) ?_ fun z hz => ?_
  · rw [p.mem_iff, mem_bs2 hk (by omega) (by omega)]
    exact ⟨fun h => h.2, fun h => ⟨lt z, h⟩⟩
  · rw [p.length_eq, bs2_len (fun r hr => ?_), sm_c2 (by omega), h0, hn]
    · omega
    · have := (c2_iff hk (show (r : Int) < k by omega) (show (r0 : Int) < k by omega) (a := a) (-1)).mp (by have := hm r hr; omega)
      omega
  · have := hm _ (lt z)
    have zz := mod_of hk (rfl : (z % k).toNat = (z % k).toNat)
    rcases Int.lt_or_le (z / k) (a (z % k).toNat) with q | q
    · exact q
    · have := Int.mul_le_mul_of_nonneg_left q (show 0 ≤ k by omega)
      omega
end K1

namespace K1
open PySem PySem.Spec PyProof.Rows L2 Evl HM LX ZW TE
theorem bump_get (l : List Int) (k z d : Int) {x : Nat} (hx : x < l.length) : (bump l k z d).getD x 0 = l.getD x 0 + (if (z % k).toNat = x then d else 0) := by
  unfold bump
  rw [List.getD_eq_getElem?_getD, List.getElem?_set]
  by_cases e : (z % k).toNat = x
  · rw [if_pos e, if_pos (by omega), if_pos e, e]
    rfl
  · rw [if_neg e, if_neg e, ← List.getD_eq_getElem?_getD]
    omega
theorem up_get {k : Int} {x : Nat} : ∀ (bs l : List Int), x < l.length → (up k bs l).getD x 0 = l.getD x 0 + ((bs.filter fun b => decide (0 ≤ b) && decide ((b % k).toNat = x)).length : Int)
  | [], l, _ => by
    show l.getD x 0 = _
    simp
  | b :: r, l, h => by
    show (up k r (upF k l b)).getD x 0 = _
    rw [up_get r _ (by rw [upF_len]; exact h)]
    unfold upF
    by_cases c : 0 ≤ b
    · rw [if_pos c, bump_get _ _ _ _ h]
      by_cases e : (b % k).toNat = x
      · rw [if_pos e]
        simp [c, e]
        omega
      · rw [if_neg e]
        simp [c, e]
    · rw [if_neg c]
      simp [c]
theorem dn_get {h : List Nat} {k : Int} {x : Nat} {l : List Int} (hx : x < l.length) : ∀ n : Nat, (dn h k n l).getD x 0 = l.getD x 0 - (((List.range n).filter fun (m : Nat) => !decide ((m : Int) - (h.length : Int) ∈ beadsL h) && decide ((((m : Int) - (h.length : Int)) % k).toNat = x)).length : Int)
  | 0 => by
    show l.getD x 0 = _
    simp
  | n + 1 => by
    rw [dn_next]
    unfold dnF
    rw [List.range_succ, List.filter_append, List.length_append]
    have ih := dn_get (h := h) (k := k) hx n
    by_cases c : (n : Int) - (h.length : Int) ∈ beadsL h
    · rw [if_pos c, ih]
      simp [c]
    · rw [if_neg c, bump_get _ _ _ _ (by rw [dn_len]; exact hx), ih]
      by_cases e : (((n : Int) - (h.length : Int)) % k).toNat = x
      · rw [if_pos e]
        simp [c, e]
        omega
      · rw [if_neg e]
        simp [c, e]
theorem beads_filter (h : List Nat) (f : Int → Bool) : ((beadsL h).filter f).length = ((List.range h.length).filter fun c => f (bead h c)).length := by
  unfold beadsL
  rw [List.filter_map, List.length_map]
  rfl
theorem ch_fl {h : List Nat} (IH : IsHeap h) {k : Int} (k1 : 1 ≤ k) {a : Nat → Int} (F : fl h k a) : chL h k = (List.range k.toNat).map a := by
  have cl := ch_len (h := h) (k := k) (by omega)
  refine List.ext_getElem? fun x => ?_
  by_cases hx : x < k.toNat
  · rw [List.getElem?_map, List.getElem?_range hx, List.getElem?_eq_getElem (by omega)]
    show some _ = some (a x)
    congr 1
    have e : (chL h k)[x]'(by omega) = (chL h k).getD x 0 := by
      rw [List.getD_eq_getElem?_getD, List.getElem?_eq_getElem (by omega)]
      rfl
    rw [e]
    have zl := zs_len (k := k) (by omega)
    have xz : x < (zs k).length := by omega
    unfold chL
    rw [dn_get (by rw [up_len]; exact xz), up_get _ _ xz, beads_filter]
    have z0 : (zs k).getD x 0 = 0 := by
      unfold zs
      rw [List.getD_eq_getElem?_getD, List.getElem?_replicate]
      split <;> rfl
    have d0 : 0 < k := by omega
    have c1 := cnt_bij (n := h.length) (m := (a x).toNat) (p := fun c => decide (0 ≤ bead h c) && decide ((bead h c % k).toNat = x)) (q := fun _ => true) (fun c => (bead h c / k).toNat) ?_ ?_ ?_
    have c2 := cnt_bij (n := h.length) (m := (-a x).toNat) (p := fun (m : Nat) => !decide ((m : Int) - (h.length : Int) ∈ beadsL h) && decide ((((m : Int) - (h.length : Int)) % k).toNat = x)) (q := fun _ => true) (fun m => (-(((m : Int) - (h.length : Int)) / k) - 1).toNat) ?_ ?_ ?_
    · rw [cnt_all] at c1 c2
      rw [c1, c2, z0]
      omega
    · intro i j hi hj pi pj e
      obtain ⟨pi1, pi2⟩ := Bool.and_eq_true_iff.mp pi
      obtain ⟨pj1, pj2⟩ := Bool.and_eq_true_iff.mp pj
      have pi2 := of_decide_eq_true pi2
      have pj2 := of_decide_eq_true pj2
      have mi := Int.emod_add_mul_ediv ((i : Int) - (h.length : Int)) k
      have mj := Int.emod_add_mul_ediv ((j : Int) - (h.length : Int)) k
      have ri := Int.emod_nonneg ((i : Int) - (h.length : Int)) (show k ≠ 0 by omega)
      have rj := Int.emod_nonneg ((j : Int) - (h.length : Int)) (show k ≠ 0 by omega)
      have ni := Int.ediv_neg_of_neg_of_pos (show (i : Int) - (h.length : Int) < 0 by omega) d0
      have nj := Int.ediv_neg_of_neg_of_pos (show (j : Int) - (h.length : Int) < 0 by omega) d0
      have e' : (-(((i : Int) - (h.length : Int)) / k) - 1).toNat = (-(((j : Int) - (h.length : Int)) / k) - 1).toNat := e
      have ee : ((i : Int) - (h.length : Int)) / k = ((j : Int) - (h.length : Int)) / k := by omega
      rw [ee] at mi
      omega
    · intro i hi p
      obtain ⟨p1, p2⟩ := Bool.and_eq_true_iff.mp p
      have p2 := of_decide_eq_true p2
      have nb : ¬ inB h ((i : Int) - (h.length : Int)) := fun b => by
        rcases (inB_iff _).mp b with z | z
        · rw [decide_eq_true (mem_beads.mpr z)] at p1
          cases p1
        · omega
      have ni := Int.ediv_neg_of_neg_of_pos (show (i : Int) - (h.length : Int) < 0 by omega) d0
      rw [F, p2] at nb
      refine ⟨?_, rfl⟩
      show (-(((i : Int) - (h.length : Int)) / k) - 1).toNat < _
      omega
    · intro j hj _
      obtain ⟨m1, m2⟩ := divmod (k := k) (z := (x : Int) + k * (-(j : Int) - 1)) d0 (by omega) (by omega) rfl
      have nb : ¬ inB h ((x : Int) + k * (-(j : Int) - 1)) := by
        rw [F, m1, m2, Int.toNat_natCast]
        omega
      have ge : -(h.length : Int) ≤ (x : Int) + k * (-(j : Int) - 1) := by
        rcases Int.lt_or_le ((x : Int) + k * (-(j : Int) - 1)) (-(h.length : Int)) with z | z
        · exact absurd (inB_low z) nb
        · exact z
      have lt0 : (x : Int) + k * (-(j : Int) - 1) < 0 := by
        have := Int.mul_le_mul_of_nonneg_left (show -(j : Int) - 1 ≤ -1 by omega) (show 0 ≤ k by omega)
        omega
      have ez : (((((x : Int) + k * (-(j : Int) - 1)) + (h.length : Int)).toNat : Nat) : Int) - (h.length : Int) = (x : Int) + k * (-(j : Int) - 1) := by omega
      refine ⟨(((x : Int) + k * (-(j : Int) - 1)) + (h.length : Int)).toNat, by omega, ?_, ?_⟩
      · rw [ez, Bool.and_eq_true_iff]
        refine ⟨?_, decide_eq_true (by rw [m2, Int.toNat_natCast])⟩
        rw [decide_eq_false (fun z => nb ((inB_iff _).mpr (.inl (mem_beads.mp z))))]
        rfl
      · show (-(((((((x : Int) + k * (-(j : Int) - 1)) + (h.length : Int)).toNat : Nat) : Int) - (h.length : Int)) / k) - 1).toNat = j
        rw [ez, m1]
        omega
    · intro i j hi hj pi pj e
      obtain ⟨pi1, pi2⟩ := Bool.and_eq_true_iff.mp pi
      obtain ⟨pj1, pj2⟩ := Bool.and_eq_true_iff.mp pj
      have pi1 := of_decide_eq_true pi1
      have pj1 := of_decide_eq_true pj1
      have pi2 := of_decide_eq_true pi2
      have pj2 := of_decide_eq_true pj2
      have mi := Int.emod_add_mul_ediv (bead h i) k
      have mj := Int.emod_add_mul_ediv (bead h j) k
      have ri := Int.emod_nonneg (bead h i) (show k ≠ 0 by omega)
      have rj := Int.emod_nonneg (bead h j) (show k ≠ 0 by omega)
      have ni := Int.ediv_nonneg pi1 (show 0 ≤ k by omega)
      have nj := Int.ediv_nonneg pj1 (show 0 ≤ k by omega)
      have e' : (bead h i / k).toNat = (bead h j / k).toNat := e
      have ee : bead h i / k = bead h j / k := by omega
      rw [ee] at mi
      rcases Nat.lt_trichotomy i j with q | q | q
      · have := bead_lt IH q
        omega
      · exact q
      · have := bead_lt IH q
        omega
    · intro c hc p
      obtain ⟨p1, p2⟩ := Bool.and_eq_true_iff.mp p
      have p1 := of_decide_eq_true p1
      have p2 := of_decide_eq_true p2
      have b := (F (bead h c)).mp ⟨c, rfl⟩
      rw [p2] at b
      have := Int.ediv_nonneg p1 (show 0 ≤ k by omega)
      refine ⟨?_, rfl⟩
      show (bead h c / k).toNat < _
      omega
    · intro j hj _
      obtain ⟨m1, m2⟩ := divmod (k := k) (z := (x : Int) + k * (j : Int)) d0 (by omega) (by omega) rfl
      have pos : 0 ≤ k * (j : Int) := Int.mul_nonneg (by omega) (by omega)
      obtain ⟨c, hc⟩ : inB h ((x : Int) + k * (j : Int)) := by
        rw [F, m1, m2, Int.toNat_natCast]
        omega
      refine ⟨c, ?_, ?_, ?_⟩
      · rcases Nat.lt_or_ge c h.length with q | q
        · exact q
        · rw [bead_out q] at hc
          omega
      · rw [Bool.and_eq_true_iff, ← hc]
        exact ⟨decide_eq_true (by omega), decide_eq_true (by rw [m2, Int.toNat_natCast])⟩
      · show (bead h c / k).toNat = j
        rw [← hc, m1, Int.toNat_natCast]
  · rw [List.getElem?_eq_none (by omega), List.getElem?_eq_none (by rw [List.length_map, List.length_range]; omega)]
theorem ltL_lts (h : List Nat) (k : Int) : (ltL h k h.length).sum = lts h k := by
  unfold ltL lts lt1
  rw [sm_sum]
end K1

namespace K1
open PySem PySem.Spec PyProof.Rows L2 Evl HM LX ZW TE
theorem grow_core {h : List Nat} (IH : IsHeap h) {k q : Int} (hk : 2 ≤ k) (C : coreB h k) : coreB (grow h (gl h k 1 q)) k := by
  rw [core_inB (by omega)] at C ⊢
  have gw : ∀ c, gl h k 1 q c = true → opn h c = true := fun c z => gl_opn c z
  have gi : ∀ c, gl h k 1 q c = true ↔ (opn h c = true ∧ (-(bead h c) - 1 - q) % k = 0) := fun c => by
    unfold gl
    rw [Bool.and_eq_true_iff, decide_eq_true_eq, dg_bead, Int.mul_one]
  have b1 : ∀ c, gl h k 1 q c = true → (b2n (gl h k 1 q c) : Int) = 1 := fun c z => by rw [z]; rfl
  have b0 : ∀ c, ¬ gl h k 1 q c = true → (b2n (gl h k 1 q c) : Int) = 0 := fun c z => by
    rw [Bool.eq_false_iff.mpr z]
    rfl
  rintro z ⟨c, rfl⟩
  rw [bead_grow gw]
  obtain ⟨d, hd⟩ := C _ ⟨c, rfl⟩
  have md : (-(bead h d) - 1 - q) % k = (-(bead h c) - 1 - q) % k := by
    rw [← hd, show -(bead h c - k) - 1 - q = (-(bead h c) - 1 - q) + k by omega, Int.add_emod_right]
  by_cases gc : gl h k 1 q c = true
  · rw [b1 c gc]
    obtain ⟨oc, mc⟩ := (gi c).mp gc
    by_cases od : opn h d = true
    · have gd := (gi d).mpr ⟨od, by rw [md]; exact mc⟩
      exact ⟨d, by rw [bead_grow gw, b1 d gd]; omega⟩
    · have : inB h (bead h d + 1) := by
        rw [opn_inB IH] at od
        exact Classical.not_not.mp od
      obtain ⟨e, he⟩ := this
      have ge : ¬ gl h k 1 q e = true := fun ge => by
        obtain ⟨_, me⟩ := (gi e).mp ge
        rw [← he] at me
        have m2 := mc
        rw [← md] at m2
        have d1 := Int.dvd_of_emod_eq_zero me
        have d2 := Int.dvd_of_emod_eq_zero m2
        have d3 := Int.dvd_sub d2 d1
        rw [show -(bead h d) - 1 - q - (-(bead h d + 1) - 1 - q) = 1 by omega] at d3
        have := Int.le_of_dvd (by decide) d3
        omega
      exact ⟨e, by rw [bead_grow gw, b0 e ge]; omega⟩
  · rw [b0 c gc]
    by_cases gd : gl h k 1 q d = true
    · exfalso
      obtain ⟨od, m⟩ := (gi d).mp gd
      rw [md] at m
      have oc : ¬ opn h c = true := fun o => gc ((gi c).mpr ⟨o, m⟩)
      rw [opn_inB IH] at oc od
      have := C _ (Classical.not_not.mp oc)
      apply od
      rw [← hd, show bead h c - k + 1 = bead h c + 1 - k by omega]
      exact this
    · exact ⟨d, by rw [bead_grow gw, b0 d gd]; omega⟩
end K1

set_option exponentiation.threshold 400
namespace K1
open PySem PySem.Spec PyProof.Rows L2 Evl HM LX ZW TE
theorem core_nil (k : Int) : coreB [] k := fun c hc => absurd hc (Nat.not_lt_zero c)
section
variable {P : Program} {w : World} {K : PySem.W.Frag} {mg : Str → Option Value} {base : Heap}
def spSomeCoreC : Sp := fun vs H Q _ => ∃ d k m, vs = [.ref d, .int k, .int m] ∧ Dice H d ∧ 2 ≤ k ∧ k ≤ 60 ∧ 0 ≤ m ∧ m ≤ 20 ∧ ∀ b h H', HeapAt H' b h → IsHeap h → coreB h k → lts h k ≤ m → (h.length : Int) ≤ m → (hAt h 0 : Int) ≤ m → Dice H' d → Keep d H H' → Q (.ref b) H'
theorem ok_some_coreC (T : Txt K mg) {f : Addr} {fd : FuncData} (D : DefAt K mg "_law_some_core" sLSomeCore ["_law_dice_here", "_law_k", "_law_most"] f fd) : FnOk P w K mg base CX0 2 f fd ["_law_dice_here", "_law_k", "_law_most"] spSomeCoreC := by
  refine D.F.ok scLSomeCore (fun vs H Q E h => ?_) (fun cdv A outer s₀ H vs Q E hr h => ?_)
  · obtain ⟨d, k, m, rfl, _⟩ := h
    rfl
  · obtain ⟨d, k, m, rfl, hd, k1, k2, m1, m2, q⟩ := h
    obtain ⟨f1, fd1, D1⟩ := T.d_l_roll
    obtain ⟨f2, fd2, D2⟩ := T.d_l_grown
    have hr1 : Room 1 _ := hr.mono (by decide)
    refine ⟨_, pss_cons (ps_set (i := 3) scLSomeCore.nd rfl (.inl rfl) (pe_tup pa_nil))
      (pss_cons (ps_for PassesOwn.never rfl (pi_range1 (by rfl) T.z_range (pa_cons (pe_call (ok_roll T D1) hr1 (by rfl) D1.g D1.F.kp D1.b .nil pass0 (pa_cons (pv 0) (pa_cons (pe_op op_add (pv 2) pe_int) pa_nil))) pa_nil)) (pg_name (i := 4) scLSomeCore.nd rfl (.inl rfl))
        (pss_one (ps_set (i := 3) scLSomeCore.nd rfl (.inl rfl) (pe_call (ok_lgrown T D2) hr1 (by rfl) D2.g D2.F.kp D2.b .nil pass0 (pa_cons (pv 3) (pa_cons (pe_tup (pa_cons (pv 1) (pa_cons pe_int pa_nil))) (pa_cons (pe_call (ok_roll T D1) hr1 (by rfl) D1.g D1.F.kp D1.b .nil pass0 (pa_cons (pv 0) (pa_cons (pv 1) pa_nil))) pa_nil)))))))
      (pss_one (ps_ret (pv 3)))), ?_⟩
    refine ⟨by show 0 ≤ sizeLine; decide, fun t0 ht0 => ?_⟩
    have e1 := Ex.new (o := .tup []) ht0
    have g0 : HeapAt (upd H t0 (.tup [])) t0 [] := upd_same
    have hd0 := hd.ex e1
    generalize upd H t0 (.tup []) = H1 at *
    refine ⟨_, rfl, _, rfl, m, 1, rfl, rfl, d, m + 1, rfl, hd0, by omega, by omega, fun r H2 r0 r1 hd2 kp2 => ?_⟩
    refine ⟨r, rfl, by omega, by omega, ?_⟩
    refine for_range (lo := 0) (n := r.toNat) (fun i σ' H' => ∃ (b : Addr) (y4 : Option V) (h : List Nat), σ' = [some (.ref d), some (.int k), some (.int m), some (.ref b), y4] ∧ HeapAt H' b h ∧ IsHeap h ∧ coreB h k ∧ lts h k ≤ (i : Int) ∧ h.length ≤ i ∧ hAt h 0 ≤ i ∧ Dice H' d ∧ Keep d H H')
      ⟨t0, none, [], rfl, kp2.tup hd0 g0, IsHeap.nil, core_nil k, Int.le_refl 0, by simp, by rw [hAt_ge (by simp)]; omega, hd2, (Keep.ex e1).trans kp2⟩ (fun i σ' H' hi hW => ?_) (fun σ' H' hW => ?_)
    · obtain ⟨b, y4, h, rfl, w1, w2, wc, wl, w3, w4, w5, w6⟩ := hW
      refine ⟨_, rfl, _, rfl, by show 2 ≤ sizeLine; decide, fun t ht => ?_⟩
      have et := Ex.new (o := .tup [V.int k, V.int 1]) ht
      have gt : (upd H' t (.tup [V.int k, V.int 1])) t = some (.tup [V.int k, V.int 1]) := upd_same
      generalize upd H' t (.tup [V.int k, V.int 1]) = H3 at *
      have hd3 := w5.ex et
      refine ⟨_, rfl, _, rfl, d, k, rfl, hd3, by omega, by omega, fun q1 H4 q10 q11 hd4 kp4 => ?_⟩
      refine ⟨b, h, .ref t, k, 1, q1, rfl, kp4.tup hd3 (et _ _ w1), by omega, ⟨t, rfl, kp4.tup hd3 gt, k1, k2, by omega, by omega⟩, fun r2 H5 e5 h5 => ?_⟩
      have gw : ∀ c, gl h k 1 q1 c = true → opn h c = true := fun c z => gl_opn c z
      have hg : ∀ c, gl h k 1 q1 c = true ↔ (opn h c = true ∧ (dg h c - q1) % k = 0) := fun c => by
        unfold gl
        rw [Bool.and_eq_true_iff, decide_eq_true_eq, Int.mul_one]
      have LL := letter_lts w2 k1 q10 q11 wc hg
      refine ⟨r2, _, _, rfl, h5, grow_heap w2 gw, LL.1, ?_, ?_, ?_, hd4.ex e5, ((w6.trans (Keep.ex et)).trans kp4).trans (Keep.ex e5)⟩
      · rw [LL.2]
        split <;> omega
      · rw [grow_len]
        have := b2n_le (gl h k 1 q1 h.length)
        omega
      · rw [hAt_grow gw]
        have := b2n_le (gl h k 1 q1 0)
        omega
    · obtain ⟨b, y4, h, rfl, w1, w2, wc, wl, w3, w4, w5, w6⟩ := hW
      exact ⟨_, rfl, q b h _ w1 w2 wc (by omega) (by omega) (by omega) w5 w6⟩
end
end K1

set_option exponentiation.threshold 400
namespace K1
open PySem PySem.Spec PyProof.Rows L2 Evl HM LX ZW TE
/-- the first holes of the runners -/
def fhL (k : Int) (l : List Int) (n : Nat) : List Int := (List.range n).map fun r => k * l.getD r 0 + (r : Int)
theorem fhL_next (k : Int) (l : List Int) (n : Nat) : fhL k l (n + 1) = fhL k l n ++ [k * l.getD n 0 + (n : Int)] := by
  unfold fhL
  rw [List.range_succ, List.map_append]
  rfl
theorem fhL_len (k : Int) (l : List Int) (n : Nat) : (fhL k l n).length = n := by
  unfold fhL
  rw [List.length_map, List.length_range]
section
variable {P : Program} {w : World} {K : PySem.W.Frag} {mg : Str → Option Value} {base : Heap}
def spFirstHoles : Sp := fun vs H Q _ => ∃ k p l, vs = [.int k, .ref p] ∧ H p = some (.tup (l.map V.int)) ∧ l.length ≤ 60 ∧ ((k.natAbs : Int) ≤ 60) ∧ ∀ r H', Ex H H' → H r = none → H' r = some (.lst ((fhL k l l.length).map V.int)) → Q (.ref r) H'
theorem ok_first_holes (T : Txt K mg) {f : Addr} {fd : FuncData} (D : DefAt K mg "first_holes" sFirstHoles ["k", "told"] f fd) : FnOk P w K mg base CX0 1 f fd ["k", "told"] spFirstHoles := by
  refine D.F.ok scFirstHoles (fun vs H Q E h => ?_) (fun cdv A outer s₀ H vs Q E hr h => ?_)
  · obtain ⟨k, p, l, rfl, _⟩ := h
    rfl
  · obtain ⟨k, p, l, rfl, hp, hl, hk, q⟩ := h
    refine ⟨_, pss_one (ps_ret (pe_lc (own := [("rest", 2), ("charge", 3)]) (g := gTup K 2 (gCons (gName 2) (gCons (gName 3) gNil))) (tt := tYes) rfl scFirstHoles.nd (EnT.pi_enumT (by rfl) T.z_enumerate (pa_cons (pv 1) pa_nil))
        (blkOk_by (N := nFirstHoles) (sc := defScope sFirstHoles) (by decide +kernel)) (fun _ _ _ _ _ => (pg_tup (by rfl) (pgs_cons (pg_name (i := 2) scFirstHoles.nd rfl (.inl rfl)) (pgs_cons (pg_name (i := 3) scFirstHoles.nd rfl (.inl rfl)) pgs_nil)))) (fun _ _ _ _ _ => pts_nil)
        (fun _ _ _ _ _ => (pe_op op_add (pe_op op_mul (pv 0) (pv 3)) (pv 2))))), ?_⟩
    refine ⟨_, rfl, p, _, rfl, SqT.of hp, fun Dl hD => ?_⟩
    refine lc_enumT (K := K) (a := p) (xs := l.map V.int) (fun i H' => H' Dl = some (.lst ((fhL k l i).map V.int)) ∧ Ex H H') ⟨upd_same, Ex.new hD⟩ (fun i H' hp2 => SqT.of (hp2.2 _ _ hp)) (fun i x Tp H' hx hp2 nT => ?_) (fun H' hp2 => ?_)
    · obtain ⟨w1, w2⟩ := hp2
      obtain ⟨hi, n, hn, rfl⟩ := int_inv hx
      have eT := Ex.new (o := .tup [.int (i : Nat), .int n]) nT
      have gn : l.getD i 0 = n := by rw [List.getD_eq_getElem?_getD, hn]; rfl
      refine ⟨Tp, _, rfl, SqT.of upd_same, rfl, .int (i : Nat), [_], rfl, _, [], rfl, rfl, rfl, ?_⟩
      dsimp only [tYes]
      rw [if_pos rfl]
      refine ⟨_, rfl, _, rfl, k, n, rfl, rfl, .inl (by constructor <;> omega), _, rfl, _, _, rfl, rfl, _, eT _ _ w1, ?_, ?_, Ex.mut (w2.trans eT) hD⟩
      · rw [List.length_map, fhL_len]
        exact small1000 (by omega)
      · rw [upd_same, fhL_next, List.map_append, gn]
        rfl
    · rw [List.length_map] at hp2
      exact q Dl H' hp2.2 hD hp2.1
end
end K1

/-! tuples and lists of ints compared, whatever they hold -/
namespace CI
open PySem PySem.Spec PyProof.Rows L2 Evl HM LX ZW K1
theorem eqvAll_ints : ∀ a b : List Int, PyData.eqvAll (a.map PyData.int) (b.map PyData.int) = decide (a = b)
  | [], [] => by simp [PyData.eqvAll]
  | [], _ :: _ => by simp [PyData.eqvAll]
  | _ :: _, [] => by simp [PyData.eqvAll]
  | x :: a, y :: b => by
    have := eqvAll_ints a b
    simp only [List.map_cons, PyData.eqvAll, PyData.eqv, this]
    by_cases e : x = y
    · subst e
      simp
    · simp [e]
theorem eqvT (a b : List Int) : PyData.eqv (.tuple (a.map PyData.int)) (.tuple (b.map PyData.int)) = decide (a = b) := by
  rw [← eqvAll_ints]
  simp only [PyData.eqv]
theorem eqvL (a b : List Int) : PyData.eqv (.list (a.map PyData.int)) (.list (b.map PyData.int)) = decide (a = b) := by
  rw [← eqvAll_ints]
  simp only [PyData.eqv]
section
variable {K : PySem.W.Frag} {H : Hp} {p q : Addr} {Q : VK}
theorem eqT {l l' : List Int} (h1 : H p = some (.tup (l.map V.int))) (h2 : H q = some (.tup (l'.map V.int))) (k : Q (.bl (decide (l = l'))) H) : rEqD K (.ref p) (.ref q) H Q :=
  ⟨_, _, .tup (SqT.of h1) (dp_ints l), .tup (SqT.of h2) (dp_ints l'), shaped_intsT _, shaped_intsT _, by rw [eqvT]; exact k⟩
theorem neT {l l' : List Int} (h1 : H p = some (.tup (l.map V.int))) (h2 : H q = some (.tup (l'.map V.int))) (k : Q (.bl (!decide (l = l'))) H) : rNeD K (.ref p) (.ref q) H Q :=
  ⟨_, _, .tup (SqT.of h1) (dp_ints l), .tup (SqT.of h2) (dp_ints l'), shaped_intsT _, shaped_intsT _, by rw [eqvT]; exact k⟩
theorem eqL {l l' : List Int} (h1 : H p = some (.lst (l.map V.int))) (h2 : H q = some (.lst (l'.map V.int))) (k : Q (.bl (decide (l = l'))) H) : rEqD K (.ref p) (.ref q) H Q :=
  ⟨_, _, .lst (SqL.of h1) (dp_ints l), .lst (SqL.of h2) (dp_ints l'), shaped_intsL _, shaped_intsL _, by rw [eqvL]; exact k⟩
theorem neL {l l' : List Int} (h1 : H p = some (.lst (l.map V.int))) (h2 : H q = some (.lst (l'.map V.int))) (k : Q (.bl (!decide (l = l'))) H) : rNeD K (.ref p) (.ref q) H Q :=
  ⟨_, _, .lst (SqL.of h1) (dp_ints l), .lst (SqL.of h2) (dp_ints l'), shaped_intsL _, shaped_intsL _, by rw [eqvL]; exact k⟩
theorem hvI2 (h : List Nat) : hv h = (h.map fun (n : Nat) => (n : Int)).map V.int := by
  unfold hv
  rw [List.map_map]
  rfl
theorem nat_inj : ∀ {h h' : List Nat}, (h.map fun (n : Nat) => (n : Int)) = (h'.map fun (n : Nat) => (n : Int)) → h = h'
  | [], [], _ => rfl
  | [], _ :: _, e => by simp at e
  | _ :: _, [], e => by simp at e
  | a :: r, b :: t, e => by
    simp only [List.map_cons, List.cons.injEq] at e
    rw [nat_inj e.2, show a = b by omega]
theorem nat_ints {h h' : List Nat} : (h.map fun (n : Nat) => (n : Int)) = (h'.map fun (n : Nat) => (n : Int)) ↔ h = h' := ⟨nat_inj, fun e => by rw [e]⟩
theorem eqH {h h' : List Nat} (h1 : HeapAt H p h) (h2 : HeapAt H q h') (k : Q (.bl (decide (h = h'))) H) : rEqD K (.ref p) (.ref q) H Q := by
  unfold HeapAt at h1 h2
  rw [hvI2] at h1 h2
  refine eqT h1 h2 ?_
  rw [show decide ((h.map fun (n : Nat) => (n : Int)) = (h'.map fun (n : Nat) => (n : Int))) = decide (h = h') from decide_eq_decide.mpr nat_ints]
  exact k
theorem neH {h h' : List Nat} (h1 : HeapAt H p h) (h2 : HeapAt H q h') (k : Q (.bl (!decide (h = h'))) H) : rNeD K (.ref p) (.ref q) H Q := by
  unfold HeapAt at h1 h2
  rw [hvI2] at h1 h2
  refine neT h1 h2 ?_
  rw [show decide ((h.map fun (n : Nat) => (n : Int)) = (h'.map fun (n : Nat) => (n : Int))) = decide (h = h') from decide_eq_decide.mpr nat_ints]
  exact k
end
end CI

set_option exponentiation.threshold 400
namespace K1
open PySem PySem.Spec PyProof.Rows L2 Evl HM LX ZW TE
/-- a two-place list, row by row -/
def fac (F : Nat → Nat → Int) (i j : Nat) : List Int := ((List.range i).map fun l => (List.range l).map (F l)).flatten ++ (List.range j).map (F i)
theorem fac0 (F : Nat → Nat → Int) (i : Nat) : fac F i 0 = ((List.range i).map fun l => (List.range l).map (F l)).flatten := List.append_nil _
theorem facS (F : Nat → Nat → Int) (i : Nat) : fac F i i = fac F (i + 1) 0 := by
  rw [fac0, List.range_succ, List.map_append, List.flatten_append]
  show _ = _ ++ ((List.range i).map (F i) ++ [])
  rw [List.append_nil]
  rfl
theorem facN (F : Nat → Nat → Int) (i j : Nat) : fac F i (j + 1) = fac F i j ++ [F i j] := by
  unfold fac
  rw [List.range_succ, List.map_append, ← List.append_assoc]
  rfl
theorem facL (F : Nat → Nat → Int) : ∀ i, i ≤ 60 → (fac F i 0).length ≤ 60 * i
  | 0, _ => Nat.le_refl _
  | i + 1, hi => by
    have h1 := facL F i (by omega)
    rw [← facS]
    rw [fac0] at h1
    unfold fac
    rw [List.length_append, List.length_map, List.length_range]
    omega
theorem facLj (F : Nat → Nat → Int) (i j : Nat) (hi : i ≤ 60) (hj : j ≤ 60) : (fac F i j).length ≤ 60 * i + j := by
  have h1 := facL F i hi
  rw [fac0] at h1
  unfold fac
  rw [List.length_append, List.length_map, List.length_range]
  omega
theorem fac_sum (F : Nat → Nat → Int) : ∀ n : Nat, (fac F n 0).sum = sm n fun i => sm i (F i)
  | 0 => rfl
  | n + 1 => by
    have ih := fac_sum F n
    rw [fac0] at ih
    rw [← facS]
    unfold fac
    rw [List.sum_append, ih, sm_sum]
    rfl
section
variable {P : Program} {w : World} {K : PySem.W.Frag} {mg : Str → Option Value} {base : Heap}
def spIsRow : Sp := fun vs H Q _ => ∃ p, ∃ l : List Int, ∃ lo hi : Int, vs = [.ref p, .int (l.length : Int), .int lo, .int hi] ∧ H p = some (.tup (l.map V.int)) ∧ l.length ≤ 60 ∧ (∀ z ∈ l, lo ≤ z ∧ z ≤ hi ∧ -(10 ^ 60) < z ∧ z < 10 ^ 60) ∧ ∀ H', Ex H H' → Q (.bl true) H'
theorem ok_is_row (T : Txt K mg) {f : Addr} {fd : FuncData} (D : DefAt K mg "is_row" sIsRow ["value", "many", "low", "high"] f fd) : FnOk P w K mg base CX0 3 f fd ["value", "many", "low", "high"] spIsRow := by
  refine D.F.ok scIsRow (fun vs H Q E h => ?_) (fun cdv A outer s₀ H vs Q E hr h => ?_)
  · obtain ⟨p, l, lo, hi, rfl, _⟩ := h
    rfl
  · obtain ⟨p, l, lo, hi, rfl, hp, hl, hb, q⟩ := h
    obtain ⟨f1, fd1, D1⟩ := T.d_is_between
    have hr2 : Room 2 _ := hr.mono (by decide)
    refine ⟨_, pss_cons (ps_if (PW.pt (pw_or (pt_not (pt_val (pe_callB call_isi (by rfl) T.z_isinstance (by decide +kernel) (pa_cons (pv 0) (pa_cons (pe_bltn (v := .ty "tuple") (by rfl) T.z_tuple (by decide +kernel) rfl) pa_nil)))))
          (pw_or1 (pt_cmpR op_ne (pe_callB call_len_seq (by rfl) T.z_len PySem.boot_len (pa_cons (pv 0) pa_nil)) (pv 1) (nomark _))))) (pss_one (ps_ret pe_bl)) pss_nil)
      (pss_one (ps_ret (pe_callB (cr_all rfl) (by rfl) T.z_all (by decide +kernel) (pa_cons (pe_lc (own := [("number", 4)]) (g := gName 4) (tt := tYes) rfl scIsRow.nd (pi_tup (pv 0))
        (blkOk_by (N := nIsRow) (sc := defScope sIsRow) (by decide +kernel)) (fun _ _ _ _ _ => (pg_name (i := 4) scIsRow.nd rfl (.inl rfl))) (fun _ _ _ _ _ => pts_nil)
        (fun _ _ _ _ _ => (pe_call (ok_is_between T D1) hr2 (by rfl) D1.g D1.F.kp D1.b .nil pass0 (pa_cons (pv 4) (pa_cons (pv 2) (pa_cons (pv 3) pa_nil)))))) pa_nil)))), ?_⟩
    refine ⟨_, rfl, .ref p, .ty "tuple", .type "tuple", .type "tuple", true, rfl, .ty _, .base (.tup hp), kit_ty (by decide +kernel), true, rfl, iteF ?_⟩
    refine ⟨_, rfl, p, _, rfl, .inr (SqT.of hp), _, rfl, rfl, _, rfl, iteF' (by rw [List.length_map]; simp) ?_⟩
    refine ⟨_, rfl, p, rfl, ⟨_, SqT.of hp⟩, fun Dl hD => ?_⟩
    refine lc_tupM (K := K) (fun i => V.bl true) hD hp (by rw [List.length_map]; omega) (fun i x Hq Qk hx e' qk => ?_) (fun H7 e7 h7 => ?_)
    · obtain ⟨hi', n, hn, rfl⟩ := int_inv hx
      obtain ⟨b1, b2, b3, b4⟩ := hb n (List.mem_of_getElem? hn)
      exact ⟨rfl, _, rfl, _, rfl, _, rfl, _, lo, hi, true, rfl, .yes b1 b2 b3 b4, fun H8 e8 => qk _ e8⟩
    · rw [mapB] at h7
      refine ⟨Dl, _, rfl, SqL.of h7, ?_⟩
      rw [all_rep]
      exact q _ e7
def spIsLongRow : Sp := fun vs H Q _ => ∃ p, ∃ l : List Int, vs = [.ref p, .int (l.length : Int)] ∧ H p = some (.tup (l.map V.int)) ∧ l.length ≤ 60 ∧ (∀ z ∈ l, -1000 ≤ z ∧ z ≤ 1000) ∧ ∀ H', Ex H H' → Q (.bl true) H'
theorem ok_is_long_row (T : Txt K mg) {f : Addr} {fd : FuncData} (D : DefAt K mg "is_long_row" sIsLongRow ["value", "many"] f fd) : FnOk P w K mg base CX0 4 f fd ["value", "many"] spIsLongRow := by
  refine D.F.ok scIsLongRow (fun vs H Q E h => ?_) (fun cdv A outer s₀ H vs Q E hr h => ?_)
  · obtain ⟨p, l, rfl, _⟩ := h
    rfl
  · obtain ⟨p, l, rfl, hp, hl, hb, q⟩ := h
    obtain ⟨f1, fd1, D1⟩ := T.d_is_row
    obtain ⟨tBOUND, vBOUND⟩ := T.v_BOUND
    have hr3 : Room 3 _ := hr.mono (by decide)
    refine ⟨_, pss_one (ps_ret (pe_call (ok_is_row T D1) hr3 (by rfl) D1.g D1.F.kp D1.b .nil pass0 (pa_cons (pv 0) (pa_cons (pv 1) (pa_cons (pe_op op_sub pe_int (pe_glob (v := .int (10 ^ 60)) rfl vBOUND ⟨_, rfl⟩)) (pa_cons (pe_op op_sub (pe_glob (v := .int (10 ^ 60)) rfl vBOUND ⟨_, rfl⟩) pe_int) pa_nil)))))), ?_⟩
    refine ⟨_, rfl, _, rfl, 1, _, rfl, rfl, _, _, rfl, rfl, p, l, 1 - 10 ^ 60, 10 ^ 60 - 1, rfl, hp, hl, fun z hz => ?_, q⟩
    obtain ⟨a, b⟩ := hb z hz
    exact ⟨by omega, by omega, by omega, by omega⟩
def spLettersBetween : Sp := fun vs H Q _ => ∃ k p l, vs = [.int k, .ref p] ∧ 1 ≤ k ∧ k ≤ 60 ∧ (l.length : Int) = k ∧ H p = some (.lst (l.map V.int)) ∧ ∀ H', Ex H H' → Q (.int (gs k l)) H'
theorem ok_letters_between (T : Txt K mg) {f : Addr} {fd : FuncData} (D : DefAt K mg "letters_between" sLettersBetween ["k", "holes"] f fd) : FnOk P w K mg base CX0 1 f fd ["k", "holes"] spLettersBetween := by
  refine D.F.ok scLettersBetween (fun vs H Q E h => ?_) (fun cdv A outer s₀ H vs Q E hr h => ?_)
  · obtain ⟨k, p, l, rfl, _⟩ := h
    rfl
  · obtain ⟨k, p, l, rfl, k1, k60, hl, hp, q⟩ := h
    refine ⟨_, pss_cons (ps_set (i := 2) scLettersBetween.nd rfl (.inr rfl) (pe_callB (cr_sortedI) (by rfl) T.z_sorted (by decide +kernel) (pa_cons (pv 1) pa_nil)))
      (pss_one (ps_ret (pe_callB (cr_sum rfl) (by rfl) T.z_sum (by decide +kernel) (pa_cons (pe_lc2 (own := [("late", 3), ("early", 4)]) (vs1 := [4]) (g := gName 3) (g1 := gName 4) (tt := tYes) (tt1 := tYes) (wi1 := iRng1 (tCons (tVar 3) tNil)) rfl scLettersBetween.nd (pi_range1 (by rfl) T.z_range (pa_cons (pv 0) pa_nil))
        (blkOk_by (N := nLettersBetween) (sc := defScope sLettersBetween) (by decide +kernel)) (by decide) (fun _ _ _ _ _ => (pg_name (i := 3) scLettersBetween.nd rfl (.inl rfl))) (fun _ _ _ _ _ => pts_nil) (fun _ _ _ _ _ => (pi_range1 (by rfl) T.z_range (pa_cons (pv 3) pa_nil))) (fun _ _ _ _ _ => (pg_name (i := 4) scLettersBetween.nd rfl (.inl rfl))) (fun _ _ _ _ _ => pts_nil) (fun _ _ _ _ _ => (pe_op op_fdiv (pe_op op_sub (pe_ix (show IxR _ (rIxL K) from ix_list) (pv 2) (pv 3) (fun _ _ => rfl)) (pe_ix (show IxR _ (rIxL K) from ix_list) (pv 2) (pv 4) (fun _ _ => rfl))) (pv 0)))) pa_nil)))), ?_⟩
    refine ⟨_, rfl, p, l, rfl, SqL.of hp, fun ns b pm asc hb => ?_⟩
    have eb := Ex.new (o := .lst (ns.map V.int)) hb
    have gb : (upd H b (.lst (ns.map V.int))) b = some (.lst (ns.map V.int)) := upd_same
    generalize upd H b (.lst (ns.map V.int)) = H1 at *
    have nl : ns.length = l.length := pm.length_eq
    have F0 : ∃ F : Nat → Nat → Int, F = fun i j => (ns.getD i 0 - ns.getD j 0) / k := ⟨_, rfl⟩
    obtain ⟨F, hF⟩ := F0
    have sF : (fac F ns.length 0).sum = gs k l := by
      rw [fac_sum, hF, gs_sorted (by omega) asc, gs_perm k pm]
    refine ⟨_, rfl, _, rfl, by omega, by omega, fun D hD => ?_⟩
    refine ⟨fun i m H' => i ≤ ns.length ∧ m = ns.length - i ∧ H' D = some (.lst ((fac F i 0).map V.int)) ∧ Ex H1 H', ⟨ns.length, Nat.zero_le _, rfl, upd_same, Ex.new hD⟩, fun i m H' hW => ?_⟩
    obtain ⟨hi, rfl, a1, a2⟩ := hW
    by_cases hlt : i < ns.length
    · refine .inr ⟨(show i < k.toNat by omega), fun H2 => H2 D = some (.lst ((fac F (i + 1) 0).map V.int)) ∧ Ex H1 H2, fun H2 z => ⟨ns.length - (i + 1), by omega, by omega, rfl, z.1, z.2⟩, fun v H2 hy => ?_⟩
      obtain ⟨rfl, rfl⟩ := hy
      rw [show (0 : Int) + (i : Int) = ((i : Nat) : Int) by omega]
      refine ⟨rfl, ?_⟩
      dsimp only [tYes]
      rw [if_pos rfl]
      refine ⟨_, rfl, _, rfl, by omega, by omega, ?_⟩
      refine ⟨fun j k' H6 => j ≤ i ∧ k' = i - j ∧ H6 D = some (.lst ((fac F i j).map V.int)) ∧ Ex H1 H6, ⟨i, Nat.zero_le _, rfl, a1, a2⟩, fun j k' H6 hW1 => ?_⟩
      obtain ⟨hj, rfl, b1, b2⟩ := hW1
      by_cases hjl : j < i
      · refine .inr ⟨(show j < ((i : Int)).toNat by omega), fun H7 => H7 D = some (.lst ((fac F i (j + 1)).map V.int)) ∧ Ex H1 H7, fun H7 z => ⟨i - (j + 1), by omega, by omega, rfl, z.1, z.2⟩, fun v H7 hy => ?_⟩
        obtain ⟨rfl, rfl⟩ := hy
        rw [show (0 : Int) + (j : Int) = ((j : Nat) : Int) by omega]
        refine ⟨rfl, ?_⟩
        dsimp only [tYes]
        rw [if_pos rfl]
        have gb6 := b2 _ _ gb
        refine ⟨_, rfl, _, rfl, b, _, _, .int (ns.getD i 0), rfl, rfl, SqL.of gb6, atI_nat (int_get5 hlt), _, rfl, _, rfl, b, _, _, .int (ns.getD j 0), rfl, rfl, SqL.of gb6, atI_nat (int_get5 (by omega)), _, _, rfl, rfl, _, rfl, _, k, rfl, rfl, ⟨by omega, by omega⟩, _, b1, ?_, ?_, Ex.mut b2 hD⟩
        · rw [List.length_map]
          have := facLj F i j (by omega) (by omega)
          exact Nat.lt_of_le_of_lt (show _ ≤ 3700 by omega) (by decide)
        · rw [upd_same, facN, List.map_append, hF]
          rfl
      · refine .inl ⟨(show ((i : Int)).toNat ≤ j by omega), ?_, b2⟩
        have : j = i := by omega
        subst this
        rw [← facS]
        exact b1
    · have hie : i = ns.length := by omega
      subst hie
      refine .inl ⟨(show k.toNat ≤ ns.length by omega), D, fac F ns.length 0, rfl, SqL.of a1, ?_⟩
      rw [sF]
      exact q _ (eb.trans a2)
end
end K1

namespace PySem
namespace TmX
open PySem.W PySem.Calls PyProof.Rows PySem.HandSPX
/-- OverflowError's own line of classes -/
abbrev oeT : List Value := [.type "OverflowError", .type "ArithmeticError", .type "Exception", .type "BaseException", .type "object"]
section
open Builtin Builtin.ObjectAttr
variable {prog : Program} {w : World} {A : Around} {R : Result → Shared → Prop} {hp : Heap} {g : Array GenState} {d : Drawn} {t : Nat} {os : OsState}
/-- the first field of an exception whose classes let it pass -/
theorem osa_first {K : W.Frag} {name : Str} {tk : Tok} {v : Value} {x C : Addr} {fv : Array Value} {cd : ClassData} (Y : K.In hp) (gx : hp.get? x = some { cls := .ref C, data := .fields fv }) (hcd : W.clsIn K C = some cd)
    (m1 : cd.mro.isEmpty = false) (m2 : cd.mro.contains (.type "object") = true) (m3 : ∀ self, refuseLoop self "__setattr__" cd.mro = pure ()) (hh : cd.hasDict = true) (na : W.findIn K (.ref C) name = some none)
    (k : ∀ h2 tk2 dx, (∀ b o, b ≠ x → hp.get? b = some o → h2.get? b = some o) → hp.objs.size ≤ dx → dx ≠ x → h2.get? x = some { cls := .ref C, dict := some dx, data := .fields fv } →
      h2.Ns1 dx (fun y => if y = name then some v else none) → R (.ok (.ret .none)) ⟨h2, g, d, tk2, os⟩) :
    codeAny (model prog w) A (.call (.builtin "object.__setattr__") ⟨[.ref x, .str name tk, v], []⟩) R ⟨hp, g, d, t, os⟩ := by
  have J : W.InstAt hp x { cls := .ref C, data := .fields fv } C none := ⟨gx, rfl, rfl, trivial⟩
  have S := F.store_object
  have xn : x ≠ hp.objs.size := Nat.ne_of_lt (Heap.lt_size gx)
  have isO : W.Looks (model prog w) hp (isInstance (.ref x) (.type "object")) true :=
    J.type.andThen (W.looks_mroIn Y (by unfold W.mroIn; rw [hcd, Option.bind_some, if_neg (by rw [m1]; decide), m2]))
  refine codeAny_call_builtin S.slot.plain S.entry
    (@W.check_slot (model prog w) _ _ ⟨hp, g, d, t, os⟩ "object.__setattr__" "object" "__setattr__" (.ref x) [.str name tk, v] [] _ S.kind S.split isO (S.args (.ref x) (.str name tk) v) ?_)
  have lm : W.Looks (model prog w) hp (mroOf (.ref C)) cd.mro := (W.looks_clsIn Y hcd).andThen .now
  have lt : W.Looks (model prog w) hp (storeTaker? none) none := .now
  have lc : W.Looks (model prog w) hp (classData C) cd := W.looks_clsIn Y hcd
  rw [W.osa_eq, refuse_eq]
  refine wpAny_bind (wpAny_bind (J.type.at (wpAny_bind (lm.at ?_))))
  rw [m3]
  refine wpAny_pure (wpAny_bind (J.type.at (wpAny_bind ((W.looks_findIn Y na).at (wpAny_bind (lt.at ?_))))))
  show wpAny _ _ (storeInOwnDict (.ref x) (.ref C) (.str name tk) name v false) _ _ _
  obtain ⟨nm, bs, mro, ns, qn, hd, sn, sb, ab, col, del⟩ := cd
  dsimp only at hh
  subst hh
  unfold storeInOwnDict ownDictForStores
  repeat (first
    | with_reducible refine store_in_new ?_ ?_
    | with_reducible refine wpAny_loadPart_at gx ?_
    | with_reducible refine lc.at ?_
    | wp_step)
  · exact ⟨_, #[], _, (Heap.get?_update_ne _ _ _ _ xn.symm).trans (Heap.get?_push_at rfl rfl), rfl, fun e he => absurd he (by simp), fun _ => rfl⟩
  · intro h2 tk2 n2 s2
    have g1 : (hp.push { cls := .type "dict", data := .dict #[] }).get? x = some { cls := .ref C, data := .fields fv } := Heap.get?_push_of_some _ gx
    refine k h2 tk2 hp.objs.size (fun b o hb ho => ?_) (Nat.le_refl _) xn.symm ?_ n2
    · exact (s2.2 b (Nat.ne_of_lt (Heap.lt_size ho))).trans ((Heap.get?_update_ne _ _ _ _ hb).trans (Heap.get?_push_of_some _ ho))
    · exact (s2.2 x xn).trans (Heap.get?_update_self _ g1 rfl)
theorem oe_obj (C : Addr) : (Value.ref C :: oeT).contains (.type "object") = true := by
  rw [List.contains_cons]
  rfl
theorem oe_pass (C : Addr) (self : Value) : refuseLoop self "__setattr__" (.ref C :: oeT) = pure () := by
  rw [refuseLoop_ref]
  exact F.store_OverflowError.passes self
end
/-! ### the text of __init__ -/
def iA (p1 p2 : Pos) : Arguments := { posonlyargs := [], args := [{ arg := "self", annotation := none, pos := p1 }, { arg := "limit", annotation := none, pos := p2 }], vararg := none, kwonlyargs := [], kw_defaults := [], kwarg := none, defaults := [] }
def iB (q1 q2 q3 q4 : Pos) : List Stmt := [.Assign [.Attribute (.Name "self" q1) "limit" q2] (.Name "limit" q3) q4]
def iS : Scope := { kind := .function, names := [(PySem.Str.ofString "self", .local), (PySem.Str.ofString "limit", .local)], isGenerator := false, isCoroutine := false, more := [] }
/-- what the written part says of Low, at C, and of its __init__, at fI -/
structure TmTxt (K : Frag) (mg : Str → Option Value) (C fI : Addr) : Prop where
  gC : mg "TooMany" = some (.ref C)
  cls : ∃ nm q N bs sn sub ab col dd k0 k1 k2 k3 k5, K.lookup C = some (excClassObj nm q C N bs oeT true sn sub ab col dd k0 k1 k2 k3 k5 "OverflowError.__new__")
  sa : findIn K (.ref C) "__setattr__" = some (some (.builtin "object.__setattr__"))
  ga : findIn K (.ref C) "__getattribute__" = some (some (.builtin "BaseException.__getattribute__"))
  gg : findIn K (.ref C) "__getattr__" = some none
  noN : findIn K (.ref C) "limit" = some none
  iC : findIn K (.ref C) "__init__" = some (some (.ref fI))
  tC : typeIn K (.ref fI) = some (.type "function")
  kC : keepIn K (.ref C) = true
  exC : subIn K (.ref C) (.type "BaseException") = some true
  tyC : typeIn K (.ref C) = some (.type "type")
  hdC : hasDictIn K C = true
  te : exmOne K (.ref C) (.ref C) = some true
  fn : ∃ (oc : Value) (od : Option Addr) (doc pm : Value) (an : Option Addr) (cdv ct : Value) (osl : Array (Option Value)) (p1 p2 q1 q2 q3 q4 : Pos),
    K.lookup fI = some ⟨oc, od, .func (fnOf "__init__" "TooMany.__init__" (iA p1 p2) (iB q1 q2 q3 q4) iS .none .none doc pm an cdv ct), osl⟩ ∧ codeIn K cdv "TooMany.__init__" = true
theorem one_size (v : Value) : [v].length ≤ sizeLine := by
  rw [sizeLine_eq]
  exact (by decide : 1 ≤ 16777216)
theorem kept_but {K : Frag} {h h' : Heap} {x : Addr} (X : K.In h) (hx : K.lookup x = none) (k : ∀ b o, b ≠ x → h.get? b = some o → h'.get? b = some o) : K.In h' := fun a o e =>
  k a o (fun z => by rw [z, hx] at e; cases e) (X a o e)
theorem ldC {M : Model} {s : Shared} {name : Str} {scope : Scope} {L a : Addr} {cd : Value} {m : Str → Option Value} {x : Str} {pos : Pos} {v : Value} {Q : Value → Shared → Prop} {A : Around} {E : Value → Shared → Prop} (hn : s.heap.Ns L m) (hv : m x = some v) (h : Q v s)
    (hk : scope.kind = .function := by rfl) (hl : (envOfC name scope L a cd).kindOf x = some .local := by rfl) (hd : (x == ("__debug__" : Str)) = false := by decide) :
    wpAny M A (eval (.Name x pos) (envOfC name scope L a cd)) Q E s := wpAny_Name (wpAny_loadName_local hk hl hn hv h) hd
/-- what __init__ leaves of a fresh exception at x -/
structure InitEnd (h h' : Heap) (x C dx t1 : Addr) (v : Value) : Prop where
  keep : ∀ b o, b ≠ x → h.get? b = some o → h'.get? b = some o
  obj : h'.get? x = some { cls := .ref C, dict := some dx, data := .fields #[.ref t1, .none, .none, .none, .bool false, .none] }
  dbig : h.objs.size ≤ dx
  dne : dx ≠ x
  ns : h'.Ns1 dx (fun y => if y = "limit" then some v else none)
/-- a made Low -/
structure OwnMade (h h' : Heap) (e C d : Addr) (v : Value) : Prop where
  keep : ∀ b o, h.get? b = some o → h'.get? b = some o
  new : h.objs.size ≤ e
  obj : ∃ oe vs, h'.get? e = some oe ∧ oe.cls = .ref C ∧ oe.dict = some d ∧ oe.data = .fields vs ∧ vs[1]? = some .none
  dbig : h.objs.size ≤ d
  dne : d ≠ e
  ns : h'.Ns1 d (fun y => if y = "limit" then some v else none)
section
variable {prog : Program} {w : World} {A : Around} {E : Value → Shared → Prop} {R : Result → Shared → Prop} {s : Shared} {K : Frag} {mg : Str → Option Value} {C fI : Addr}
theorem tm_init (T : TmTxt K mg C fI) {x t0 : Addr} {v : Value} (X : K.In s.heap) (hlim : s.heap.NoLimit) (hx : s.heap.get? x = some (excO C t0)) (hnx : K.lookup x = none) (hroom : A.depth < recursionLimit)
    (hq : ∀ h' tk dx, InitEnd s.heap h' x C dx t0 v → R (.ok (.ret .none)) { s with heap := h', toks := tk }) :
    codeAny (model prog w) A (.call (.ref fI) ⟨[.ref x, v], []⟩) R s := by
  obtain ⟨oc, od, doc, pm, an, cdv, ct, osl, p1, p2, q1, q2, q3, q4, ho, hcd⟩ := T.fn
  obtain ⟨nm, q, N, bs, sn, sub, ab, col, dd, k0, k1, k2, k3, k5, hC⟩ := T.cls
  have hcl : clsIn K C = some { name := nm, bases := bs, mro := .ref C :: oeT, ns := N, qualname := q, hasDict := true, slotNames := sn, subclasses := sub, abstract := ab, collection := col, hasDel := false } := by unfold clsIn; rw [hC] <;> rfl
  refine Att.call_fn (binds := [("self", .ref x), ("limit", v)]) X hlim ho hcd hroom (BindsTo.of_eq (by first | rfl | with_unfolding_all rfl)) (by first | rfl | decide | with_unfolding_all rfl) (fun s₁ IC => ?_) rfl rfl rfl
  obtain ⟨h₁, tk₁, rfl⟩ := IC.toInCall.same
  have k : ∀ b o, s.heap.get? b = some o → h₁.get? b = some o := IC.toInCall.keep
  have hn := IC.toInCall.ns
  have hxL : s.heap.objs.size ≠ x := Nat.ne_of_gt (Heap.lt_size hx)
  have X₁ : K.In h₁ := X.keeps k
  have hx₁ := k _ _ hx
  -- self.by = by
  show wpAny _ _ (execs _ _) _ _ _
  refine wpAny_execs_cons (plainObj_wpAny_Assign_Attribute ?_)
  refine ldC (v := v) hn (by first | rfl | with_unfolding_all rfl | kernel_rfl) (ldC (v := .ref x) hn (by first | rfl | with_unfolding_all rfl | kernel_rfl) ?_)
  refine set_plain X₁ (ox := excO C t0) (od := none) ⟨hx₁, rfl, rfl, trivial⟩ T.sa ?_
  refine osa_first X₁ hx₁ hcl rfl (oe_obj C) (oe_pass C) rfl T.noN (fun h₃ tk₃ dx k₃ dn dne hx₃ hn₃ => ?_)
  show wpAny _ _ (execs _ _) _ _ _
  have z : s.heap.objs.size < h₁.objs.size := hn.lt
  exact wpAny_execs_nil (hq h₃ tk₃ dx ⟨fun b o hb e => k₃ b o hb (k b o e), hx₃, Nat.le_of_lt (Nat.lt_of_lt_of_le z dn), dne, hn₃⟩)
theorem tm_made (T : TmTxt K mg C fI) {v : Value} (X : K.In s.heap) (hlim : s.heap.NoLimit) (hroom : A.depth + 1 < recursionLimit)
    (hq : ∀ h' tk e d, OwnMade s.heap h' e C d v → R (.ok (.ret (.ref e))) { s with heap := h', toks := tk }) :
    codeAny (model prog w) A (.call (.ref C) ⟨[v], []⟩) R s := by
  obtain ⟨nm, q, N, bs, sn, sub, ab, col, dd, k0, k1, k2, k3, k5, hC⟩ := T.cls
  obtain ⟨hp, g, dr, tk, os⟩ := s
  have k : ∀ b o, hp.get? b = some o → ((hp.push (kdv_tup [v])).push (excO C hp.objs.size)).get? b = some o := fun b o e => Heap.get?_push_of_some _ (Heap.get?_push_of_some _ e)
  have hget : ((hp.push (kdv_tup [v])).push (excO C hp.objs.size)).get? (hp.objs.size + 1) = some (excO C hp.objs.size) := by heap_get
  have hnx : K.lookup (hp.objs.size + 1) = none := by
    cases e : K.lookup (hp.objs.size + 1) with
    | none => rfl
    | some o =>
      have z : hp.get? (hp.objs.size + 1) = some o := X _ _ e
      exact absurd (Nat.lt_of_succ_lt (Heap.lt_size z)) (Nat.lt_irrefl _)
  refine call_own F.excBase_OverflowError (fun X => rfl) (X _ _ hC) (looks_findIn X T.iC) (fun self => bind_fn X self T.tC) (one_size v) ?_
  refine tm_init (s := ⟨(hp.push (kdv_tup [v])).push (excO C hp.objs.size), g, dr, tk, os⟩) T (X.keeps k) (hlim.keeps k) hget hnx ?_ fun h' tk' dx ⟨k', hx, dn, dne, hns⟩ => ?_
  · show A.depth + 1 < recursionLimit
    exact hroom
  · have old : ∀ b o, hp.get? b = some o → h'.get? b = some o := fun b o e => k' b o (Nat.ne_of_lt (Nat.lt_succ_of_lt (Heap.lt_size e))) (k b o e)
    have z : hp.objs.size + 1 + 1 ≤ dx := by
      first
        | (simpa only [Heap.size_push] using dn)
        | exact dn
        | (have q := dn; rw [Heap.size_push, Heap.size_push] at q; exact q)
    exact ⟨rfl, hq h' tk' (hp.objs.size + 1) dx ⟨old, Nat.le_succ _, ⟨_, _, hx, rfl, rfl, rfl, rfl⟩, Nat.le_trans (Nat.le_trans (Nat.le_succ _) (Nat.le_succ _)) z, dne, hns⟩⟩
end
end TmX
end PySem
namespace L2
open PySem PySem.Spec PyProof.Rows
theorem relO_tm {v : V} {v' : Value} (r : RelV v v') (f : Str) : RelO (List.lookup f [(("limit" : Str), v)]) (if f = "limit" then some v' else none) := by
  by_cases hw : f = "limit"
  · subst hw
    rw [if_pos rfl]
    have q : List.lookup ("limit" : Str) [(("limit" : Str), v)] = some v := by simp [List.lookup]
    rw [q]
    exact r
  · rw [if_neg hw]
    have qw : (f == ("limit" : Str)) = false := by simpa using hw
    have q2 : List.lookup f [(("limit" : Str), v)] = none := by simp [List.lookup, qw]
    rw [q2]
    trivial
section
variable {X : Cx} {C fI : Addr}
/-- Low(e) -/
def tMkTm (C : Addr) (ta : TA) : St → Hp → XK → Prop := fun σ H Q => ta σ H fun vs H1 => ∃ v, vs = [v] ∧ ∀ d, H1 d = none → Q (.ref C) (some d) (upd H1 d (.xd [(("limit" : Str), v)]))
theorem pmk_tm {a : Expr} {ta : TA} {p pos : Pos} {k : Nat} (T : PySem.TmX.TmTxt X.K X.mg C fI) (hr : Room k X.A) (ha : PA X [a] ta) (hg : Gl X "TooMany" := by rfl)
    (he : starEach (a :: []) X.env = (false, eval a X.env) :: starEach [] X.env := by rfl) (hpl : (backTo pos (starEach [] X.env)).any (·.1) = false := by rfl) :
    PMk X (.Call (.Name "TooMany" p) [a] [] pos) (tMkTm C ta) := by
  intro pins s σ H Q I h
  refine wpAny_Call_Name_kw (ld_glob I hg T.gC ?_)
  refine PySem.W.callWith_K (h₀ := X.base) I.ok.mod.kin T.kC (thn (ha.run pos pins s σ H _ I h) fun us s1 hh => ?_) he hpl
  obtain ⟨vs, H1, I1, r1, v, ev, q1⟩ := hh
  subst ev
  refine ⟨I1.kIn, ?_⟩
  cases r1 with
  | cons rv rn =>
    rename_i v' us'
    cases rn
    show wpAny _ _ (call (.ref C) [v']) _ _ _
    have hlim := I1.nolimit
    obtain ⟨hp, g, dr, tk, os⟩ := s1
    refine wpAny_call (PySem.TmX.tm_made T I1.kIn hlim (by have := hr.dp; omega) fun h' tk' e d M => ?_)
    show MkP X pins σ Q (.ref e) ⟨h', g, dr, tk', os⟩
    obtain ⟨oe, fv, hoe, hc, hd, hdat, h1⟩ := M.obj
    have hns := M.ns
    obtain ⟨G', g1, g2⟩ := restrict h' fun b => decide (b ≠ e)
    have gk : ∀ b, b ≠ e → G'.get? b = h'.get? b := fun b hb => g1 b (decide_eq_true hb)
    have ge : G'.get? e = none := g2 e (by simp)
    have old : ∀ b o, hp.get? b = some o → G'.get? b = some o := fun b o q => (gk b (Nat.ne_of_lt (Nat.lt_of_lt_of_le (Heap.lt_size q) M.new))).trans (M.keep b o q)
    have ob : ObjOk X.prog X.w (upd H1 d (.xd [(("limit" : Str), v)])) G' d (.xd [(("limit" : Str), v)]) :=
      ⟨_, hns.at (fun o q => (gk d M.dne).trans q), fun f => relO_tm rv f⟩
    have J : Inv X pins σ (upd H1 d (.xd [(("limit" : Str), v)])) ⟨G', g, dr, tk', os⟩ := I1.laid (t' := tk') old M.dbig ob
    refine ⟨e, oe, fv, ⟨G', g, dr, tk', os⟩, _, .ref C, some d, rfl, J, fun b o q => ?_, ge, hoe, ⟨hc, hd⟩, hdat, h1, ?_, rfl, I1.bare, raises_own T.exC T.tyC, q1 d (I1.hok.fresh M.dbig)⟩
    · by_cases hb : b = e
      · have q' : G'.get? b = some o := q
        rw [hb, ge] at q'; cases q'
      · exact (gk b hb).symm.trans q
    · rw [upd_ne (Ne.symm M.dne)]
      exact I1.hok.fresh M.new
/-- raise Low(e) -/
def tRaiseTm (C : Addr) (W : WX) (ta : TA) : TS := fun _ σ H => tMkTm C ta σ H fun cls d H' => W cls d σ H'
theorem ps_raiseTm {a : Expr} {ta : TA} {W : WX} {p pos pos2 : Pos} {k : Nat} (hc : X.calm = true) (T : PySem.TmX.TmTxt X.K X.mg C fI) (hr : Room k X.A) (tk : Takes X W) (ha : PA X [a] ta) (hg : Gl X "TooMany" := by rfl)
    (he : starEach (a :: []) X.env = (false, eval a X.env) :: starEach [] X.env := by rfl) (hpl : (backTo pos (starEach [] X.env)).any (·.1) = false := by rfl) :
    PS X (.Raise (some (.Call (.Name "TooMany" p) [a] [] pos)) none pos2) (tRaiseTm C W ta) := ps_raise hc tk (pmk_tm T hr ha hg he hpl)
/-- low.by, low the exception that the suite holds (at a; its class cls, its dict d) -/
def tByTm (C : Addr) (a : Addr) (cls : Value) (d : Option Addr) (te : TE) : TE := fun σ H Q => te σ H fun x H1 => x = .ref a ∧ cls = .ref C ∧ ∃ (dd : Addr) (v : V), d = some dd ∧ H1 dd = some (.xd [(("limit" : Str), v)]) ∧ Q v H1
theorem pe_byTm {a : Addr} {oe : Obj} {cls : Value} {d : Option Addr} {pn : List (Addr × Obj)} {e : Expr} {te : TE} {pos : Pos} (T : PySem.TmX.TmTxt X.K X.mg C fI) (hz : Zc cls d oe) (hf : ∃ vs, oe.data = .fields vs) (he : PE (X.suite a ((a, oe) :: pn)) e te)
    (hb : attributeBase e "limit" X.env (eval e X.env) = eval e X.env := by rfl) :
    PE (X.suite a ((a, oe) :: pn)) (.Attribute e "limit" pos) (tByTm C a cls d te) := by
  refine ⟨fun pins s σ H Q I h => ?_⟩
  refine attr_of hb (thn (he.run pins s σ H _ I h) fun u s1 hh => ?_)
  obtain ⟨x, H1, I1, rx, ex, ec, dd, v, ed, ea, q⟩ := hh
  subst ex
  obtain rfl : u = Value.ref a := rx
  subst ec
  subst ed
  obtain ⟨ha, _⟩ := I1.pin (a, oe) (List.mem_append_left _ List.mem_cons_self)
  obtain ⟨vs, hd⟩ := hf
  have hx : ObjOk X.prog X.w H1 s1.heap dd (.xd [(("limit" : Str), v)]) := I1.hok dd _ ea
  obtain ⟨mA, hns, hr⟩ := hx
  obtain ⟨od, ho, hl⟩ := lookIn_ns hns
  have l : List.lookup ("limit" : Str) [(("limit" : Str), v)] = some v := by simp [List.lookup]
  obtain ⟨u, hu, ru⟩ := RelO.some_of (v := v) (o := mA "limit") (by rw [← l]; exact hr "limit")
  have J : PySem.W.InstAt s1.heap a oe C (some od) := ⟨ha, hz.1, by unfold PySem.W.notCls; rw [hd] <;> rfl, by rw [hz.2]; exact ho⟩
  exact HandSPX.exc_get I1.kIn J T.ga T.gg T.exC (PySem.W.findObj_own T.hdC T.noN rfl (by rw [hl, hu])) (handed_of ru) ⟨v, H1, I1.tok _, ru, q⟩
end
end L2


/-! own rules: a comprehension of two clauses, by two walks -/
namespace L2
open PySem PySem.Spec PyProof.Rows
section
variable {J : It} {n : Nat} {G : Hp → Prop} {Y : Nat → Hp → V → Hp → Prop}
/-- the outer clause: Pv by the turn and the heap (the new list at D within) -/
theorem lc2_out (w : Walk J n G Y) {g g1 : TG} {tt tt1 : TT} {wi1 : TI} {te : TE} {vs vs1 : List Nat} {σ : St} {H1 : Hp} {D : Addr} {Qd : Hp → Prop} (Pv : Nat → Hp → Prop) (h0 : Pv 0 (upd H1 D (.lst []))) (hG : ∀ i H, i ≤ n → Pv i H → G H)
    (hs : ∀ i x H H', i < n → Pv i H → Y i H x H' → g x (wipe σ vs) H' fun σ2 H2 => wipe σ2 vs = wipe σ vs ∧ tt σ2 H2 fun b H3 =>
      if b = true then wi1 σ2 H3 fun J1 H4 => ∃ W1 : Nat → Nat → Hp → Prop, (∃ m, W1 0 m H4) ∧ ∀ j k H, W1 j k H →
      (J1.stop j H ∧ Pv (i + 1) H) ∨ (J1.go j H ∧ ∃ Nx1 : Hp → Prop, (∀ H', Nx1 H' → ∃ k', k' < k ∧ W1 (j + 1) k' H') ∧ ∀ x H', J1.yld j H x H' → g1 x (wipe σ2 vs1) H' fun σ3 H5 => wipe σ3 vs1 = wipe σ2 vs1 ∧ tt1 σ3 H5 fun b H6 =>
        if b = true then te σ3 H6 fun y H7 => ∃ acc, H7 D = some (.lst acc) ∧ acc.length < sizeLine ∧ Nx1 (upd H7 D (.lst (acc ++ [y]))) else Nx1 H6)
      else Pv (i + 1) H3) (hd : ∀ H, Pv n H → Qd H) :
    ∃ W : Nat → Nat → Hp → Prop, (∃ m, W 0 m (upd H1 D (.lst []))) ∧ ∀ i m H, W i m H →
      (J.stop i H ∧ Qd H) ∨ (J.go i H ∧ ∃ Nx : Hp → Prop, (∀ H', Nx H' → ∃ m', m' < m ∧ W (i + 1) m' H') ∧ ∀ x H', J.yld i H x H' → g x (wipe σ vs) H' fun σ2 H2 => wipe σ2 vs = wipe σ vs ∧ tt σ2 H2 fun b H3 =>
        if b = true then wi1 σ2 H3 fun J1 H4 => ∃ W1 : Nat → Nat → Hp → Prop, (∃ m, W1 0 m H4) ∧ ∀ j k H, W1 j k H →
      (J1.stop j H ∧ Nx H) ∨ (J1.go j H ∧ ∃ Nx1 : Hp → Prop, (∀ H', Nx1 H' → ∃ k', k' < k ∧ W1 (j + 1) k' H') ∧ ∀ x H', J1.yld j H x H' → g1 x (wipe σ2 vs1) H' fun σ3 H5 => wipe σ3 vs1 = wipe σ2 vs1 ∧ tt1 σ3 H5 fun b H6 =>
        if b = true then te σ3 H6 fun y H7 => ∃ acc, H7 D = some (.lst acc) ∧ acc.length < sizeLine ∧ Nx1 (upd H7 D (.lst (acc ++ [y]))) else Nx1 H6)
        else Nx H3) := by
  refine ⟨fun i m H => m = n - i ∧ i ≤ n ∧ Pv i H, ⟨n, by simp, Nat.zero_le _, h0⟩, ?_⟩
  rintro i m H ⟨rfl, hi, p⟩
  have q := hG i H hi p
  by_cases hlt : i < n
  · refine .inr ⟨w.goes i H hlt q, Pv (i + 1), fun H' p' => ⟨n - (i + 1), by omega, rfl, hlt, p'⟩, fun x H' y => hs i x H H' hlt p (w.yields i H x H' hlt q y)⟩
  · have e : i = n := by omega
    subst e
    exact .inl ⟨w.stops H q, hd H p⟩
/-- the inner clause -/
theorem lc2_in {J1 : It} {n1 : Nat} {G1 : Hp → Prop} {Y1 : Nat → Hp → V → Hp → Prop} (w : Walk J1 n1 G1 Y1) {g1 : TG} {tt1 : TT} {te : TE} {vs1 : List Nat} {σ2 : St} {H4 : Hp} {D : Addr} {Nx : Hp → Prop} (Pv : Nat → Hp → Prop) (h0 : Pv 0 H4) (hG : ∀ i H, i ≤ n1 → Pv i H → G1 H)
    (hs : ∀ j x H H', j < n1 → Pv j H → Y1 j H x H' → g1 x (wipe σ2 vs1) H' fun σ3 H5 => wipe σ3 vs1 = wipe σ2 vs1 ∧ tt1 σ3 H5 fun b H6 =>
        if b = true then te σ3 H6 fun y H7 => ∃ acc, H7 D = some (.lst acc) ∧ acc.length < sizeLine ∧ Pv (j + 1) (upd H7 D (.lst (acc ++ [y]))) else Pv (j + 1) H6) (hd : ∀ H, Pv n1 H → Nx H) :
    ∃ W1 : Nat → Nat → Hp → Prop, (∃ m, W1 0 m H4) ∧ ∀ j k H, W1 j k H →
      (J1.stop j H ∧ Nx H) ∨ (J1.go j H ∧ ∃ Nx1 : Hp → Prop, (∀ H', Nx1 H' → ∃ k', k' < k ∧ W1 (j + 1) k' H') ∧ ∀ x H', J1.yld j H x H' → g1 x (wipe σ2 vs1) H' fun σ3 H5 => wipe σ3 vs1 = wipe σ2 vs1 ∧ tt1 σ3 H5 fun b H6 =>
        if b = true then te σ3 H6 fun y H7 => ∃ acc, H7 D = some (.lst acc) ∧ acc.length < sizeLine ∧ Nx1 (upd H7 D (.lst (acc ++ [y]))) else Nx1 H6) := by
  refine ⟨fun i m H => m = n1 - i ∧ i ≤ n1 ∧ Pv i H, ⟨n1, by simp, Nat.zero_le _, h0⟩, ?_⟩
  rintro i m H ⟨rfl, hi, p⟩
  have q := hG i H hi p
  by_cases hlt : i < n1
  · refine .inr ⟨w.goes i H hlt q, Pv (i + 1), fun H' p' => ⟨n1 - (i + 1), by omega, rfl, hlt, p'⟩, fun x H' y => hs i x H H' hlt p (w.yields i H x H' hlt q y)⟩
  · have e : i = n1 := by omega
    subst e
    exact .inl ⟨w.stops H q, hd H p⟩
/-- both clauses without tests -/
theorem lc2_outY (w : Walk J n G Y) {g g1 : TG} {tt1 : TT} {wi1 : TI} {te : TE} {vs vs1 : List Nat} {σ : St} {H1 : Hp} {D : Addr} {Qd : Hp → Prop} (Pv : Nat → Hp → Prop) (h0 : Pv 0 (upd H1 D (.lst []))) (hG : ∀ i H, i ≤ n → Pv i H → G H)
    (hs : ∀ i x H H', i < n → Pv i H → Y i H x H' → g x (wipe σ vs) H' fun σ2 H2 => wipe σ2 vs = wipe σ vs ∧ wi1 σ2 H2 fun J1 H4 => ∃ W1 : Nat → Nat → Hp → Prop, (∃ m, W1 0 m H4) ∧ ∀ j k H, W1 j k H →
      (J1.stop j H ∧ Pv (i + 1) H) ∨ (J1.go j H ∧ ∃ Nx1 : Hp → Prop, (∀ H', Nx1 H' → ∃ k', k' < k ∧ W1 (j + 1) k' H') ∧ ∀ x H', J1.yld j H x H' → g1 x (wipe σ2 vs1) H' fun σ3 H5 => wipe σ3 vs1 = wipe σ2 vs1 ∧ tt1 σ3 H5 fun b H6 =>
        if b = true then te σ3 H6 fun y H7 => ∃ acc, H7 D = some (.lst acc) ∧ acc.length < sizeLine ∧ Nx1 (upd H7 D (.lst (acc ++ [y]))) else Nx1 H6)) (hd : ∀ H, Pv n H → Qd H) :
    ∃ W : Nat → Nat → Hp → Prop, (∃ m, W 0 m (upd H1 D (.lst []))) ∧ ∀ i m H, W i m H →
      (J.stop i H ∧ Qd H) ∨ (J.go i H ∧ ∃ Nx : Hp → Prop, (∀ H', Nx H' → ∃ m', m' < m ∧ W (i + 1) m' H') ∧ ∀ x H', J.yld i H x H' → g x (wipe σ vs) H' fun σ2 H2 => wipe σ2 vs = wipe σ vs ∧ tYes σ2 H2 fun b H3 =>
        if b = true then wi1 σ2 H3 fun J1 H4 => ∃ W1 : Nat → Nat → Hp → Prop, (∃ m, W1 0 m H4) ∧ ∀ j k H, W1 j k H →
      (J1.stop j H ∧ Nx H) ∨ (J1.go j H ∧ ∃ Nx1 : Hp → Prop, (∀ H', Nx1 H' → ∃ k', k' < k ∧ W1 (j + 1) k' H') ∧ ∀ x H', J1.yld j H x H' → g1 x (wipe σ2 vs1) H' fun σ3 H5 => wipe σ3 vs1 = wipe σ2 vs1 ∧ tt1 σ3 H5 fun b H6 =>
        if b = true then te σ3 H6 fun y H7 => ∃ acc, H7 D = some (.lst acc) ∧ acc.length < sizeLine ∧ Nx1 (upd H7 D (.lst (acc ++ [y]))) else Nx1 H6)
        else Nx H3) := lc2_out (tt := tYes) w Pv h0 hG hs hd
theorem lc2_inY {J1 : It} {n1 : Nat} {G1 : Hp → Prop} {Y1 : Nat → Hp → V → Hp → Prop} (w : Walk J1 n1 G1 Y1) {g1 : TG} {te : TE} {vs1 : List Nat} {σ2 : St} {H4 : Hp} {D : Addr} {Nx : Hp → Prop} (Pv : Nat → Hp → Prop) (h0 : Pv 0 H4) (hG : ∀ i H, i ≤ n1 → Pv i H → G1 H)
    (hs : ∀ j x H H', j < n1 → Pv j H → Y1 j H x H' → g1 x (wipe σ2 vs1) H' fun σ3 H5 => wipe σ3 vs1 = wipe σ2 vs1 ∧ te σ3 H5 fun y H7 => ∃ acc, H7 D = some (.lst acc) ∧ acc.length < sizeLine ∧ Pv (j + 1) (upd H7 D (.lst (acc ++ [y])))) (hd : ∀ H, Pv n1 H → Nx H) :
    ∃ W1 : Nat → Nat → Hp → Prop, (∃ m, W1 0 m H4) ∧ ∀ j k H, W1 j k H →
      (J1.stop j H ∧ Nx H) ∨ (J1.go j H ∧ ∃ Nx1 : Hp → Prop, (∀ H', Nx1 H' → ∃ k', k' < k ∧ W1 (j + 1) k' H') ∧ ∀ x H', J1.yld j H x H' → g1 x (wipe σ2 vs1) H' fun σ3 H5 => wipe σ3 vs1 = wipe σ2 vs1 ∧ tYes σ3 H5 fun b H6 =>
        if b = true then te σ3 H6 fun y H7 => ∃ acc, H7 D = some (.lst acc) ∧ acc.length < sizeLine ∧ Nx1 (upd H7 D (.lst (acc ++ [y]))) else Nx1 H6) := lc2_in (tt1 := tYes) w Pv h0 hG hs hd
/-- one clause without a test -/
theorem lc_itY (w : Walk J n G Y) {g : TG} {te : TE} {vs : List Nat} {σ : St} {H1 : Hp} {D : Addr} {Qd : Hp → Prop} (Pv : Nat → Hp → Prop) (h0 : Pv 0 (upd H1 D (.lst []))) (hG : ∀ i H, i ≤ n → Pv i H → G H)
    (hs : ∀ i x H H', i < n → Pv i H → Y i H x H' → g x (wipe σ vs) H' fun σ2 H2 => wipe σ2 vs = wipe σ vs ∧ te σ2 H2 fun y H4 => ∃ acc, H4 D = some (.lst acc) ∧ acc.length < sizeLine ∧ Pv (i + 1) (upd H4 D (.lst (acc ++ [y])))) (hd : ∀ H, Pv n H → Qd H) :
    ∃ W : Nat → Nat → Hp → Prop, (∃ m, W 0 m (upd H1 D (.lst []))) ∧ ∀ i m H, W i m H →
      (J.stop i H ∧ Qd H) ∨ (J.go i H ∧ ∃ Nx : Hp → Prop, (∀ H', Nx H' → ∃ m', m' < m ∧ W (i + 1) m' H') ∧ ∀ x H', J.yld i H x H' → g x (wipe σ vs) H' fun σ2 H2 => wipe σ2 vs = wipe σ vs ∧ tYes σ2 H2 fun b H3 =>
        if b = true then te σ2 H3 fun y H4 => ∃ acc, H4 D = some (.lst acc) ∧ acc.length < sizeLine ∧ Nx (upd H4 D (.lst (acc ++ [y]))) else Nx H3) := lc_it (tt := tYes) w Pv h0 hG hs hd
end
end L2

set_option exponentiation.threshold 400
namespace K1
open PySem PySem.Spec PyProof.Rows L2 Evl HM LX ZW TE
theorem rgC_next (i c : Int) (n : Nat) : rgC i c (n + 1) = rgC i c n ++ [i + (n : Int) * c] := by
  unfold rgC
  rw [List.range_succ, List.map_append]
  rfl
theorem rgC_zero (i c : Int) : rgC i c 0 = [] := rfl
/-- charges as a function -/
def chF (l : List Int) (r : Nat) : Int := l.getD r 0
theorem fhL_len2 (k : Int) (l : List Int) : (fhL k l l.length).length = l.length := fhL_len k l _
theorem fhL_get (k : Int) (l : List Int) {i : Nat} (hi : i < l.length) : (fhL k l l.length).getD i 0 = k * chF l i + (i : Int) := by
  unfold fhL
  rw [List.getD_eq_getElem?_getD, List.getElem?_map, List.getElem?_range hi]
  rfl
theorem sm_list : ∀ l : List Int, sm l.length (chF l) = l.sum
  | l => by
    have := map_sm id l
    rw [List.map_id] at this
    exact this.symm
/-- the first of the first holes -/
theorem low_hole {k : Int} {l : List Int} (m : Int) (hm : m ∈ fhL k l l.length) (hM : ∀ y, y ∈ fhL k l l.length → m ≤ y) : ∃ r0 : Nat, r0 < l.length ∧ m = k * chF l r0 + (r0 : Int) ∧ ∀ r, r < l.length → k * chF l r0 + (r0 : Int) ≤ k * chF l r + (r : Int) := by
  unfold fhL at hm hM
  obtain ⟨r0, h0, rfl⟩ := List.mem_map.mp hm
  exact ⟨r0, List.mem_range.mp h0, rfl, fun r hr => hM _ (List.mem_map.mpr ⟨r, List.mem_range.mpr hr, rfl⟩)⟩
theorem filt_pos (s : List Int) {i : Nat} {x : Int} (h : s[i]? = some x) : (s.take (i + 1)).filter (fun x => decide (0 < x)) = (s.take i).filter (fun x => decide (0 < x)) ++ (if 0 < x then [x] else []) := by
  rw [take_snoc1 h, List.filter_append]
  congr 1
  by_cases z : 0 < x
  · rw [if_pos z]
    simp [z]
  · rw [if_neg z]
    simp [z]
section
variable {P : Program} {w : World} {K : PySem.W.Frag} {mg : Str → Option Value} {base : Heap} {C fI : Addr}
def spCoreOfCharges (C : Addr) : Sp := fun vs H Q E => ∃ p, ∃ l : List Int, vs = [.int (l.length : Int), .ref p] ∧ H p = some (.tup (l.map V.int)) ∧ 2 ≤ l.length ∧ l.length ≤ 60 ∧ (∀ z ∈ l, -12 ≤ z ∧ z ≤ 12) ∧ l.sum = 0 ∧
  (30 < LS l.length (chF l) → ∀ H1 d, Ex H H1 → H1 d = none → E (.ref C) (some d) (upd H1 d (.xd [(("limit" : Str), .int 30)]))) ∧
  (LS l.length (chF l) ≤ 30 → ∀ r h H', Ex H H' → IsHeap h → fl h (l.length : Int) (chF l) → HeapAt H' r h → Q (.ref r) H')
theorem ok_core_of_charges (T : Txt K mg) (TM : PySem.TmX.TmTxt K mg C fI) {f : Addr} {fd : FuncData} (D : DefAt K mg "core_of_charges" sCoreOfCharges ["k", "value"] f fd) : FnOk P w K mg base (L2.CX P w) 5 f fd ["k", "value"] (spCoreOfCharges C) := by
  refine D.F.okX scCoreOfCharges (fun vs H Q E h => ?_) (fun cdv A outer s₀ H vs Q E hr h => ?_)
  · obtain ⟨p, l, rfl, _⟩ := h
    rfl
  · obtain ⟨p, l, rfl, hp, l2, l60, hb, h0, kE, kQ⟩ := h
    obtain ⟨f1, fd1, D1⟩ := T.d_letters_between
    obtain ⟨f2, fd2, D2⟩ := T.d_first_holes
    obtain ⟨f3, fd3, D3⟩ := T.d_is_long_row
    obtain ⟨f4, fd4, D4⟩ := T.d_check_order
    obtain ⟨tMAX_LETTERS, vMAX_LETTERS⟩ := T.v_MAX_LETTERS
    have hr1 : Room 1 _ := hr.mono (by decide)
    have hr4 : Room 4 _ := hr.mono (by decide)
    refine ⟨_, pss_cons (ps_expr (pe_call (ok_check_order T D4) hr4 (by rfl) D4.g D4.F.kp D4.b .nil pass0 (pa_cons (pv 0) pa_nil)))
      (pss_cons (ps_if (PW.pt (pw_or (pt_not (pt_val (pe_call (ok_is_long_row T D3) hr4 (by rfl) D3.g D3.F.kp D3.b .nil pass0 (pa_cons (pv 1) (pa_cons (pv 0) pa_nil)))))
          (pw_or1 (pt_cmpR op_ne (pe_callB (ST.cr_sumT rfl) (by rfl) (by exact T.z_sum) (by decide +kernel) (pa_cons (pv 1) pa_nil)) pe_int (nomark _))))) pss_never pss_nil)
      (pss_cons (ps_set (i := 2) scCoreOfCharges.nd rfl (.inr rfl) (pe_call (ok_first_holes T D2) hr1 (by rfl) D2.g D2.F.kp D2.b .nil pass0 (pa_cons (pv 0) (pa_cons (pv 1) pa_nil))))
      (pss_cons (ps_if (pt_cmpR op_gt (pe_call (ok_letters_between T D1) hr1 (by rfl) D1.g D1.F.kp D1.b .nil pass0 (pa_cons (pv 0) (pa_cons (pv 2) pa_nil))) (pe_glob (v := .int 30) rfl vMAX_LETTERS ⟨_, rfl⟩) (nomark _)) (pss_one (ps_raiseTm rfl TM hr (takes_of rfl rfl rfl rfl) (by exact (pa_cons (pe_glob (v := .int 30) rfl vMAX_LETTERS ⟨_, rfl⟩) pa_nil)))) pss_nil)
      (pss_cons (ps_setLc2 (i := 3) (own := [("hole", 5), ("bead", 6)]) (vs1 := [6]) (g := gName 5) (g1 := gName 6) (tt := tYes) (tt1 := tYes) (wi1 := iRng3 (tCons (tOp (rI0 fun i j => .int (i - j)) (tVar 5) (tVar 0)) (tCons (tOp (rI0 fun i j => .int (i - j)) (tCB (rMin K) (tCons (tVar 2) tNil)) (tC (.int 1))) (tCons (tUn (rU fun i => .int (-i)) (tVar 0)) tNil)))) (by rfl) scCoreOfCharges.nd rfl rfl (sw_true rfl rfl rfl (by decide +kernel)) (pi_list (pv 2))
        (blkOk_by (N := nCoreOfCharges) (sc := defScope sCoreOfCharges) (by decide +kernel)) (by decide) (fun _ _ _ _ _ => (pg_name (i := 5) scCoreOfCharges.nd rfl (.inl rfl))) (fun _ _ _ _ _ => pts_nil) (fun _ _ _ _ _ => (pi_range3 (by rfl) (by exact T.z_range) (pa_cons (pe_op op_sub (pv 5) (pv 0)) (pa_cons (pe_op op_sub (pe_callB (show CallR _ (.builtin "min") (rMin K) from cr_min rfl) (by rfl) (by exact T.z_min) (by decide +kernel) (pa_cons (pv 2) pa_nil)) pe_int) (pa_cons (pe_un un_neg (pv 0)) pa_nil))))) (fun _ _ _ _ _ => (pg_name (i := 6) scCoreOfCharges.nd rfl (.inl rfl))) (fun _ _ _ _ _ => pts_nil) (fun _ _ _ _ _ => (pv 6)))
      (pss_cons (ps_setLc (i := 4) (own := [("column", 7), ("bead", 6)]) (g := gTup K 2 (gCons (gName 7) (gCons (gName 6) gNil))) (tt := tYes) (by rfl) scCoreOfCharges.nd rfl rfl (sw_true rfl rfl rfl (by decide +kernel)) (pi_enum (by rfl) (by exact T.z_enumerate) (pa_cons (pe_callBK (cr_sortedRev (b := true)) (by rfl) (by exact T.z_sorted) (by decide +kernel) (pa_cons (pv 3) pa_nil) (pk_cons pe_bl pk_nil)) pa_nil))
        (blkOk_by (N := nCoreOfCharges) (sc := defScope sCoreOfCharges) (by decide +kernel)) (fun _ _ _ _ _ => (pg_tup (by rfl) (pgs_cons (pg_name (i := 7) scCoreOfCharges.nd rfl (.inl rfl)) (pgs_cons (pg_name (i := 6) scCoreOfCharges.nd rfl (.inl rfl)) pgs_nil)))) (fun _ _ _ _ _ => pts_nil)
        (fun _ _ _ _ _ => (pe_op op_add (pe_op op_add (pv 6) (pv 7)) pe_int)))
      (pss_one (ps_ret (pe_callTy call_tuple_of (by rfl) (by exact T.z_tuple) (by decide +kernel) (pa_cons (pe_lc (own := [("height", 8)]) (g := gName 8) rfl scCoreOfCharges.nd (pi_list (pv 4))
        (blkOk_by (N := nCoreOfCharges) (sc := defScope sCoreOfCharges) (by decide +kernel)) (fun _ _ _ _ _ => (pg_name (i := 8) scCoreOfCharges.nd rfl (.inl rfl))) (fun _ _ _ _ _ => pts_one (pt_cmpR op_gt (pv 8) pe_int (nomark _)))
        (fun _ _ _ _ _ => (pv 8))) pa_nil))))))))), ?_⟩
    refine ⟨_, rfl, _, rfl, by omega, by omega, fun H1 e1 => ?_⟩
    refine ⟨_, rfl, _, rfl, p, l, rfl, e1 _ _ hp, l60, fun z hz => by have := hb z hz; omega, fun H2 e2 => ⟨true, rfl, iteF' rfl ?_⟩⟩
    have hp2 := (e1.trans e2) _ _ hp
    refine ⟨_, rfl, p, l, rfl, SqT.of hp2, rfl, _, rfl, iteF' (by rw [h0]; rfl) ?_⟩
    refine ⟨_, rfl, _, rfl, _, p, l, rfl, hp2, l60, by omega, fun hs H3 e3 nhs hhs => ?_⟩
    have e13 := (e1.trans e2).trans e3
    refine ⟨_, rfl, _, rfl, (l.length : Int), hs, fhL (l.length : Int) l l.length, rfl, by omega, by omega, by rw [fhL_len2], hhs, fun H4 e4 => ?_⟩
    have eL : gs (l.length : Int) (fhL (l.length : Int) l l.length) = LS l.length (chF l) := gs_holes rfl (chF l)
    rw [eL]
    refine ⟨_, _, rfl, rfl, _, rfl, ite2 (fun c => ?_) (fun c => ?_)⟩
    · exact ⟨_, rfl, fun d hd => kE (of_decide_eq_true c) H4 d (e13.trans e4) hd⟩
    · have c30 : LS l.length (chF l) ≤ 30 := by
        have : ¬ LS l.length (chF l) > 30 := fun z => c (decide_eq_true z)
        omega
      have hhs4 := e4 _ _ hhs
      have e14 := e13.trans e4
      generalize hfl : fhL (l.length : Int) l l.length = fl0 at *
      have fl0n : fl0.length = l.length := by rw [← hfl, fhL_len2]
      have fl0g : ∀ i, i < l.length → fl0.getD i 0 = (l.length : Int) * chF l i + (i : Int) := fun i hi => by rw [← hfl]; exact fhL_get _ _ hi
      have k0 : (0 : Int) < (l.length : Int) := by omega
      have low : ∃ r0 : Nat, r0 < l.length ∧ (∀ r, r < l.length → (l.length : Int) * chF l r0 + (r0 : Int) ≤ (l.length : Int) * chF l r + (r : Int)) ∧ ∀ m, m ∈ fl0 → (∀ y, y ∈ fl0 → m ≤ y) → m = (l.length : Int) * chF l r0 + (r0 : Int) := by
        obtain ⟨m, hm, hM⟩ : ∃ m, m ∈ fl0 ∧ ∀ y, y ∈ fl0 → m ≤ y := by
          have : ∀ u : List Int, u ≠ [] → ∃ m, m ∈ u ∧ ∀ y, y ∈ u → m ≤ y := fun u => by
            induction u with
            | nil => exact fun z => absurd rfl z
            | cons a r ih =>
              intro _
              by_cases z : r = []
              · subst z
                exact ⟨a, List.mem_cons_self .., fun y hy => by
                  rcases List.mem_cons.mp hy with q | q
                  · omega
                  · cases q⟩
              · obtain ⟨m, h1, h2⟩ := ih z
                by_cases q : a ≤ m
                · exact ⟨a, List.mem_cons_self .., fun y hy => by
                    rcases List.mem_cons.mp hy with q | q
                    · omega
                    · have := h2 y q
                      omega⟩
                · exact ⟨m, List.mem_cons_of_mem _ h1, fun y hy => by
                    rcases List.mem_cons.mp hy with q | q
                    · omega
                    · exact h2 y q⟩
          exact this fl0 (fun z => by rw [z] at fl0n; simp at fl0n; omega)
        obtain ⟨r0, h1, h2, h3⟩ := low_hole (k := (l.length : Int)) (l := l) m (by rw [hfl]; exact hm) (by rw [hfl]; exact hM)
        refine ⟨r0, h1, h3, fun m' hm' hM' => ?_⟩
        have := hM' m hm
        have := hM m' hm'
        omega
      obtain ⟨r0, hr0, hm0, hmin⟩ := low
      have ab : ∀ r, r < l.length → -12 ≤ chF l r ∧ chF l r ≤ 12 := fun r hr => hb _ (getD_mem hr)
      have cn : ∀ r, r < l.length → 0 ≤ c2 (chF l) r0 r := fun r hr => by
        have := (c2_iff k0 (show (r : Int) < (l.length : Int) by omega) (show (r0 : Int) < (l.length : Int) by omega) (a := chF l) (-1)).mp (by have := hm0 r hr; omega)
        omega
      have cs : ∀ r, r < l.length → c2 (chF l) r0 r ≤ 24 := fun r hr => by
        have := ab r hr
        have := ab r0 hr0
        unfold c2
        split <;> omega
      have bl : ∀ n, n ≤ l.length → (bs2 (l.length : Int) r0 (chF l) n).length ≤ 24 * n := fun n => by
        induction n with
        | zero => exact fun _ => Nat.le_refl _
        | succ n ih =>
          intro hn
          have := ih (by omega)
          have := cs n (by omega)
          have := cn n (by omega)
          show (bs2 _ r0 _ n ++ rgC _ _ _).length ≤ _
          rw [List.length_append, rgC_len]
          omega
      refine ⟨_, rfl, hs, rfl, ⟨_, SqL.of hhs4⟩, fun D hD => ?_⟩
      have w1 : Walk (Itl K hs) l.length (fun H => SqL K H hs (fl0.map V.int)) (YAt (fl0.map V.int)) := by
        have := walk_list (K := K) (a := hs) (xs := fl0.map V.int)
        rw [List.length_map, fl0n] at this
        exact this
      refine lc2_outY w1 (fun i H' => H' D = some (.lst ((bs2 (l.length : Int) r0 (chF l) i).map V.int)) ∧ Ex H4 H') ⟨upd_same, Ex.new hD⟩ (fun i H' _ hp' => SqL.of (hp'.2 _ _ hhs4)) (fun i x H' H5 hi hp' hy => ?_) (fun H' hp' => ?_)
      · obtain ⟨a1, a2⟩ := hp'
        obtain ⟨rfl, hx⟩ := hy
        rw [List.getElem?_map, List.getElem?_eq_getElem (show i < fl0.length by omega)] at hx
        obtain rfl := Option.some.inj hx
        have gi : fl0[i]'(by omega) = (l.length : Int) * chF l i + (i : Int) := by
          rw [← fl0g i hi, List.getD_eq_getElem?_getD, List.getElem?_eq_getElem (show i < fl0.length by omega)]
          rfl
        rw [gi]
        refine ⟨rfl, ?_⟩
        have hhs5 := a2 _ _ hhs4
        refine ⟨_, rfl, _, rfl, _, _, rfl, rfl, _, rfl, hs, fl0, rfl, SqL.of hhs5, by omega, fun m h1 h2 => ?_⟩
        rw [hmin m h1 h2]
        have ki := ab i hi
        have k0i := ab r0 hr0
        have p1 := Int.mul_le_mul_of_nonneg_left ki.2 (show (0 : Int) ≤ (l.length : Int) by omega)
        have p2 := Int.mul_le_mul_of_nonneg_left ki.1 (show (0 : Int) ≤ (l.length : Int) by omega)
        have p3 := Int.mul_le_mul_of_nonneg_left k0i.2 (show (0 : Int) ≤ (l.length : Int) by omega)
        have p4 := Int.mul_le_mul_of_nonneg_left k0i.1 (show (0 : Int) ≤ (l.length : Int) by omega)
        refine ⟨_, _, rfl, rfl, _, rfl, _, rfl, _, _, _, (c2 (chF l) r0 i).toNat, rfl, RgC.dn k0 (by omega) (by omega) (by omega) (by omega) (by omega) (by have := cs i hi; omega) (fun t => ?_), ?_⟩
        · have := c2_iff k0 (show (i : Int) < (l.length : Int) by omega) (show (r0 : Int) < (l.length : Int) by omega) (a := chF l) (t : Int)
          omega
        · refine lc2_inY walk_rangeC (fun j H6 => H6 D = some (.lst ((bs2 (l.length : Int) r0 (chF l) i ++ rgC ((l.length : Int) * chF l i + (i : Int) - (l.length : Int)) (-(l.length : Int)) j).map V.int)) ∧ Ex H4 H6) ⟨by rw [rgC_zero, List.append_nil]; exact a1, a2⟩ (fun _ _ _ _ => trivial) (fun j x H6 H7 hj hp6 hy => ?_) (fun H6 hp6 => ?_)
          rotate_left
          · exact hp6
          obtain ⟨b1, b2⟩ := hp6
          obtain ⟨rfl, rfl⟩ := hy
          refine ⟨rfl, _, rfl, _, b1, ?_, ?_, Ex.mut b2 hD⟩
          · rw [List.length_map, List.length_append, rgC_len]
            have := bl i (by omega)
            have := cs i hi
            exact Nat.lt_of_le_of_lt (show _ ≤ 1600 by omega) (by decide)
          · rw [upd_same, rgC_next]
            simp only [List.map_append, List.append_assoc]
            rfl
      · obtain ⟨a1, a2⟩ := hp'
        have bln := bl l.length (Nat.le_refl _)
        refine ⟨_, rfl, D, _, rfl, rfl, SqL.of a1, fun ns b pm asc hb2 => ?_⟩
        have asc : ns.Pairwise (· ≥ ·) := asc
        have eb := Ex.new (o := .lst (ns.map V.int)) hb2
        have gb : (upd H' b (.lst (ns.map V.int))) b = some (.lst (ns.map V.int)) := upd_same
        generalize upd H' b (.lst (ns.map V.int)) = H6 at *
        have nsl : ns.length ≤ 1440 := by rw [pm.length_eq]; omega
        obtain ⟨h, IH, Fh, hh, hhl, _⟩ := core2 (k := (l.length : Int)) rfl k0 hr0 (by rw [sm_list, h0]) hm0 pm asc
        refine ⟨b, _, rfl, SqL.of gb, fun D2 hD2 => ?_⟩
        have w2 : Walk (Ite K b) ns.length (fun H => SqL K H b (ns.map V.int)) (YPair (fun i => some (.int (i : Nat))) (fun i => (ns.map V.int)[i]?)) := by
          have := walk_enum (K := K) (a := b) (xs := ns.map V.int)
          rw [List.length_map] at this
          exact this
        refine lc_itY w2 (fun i H' => H' D2 = some (.lst (((List.range i).map fun (c : Nat) => ns.getD c 0 + (c : Int) + 1).map V.int)) ∧ Ex H6 H') ⟨upd_same, Ex.new hD2⟩ (fun i H' _ hp' => SqL.of (hp'.2 _ _ gb)) (fun i x H7 H8 hi hp' hy => ?_) (fun H7 hp' => ?_)
        · obtain ⟨b1, b2⟩ := hp'
          obtain ⟨Tp, x1, z1, rfl, nT, rfl, hx1, hz1⟩ := hy
          obtain rfl := Option.some.inj hx1
          have hz2 : (ns.map V.int)[i]? = some z1 := hz1
          rw [ints_at hi] at hz2
          obtain rfl := Option.some.inj hz2
          have eT := Ex.new (o := .tup [.int (i : Nat), .int (ns.getD i 0)]) nT
          refine ⟨Tp, _, rfl, SqT.of upd_same, rfl, .int (i : Nat), [_], rfl, _, [], rfl, rfl, rfl, ?_⟩
          refine ⟨_, rfl, _, rfl, _, _, rfl, rfl, _, _, rfl, rfl, _, eT _ _ b1, ?_, ?_, Ex.mut (b2.trans eT) hD2⟩
          · rw [List.length_map, List.length_map, List.length_range]
            exact Nat.lt_of_le_of_lt (show _ ≤ 1440 by omega) (by decide)
          · rw [upd_same, List.range_succ, List.map_append, List.map_append]
            rfl
        · obtain ⟨b1, b2⟩ := hp'
          have hg : H7 D2 = some (.lst ((hgt ns).map V.int)) := b1
          refine ⟨_, rfl, D2, rfl, ⟨_, SqL.of hg⟩, fun D3 hD3 => ?_⟩
          have gl : (hgt ns).length = ns.length := by unfold hgt; rw [List.length_map, List.length_range]
          refine lc_list (K := K) (a := D2) (xs := (hgt ns).map V.int) (fun i H4 => H4 D3 = some (.lst ((((hgt ns).take i).filter (fun x => decide (0 < x))).map V.int)) ∧ Ex H7 H4) ⟨upd_same, Ex.new hD3⟩ (fun i H4 _ hp4 => SqL.of (hp4.2 _ _ hg)) (fun i x H8 hx hp4 => ?_) (fun H8 hp4 => ?_)
          · obtain ⟨u1, u2⟩ := hp4
            obtain ⟨hi, n, hn, rfl⟩ := int_inv hx
            have fz := filt_pos (hgt ns) hn
            refine ⟨rfl, _, rfl, _, _, rfl, rfl, _, rfl, ite2 (fun cc => ?_) (fun cc => ?_)⟩
            · have c0 : 0 < n := of_decide_eq_true cc
              rw [if_pos c0] at fz
              refine ⟨_, rfl, _, u1, ?_, ?_, Ex.mut u2 hD3⟩
              · rw [List.length_map]
                have := List.length_filter_le (fun x => decide (0 < x)) ((hgt ns).take i)
                rw [List.length_take] at this
                exact Nat.lt_of_le_of_lt (show _ ≤ 1440 by omega) (by decide)
              · rw [upd_same, fz, List.map_append]
                rfl
            · have c0 : ¬ 0 < n := fun z => cc (decide_eq_true z)
              rw [if_neg c0, List.append_nil] at fz
              exact ⟨by rw [fz]; exact u1, u2⟩
          · obtain ⟨u1, u2⟩ := hp4
            rw [List.length_map, List.take_length, hh] at u1
            refine ⟨D3, _, rfl, .inl ⟨SqL.of u1, fun r hr' => kQ c30 r h _ ((((e14.trans a2).trans eb).trans b2).trans (u2.trans (Ex.new hr'))) IH Fh ?_⟩⟩
            unfold HeapAt
            rw [upd_same, CI.hvI2]
end
end K1

/-! own rules: max and min of a tuple of ints -/
namespace MT
open PySem PySem.Spec PyProof.Rows L2
section
variable {prog : Program} {w : World} {A : Around} {E : Value → Shared → Prop} {s : Shared} {l : Addr}
theorem max_tup {xs : Array (Int × Tok)} {Q : Value → Shared → Prop} (hh : A.handled = none) (hl : s.heap.IsTuple l (intItems xs)) (hne : 0 < xs.size)
    (h : ∀ v h' tk, (intItems xs)[argBest (fun i j => decide (numAt xs i > numAt xs j)) (xs.size - 1)]? = some v → (∀ b o, s.heap.get? b = some o → h'.get? b = some o) → Q v { s with heap := h', toks := tk }) :
    wpAny (model prog w) A (call (.builtin "max") [.ref l]) Q E s := by
  have hlt : l < s.heap.objs.size := by
    obtain ⟨_, e, _⟩ := hl
    exact Heap.lt_size e
  refine call_max_walk (wpAny_pyIter_tuple hl ?_)
  refine ⟨_, _, _, _, _, _, _, rfl, Walks.tuple (A := A.in1) hh s.heap.objs.size l (Nat.ne_of_lt hlt) (intItems xs), ⟨⟨_, Heap.get?_push_size _ rfl, rfl, rfl⟩, hl.push _⟩, fun b hb => ?_, by simpa [intItems] using hne, CmpOf.ints_gt (numAt xs) (fun _ _ => intItems_at), fun v h' tk hP hk => ?_⟩
  · show b < (s.heap.push _).objs.size
    rw [Heap.size_push]
    rcases List.mem_cons.mp hb with rfl | hb
    · exact Nat.lt_succ_self _
    · rcases List.mem_cons.mp hb with rfl | hb
      · exact Nat.lt_succ_of_lt hlt
      · cases hb
  · exact h v h' tk (by simpa [intItems] using hP) fun b o e => by
      refine hk b o (fun hm => ?_) (Heap.get?_push_of_some _ e)
      rcases List.mem_cons.mp hm with e1 | hm
      · exact absurd (e1 ▸ Heap.lt_size e) (Nat.lt_irrefl _)
      · cases hm
theorem min_tup {xs : Array (Int × Tok)} {Q : Value → Shared → Prop} (hh : A.handled = none) (hl : s.heap.IsTuple l (intItems xs)) (hne : 0 < xs.size)
    (h : ∀ v h' tk, (intItems xs)[argBest (fun i j => decide (numAt xs i < numAt xs j)) (xs.size - 1)]? = some v → (∀ b o, s.heap.get? b = some o → h'.get? b = some o) → Q v { s with heap := h', toks := tk }) :
    wpAny (model prog w) A (call (.builtin "min") [.ref l]) Q E s := by
  have hlt : l < s.heap.objs.size := by
    obtain ⟨_, e, _⟩ := hl
    exact Heap.lt_size e
  refine call_min_walk (wpAny_pyIter_tuple hl ?_)
  refine ⟨_, _, _, _, _, _, _, rfl, Walks.tuple (A := A.in1) hh s.heap.objs.size l (Nat.ne_of_lt hlt) (intItems xs), ⟨⟨_, Heap.get?_push_size _ rfl, rfl, rfl⟩, hl.push _⟩, fun b hb => ?_, by simpa [intItems] using hne, CmpOf.ints_lt (numAt xs) (fun _ _ => intItems_at), fun v h' tk hP hk => ?_⟩
  · show b < (s.heap.push _).objs.size
    rw [Heap.size_push]
    rcases List.mem_cons.mp hb with rfl | hb
    · exact Nat.lt_succ_self _
    · rcases List.mem_cons.mp hb with rfl | hb
      · exact Nat.lt_succ_of_lt hlt
      · cases hb
  · exact h v h' tk (by simpa [intItems] using hP) fun b o e => by
      refine hk b o (fun hm => ?_) (Heap.get?_push_of_some _ e)
      rcases List.mem_cons.mp hm with e1 | hm
      · exact absurd (e1 ▸ Heap.lt_size e) (Nat.lt_irrefl _)
      · cases hm
theorem max_tupR {its : List Value} {ns : List Int} {Q : Value → Shared → Prop} (hh : A.handled = none) (hl : s.heap.IsTuple l its.toArray) (hi : IntsAre its ns) (hne : 0 < ns.length)
    (h : ∀ h' tk M t', (∀ b o, s.heap.get? b = some o → h'.get? b = some o) → M ∈ ns → (∀ a, a ∈ ns → a ≤ M) → Q (.int M t') { s with heap := h', toks := tk }) : wpAny (model prog w) A (call (.builtin "max") [.ref l]) Q E s := by
  obtain ⟨xs, e⟩ := hi.allInts.items
  have hn : numsOf (intItems xs).toList = ns := by rw [← e]; exact hi.numsOf
  rw [nums_intItems] at hn
  subst hn
  rw [e] at hl
  have hsz : 0 < xs.size := by simpa using hne
  refine max_tup hh hl hsz fun v h' tk hv hk => ?_
  obtain ⟨t, rfl⟩ := intItems_at hv
  obtain ⟨h1, h2⟩ := argBest_gt (numAt xs) (xs.size - 1)
  refine h h' tk _ t hk ?_ fun a ha => ?_
  · rw [numAt_eq]; exact PySem.getD_mem (by rw [List.length_map, Array.length_toList]; omega)
  · obtain ⟨j, hj, rfl⟩ := mem_getD ha
    rw [List.length_map, Array.length_toList] at hj
    rw [← numAt_eq]; exact h2 j (by omega)
theorem min_tupR {its : List Value} {ns : List Int} {Q : Value → Shared → Prop} (hh : A.handled = none) (hl : s.heap.IsTuple l its.toArray) (hi : IntsAre its ns) (hne : 0 < ns.length)
    (h : ∀ h' tk M t', (∀ b o, s.heap.get? b = some o → h'.get? b = some o) → M ∈ ns → (∀ a, a ∈ ns → M ≤ a) → Q (.int M t') { s with heap := h', toks := tk }) : wpAny (model prog w) A (call (.builtin "min") [.ref l]) Q E s := by
  obtain ⟨xs, e⟩ := hi.allInts.items
  have hn : numsOf (intItems xs).toList = ns := by rw [← e]; exact hi.numsOf
  rw [nums_intItems] at hn
  subst hn
  rw [e] at hl
  have hsz : 0 < xs.size := by simpa using hne
  refine min_tup hh hl hsz fun v h' tk hv hk => ?_
  obtain ⟨t, rfl⟩ := intItems_at hv
  obtain ⟨h1, h2⟩ := argBest_lt (numAt xs) (xs.size - 1)
  refine h h' tk _ t hk ?_ fun a ha => ?_
  · rw [numAt_eq]; exact PySem.getD_mem (by rw [List.length_map, Array.length_toList]; omega)
  · obtain ⟨j, hj, rfl⟩ := mem_getD ha
    rw [List.length_map, Array.length_toList] at hj
    rw [← numAt_eq]; exact h2 j (by omega)
end
section
variable {X : Cx}
def rMaxT (K : PySem.W.Frag) : List V → Hp → VK → Prop := fun vs H Q => ∃ (a : Addr) (ns : List Int), vs = [V.ref a] ∧ SqT K H a (ns.map V.int) ∧ 0 < ns.length ∧ ∀ m, m ∈ ns → (∀ y, y ∈ ns → y ≤ m) → Q (.int m) H
def rMinT (K : PySem.W.Frag) : List V → Hp → VK → Prop := fun vs H Q => ∃ (a : Addr) (ns : List Int), vs = [V.ref a] ∧ SqT K H a (ns.map V.int) ∧ 0 < ns.length ∧ ∀ m, m ∈ ns → (∀ y, y ∈ ns → m ≤ y) → Q (.int m) H
theorem cr_maxT (hc : X.calm = true) : CallR X (.builtin "max") (rMaxT X.K) := by
  intro pins s σ H vs us Q I r h
  obtain ⟨a, ns, rfl, hs, hne, q⟩ := h
  obtain ⟨its, rv, hl, _⟩ := I.tuple hs
  rw [Vals.ref1 r]
  exact max_tupR (I.ok.hd hc) hl rv.ints hne fun h' tk m t' hk h1 h2 => ⟨.int _, H, I.kept hk, ⟨_, rfl⟩, q m h1 h2⟩
theorem cr_minT (hc : X.calm = true) : CallR X (.builtin "min") (rMinT X.K) := by
  intro pins s σ H vs us Q I r h
  obtain ⟨a, ns, rfl, hs, hne, q⟩ := h
  obtain ⟨its, rv, hl, _⟩ := I.tuple hs
  rw [Vals.ref1 r]
  exact min_tupR (I.ok.hd hc) hl rv.ints hne fun h' tk m t' hk h1 h2 => ⟨.int _, H, I.kept hk, ⟨_, rfl⟩, q m h1 h2⟩
end
end MT

/-! own rule: x in t, t a tuple of data of any depth -/
namespace L2
open PySem PySem.Spec PyProof.Rows
section
variable {X : Cx}
def rInDT (K : PySem.W.Frag) : R2 := fun x y H Q => ∃ d ds, Dp K H x d ∧ Dp K H y (.tuple ds) ∧ SeqAt.shaped d = true ∧ SeqAt.shaped (.tuple ds) = true ∧ Q (.bl (ds.any fun z => PyData.eqv z d)) H
theorem op_inDT (hu : X.A.units + 65 < cLine) : OpR X (compareOp .In) (rInDT X.K) := by
  intro pins s σ H x y v u Q I rx ry h
  obtain ⟨d, ds, hd, he, sd, se, q⟩ := h
  obtain ⟨as, r1⟩ := Dp.reads I d x v hd rx
  obtain ⟨bs, r2⟩ := Dp.reads I (.tuple ds) y u he ry
  exact SeqAt.in_tuple_reads r2 r1 (SeqAt.canLay_of_shaped se) (SeqAt.canLay_of_shaped sd) (room_in_shaped sd hu) ⟨.bl _, H, I, rfl, q⟩
end
end L2

set_option exponentiation.threshold 400
namespace K1
open PySem PySem.Spec PyProof.Rows L2 Evl HM LX ZW TE
theorem fl_top {h : List Nat} (IH : IsHeap h) {k M : Int} (k1 : 1 ≤ k) (M0 : 0 ≤ M) {a : Nat → Int} (F : fl h k a) (hb : ∀ r : Nat, (r : Int) < k → a r ≤ M) : (hAt h 0 : Int) ≤ k * M := by
  have b := (F (bead h 0)).mp ⟨0, rfl⟩
  have x0 := Int.emod_nonneg (bead h 0) (show k ≠ 0 by omega)
  have x1 := Int.emod_lt_of_pos (bead h 0) (show 0 < k by omega)
  have e := Int.emod_add_mul_ediv (bead h 0) k
  have := hb (bead h 0 % k).toNat (by omega)
  have m := Int.mul_le_mul_of_nonneg_left (show bead h 0 / k ≤ M - 1 by omega) (show 0 ≤ k by omega)
  rw [Int.mul_sub, Int.mul_one] at m
  have eb : bead h 0 = (hAt h 0 : Int) - 0 - 1 := rfl
  omega
theorem fl_wide {h : List Nat} (IH : IsHeap h) {k M : Int} (k1 : 1 ≤ k) (M0 : 0 ≤ M) {a : Nat → Int} (F : fl h k a) (hb : ∀ r : Nat, (r : Int) < k → -M ≤ a r) : (h.length : Int) ≤ k * M := by
  have := fl_top (conj_heap IH) k1 M0 (conj_fl IH k1 F) (fun r hr => by
    unfold rva
    have := hb (k.toNat - 1 - r) (by omega)
    omega)
  have e : hAt (conj h) 0 = lamr h 0 := rfl
  have l : lamr h 0 = h.length := by
    refine HM.nat_ext fun c => ?_
    rw [show (c < lamr h 0 ↔ 0 < hAt h c) from conj_iff IH c 0]
    constructor
    · intro q
      rcases Nat.lt_or_ge c h.length with z | z
      · exact z
      · rw [hAt_ge z] at q
        omega
    · intro q
      exact IH.pos c q
  omega
section
variable {P : Program} {w : World} {K : PySem.W.Frag} {mg : Str → Option Value} {base : Heap} {C fI : Addr}
def spLCoreOf : Sp := fun vs H Q E => ∃ p, ∃ l : List Int, vs = [.ref p] ∧ H p = some (.tup (l.map V.int)) ∧ 2 ≤ l.length ∧ l.length ≤ 60 ∧ (∀ z ∈ l, -12 ≤ z ∧ z ≤ 12) ∧ l.sum = 0 ∧
  ∀ r h H', Ex H H' → IsHeap h → fl h (l.length : Int) (chF l) → HeapAt H' r h → Q (.ref r) H'
theorem ok_core_of (T : Txt K mg) {f : Addr} {fd : FuncData} (D : DefAt K mg "_law_core_of" sLCoreOf ["_law_told"] f fd) : FnOk P w K mg base CX0 1 f fd ["_law_told"] spLCoreOf := by
  refine D.F.ok scLCoreOf (fun vs H Q E h => ?_) (fun cdv A outer s₀ H vs Q E hr h => ?_)
  · obtain ⟨p, l, rfl, _⟩ := h
    rfl
  · obtain ⟨p, l, rfl, hp, l2, l60, hb, h0, kQ⟩ := h
    refine ⟨_, pss_cons (ps_asg (pe_tup (pa_cons (pe_callB call_len_seq (by rfl) T.z_len PySem.boot_len (pa_cons (pv 0) pa_nil)) (pa_cons (pe_lst pa_nil) pa_nil))) (pg_tup (by rfl) (pgs_cons (pg_name (i := 1) scLCoreOf.nd rfl (.inl rfl)) (pgs_cons (pg_name (i := 2) scLCoreOf.nd rfl (.inr rfl)) pgs_nil))))
      (pss_cons (ps_set (i := 3) scLCoreOf.nd rfl (.inl rfl) (pe_op op_mul (pv 1) (pe_op op_sub (pe_callB (MT.cr_minT rfl) (by rfl) T.z_min (by decide +kernel) (pa_cons (pv 0) pa_nil)) pe_int)))
      (pss_cons (ps_for PassesOwn.never rfl (pi_range1 (by rfl) T.z_range (pa_cons (pv 1) pa_nil)) (pg_name (i := 4) scLCoreOf.nd rfl (.inl rfl))
        (pss_one (ps_expr (pe_bm PySem.F.plainAttrs_list PySem.F.slot_list_extend PySem.F.type_list_extend mt_extend (pv 2) (pa_cons (pe_listRg3 rfl (by rfl) T.z_list (by rfl) T.z_range (pa_cons (pe_op op_add (pv 4) (pv 3)) (pa_cons (pe_op op_add (pv 4) (pe_op op_mul (pv 1) (pe_ix ix_tup (pv 0) (pv 4) (fun _ _ => rfl)))) (pa_cons (pv 1) pa_nil)))) pa_nil)))))
      (pss_cons (ps_set (i := 2) scLCoreOf.nd rfl (.inr rfl) (pe_revL (pe_callB (cr_sortedI) (by rfl) T.z_sorted (by decide +kernel) (pa_cons (pv 2) pa_nil))))
      (pss_cons (ps_setLc (i := 5) (own := [("_law_at", 6)]) (g := gName 6) (tt := tYes) (by rfl) scLCoreOf.nd rfl rfl (sw_true rfl rfl rfl (by decide +kernel)) (pi_range1 (by rfl) T.z_range (pa_cons (pe_callB call_len_seq (by rfl) T.z_len PySem.boot_len (pa_cons (pv 2) pa_nil)) pa_nil))
        (blkOk_by (N := nLCoreOf) (sc := defScope sLCoreOf) (by decide +kernel)) (fun _ _ _ _ _ => (pg_name (i := 6) scLCoreOf.nd rfl (.inl rfl))) (fun _ _ _ _ _ => pts_nil)
        (fun _ _ _ _ _ => (pe_op op_add (pe_op op_add (pe_ix (show IxR _ (rIxL K) from ix_list) (pv 2) (pv 6) (fun _ _ => rfl)) (pv 6)) pe_int)))
      (pss_one (ps_ret (pe_callTy call_tuple_of (by rfl) T.z_tuple (by decide +kernel) (pa_cons (pe_lc (own := [("_law_height", 7)]) (g := gName 7) rfl scLCoreOf.nd (pi_list (pv 5))
        (blkOk_by (N := nLCoreOf) (sc := defScope sLCoreOf) (by decide +kernel)) (fun _ _ _ _ _ => (pg_name (i := 7) scLCoreOf.nd rfl (.inl rfl))) (fun _ _ _ _ _ => pts_one (pt_cmpR op_gt (pv 7) pe_int (nomark _)))
        (fun _ _ _ _ _ => (pv 7))) pa_nil)))))))), ?_⟩
    have ab : ∀ r, r < l.length → -12 ≤ chF l r ∧ chF l r ≤ 12 := fun r hr => hb _ (getD_mem hr)
    refine ⟨_, rfl, p, _, rfl, .inr (SqT.of hp), by show 0 ≤ sizeLine; decide, fun Ls hLs => ⟨by show 2 ≤ sizeLine; decide, fun t0 ht0 => ?_⟩⟩
    rw [List.length_map]
    have y1 := Ex.new (o := .lst []) hLs
    have y2 := Ex.new (o := .tup [.int (l.length : Int), .ref Ls]) ht0
    have e2 := y1.trans y2
    have gL := y2 _ _ (show (upd H Ls (.lst [])) Ls = some (.lst []) from upd_same)
    refine ⟨t0, _, rfl, SqT.of upd_same, rfl, .int _, [_], rfl, .ref Ls, [], rfl, rfl, ?_⟩
    generalize upd (upd H Ls (.lst [])) t0 (.tup [.int (l.length : Int), .ref Ls]) = H2 at *
    have hp2 := e2 _ _ hp
    have k0 : (0 : Int) < (l.length : Int) := by omega
    refine ⟨_, rfl, _, rfl, p, l, rfl, SqT.of hp2, by omega, fun mn hmn hMn => ?_⟩
    have mb := hb mn hmn
    refine ⟨_, _, rfl, rfl, (l.length : Int), mn - 1, rfl, rfl, .inl (by constructor <;> omega), ?_⟩
    have am : ∀ r, r < l.length → mn - 1 < chF l r := fun r hr => by
      have := hMn _ (getD_mem hr)
      have e : chF l r = l.getD r 0 := rfl
      omega
    have bl : ∀ n, n ≤ l.length → (bs1 (l.length : Int) (mn - 1) (chF l) n).length ≤ 25 * n := fun n => by
      induction n with
      | zero => exact fun _ => Nat.le_refl _
      | succ n ih =>
        intro hn
        have := ih (by omega)
        have := ab n (by omega)
        show (bs1 _ _ _ n ++ rgC _ _ _).length ≤ _
        rw [List.length_append, rgC_len]
        omega
    refine ⟨_, rfl, _, rfl, by omega, by omega, for_range (lo := 0) (n := ((l.length : Int)).toNat) (fun i σ' H' => ∃ y4, σ' = [some (.ref p), some (.int (l.length : Int)), some (.ref Ls), some (.int ((l.length : Int) * (mn - 1))), y4, none, none, none] ∧ H' Ls = some (.lst ((bs1 (l.length : Int) (mn - 1) (chF l) i).map V.int)) ∧ Ex H H') ⟨none, rfl, gL, e2⟩ (fun i σ' H' hi hq => ?_) (fun σ' H' hq => ?_)⟩
    · obtain ⟨y4, rfl, w1, w2⟩ := hq
      have hi' : i < l.length := by omega
      rw [show (0 : Int) + (i : Int) = (i : Int) by omega]
      have ai := ab i hi'
      have p1 := Int.mul_le_mul_of_nonneg_left ai.2 (show (0 : Int) ≤ (l.length : Int) by omega)
      have p2 := Int.mul_le_mul_of_nonneg_left ai.1 (show (0 : Int) ≤ (l.length : Int) by omega)
      have p3 := Int.mul_le_mul_of_nonneg_left (show mn - 1 ≤ 12 by omega) (show (0 : Int) ≤ (l.length : Int) by omega)
      have p4 := Int.mul_le_mul_of_nonneg_left (show -13 ≤ mn - 1 by omega) (show (0 : Int) ≤ (l.length : Int) by omega)
      refine ⟨_, rfl, .inl ⟨rfl, _, SqL.of w1⟩, ?_⟩
      refine ⟨_, rfl, _, rfl, _, _, rfl, rfl, _, rfl, _, rfl, _, rfl, _, rfl, p, _, (i : Int), .int (chF l i), rfl, rfl, SqT.of (w2 _ _ hp), atI_nat (int_get5 hi'), (l.length : Int), chF l i, rfl, rfl, .inl (by constructor <;> omega), _, _, rfl, rfl, _, rfl, _, _, _, (chF l i - (mn - 1)).toNat, rfl, RgC.up k0 (by omega) (by omega) (by omega) (by omega) (by omega) (by omega) (fun t => ?_), by omega, fun Dl hD => ?_⟩
      · have e1 : (i : Int) + (l.length : Int) * (mn - 1) + (t : Int) * (l.length : Int) < (i : Int) + (l.length : Int) * chF l i ↔ (l.length : Int) * ((mn - 1) + (t : Int)) < (l.length : Int) * chF l i := by
          rw [Int.mul_add, Int.mul_comm (t : Int)]
          omega
        rw [e1]
        constructor
        · intro ht
          exact Int.mul_lt_mul_of_pos_left (show mn - 1 + (t : Int) < chF l i by omega) k0
        · intro ht
          have := Int.lt_of_mul_lt_mul_left ht (show (0 : Int) ≤ (l.length : Int) by omega)
          omega
      · have xD := Ex.new (o := .lst ((rgC ((i : Int) + (l.length : Int) * (mn - 1)) (l.length : Int) (chF l i - (mn - 1)).toNat).map V.int)) hD
        refine ⟨Ls, Dl, _, _, rfl, rfl, xD _ _ w1, upd_same, ?_, _, rfl, ?_, Ex.mut (w2.trans xD) hLs⟩
        · rw [List.length_map, List.length_map, rgC_len]
          have := bl i (by omega)
          exact sz_of (by omega)
        · rw [upd_same, ← List.map_append]
          rfl
    · obtain ⟨y4, rfl, w1, w2⟩ := hq
      rw [Int.toNat_natCast] at w1
      have bln := bl l.length (Nat.le_refl _)
      refine ⟨_, rfl, Ls, _, rfl, SqL.of w1, fun us q1 pm asc hq1 => ?_⟩
      have z1 := Ex.new (o := .lst (us.map V.int)) hq1
      have g1 : (upd H' q1 (.lst (us.map V.int))) q1 = some (.lst (us.map V.int)) := upd_same
      generalize upd H' q1 (.lst (us.map V.int)) = H4 at *
      refine ⟨q1, _, rfl, SqL.of g1, fun b hb2 => ?_⟩
      have z2 := Ex.new (o := .lst (us.map V.int).reverse) hb2
      have gb : (upd H4 b (.lst (us.map V.int).reverse)) b = some (.lst (us.reverse.map V.int)) := by rw [upd_same, List.map_reverse]
      generalize upd H4 b (.lst (us.map V.int).reverse) = H6 at *
      have pmr : us.reverse.Perm (bs1 (l.length : Int) (mn - 1) (chF l) l.length) := us.reverse_perm.trans pm
      have ascr : us.reverse.Pairwise (· ≥ ·) := List.pairwise_reverse.mpr asc
      obtain ⟨h, IH, Fh, hh, hhl, _⟩ := core1 (k := (l.length : Int)) rfl k0 (by rw [sm_list, h0]) am pmr ascr
      generalize us.reverse = ns at *
      have nsl : ns.length ≤ 1500 := by rw [pmr.length_eq]; omega
      refine ⟨_, rfl, b, _, rfl, .inl (SqL.of gb), _, rfl, by omega, by rw [List.length_map]; omega, fun D2 hD2 => ?_⟩
      refine lc_itY walk_range (fun i H' => H' D2 = some (.lst (((List.range i).map fun (c : Nat) => ns.getD c 0 + (c : Int) + 1).map V.int)) ∧ Ex H6 H') ⟨upd_same, Ex.new hD2⟩ (fun _ _ _ _ => trivial) (fun i x H7 H8 hi hp' hy => ?_) (fun H7 hp' => ?_)
      · obtain ⟨b1, b2⟩ := hp'
        obtain ⟨rfl, rfl⟩ := hy
        rw [List.length_map] at hi
        have hi' : i < ns.length := by omega
        show gName 6 (V.int ((0 : Int) + (i : Int))) _ _ _
        rw [show (0 : Int) + (i : Int) = (i : Int) by omega]
        refine ⟨rfl, _, rfl, _, rfl, b, _, (i : Int), .int (ns.getD i 0), rfl, rfl, SqL.of (b2 _ _ gb), atI_nat (int_get5 hi'), _, rfl, _, _, rfl, rfl, _, _, rfl, rfl, _, b1, ?_, ?_, Ex.mut b2 hD2⟩
        · rw [List.length_map, List.length_map, List.length_range]
          exact Nat.lt_of_le_of_lt (show _ ≤ 1500 by omega) (by decide)
        · rw [upd_same, List.range_succ, List.map_append, List.map_append]
          rfl
      · obtain ⟨b1, b2⟩ := hp'
        have hg : H7 D2 = some (.lst ((hgt ns).map V.int)) := by
          rw [List.length_map, Int.toNat_natCast] at b1
          exact b1
        refine ⟨_, rfl, D2, rfl, ⟨_, SqL.of hg⟩, fun D3 hD3 => ?_⟩
        have gl : (hgt ns).length = ns.length := by unfold hgt; rw [List.length_map, List.length_range]
        refine lc_list (K := K) (a := D2) (xs := (hgt ns).map V.int) (fun i H4 => H4 D3 = some (.lst ((((hgt ns).take i).filter (fun x => decide (0 < x))).map V.int)) ∧ Ex H7 H4) ⟨upd_same, Ex.new hD3⟩ (fun i H4 _ hp4 => SqL.of (hp4.2 _ _ hg)) (fun i x H8 hx hp4 => ?_) (fun H8 hp4 => ?_)
        · obtain ⟨u1, u2⟩ := hp4
          obtain ⟨hi, n, hn, rfl⟩ := int_inv hx
          have fz := filt_pos (hgt ns) hn
          refine ⟨rfl, _, rfl, _, _, rfl, rfl, _, rfl, ite2 (fun cc => ?_) (fun cc => ?_)⟩
          · have c0 : 0 < n := of_decide_eq_true cc
            rw [if_pos c0] at fz
            refine ⟨_, rfl, _, u1, ?_, ?_, Ex.mut u2 hD3⟩
            · rw [List.length_map]
              have := List.length_filter_le (fun x => decide (0 < x)) ((hgt ns).take i)
              rw [List.length_take] at this
              exact Nat.lt_of_le_of_lt (show _ ≤ 1500 by omega) (by decide)
            · rw [upd_same, fz, List.map_append]
              rfl
          · have c0 : ¬ 0 < n := fun z => cc (decide_eq_true z)
            rw [if_neg c0, List.append_nil] at fz
            exact ⟨by rw [fz]; exact u1, u2⟩
        · obtain ⟨u1, u2⟩ := hp4
          rw [List.length_map, List.take_length, hh] at u1
          refine ⟨D3, _, rfl, .inl ⟨SqL.of u1, fun r hr' => kQ r h _ ((((w2.trans z1).trans z2).trans b2).trans (u2.trans (Ex.new hr'))) IH Fh ?_⟩⟩
          unfold HeapAt
          rw [upd_same, CI.hvI2]
end
end K1

set_option exponentiation.threshold 400
theorem L2.Room.units65 {k : Nat} {A : PySem.Around} (r : L2.Room k A) : A.units + 65 < PySem.cLine := by have := r.un; omega
namespace K1
open PySem PySem.Spec PyProof.Rows L2 Evl HM LX ZW TE
theorem grow_good {h : List Nat} {g : Nat → Bool} (G : IsHeap h) (h1 : h.length < 60) (h2 : hAt h 0 < 60) (hg : ∀ c, g c = true → opn h c = true) : Good (grow h g) := by
  refine ⟨grow_heap G hg, ?_, ?_⟩
  · rw [grow_len]
    have := b2n_le (g h.length)
    omega
  · rw [hAt_grow hg]
    have := b2n_le (g 0)
    omega
/-- ints of a tuple of places -/
theorem lt2_list {k : Nat} {fa : Nat → Int} {p s : Nat} {e : Int} (hp : p < k) (hs : s < k) (ps : p ≠ s) : (List.range k).map (lt2 fa p s e) = (List.range k).map fa ∨ (List.range k).map (lt2 fa p s e) = (((List.range k).map fa).set p (fa s - e)).set s (fa p + e) := by
  by_cases c : fa p ≤ fa s - e
  · left
    refine List.map_congr_left fun x _ => ?_
    unfold lt2
    by_cases h1 : x = p
    · rw [if_pos h1, h1]
      omega
    · rw [if_neg h1]
      by_cases h2 : x = s
      · rw [if_pos h2, h2]
        omega
      · rw [if_neg h2]
  · right
    refine List.ext_getElem (by simp) fun x h1 h2 => ?_
    simp only [List.length_map, List.length_range] at h1
    rw [List.getElem_map, List.getElem_range, List.getElem_set, List.getElem_set]
    unfold lt2
    by_cases e1 : s = x
    · rw [if_pos e1, if_neg (by omega), if_pos e1.symm]
      omega
    · rw [if_neg e1]
      by_cases e2 : p = x
      · rw [if_pos e2, if_pos e2.symm]
        omega
      · rw [if_neg e2, if_neg (by omega), if_neg (by omega), List.getElem_map, List.getElem_range]
theorem shaped_two (a b : List Int) : SeqAt.shaped (.tuple [.tuple (a.map PyData.int), .tuple (b.map PyData.int)]) = true := by
  unfold SeqAt.shaped
  have d1 := depth_ints a
  have d2 := depth_ints b
  have h1 : (PyData.tuple [.tuple (a.map PyData.int), .tuple (b.map PyData.int)]).canLay0 = true := by simp [PyData.canLay0, PyData.canLayAll0, can_ints]
  have h2 : (PyData.tuple [.tuple (a.map PyData.int), .tuple (b.map PyData.int)]).depth ≤ 64 := by
    simp only [PyData.depth, PyData.depthAll]
    omega
  rw [h1, decide_eq_true h2]
  rfl
section
variable {P : Program} {w : World} {K : PySem.W.Frag} {mg : Str → Option Value} {base : Heap} {C fI : Addr}
def spToldCore : Sp := fun vs H Q E => ∃ p, ∃ l : List Int, vs = [.int (l.length : Int), .ref p] ∧ H p = some (.tup (l.map V.int)) ∧ 2 ≤ l.length ∧ l.length ≤ 60 ∧ (∀ z ∈ l, -12 ≤ z ∧ z ≤ 12) ∧ l.sum = 0 ∧
  (30 < LS l.length (chF l) → ∀ r H', Ex H H' → H' r = some (.tup [.str (Str.ofString "many"), .int 30]) → Q (.ref r) H') ∧
  (LS l.length (chF l) ≤ 30 → ∀ r b h H', Ex H H' → IsHeap h → fl h (l.length : Int) (chF l) → HeapAt H' b h → H' r = some (.tup [.str (Str.ofString "core"), .ref b]) → Q (.ref r) H')
theorem ok_told_core (T : Txt K mg) (TM : PySem.TmX.TmTxt K mg C fI) {f : Addr} {fd : FuncData} (D : DefAt K mg "_law_told_core" sLToldCore ["_law_k", "_law_told"] f fd) : FnOk P w K mg base CX0 6 f fd ["_law_k", "_law_told"] spToldCore := by
  refine D.F.ok scLToldCore (fun vs H Q E h => ?_) (fun cdv A outer s₀ H vs Q E hr h => ?_)
  · obtain ⟨p, l, rfl, _⟩ := h
    rfl
  · obtain ⟨p, l, rfl, hp, l2, l60, hb, h0, kE, kQ⟩ := h
    obtain ⟨f1, fd1, D1⟩ := T.d_core_of_charges
    have hr5 : Room 5 _ := hr.mono (by decide)
    refine ⟨_, pss_one (ps_try_as (i := 2) (tb := fun W => tRet (tTup (tCons (tC (.str (Str.ofString "core"))) (tCons (tCallS (spCoreOfCharges C) (WE W) (tCons (tVar 0) (tCons (tVar 1) tNil))) tNil)))) (ts := fun a cls d => tRet (tTup (tCons (tC (.str (Str.ofString "many"))) (tCons (L2.tByTm C a cls d (tVar 2)) tNil)))) (Wout := fun _ _ _ _ => False) rfl rfl scLToldCore.nd rfl rfl ⟨rfl, by decide, Or.inl TM.gC⟩ takes0
          (fun W pn xe tk _ => pss_one (ps_ret (pe_tup (pa_cons pe_str (pa_cons (by exact (pe_callS (ok_core_of_charges T TM D1) hr5 rfl D1.g D1.F.kp D1.b (fun σ => passAt tk σ) (by exact (pa_cons (pv 0) (pa_cons (pv 1) pa_nil))))) pa_nil)))))
          (fun a oe cls d pn hz hf => pss_one (ps_ret (pe_tup (pa_cons pe_str (pa_cons (by exact (pe_byTm TM hz hf (pv 2))) pa_nil)))))), ?_⟩
    refine ⟨_, rfl, _, rfl, p, l, rfl, hp, l2, l60, hb, h0, fun c H5 d2 e5 hd5 => ?_, fun c r h H' e' IH Fh hh => ?_⟩
    · refine ⟨true, TM.te, fun _ a0 _ => ?_, fun y => Bool.noConfusion y⟩
      refine ⟨_, rfl, rfl, rfl, d2, _, rfl, upd_same, by show 2 ≤ sizeLine; decide, fun t ht => ?_⟩
      exact kE c t _ ((e5.trans (Ex.new hd5)).trans (Ex.new ht)) upd_same
    · refine ⟨by show 2 ≤ sizeLine; decide, fun t ht => ?_⟩
      have x := Ex.new (o := .tup [.str (Str.ofString "core"), .ref r]) ht
      exact kQ c t r h _ (e'.trans x) IH Fh (x _ _ hh) upd_same
def spLetterRight (K : PySem.W.Frag) : Sp := fun vs H Q E => ∃ (k : Nat) (p : Addr) (h : List Nat) (q : Int), vs = [.int (k : Int), .ref p, .int q] ∧ HeapAt H p h ∧ IsHeap h ∧ h.length < 60 ∧ hAt h 0 < 60 ∧ 2 ≤ k ∧ k ≤ 60 ∧ coreB h (k : Int) ∧ 0 ≤ q ∧ q < (k : Int) ∧ ∀ H', Ex H H' → Q (.bl true) H'
theorem ok_letter_right (T : Txt K mg) {f : Addr} {fd : FuncData} (D : DefAt K mg "_law_letter_right" sLLetterRight ["_law_k", "_law_heap", "_law_letter"] f fd) : FnOk P w K mg base CX0 7 f fd ["_law_k", "_law_heap", "_law_letter"] (spLetterRight K) := by
  refine D.F.ok scLLetterRight (fun vs H Q E h => ?_) (fun cdv A outer s₀ H vs Q E hr h => ?_)
  · obtain ⟨k, p, h, q, rfl, _⟩ := h
    rfl
  · obtain ⟨k, p, h, q, rfl, hp, IH, h1, h2, k2, k60, Ck, q0, q1, kQ⟩ := h
    obtain ⟨f1, fd1, D1⟩ := T.d_charges
    obtain ⟨f2, fd2, D2⟩ := T.d_l_grown
    have hr1 : Room 1 _ := hr.mono (by decide)
    have hr6 : Room 6 _ := hr.mono (by decide)
    refine ⟨_, pss_cons (ps_par (i := 3) (j := 4) (by rfl) scLLetterRight.nd rfl rfl (by decide) rfl rfl (pa_cons (pe_call (ok_charges T D1) hr6 (by rfl) D1.g D1.F.kp D1.b .nil pass0 (pa_cons (pv 0) (pa_cons (pv 1) pa_nil))) (pa_cons (pe_call (ok_charges T D1) hr6 (by rfl) D1.g D1.F.kp D1.b .nil pass0 (pa_cons (pv 0) (pa_cons (pe_call (ok_lgrown T D2) hr1 (by rfl) D2.g D2.F.kp D2.b .nil pass0 (pa_cons (pv 1) (pa_cons (pe_tup (pa_cons (pv 0) (pa_cons pe_int pa_nil))) (pa_cons (pv 2) pa_nil)))) pa_nil))) pa_nil)) (by rfl))
      (pss_cons (ps_set (i := 5) scLLetterRight.nd rfl (.inl rfl) (pe_callTy call_list_of (by rfl) T.z_list (by decide +kernel) (pa_cons (pv 3) pa_nil)))
      (pss_cut (ps_if (pt_cmpR op_gt (pv 2) pe_int (nomark _)) (pss_one (ps_asg (pe_tup (pa_cons (pe_ix ix_tup (pv 3) (pe_op op_sub (pv 0) (pv 2)) (fun _ _ => rfl)) (pa_cons (pe_ix ix_tup (pv 3) (pe_op op_sub (pe_op op_sub (pv 0) pe_int) (pv 2)) (fun _ _ => rfl)) pa_nil))) (pg_tup (by rfl) (pgs_cons (pg_sub (pv 5) (pe_op op_sub (pe_op op_sub (pv 0) pe_int) (pv 2)) set_list) (pgs_cons (pg_sub (pv 5) (pe_op op_sub (pv 0) (pv 2)) set_list) pgs_nil))))) (pss_one (ps_asg (pe_tup (pa_cons (pe_op op_add (pe_ix ix_tup (pv 3) (pe_op op_sub (pv 0) pe_int) (fun _ _ => rfl)) pe_int) (pa_cons (pe_op op_sub (pe_ix ix_tup (pv 3) pe_int (fun _ _ => rfl)) pe_int) pa_nil))) (pg_tup (by rfl) (pgs_cons (pg_sub (pv 5) pe_int set_list) (pgs_cons (pg_sub (pv 5) (pe_op op_sub (pv 0) pe_int) set_list) pgs_nil))))))
      (pss_one (ps_ret (pe_cmpR (op_inDT hr.units65) (pv 4) (pe_tup (pa_cons (pv 3) (pa_cons (pe_callTy call_tuple_of (by rfl) T.z_tuple (by decide +kernel) (pa_cons (pv 5) pa_nil)) pa_nil))) (by rfl)))))), ?_⟩
    have G : Good h := ⟨IH, by omega, by omega⟩
    refine ⟨_, rfl, _, rfl, (k : Int), p, h, rfl, hp, G, by omega, by omega, Ck, fun t1 H1 e1 ht1 => ?_⟩
    refine ⟨_, rfl, _, rfl, _, rfl, by show 2 ≤ sizeLine; decide, fun t ht => ?_⟩
    have et := Ex.new (o := .tup [V.int (k : Int), V.int 1]) ht
    have gt : (upd H1 t (.tup [V.int (k : Int), V.int 1])) t = some (.tup [V.int (k : Int), V.int 1]) := upd_same
    generalize upd H1 t (.tup [V.int (k : Int), V.int 1]) = H2 at *
    have hp2 := (e1.trans et) _ _ hp
    refine ⟨_, rfl, p, h, .ref t, k, 1, q, rfl, hp2, by omega, ⟨t, rfl, gt, by omega, by omega, by omega, by omega⟩, fun lg H3 e3 hlg => ?_⟩
    have hg : ∀ c, gl h (k : Int) 1 q c = true ↔ (opn h c = true ∧ (dg h c - q) % (k : Int) = 0) := fun c => by
      unfold gl
      rw [Bool.and_eq_true_iff, decide_eq_true_eq, Int.mul_one]
    obtain ⟨C2, L2⟩ := letter_lts IH (by omega) q0 q1 Ck hg
    obtain ⟨fa, F⟩ := fl_ex IH (show 1 ≤ (k : Int) by omega) Ck
    obtain ⟨F2, _⟩ := letter_fl IH (by omega) q0 q1 F hg
    have gw : ∀ c, gl h (k : Int) 1 q c = true → opn h c = true := fun c z => gl_opn c z
    have G2 := grow_good (h := h) (g := gl h (k : Int) 1 q) IH h1 h2 gw
    have ch1 := ch_fl IH (by omega) F
    have ch2 := ch_fl G2.heap (by omega) F2
    rw [Int.toNat_natCast] at ch1 ch2
    generalize grow h (gl h (k : Int) 1 q) = h' at *
    refine ⟨(k : Int), lg, h', rfl, hlg, G2, by omega, by omega, C2, fun t2 H4 e4 ht2 => ?_⟩
    refine ⟨_, _, rfl, ?_⟩
    have e24 := (e3.trans e4)
    have ht1' := (et.trans e24) _ _ ht1
    refine ⟨_, rfl, t1, _, rfl, .inr (SqT.of ht1'), fun Ld hLd => ?_⟩
    have x5 := Ex.new (o := .lst ((chL h (k : Int)).map V.int)) hLd
    have gL : (upd H4 Ld (.lst ((chL h (k : Int)).map V.int))) Ld = some (.lst ((chL h (k : Int)).map V.int)) := upd_same
    have gt1 := x5 _ _ ht1'
    have gt2 := x5 _ _ ht2
    have lc : (chL h (k : Int)).length = k := by rw [ch1, List.length_map, List.length_range]
    have gc : ∀ r, r < k → (chL h (k : Int)).getD r 0 = fa r := fun r hr => by
      rw [ch1, List.getD_eq_getElem?_getD, List.getElem?_map, List.getElem?_range hr]
      rfl
    generalize upd H4 Ld (.lst ((chL h (k : Int)).map V.int)) = H5 at *
    refine ⟨fun σ6 H6 => ∃ due : List Int, σ6 = [some (.int (k : Int)), some (.ref p), some (.int q), some (.ref t1), some (.ref t2), some (.ref Ld)] ∧ H6 Ld = some (.lst (due.map V.int)) ∧ (chL h' (k : Int) = chL h (k : Int) ∨ chL h' (k : Int) = due) ∧ due.length ≤ 60 ∧ Ex H H6 ∧ H6 t1 = some (.tup ((chL h (k : Int)).map V.int)) ∧ H6 t2 = some (.tup ((chL h' (k : Int)).map V.int)), ?_, fun σ6 H6 hM => ?_⟩
    · refine ⟨_, rfl, _, _, rfl, rfl, _, rfl, ite2 (fun cc => ?_) (fun cc => ?_)⟩
      · have c0 : 0 < q := of_decide_eq_true cc
        refine ⟨_, rfl, _, rfl, _, rfl, _, _, rfl, rfl, t1, _, _, .int (fa (k - q.toNat)), rfl, rfl, SqT.of gt1, ?_, ?_⟩
        · rw [← gc _ (by omega)]
          exact at_of (show (k : Int) - q = ((k - q.toNat : Nat) : Int) by omega) (ints_at (by omega))
        refine ⟨_, rfl, _, rfl, _, _, rfl, rfl, _, rfl, _, _, rfl, rfl, t1, _, _, .int (fa (k - 1 - q.toNat)), rfl, rfl, SqT.of gt1, ?_, ?_⟩
        · rw [← gc _ (by omega)]
          exact at_of (show (k : Int) - 1 - q = ((k - 1 - q.toNat : Nat) : Int) by omega) (ints_at (by omega))
        refine ⟨by show 2 ≤ sizeLine; decide, fun tt htt => ?_⟩
        have x6 := Ex.new (o := .tup [V.int (fa (k - q.toNat)), V.int (fa (k - 1 - q.toNat))]) htt
        refine ⟨tt, _, rfl, SqT.of upd_same, rfl, .int _, [_], rfl, ?_⟩
        have gL6 := x6 _ _ gL
        have gt61 := x6 _ _ gt1
        have gt62 := x6 _ _ gt2
        generalize upd H5 tt (.tup [V.int (fa (k - q.toNat)), V.int (fa (k - 1 - q.toNat))]) = H6 at *
        have nt1 : t1 ≠ Ld := ne_of gt1 gL (by intro z; cases z)
        have nt2 : t2 ≠ Ld := ne_of gt2 gL (by intro z; cases z)
        refine ⟨_, rfl, _, rfl, _, _, rfl, rfl, _, rfl, _, _, rfl, rfl, Ld, _, (k : Int) - 1 - q, k - 1 - q.toNat, rfl, rfl, gL6, ?_, .int _, [], rfl, _, rfl, _, rfl, _, rfl, _, _, rfl, rfl, Ld, _, (k : Int) - q, k - q.toNat, rfl, rfl, upd_same, ?_, ?_⟩
        · rw [show (k : Int) - 1 - q = ((k - 1 - q.toNat : Nat) : Int) by omega]
          exact ixN_nat (by rw [List.length_map]; omega)
        · rw [show (k : Int) - q = ((k - q.toNat : Nat) : Int) by omega]
          exact ixN_nat (by rw [List.length_set, List.length_map]; omega)
        refine ⟨rfl, ((chL h (k : Int)).set (k - 1 - q.toNat) (fa (k - q.toNat))).set (k - q.toNat) (fa (k - 1 - q.toNat)), rfl, ?_, ?_, ?_, ?_, ?_, ?_⟩
        · rw [upd_same, set_ints, set_ints]
        · rcases lt2_list (fa := fa) (e := 0) (show k - 1 - q.toNat < k by omega) (show k - q.toNat < k by omega) (by omega) with z | z
          · left
            rw [ch2, ch1, ← z]
            unfold lp lq le1
            rw [if_neg (by omega), if_neg (by omega), show ((k : Int) - 1 - q).toNat = k - 1 - q.toNat by omega, show ((k : Int) - q).toNat = k - q.toNat by omega]
          · right
            rw [Int.sub_zero, Int.add_zero] at z
            rw [ch2, ch1, ← z]
            unfold lp lq le1
            rw [if_neg (by omega), if_neg (by omega), show ((k : Int) - 1 - q).toNat = k - 1 - q.toNat by omega, show ((k : Int) - q).toNat = k - q.toNat by omega]
        · rw [List.length_set, List.length_set, lc]
          omega
        · have e06 : Ex H H6 := ((((e1.trans et).trans e24).trans x5).trans x6)
          exact Ex.mut (Ex.mut e06 (fresh_back ((e1.trans et).trans e24) hLd)) (fresh_back ((e1.trans et).trans e24) hLd)
        · rw [upd_ne nt1, upd_ne nt1]
          exact gt61
        · rw [upd_ne nt2, upd_ne nt2]
          exact gt62
      · have c0 : q = 0 := by
          have : ¬ 0 < q := fun z => cc (decide_eq_true z)
          omega
        subst c0
        refine ⟨_, rfl, _, rfl, _, _, rfl, rfl, t1, _, _, .int (fa (k - 1)), rfl, rfl, SqT.of gt1, ?_, ?_⟩
        · rw [← gc (k - 1) (by omega)]
          exact at_of (show (k : Int) - 1 = ((k - 1 : Nat) : Int) by omega) (ints_at (by omega))
        refine ⟨_, _, rfl, rfl, _, rfl, t1, _, 0, .int (fa 0), rfl, rfl, SqT.of gt1, ?_, ?_⟩
        · rw [← gc 0 (by omega)]
          exact at_of (show (0 : Int) = ((0 : Nat) : Int) from rfl) (ints_at (j := 0) (show 0 < (chL h (k : Int)).length by omega))
        refine ⟨_, _, rfl, rfl, by show 2 ≤ sizeLine; decide, fun tt htt => ?_⟩
        have x6 := Ex.new (o := .tup [V.int (fa (k - 1) + 1), V.int (fa 0 - 1)]) htt
        refine ⟨tt, _, rfl, SqT.of upd_same, rfl, .int _, [_], rfl, ?_⟩
        have gL6 := x6 _ _ gL
        have gt61 := x6 _ _ gt1
        have gt62 := x6 _ _ gt2
        generalize upd H5 tt (.tup [V.int (fa (k - 1) + 1), V.int (fa 0 - 1)]) = H6 at *
        have nt1 : t1 ≠ Ld := ne_of gt1 gL (by intro z; cases z)
        have nt2 : t2 ≠ Ld := ne_of gt2 gL (by intro z; cases z)
        refine ⟨_, rfl, Ld, _, 0, 0, rfl, rfl, gL6, ?_, .int _, [], rfl, _, rfl, _, rfl, _, _, rfl, rfl, Ld, _, (k : Int) - 1, k - 1, rfl, rfl, upd_same, ?_, ?_⟩
        · exact ixN_nat (j := 0) (by rw [List.length_map]; omega)
        · rw [show (k : Int) - 1 = ((k - 1 : Nat) : Int) by omega]
          exact ixN_nat (by rw [List.length_set, List.length_map]; omega)
        refine ⟨rfl, ((chL h (k : Int)).set 0 (fa (k - 1) + 1)).set (k - 1) (fa 0 - 1), rfl, ?_, ?_, ?_, ?_, ?_, ?_⟩
        · rw [upd_same, set_ints, set_ints]
        · rcases lt2_list (fa := fa) (e := 1) (show k - 1 < k by omega) (show 0 < k by omega) (by omega) with z | z
          · left
            rw [ch2, ch1, ← z]
            unfold lp lq le1
            rw [if_pos rfl, if_pos rfl, show ((k : Int) - 1 - 0).toNat = k - 1 by omega]
          · right
            rw [List.set_comm _ _ (show k - 1 ≠ 0 by omega)] at z
            rw [ch2, ch1, ← z]
            unfold lp lq le1
            rw [if_pos rfl, if_pos rfl, show ((k : Int) - 1 - 0).toNat = k - 1 by omega]
        · rw [List.length_set, List.length_set, lc]
          omega
        · have e06 : Ex H H6 := ((((e1.trans et).trans e24).trans x5).trans x6)
          exact Ex.mut (Ex.mut e06 (fresh_back ((e1.trans et).trans e24) hLd)) (fresh_back ((e1.trans et).trans e24) hLd)
        · rw [upd_ne nt1, upd_ne nt1]
          exact gt61
        · rw [upd_ne nt2, upd_ne nt2]
          exact gt62
    · obtain ⟨due, rfl, m1, m2, m3, m4, m5, m6⟩ := hM
      refine ⟨_, rfl, _, rfl, _, rfl, Ld, _, rfl, .inl ⟨SqL.of m1, fun u hu => ⟨by show 2 ≤ sizeLine; decide, fun t3 ht3 => ?_⟩⟩⟩
      have x7 := Ex.new (o := .tup (due.map V.int)) hu
      have x8 := Ex.new (o := .tup [.ref t1, .ref u]) ht3
      have x78 := x7.trans x8
      have gu := x8 _ _ (upd_same (H := H6) (a := u) (o := .tup (due.map V.int)))
      refine ⟨.tuple ((chL h' (k : Int)).map PyData.int), [.tuple ((chL h (k : Int)).map PyData.int), .tuple (due.map PyData.int)], .tup (SqT.of (x78 _ _ m6)) (dp_ints _), .tup (SqT.of upd_same) (.cons (.tup (SqT.of (x78 _ _ m5)) (dp_ints _)) (.cons (.tup (SqT.of gu) (dp_ints _)) .nil)), shaped_intsT _, shaped_two _ _, ?_⟩
      have e9 : ([PyData.tuple ((chL h (k : Int)).map PyData.int), .tuple (due.map PyData.int)].any fun z => PyData.eqv z (.tuple ((chL h' (k : Int)).map PyData.int))) = true := by
        simp only [List.any_cons, List.any_nil, CI.eqvT]
        rcases m2 with z | z
        · rw [z]
          simp
        · rw [z]
          simp
      rw [e9]
      exact kQ _ (m4.trans x78)
end
end K1

set_option exponentiation.threshold 400
namespace K1
open PySem PySem.Spec PyProof.Rows L2 Evl HM LX ZW TE
theorem sql_keep {K : PySem.W.Frag} {H H1 H2 : Hp} {p a : Addr} {xs : List V} (h0 : H p = none) (e : Ex H H1) (k : Keep p H1 H2) (h : SqL K H a xs) : SqL K H2 a xs := by
  rcases h with (h | ⟨o, h⟩) | h
  · exact .inl (.inl (k _ _ (ne_of_none h h0) (e _ _ h)))
  · exact .inl (.inr ⟨o, k _ _ (ne_of_none h h0) (e _ _ h)⟩)
  · exact .inr h
theorem neH0 {K : PySem.W.Frag} {H : Hp} {p q : Addr} {h : List Nat} {Q : VK} (h1 : HeapAt H p h) (h2 : HeapAt H q h) (k : Q (.bl false) H) : rNeD K (.ref p) (.ref q) H Q := CI.neH h1 h2 (by rw [show decide (h = h) = true from decide_eq_true rfl]; exact k)
theorem neT0 {K : PySem.W.Frag} {H : Hp} {p q : Addr} {l : List Int} {Q : VK} (h1 : H p = some (.tup (l.map V.int))) (h2 : H q = some (.tup (l.map V.int))) (k : Q (.bl false) H) : rNeD K (.ref p) (.ref q) H Q := CI.neT h1 h2 (by rw [show decide (l = l) = true from decide_eq_true rfl]; exact k)
theorem good_nil : Good [] := ⟨IsHeap.nil, by simp, by rw [hAt_ge (by simp)]; omega⟩
theorem chF_list (l : List Int) : (List.range l.length).map (chF l) = l := by
  have := range_getD l id
  rw [List.map_id] at this
  exact this
theorem chF_map {k : Nat} (a : Nat → Int) {r : Nat} (hr : r < k) : chF ((List.range k).map a) r = a r := by
  unfold chF
  rw [List.getD_eq_getElem?_getD, List.getElem?_map, List.getElem?_range hr]
  rfl
theorem fl_congr {h : List Nat} {k : Int} (k1 : 1 ≤ k) {a b : Nat → Int} (e : ∀ r : Nat, (r : Int) < k → a r = b r) (F : fl h k a) : fl h k b := fun z => by
  have x0 := Int.emod_nonneg z (show k ≠ 0 by omega)
  have x1 := Int.emod_lt_of_pos z (show 0 < k by omega)
  rw [F z, e _ (by omega)]
theorem LS_congr {n : Nat} {a b : Nat → Int} (e : ∀ r, r < n → a r = b r) : LS n a = LS n b := by
  unfold LS
  refine sm_congr fun r hr => sm_congr fun s hs => ?_
  unfold lw
  rw [e r hr, e s hs]
theorem sum_two : ∀ js : List Int, (∀ j ∈ js, -2 ≤ j ∧ j ≤ 2) → -2 * (js.length : Int) ≤ js.sum ∧ js.sum ≤ 2 * (js.length : Int)
  | [], _ => by simp
  | a :: r, h => by
    have h1 := h a (List.mem_cons_self ..)
    have h2 := sum_two r fun j hj => h j (List.mem_cons_of_mem _ hj)
    rw [List.sum_cons, List.length_cons]
    omega
theorem can_word {x : Str} (sx : PyData.strOk x = true) (l : List Int) : (PyData.tuple [.str x, .tuple (l.map PyData.int)]).canLay0 = true := by simp [PyData.canLay0, PyData.canLayAll0, can_ints, sx]
theorem shaped_word {x : Str} (sx : PyData.strOk x = true) (l : List Int) : SeqAt.shaped (.tuple [.str x, .tuple (l.map PyData.int)]) = true := by
  unfold SeqAt.shaped
  have d1 := depth_ints l
  have h2 : (PyData.tuple [.str x, .tuple (l.map PyData.int)]).depth ≤ 64 := by
    simp only [PyData.depth, PyData.depthAll]
    omega
  rw [can_word sx l, decide_eq_true h2]
  rfl
theorem ne_word {K : PySem.W.Frag} {H : Hp} {p q b c : Addr} {x : Str} (sx : PyData.strOk x = true) {h : List Nat} {Q : VK} (h1 : H p = some (.tup [.str x, .ref b])) (hb : HeapAt H b h) (h2 : H q = some (.tup [.str x, .ref c])) (hc : HeapAt H c h) (k : Q (.bl false) H) : rNeD K (.ref p) (.ref q) H Q := by
  unfold HeapAt at hb hc
  rw [CI.hvI2] at hb hc
  refine ⟨_, _, .tup (SqT.of h1) (.cons (.str x) (.cons (.tup (SqT.of hb) (dp_ints _)) .nil)), .tup (SqT.of h2) (.cons (.str x) (.cons (.tup (SqT.of hc) (dp_ints _)) .nil)), shaped_word sx _, shaped_word sx _, ?_⟩
  rw [SeqAt.eqv_refl _ (can_word sx _)]
  exact k
theorem ne_many {K : PySem.W.Frag} {H : Hp} {p q : Addr} {x : Str} (sx : PyData.strOk x = true) {i : Int} {Q : VK} (h1 : H p = some (.tup [.str x, .int i])) (h2 : H q = some (.tup [.str x, .int i])) (k : Q (.bl false) H) : rNeD K (.ref p) (.ref q) H Q := by
  refine ⟨_, _, .tup (SqT.of h1) (.cons (.str x) (.cons (.int i) .nil)), .tup (SqT.of h2) (.cons (.str x) (.cons (.int i) .nil)), by simp [SeqAt.shaped, PyData.canLay0, PyData.canLayAll0, PyData.depth, PyData.depthAll, sx], by simp [SeqAt.shaped, PyData.canLay0, PyData.canLayAll0, PyData.depth, PyData.depthAll, sx], ?_⟩
  rw [SeqAt.eqv_refl _ (show (PyData.tuple [.str x, .int i]).canLay0 = true by simp [PyData.canLay0, PyData.canLayAll0, sx])]
  exact k
section
variable {P : Program} {w : World} {K : PySem.W.Frag} {mg : Str → Option Value} {base : Heap} {C fI : Addr}
def spLaw (K : PySem.W.Frag) : Sp := fun vs H Q _ => ∃ (a : Addr) (ns : List Int), vs = [.ref a] ∧ SqL K H a (ns.map V.int) ∧ ns.length ≤ 63 ∧ ∀ H', Q (.bl true) H'
theorem ok_law (T : Txt K mg) (TM : PySem.TmX.TmTxt K mg C fI) {f : Addr} {fd : FuncData} (F : Fun K "law" "law" sLaw f fd) : FnOk P w K mg base CX0 8 f fd ["_law_script"] (spLaw K) := by
  refine F.ok scLaw (fun vs H Q E h => ?_) (fun cdv A outer s₀ H vs Q E hr h => ?_)
  · obtain ⟨a, ns, rfl, _⟩ := h
    rfl
  · obtain ⟨a, ns, rfl, hS, hlen, q⟩ := h
    obtain ⟨f1, fd1, D1⟩ := T.d_core_of_charges
    obtain ⟨f2, fd2, D2⟩ := T.d_charges
    obtain ⟨f3, fd3, D3⟩ := T.d_letters_of
    obtain ⟨f4, fd4, D4⟩ := T.d_is_core
    obtain ⟨f5, fd5, D5⟩ := T.d_l_told_core
    obtain ⟨f6, fd6, D6⟩ := T.d_l_letters
    obtain ⟨f7, fd7, D7⟩ := T.d_l_core_of
    obtain ⟨f8, fd8, D8⟩ := T.d_l_roll
    obtain ⟨f9, fd9, D9⟩ := T.d_l_letter_right
    obtain ⟨f10, fd10, D10⟩ := T.d_l_charges
    obtain ⟨f11, fd11, D11⟩ := T.d_l_some_core
    obtain ⟨f12, fd12, D12⟩ := T.d_l_dice
    have hr1 : Room 1 _ := hr.mono (by decide)
    have hr2 : Room 2 _ := hr.mono (by decide)
    have hr5 : Room 5 _ := hr.mono (by decide)
    have hr6 : Room 6 _ := hr.mono (by decide)
    have hr7 : Room 7 _ := hr.mono (by decide)
    refine ⟨_, pss_cons (ps_for PassesOwn.never rfl (pi_range1 (by rfl) T.z_range (pa_cons (pe_callB (call_max2 rfl) (by rfl) T.z_max (by decide +kernel) (pa_cons pe_int (pa_cons (pe_callB (call_min2 rfl) (by rfl) T.z_min (by decide +kernel) (pa_cons pe_int (pa_cons (pe_callB call_len_seq (by rfl) T.z_len PySem.boot_len (pa_cons (pv 0) pa_nil)) pa_nil))) pa_nil))) pa_nil)) (pg_name (i := 1) scLaw.nd rfl (.inl rfl))
        (pss_cons (ps_set (i := 2) scLaw.nd rfl (.inr rfl) (pe_call (ok_dice T D12) hr1 (by rfl) D12.g D12.F.kp D12.b .nil pass0 (pa_cons (pv 0) (pa_cons (pv 1) pa_nil))))
      (pss_one (ps_for PassesOwn.never rfl (pi_range1 (by rfl) T.z_range (pa_cons pe_int pa_nil)) (pg_name (i := 3) scLaw.nd rfl (.inl rfl))
        (pss_cons (ps_set (i := 4) scLaw.nd rfl (.inl rfl) (pe_op op_add pe_int (pe_call (ok_roll T D8) hr1 (by rfl) D8.g D8.F.kp D8.b .nil pass0 (pa_cons (pv 2) (pa_cons pe_int pa_nil)))))
      (pss_cons (ps_set (i := 5) scLaw.nd rfl (.inl rfl) (pe_call (ok_some_coreC T D11) hr2 (by rfl) D11.g D11.F.kp D11.b .nil pass0 (pa_cons (pv 2) (pa_cons (pv 4) (pa_cons pe_int pa_nil)))))
      (pss_cons (ps_set (i := 6) scLaw.nd rfl (.inl rfl) (pe_call (ok_charges T D2) hr6 (by rfl) D2.g D2.F.kp D2.b .nil pass0 (pa_cons (pv 4) (pa_cons (pv 5) pa_nil))))
      (pss_cons (ps_if (PW.pt (pw_or (pt_cmpR (op_neD hr.units) (pv 6) (pe_call (ok_lcharges T D10) hr2 (by rfl) D10.g D10.F.kp D10.b .nil pass0 (pa_cons (pv 4) (pa_cons (pv 5) pa_nil))) (nomark _))
          (pw_or (pt_cmpR op_ne (pe_callB (ST.cr_sumT rfl) (by rfl) T.z_sum (by decide +kernel) (pa_cons (pv 6) pa_nil)) pe_int (nomark _))
          (pw_or1 (pt_cmpR (op_neD hr.units) (pe_call (ok_core_of T D7) hr1 (by rfl) D7.g D7.F.kp D7.b .nil pass0 (pa_cons (pv 6) pa_nil)) (pv 5) (nomark _)))))) (pss_one (ps_ret pe_bl)) pss_nil)
      (pss_cons (ps_if (PW.pt (pw_or (pt_cmpR (op_neD hr.units) (pe_call (ok_core_of_charges T TM D1) hr5 (by rfl) D1.g D1.F.kp D1.b .nil passL (pa_cons (pv 4) (pa_cons (pv 6) pa_nil))) (pv 5) (nomark _))
          (pw_or1 (pt_not (pt_val (pe_call (ok_letter_right T D9) hr7 (by rfl) D9.g D9.F.kp D9.b .nil pass0 (pa_cons (pv 4) (pa_cons (pv 5) (pa_cons (pe_call (ok_roll T D8) hr1 (by rfl) D8.g D8.F.kp D8.b .nil pass0 (pa_cons (pv 2) (pa_cons (pv 4) pa_nil))) pa_nil))))))))) (pss_one (ps_ret pe_bl)) pss_nil)
      (pss_cons (ps_setLc (i := 7) (own := [("_law_one", 12)]) (g := gName 12) (tt := tYes) (by rfl) scLaw.nd rfl rfl (sw_true rfl rfl rfl (by decide +kernel)) (pi_range1 (by rfl) T.z_range (pa_cons (pe_op op_sub (pv 4) pe_int) pa_nil))
        (blkOk_by (N := nLaw) (sc := defScope sLaw) (by decide +kernel)) (fun _ _ _ _ _ => (pg_name (i := 12) scLaw.nd rfl (.inl rfl))) (fun _ _ _ _ _ => pts_nil)
        (fun _ _ _ _ _ => (pe_op op_sub (pe_call (ok_roll T D8) hr1 (by rfl) D8.g D8.F.kp D8.b .nil pass0 (pa_cons (pv 2) (pa_cons pe_int pa_nil))) pe_int)))
      (pss_cons (ps_set (i := 7) scLaw.nd rfl (.inl rfl) (pe_callTy call_tuple_of (by rfl) T.z_tuple (by decide +kernel) (pa_cons (pe_op op_cat (pv 7) (pe_lst (pa_cons (pe_op op_sub pe_int (pe_callB (cr_sum rfl) (by rfl) T.z_sum (by decide +kernel) (pa_cons (pv 7) pa_nil))) pa_nil))) pa_nil)))
      (pss_cons (ps_set (i := 8) scLaw.nd rfl (.inl rfl) (pe_call (ok_core_of T D7) hr1 (by rfl) D7.g D7.F.kp D7.b .nil pass0 (pa_cons (pv 7) pa_nil)))
      (pss_cons (ps_set (i := 9) scLaw.nd rfl (.inl rfl) (pe_callB (cr_sum rfl) (by rfl) T.z_sum (by decide +kernel) (pa_cons (pe_call (ok_lletters T D6) hr2 (by rfl) D6.g D6.F.kp D6.b .nil pass0 (pa_cons (pv 4) (pa_cons (pv 8) pa_nil))) pa_nil)))
      (pss_cons (ps_asg (pe_call (ok_told_core T TM D5) hr6 (by rfl) D5.g D5.F.kp D5.b .nil pass0 (pa_cons (pv 4) (pa_cons (pv 7) pa_nil))) (pg_tup (by rfl) (pgs_cons (pg_name (i := 10) scLaw.nd rfl (.inl rfl)) (pgs_cons (pg_name (i := 11) scLaw.nd rfl (.inl rfl)) pgs_nil))))
      (pss_cons (ps_if (pt_cmpR (op_neD hr.units) (pe_tup (pa_cons (pv 10) (pa_cons (pv 11) pa_nil))) (pe_ifExp (pt_cmpR op_le (pv 9) pe_int (nomark _)) (pe_tup (pa_cons pe_str (pa_cons (pv 8) pa_nil))) (pe_tup (pa_cons pe_str (pa_cons pe_int pa_nil)))) (nomark _)) (pss_one (ps_ret pe_bl)) pss_nil)
      (pss_one (ps_if (PW.pt (pw_and (pt_cmpR op_eq (pv 10) pe_str (nomark _))
          (pw_and1 (PW.pt (pw_or (pt_not (pt_val (pe_call (ok_is_core T D4) hr5 (by rfl) D4.g D4.F.kp D4.b .nil pass0 (pa_cons (pv 4) (pa_cons (pv 11) pa_nil)))))
          (pw_or (pt_cmpR (op_neD hr.units) (pe_call (ok_charges T D2) hr6 (by rfl) D2.g D2.F.kp D2.b .nil pass0 (pa_cons (pv 4) (pa_cons (pv 11) pa_nil))) (pv 7) (nomark _))
          (pw_or1 (pt_cmpR op_ne (pe_call (ok_letters_of T D3) hr6 (by rfl) D3.g D3.F.kp D3.b .nil pass0 (pa_cons (pv 4) (pa_cons (pv 11) pa_nil))) (pv 9) (nomark _))))))))) (pss_one (ps_ret pe_bl)) pss_nil)))))))))))))))))
      (pss_one (ps_ret (pe_and (pe_cmpR (op_eqD hr.units) (pe_call (ok_charges T D2) hr6 (by rfl) D2.g D2.F.kp D2.b .nil pass0 (pa_cons pe_int (pa_cons (pe_tup pa_nil) pa_nil))) (pe_tup (pa_cons pe_int (pa_cons pe_int (pa_cons pe_int pa_nil)))) (nomark _)) (pe_one (pe_cmpR (op_eqD hr.units) (pe_call (ok_core_of_charges T TM D1) hr5 (by rfl) D1.g D1.F.kp D1.b .nil passL (pa_cons pe_int (pa_cons (pe_tup (pa_cons pe_int (pa_cons pe_int pa_nil))) pa_nil))) (pe_tup pa_nil) (nomark _)))))), ?_⟩
    refine ⟨_, rfl, a, _, rfl, .inl hS, 3, _, rfl, 1, _, rfl, _, rfl, ?_, ?_, for_range (lo := 0) (n := Int.toNat _) (fun i σ' H' => ∃ y1 y2 y3 y4 y5 y6 y7 y8 y9 y10 y11, σ' = [some (.ref a), y1, y2, y3, y4, y5, y6, y7, y8, y9, y10, y11, none] ∧ SqL K H' a (ns.map V.int)) ⟨none, none, none, none, none, none, none, none, none, none, none, rfl, hS⟩ (fun i σ' H' _ hp => ?_) (fun σ' H' hp => ?_)⟩
    · first | omega | (split <;> omega) | (split <;> split <;> omega)
    · rw [List.length_map]
      first | omega | (split <;> omega) | (split <;> split <;> omega)
    · obtain ⟨y1, y2, y3, y4, y5, y6, y7, y8, y9, y10, y11, rfl, hS'⟩ := hp
      refine ⟨_, rfl, _, rfl, a, ns, i, ?_, hS', fun d H1 hp0 e1 hd1 => ?_⟩
      · rw [Int.zero_add]
        rfl
      have fin : ∀ H2, Keep d H1 H2 → SqL K H2 a (ns.map V.int) := fun H2 k2 => sql_keep hp0 e1 k2 hS'
      refine ⟨_, rfl, by decide, by decide, for_range (lo := 0) (n := 3) (fun j σ2 H2 => ∃ z1 z3 z4 z5 z6 z7 z8 z9 z10 z11, σ2 = [some (.ref a), z1, some (.ref d), z3, z4, z5, z6, z7, z8, z9, z10, z11, none] ∧ Dice H2 d ∧ Keep d H1 H2) ⟨_, y3, y4, y5, y6, y7, y8, y9, y10, y11, rfl, hd1, Keep.refl _ _⟩ (fun j σ2 H2 _ hp => ?_) (fun σ2 H2 hp => ?_)⟩
      · obtain ⟨z1, z3, z4, z5, z6, z7, z8, z9, z10, z11, rfl, hd2, kp2⟩ := hp
        refine ⟨_, rfl, d, _, rfl, hd2, by decide, by decide, fun r0 H3 r1 r2 hd3 k3 => ⟨_, _, rfl, rfl, ?_⟩⟩
        obtain ⟨k, hk⟩ : ∃ k : Nat, (k : Int) = 2 + r0 := ⟨(2 + r0).toNat, by omega⟩
        show gName 4 (V.int (2 + r0)) _ _ _
        rw [← hk]
        have k1 : 2 ≤ k := by omega
        have k6 : k ≤ 6 := by omega
        refine ⟨_, rfl, _, rfl, d, (k : Int), 8, rfl, hd3, by omega, by omega, by decide, by decide, fun b h H4 hb IH Ck lt l8 t8 hd4 k4 => ?_⟩
        have G : Good h := ⟨IH, by omega, by omega⟩
        have kp4 := (kp2.trans k3).trans k4
        refine ⟨_, rfl, _, rfl, (k : Int), b, h, rfl, hb, G, by omega, by omega, Ck, fun t5 H5 e5 ht5 => ?_⟩
        have hb5 := e5 _ _ hb
        refine ⟨_, rfl, _, rfl, _, rfl, (k : Int), b, h, rfl, hb5, by omega, by omega, by omega, fun t6 H6 e6 ht6 => ?_⟩
        have ht56 := e6 _ _ ht5
        refine neT0 ht56 ht6 ⟨_, rfl, iteF' rfl ?_⟩
        refine ⟨_, rfl, t5, _, rfl, SqT.of ht56, rfl, _, rfl, iteF' (by rw [ch_sum IH (show 0 < (k : Int) by omega)]; rfl) ?_⟩
        obtain ⟨fa, Fa⟩ := fl_ex IH (show 1 ≤ (k : Int) by omega) Ck
        have ch1 := ch_fl IH (by omega) Fa
        rw [Int.toNat_natCast] at ch1
        obtain ⟨l, hl⟩ : ∃ l, l = chL h (k : Int) := ⟨_, rfl⟩
        have lk : l.length = k := by rw [hl, ch1, List.length_map, List.length_range]
        have lf : ∀ r, r < k → chF l r = fa r := fun r hr => by rw [hl, ch1]; exact chF_map fa hr
        have Fl : fl h (l.length : Int) (chF l) := by
          rw [lk]
          exact fl_congr (by omega) (fun r hr => (lf r (by omega)).symm) Fa
        have lb : ∀ z ∈ l, -12 ≤ z ∧ z ≤ 12 := fun z hz => by
          rw [hl, ch1] at hz
          obtain ⟨r, hr, rfl⟩ := List.mem_map.mp hz
          have hr := List.mem_range.mp hr
          have := fl_small IH (show 1 ≤ (k : Int) by omega) Fa (r := r) (by omega)
          omega
        have ls0 : l.sum = 0 := by rw [hl]; exact ch_sum IH (by omega)
        have lLS : LS l.length (chF l) ≤ 30 := by
          have := lts_LS IH (show 1 ≤ (k : Int) by omega) Fa
          rw [Int.toNat_natCast] at this
          rw [lk, LS_congr lf]
          omega
        rw [← hl] at ht56
        refine ⟨_, rfl, t5, l, rfl, ht56, by omega, by omega, lb, ls0, fun b7 h7 H7 e7 IH7 F7 hb7 => ?_⟩
        obtain rfl := fl_unique IH7 IH F7 Fl
        have hb75 := (e6.trans e7) _ _ hb5
        refine ⟨_, rfl, neH0 hb7 hb75 ⟨_, rfl, iteF' rfl ?_⟩⟩
        have ht57 := e7 _ _ ht56
        refine ⟨_, rfl, _, rfl, t5, l, by rw [lk]; rfl, ht57, by omega, by omega, lb, ls0, fun z => absurd z (by omega), fun _ b8 h8 H8 e8 IH8 F8 hb8 => ?_⟩
        obtain rfl := fl_unique IH8 IH F8 Fl
        have hb86 := e8 _ _ hb75
        refine ⟨_, rfl, neH0 hb8 hb86 ⟨_, rfl, iteF' rfl ?_⟩⟩
        have e48 := ((e5.trans e6).trans e7).trans e8
        have hd8 := hd4.ex e48
        refine ⟨_, rfl, _, rfl, _, rfl, _, rfl, d, (k : Int), rfl, hd8, by omega, by omega, fun q1 H9 q10 q11 hd9 kp9 => ?_⟩
        have hb9 := kp9.tup hd8 hb86
        refine ⟨k, b, h8, q1, rfl, hb9, IH, by omega, by omega, by omega, by omega, Ck, q10, q11, fun H10 e10 => ⟨true, rfl, iteF' rfl ?_⟩⟩
        have kp10 := ((kp4.trans (Keep.ex e48)).trans kp9).trans (Keep.ex e10)
        have hd10 := hd9.ex e10
        refine ⟨_, rfl, _, _, rfl, rfl, _, rfl, by omega, by omega, fun Dl hD => ?_⟩
        have ndl : d ≠ Dl := hd10.ne_new hD
        have hD0 : H1 Dl = none := kp10.free ndl.symm hD
        refine lc_itY walk_range (fun i H' => ∃ js : List Int, H' Dl = some (.lst (js.map V.int)) ∧ js.length = i ∧ (∀ j ∈ js, -2 ≤ j ∧ j ≤ 2) ∧ Keep d H1 H' ∧ Dice H' d) ⟨[], upd_same, rfl, fun j hj => absurd hj (by simp), kp10.trans (Keep.new hD), hd10.upd ndl⟩ (fun _ _ _ _ => trivial) (fun i x H11 H12 hi hp' hy => ?_) (fun H11 hp' => ?_)
        · obtain ⟨js, a1, a2, a3, a4, a5⟩ := hp'
          obtain ⟨rfl, rfl⟩ := hy
          refine ⟨rfl, _, rfl, d, 5, rfl, a5, by decide, by decide, fun r3 H13 r30 r31 hd3 k13 => ?_⟩
          refine ⟨_, _, rfl, rfl, _, k13 _ _ ndl.symm a1, ?_, js ++ [r3 - 2], ?_, ?_, ?_, (a4.trans k13).mut hD0, hd3.upd ndl⟩
          · rw [List.length_map]
            exact small1000 (by omega)
          · rw [upd_same, List.map_append]
            rfl
          · rw [List.length_append, a2]
            rfl
          · intro j hj
            rcases List.mem_append.mp hj with z | z
            · exact a3 j z
            · have := List.mem_singleton.mp z
              omega
        · obtain ⟨js, a1, a2, a3, a4, a5⟩ := hp'
          have jl : js.length + 1 = k := by omega
          have js2 := sum_two js a3
          obtain ⟨m, hm⟩ : ∃ m, m = js ++ [0 - js.sum] := ⟨_, rfl⟩
          have mk : m.length = k := by rw [hm, List.length_append]; exact jl
          have m0 : m.sum = 0 := by
            rw [hm, List.sum_append]
            simp
            omega
          have mb : ∀ z ∈ m, -10 ≤ z ∧ z ≤ 10 := fun z hz => by
            rw [hm] at hz
            rcases List.mem_append.mp hz with y | y
            · have := a3 z y
              omega
            · have := List.mem_singleton.mp y
              omega
          refine ⟨_, rfl, _, rfl, Dl, js, rfl, SqL.of a1, _, _, rfl, rfl, by show 1 ≤ sizeLine; decide, fun Ls hLs => ?_⟩
          have x1 := Ex.new (o := .lst [V.int (0 - js.sum)]) hLs
          refine ⟨Dl, Ls, _, _, rfl, rfl, x1 _ _ a1, upd_same, sz_of (by rw [List.length_map]; show js.length + 1 ≤ _; omega), fun cp hcp => ?_⟩
          have x2 := Ex.new (o := .lst (js.map V.int ++ [V.int (0 - js.sum)])) hcp
          have g2 : (upd (upd H11 Ls (.lst [V.int (0 - js.sum)])) cp (.lst (js.map V.int ++ [V.int (0 - js.sum)]))) cp = some (.lst (m.map V.int)) := by
            rw [upd_same, hm, List.map_append]
            rfl
          have x12 := x1.trans x2
          generalize upd (upd H11 Ls (.lst [V.int (0 - js.sum)])) cp (.lst (js.map V.int ++ [V.int (0 - js.sum)])) = H12 at *
          refine ⟨cp, _, rfl, .inl ⟨SqL.of g2, fun u hu => ?_⟩⟩
          have x3 := Ex.new (o := .tup (m.map V.int)) hu
          have gu : (upd H12 u (.tup (m.map V.int))) u = some (.tup (m.map V.int)) := upd_same
          have x13 := x12.trans x3
          have kp13 := a4.trans (Keep.ex x13)
          have hd13 := a5.ex x13
          generalize upd H12 u (.tup (m.map V.int)) = H13 at *
          refine ⟨_, rfl, u, m, rfl, gu, by omega, by omega, fun z hz => by have := mb z hz; omega, m0, fun b1 g H14 e14 IHg Fg hb1 => ?_⟩
          have fb : ∀ r : Nat, (r : Int) < (m.length : Int) → -10 ≤ chF m r ∧ chF m r ≤ 10 := fun r hr => mb _ (getD_mem (by omega))
          have tp := fl_top IHg (show 1 ≤ (m.length : Int) by omega) (show (0 : Int) ≤ 10 by decide) Fg fun r hr => (fb r hr).2
          have wd := fl_wide IHg (show 1 ≤ (m.length : Int) by omega) (show (0 : Int) ≤ 10 by decide) Fg fun r hr => (fb r hr).1
          have Gg : Good g := ⟨IHg, by omega, by omega⟩
          refine ⟨_, rfl, _, rfl, (k : Int), b1, g, rfl, hb1, Gg, fun Lt H15 e15 hLt => ?_⟩
          refine ⟨Lt, _, rfl, SqL.of hLt, ?_⟩
          rw [ltL_lts]
          have sz : lts g (k : Int) = LS m.length (chF m) := by
            have := lts_LS IHg (show 1 ≤ (m.length : Int) by omega) Fg
            rw [Int.toNat_natCast] at this
            rw [← this, mk]
          have gu15 := (e14.trans e15) _ _ gu
          have hb15 := e15 _ _ hb1
          have kp15 := kp13.trans (Keep.ex (e14.trans e15))
          have hd15 := hd13.ex (e14.trans e15)
          have Cg : coreB g (k : Int) := by
            have := fl_core (by omega) Fg
            rw [mk] at this
            exact this
          refine ⟨_, rfl, _, rfl, u, m, by rw [mk]; rfl, gu15, by omega, by omega, fun z hz => by have := mb z hz; omega, m0, fun big t H16 e16 ht16 => ?_, fun few t b2 g2' H16 e16 IH2 F2 hb2 ht16 => ?_⟩
          · refine ⟨t, _, rfl, SqT.of ht16, rfl, .str _, [_], rfl, .int 30, [], rfl, rfl, ?_⟩
            refine ⟨_, rfl, _, rfl, by show 2 ≤ sizeLine; decide, fun t1 ht1 => ?_⟩
            have y1 := Ex.new (o := .tup [.str (Str.ofString "many"), .int 30]) ht1
            refine ⟨_, rfl, _, _, rfl, rfl, _, rfl, iteF' (decide_eq_false (by rw [sz]; omega)) ⟨by show 2 ≤ sizeLine; decide, fun t2 ht2 => ?_⟩⟩
            have y2 := Ex.new (o := .tup [.str (Str.ofString "many"), .int 30]) ht2
            refine ne_many (by decide +kernel) (y2 _ _ upd_same) upd_same ⟨_, rfl, iteF' rfl ?_⟩
            have kp17 := kp15.trans (Keep.ex ((e16.trans y1).trans y2))
            have hd17 := hd15.ex ((e16.trans y1).trans y2)
            refine ⟨_, rfl, rfl, _, rfl, iteF' (by decide +kernel) ?_⟩
            exact ⟨_, _, _, _, _, _, _, _, _, _, rfl, hd17, kp17⟩
          · obtain rfl := fl_unique IH2 IHg F2 Fg
            refine ⟨t, _, rfl, SqT.of ht16, rfl, .str _, [_], rfl, .ref b2, [], rfl, rfl, ?_⟩
            refine ⟨_, rfl, _, rfl, by show 2 ≤ sizeLine; decide, fun t1 ht1 => ?_⟩
            have y1 := Ex.new (o := .tup [.str (Str.ofString "core"), .ref b2]) ht1
            refine ⟨_, rfl, _, _, rfl, rfl, _, rfl, iteT' (decide_eq_true (by rw [sz]; omega)) ⟨_, rfl, by show 2 ≤ sizeLine; decide, fun t2 ht2 => ?_⟩⟩
            have y2 := Ex.new (o := .tup [.str (Str.ofString "core"), .ref b1]) ht2
            have y12 := y1.trans y2
            refine ne_word (by decide +kernel) (y2 _ _ upd_same) (y12 _ _ hb2) upd_same ((e16.trans y12) _ _ hb15) ⟨_, rfl, iteF' rfl ?_⟩
            have hb17 := y12 _ _ hb2
            have gu17 := (e16.trans y12) _ _ gu15
            have kp17 := kp15.trans (Keep.ex (e16.trans y12))
            have hd17 := hd15.ex (e16.trans y12)
            generalize upd (upd H16 t1 (.tup [.str (Str.ofString "core"), .ref b2])) t2 (.tup [.str (Str.ofString "core"), .ref b1]) = H17 at *
            refine ⟨_, rfl, rfl, _, rfl, iteT' (by decide +kernel) ?_⟩
            refine ⟨_, rfl, _, rfl, (k : Int), .ref b2, rfl, by omega, by omega, .inr ⟨b2, _, rfl, hb17, Gg, fun bb H18 hbb e18 => ?_⟩⟩
            obtain rfl : bb = true := hbb.mpr Cg
            refine ⟨true, rfl, iteF' rfl ?_⟩
            refine ⟨_, rfl, _, rfl, (k : Int), b2, _, rfl, e18 _ _ hb17, Gg, by omega, by omega, Cg, fun t3 H19 e19 ht3 => ?_⟩
            have chg := ch_fl IHg (show 1 ≤ (m.length : Int) by omega) Fg
            rw [Int.toNat_natCast, chF_list, mk] at chg
            rw [chg] at ht3
            refine ⟨_, rfl, neT0 ht3 ((e18.trans e19) _ _ gu17) ⟨_, rfl, iteF' rfl ?_⟩⟩
            refine ⟨_, rfl, _, rfl, (k : Int), b2, _, rfl, (e18.trans e19) _ _ hb17, Gg, by omega, by omega, Cg, fun H20 e20 => ?_⟩
            rw [ltL_lts]
            have e1720 := (e18.trans e19).trans e20
            exact ⟨_, rfl, rfl, _, rfl, iteF' (by simp) ⟨_, _, _, _, _, _, _, _, _, _, rfl, hd17.ex e1720, kp17.trans (Keep.ex e1720)⟩⟩
      · obtain ⟨z1, z3, z4, z5, z6, z7, z8, z9, z10, z11, rfl, hd2, kp2⟩ := hp
        exact ⟨_, _, _, _, _, _, _, _, _, _, _, rfl, fin _ kp2⟩
    · obtain ⟨y1, y2, y3, y4, y5, y6, y7, y8, y9, y10, y11, rfl, hS'⟩ := hp
      refine ⟨by show 0 ≤ sizeLine; decide, fun u1 hu1 => ?_⟩
      have gn : HeapAt (upd H' u1 (.tup [])) u1 [] := upd_same
      generalize upd H' u1 (.tup []) = H2 at *
      refine ⟨3, u1, [], rfl, gn, good_nil, by decide, by decide, core_nil 3, fun r1 H3 e3 hr1' => ?_⟩
      refine ⟨by show 3 ≤ sizeLine; decide, fun u2 hu2 => ?_⟩
      have x2 := Ex.new (o := .tup [V.int 0, V.int 0, V.int 0]) hu2
      have c3 : chL [] 3 = [0, 0, 0] := by decide +kernel
      refine CI.eqT (l := chL [] 3) (l' := [0, 0, 0]) (x2 _ _ hr1') upd_same ?_
      rw [c3]
      refine ⟨true, rfl, iteT ?_⟩
      generalize upd H3 u2 (.tup [V.int 0, V.int 0, V.int 0]) = H4 at *
      refine ⟨by show 2 ≤ sizeLine; decide, fun u3 hu3 => ?_⟩
      have g3 : (upd H4 u3 (.tup [V.int 0, V.int 0])) u3 = some (.tup (([0, 0] : List Int).map V.int)) := upd_same
      generalize upd H4 u3 (.tup [V.int 0, V.int 0]) = H5 at *
      refine ⟨u3, [0, 0], rfl, g3, by decide, by decide, by decide, by decide, fun z => absurd z (by decide +kernel), fun _ r4 h4 H6 e6 IH4 F4 hr4 => ?_⟩
      have F0 : fl [] ((([0, 0] : List Int).length : Nat) : Int) (chF [0, 0]) := fun z => by
        have e : inB [] z ↔ z < 0 := by
          constructor
          · rintro ⟨c, rfl⟩
            rw [bead_out (Nat.zero_le _)]
            omega
          · intro hz
            exact inB_low hz
        have z2 : chF [0, 0] (z % 2).toNat = 0 := by
          have := Int.emod_nonneg z (show (2 : Int) ≠ 0 by decide)
          have := Int.emod_lt_of_pos z (show (0 : Int) < 2 by decide)
          have : (z % 2).toNat = 0 ∨ (z % 2).toNat = 1 := by omega
          rcases this with q | q <;> rw [q] <;> rfl
        rw [e]
        show z < 0 ↔ z / 2 < chF [0, 0] (z % 2).toNat
        rw [z2]
        omega
      obtain rfl := fl_unique IH4 IsHeap.nil F4 F0
      refine ⟨by show 0 ≤ sizeLine; decide, fun u5 hu5 => ?_⟩
      have x5 := Ex.new (o := .tup []) hu5
      refine CI.eqH (h := []) (h' := []) (x5 _ _ hr4) upd_same ?_
      exact q _
end
end K1

namespace K1
open PySem PySem.Spec PyProof.Rows L2
/-- what a def of the text leaves -/
theorem mk_def {K : PySem.W.Frag} {h : Heap} {mg : Str → Option Value} {x : Str} {st : Stmt} {ps : List Str} {f : Addr} {oc : Value} {od an : Option Addr} {osl : Array (Option Value)} {kV doc pm cdv ct : Value} (X : K.In h) (G : h.Ns mainGlobals mg)
    (a : PySem.W.nsIn K mainGlobals x = some (some (.ref f))) (l : K.lookup f = some ⟨oc, od, .func (PySem.W.fnOf x x (defArgs st) (defBody st) (defScope st) .none kV doc pm an cdv ct), osl⟩) (c : PySem.W.codeIn K cdv x = true) (k : PySem.W.keepIn K (.ref f) = true)
    (b : ∀ (kV doc pm : Value) (an : Option Addr) (cdv ct : Value) (us : List Value), us.length = ps.length → bindArgs (PySem.W.fnOf x x (defArgs st) (defBody st) (defScope st) .none kV doc pm an cdv ct) ⟨us, []⟩ = pure (ps.zip us)) :
    ∃ f fd, DefAt K mg x st ps f fd := ⟨f, _, ⟨fun_mk (st := st) l c k, PySem.W.mg_of X G a, (fun_mk (st := st) l c k).binds b⟩⟩
/-- an error of the class at S is what «except S» names -/
theorem exm_self {K : PySem.W.Frag} {S : Addr} (h1 : PySem.W.subIn K (.ref S) (.type "BaseException") = some true) (h2 : PySem.W.isClsIn K S = true) (h3 : PySem.W.typeIn K (.ref S) = some (.type "type")) (h4 : PySem.W.subIn K (.ref S) (.ref S) = some true) :
    PySem.W.exmOne K (.ref S) (.ref S) = some true := by
  have e1 : (PySem.W.subIn K (.ref S) (.type "BaseException") == some true) = true := by rw [h1] <;> rfl
  have e2 : ((PySem.W.clsIn K S).isSome && PySem.W.typeIn K (.ref S) == some (.type "type")) = true := by
    have h2' : (PySem.W.clsIn K S).isSome = true := h2
    rw [h2', h3] <;> rfl
  show (if (PySem.W.subIn K (.ref S) (.type "BaseException") == some true) = true then (if ((PySem.W.clsIn K S).isSome && PySem.W.typeIn K (.ref S) == some (.type "type")) = true then PySem.W.subIn K (.ref S) (.ref S) else none) else none) = some true
  rw [if_pos e1, if_pos e2]
  exact h4
theorem all_mk {P : Program} {w : World} {K : PySem.W.Frag} {h : Heap} {mg : Str → Option Value} {fa : Addr} (X : K.In h) (G : h.Ns mainGlobals mg) (hfa : mg "law" = some (.ref fa)) (vBOUND : ∃ t, mg "BOUND" = some (.int (10 ^ 60) t))
    {tSIDE tMAX_ORDER tMAX_LETTERS : Tok} (gSIDE : PySem.W.nsIn K mainGlobals "MOST_SIDE" = some (some (.int 60 tSIDE))) (gMAX_ORDER : PySem.W.nsIn K mainGlobals "MAX_ORDER" = some (some (.int 60 tMAX_ORDER))) (gMAX_LETTERS : PySem.W.nsIn K mainGlobals "MAX_LETTERS" = some (some (.int 30 tMAX_LETTERS)))
    (z_abs : PySem.W.nsIn K mainGlobals "abs" = some none) (z_all : PySem.W.nsIn K mainGlobals "all" = some none) (z_bool : PySem.W.nsIn K mainGlobals "bool" = some none) (z_enumerate : PySem.W.nsIn K mainGlobals "enumerate" = some none) (z_int : PySem.W.nsIn K mainGlobals "int" = some none) (z_isinstance : PySem.W.nsIn K mainGlobals "isinstance" = some none) (z_len : PySem.W.nsIn K mainGlobals "len" = some none) (z_list : PySem.W.nsIn K mainGlobals "list" = some none) (z_max : PySem.W.nsIn K mainGlobals "max" = some none) (z_min : PySem.W.nsIn K mainGlobals "min" = some none) (z_range : PySem.W.nsIn K mainGlobals "range" = some none) (z_sorted : PySem.W.nsIn K mainGlobals "sorted" = some none) (z_sum : PySem.W.nsIn K mainGlobals "sum" = some none) (z_tuple : PySem.W.nsIn K mainGlobals "tuple" = some none)
    {f0 : Addr} {oc0 : Value} {od0 an0 : Option Addr} {sl0 : Array (Option Value)} {kV0 dc0 pm0 cd0 ct0 : Value}
    (a0 : PySem.W.nsIn K mainGlobals "is_integer" = some (some (.ref f0))) (l0 : K.lookup f0 = some ⟨oc0, od0, .func (PySem.W.fnOf "is_integer" "is_integer" (defArgs sIsInteger) (defBody sIsInteger) (defScope sIsInteger) .none kV0 dc0 pm0 an0 cd0 ct0), sl0⟩) (c0 : PySem.W.codeIn K cd0 "is_integer" = true) (k0 : PySem.W.keepIn K (.ref f0) = true)
    {f1 : Addr} {oc1 : Value} {od1 an1 : Option Addr} {sl1 : Array (Option Value)} {kV1 dc1 pm1 cd1 ct1 : Value}
    (a1 : PySem.W.nsIn K mainGlobals "is_between" = some (some (.ref f1))) (l1 : K.lookup f1 = some ⟨oc1, od1, .func (PySem.W.fnOf "is_between" "is_between" (defArgs sIsBetween) (defBody sIsBetween) (defScope sIsBetween) .none kV1 dc1 pm1 an1 cd1 ct1), sl1⟩) (c1 : PySem.W.codeIn K cd1 "is_between" = true) (k1 : PySem.W.keepIn K (.ref f1) = true)
    {f2 : Addr} {oc2 : Value} {od2 an2 : Option Addr} {sl2 : Array (Option Value)} {kV2 dc2 pm2 cd2 ct2 : Value}
    (a2 : PySem.W.nsIn K mainGlobals "is_row" = some (some (.ref f2))) (l2 : K.lookup f2 = some ⟨oc2, od2, .func (PySem.W.fnOf "is_row" "is_row" (defArgs sIsRow) (defBody sIsRow) (defScope sIsRow) .none kV2 dc2 pm2 an2 cd2 ct2), sl2⟩) (c2 : PySem.W.codeIn K cd2 "is_row" = true) (k2 : PySem.W.keepIn K (.ref f2) = true)
    {f3 : Addr} {oc3 : Value} {od3 an3 : Option Addr} {sl3 : Array (Option Value)} {kV3 dc3 pm3 cd3 ct3 : Value}
    (a3 : PySem.W.nsIn K mainGlobals "is_long_row" = some (some (.ref f3))) (l3 : K.lookup f3 = some ⟨oc3, od3, .func (PySem.W.fnOf "is_long_row" "is_long_row" (defArgs sIsLongRow) (defBody sIsLongRow) (defScope sIsLongRow) .none kV3 dc3 pm3 an3 cd3 ct3), sl3⟩) (c3 : PySem.W.codeIn K cd3 "is_long_row" = true) (k3 : PySem.W.keepIn K (.ref f3) = true)
    {f4 : Addr} {oc4 : Value} {od4 an4 : Option Addr} {sl4 : Array (Option Value)} {kV4 dc4 pm4 cd4 ct4 : Value}
    (a4 : PySem.W.nsIn K mainGlobals "check_between" = some (some (.ref f4))) (l4 : K.lookup f4 = some ⟨oc4, od4, .func (PySem.W.fnOf "check_between" "check_between" (defArgs sCheckBetween) (defBody sCheckBetween) (defScope sCheckBetween) .none kV4 dc4 pm4 an4 cd4 ct4), sl4⟩) (c4 : PySem.W.codeIn K cd4 "check_between" = true) (k4 : PySem.W.keepIn K (.ref f4) = true)
    {f5 : Addr} {oc5 : Value} {od5 an5 : Option Addr} {sl5 : Array (Option Value)} {kV5 dc5 pm5 cd5 ct5 : Value}
    (a5 : PySem.W.nsIn K mainGlobals "is_heap" = some (some (.ref f5))) (l5 : K.lookup f5 = some ⟨oc5, od5, .func (PySem.W.fnOf "is_heap" "is_heap" (defArgs sIsHeap) (defBody sIsHeap) (defScope sIsHeap) .none kV5 dc5 pm5 an5 cd5 ct5), sl5⟩) (c5 : PySem.W.codeIn K cd5 "is_heap" = true) (k5 : PySem.W.keepIn K (.ref f5) = true)
    {f6 : Addr} {oc6 : Value} {od6 an6 : Option Addr} {sl6 : Array (Option Value)} {kV6 dc6 pm6 cd6 ct6 : Value}
    (a6 : PySem.W.nsIn K mainGlobals "height_at" = some (some (.ref f6))) (l6 : K.lookup f6 = some ⟨oc6, od6, .func (PySem.W.fnOf "height_at" "height_at" (defArgs sHeightAt) (defBody sHeightAt) (defScope sHeightAt) .none kV6 dc6 pm6 an6 cd6 ct6), sl6⟩) (c6 : PySem.W.codeIn K cd6 "height_at" = true) (k6 : PySem.W.keepIn K (.ref f6) = true)
    {f7 : Addr} {oc7 : Value} {od7 an7 : Option Addr} {sl7 : Array (Option Value)} {kV7 dc7 pm7 cd7 ct7 : Value}
    (a7 : PySem.W.nsIn K mainGlobals "lengths_of" = some (some (.ref f7))) (l7 : K.lookup f7 = some ⟨oc7, od7, .func (PySem.W.fnOf "lengths_of" "lengths_of" (defArgs sLengthsOf) (defBody sLengthsOf) (defScope sLengthsOf) .none kV7 dc7 pm7 an7 cd7 ct7), sl7⟩) (c7 : PySem.W.codeIn K cd7 "lengths_of" = true) (k7 : PySem.W.keepIn K (.ref f7) = true)
    {f8 : Addr} {oc8 : Value} {od8 an8 : Option Addr} {sl8 : Array (Option Value)} {kV8 dc8 pm8 cd8 ct8 : Value}
    (a8 : PySem.W.nsIn K mainGlobals "hook_at" = some (some (.ref f8))) (l8 : K.lookup f8 = some ⟨oc8, od8, .func (PySem.W.fnOf "hook_at" "hook_at" (defArgs sHookAt) (defBody sHookAt) (defScope sHookAt) .none kV8 dc8 pm8 an8 cd8 ct8), sl8⟩) (c8 : PySem.W.codeIn K cd8 "hook_at" = true) (k8 : PySem.W.keepIn K (.ref f8) = true)
    {f9 : Addr} {oc9 : Value} {od9 an9 : Option Addr} {sl9 : Array (Option Value)} {kV9 dc9 pm9 cd9 ct9 : Value}
    (a9 : PySem.W.nsIn K mainGlobals "check_order" = some (some (.ref f9))) (l9 : K.lookup f9 = some ⟨oc9, od9, .func (PySem.W.fnOf "check_order" "check_order" (defArgs sCheckOrder) (defBody sCheckOrder) (defScope sCheckOrder) .none kV9 dc9 pm9 an9 cd9 ct9), sl9⟩) (c9 : PySem.W.codeIn K cd9 "check_order" = true) (k9 : PySem.W.keepIn K (.ref f9) = true)
    {f10 : Addr} {oc10 : Value} {od10 an10 : Option Addr} {sl10 : Array (Option Value)} {kV10 dc10 pm10 cd10 ct10 : Value}
    (a10 : PySem.W.nsIn K mainGlobals "beads_of" = some (some (.ref f10))) (l10 : K.lookup f10 = some ⟨oc10, od10, .func (PySem.W.fnOf "beads_of" "beads_of" (defArgs sBeadsOf) (defBody sBeadsOf) (defScope sBeadsOf) .none kV10 dc10 pm10 an10 cd10 ct10), sl10⟩) (c10 : PySem.W.codeIn K cd10 "beads_of" = true) (k10 : PySem.W.keepIn K (.ref f10) = true)
    {f11 : Addr} {oc11 : Value} {od11 an11 : Option Addr} {sl11 : Array (Option Value)} {kV11 dc11 pm11 cd11 ct11 : Value}
    (a11 : PySem.W.nsIn K mainGlobals "stays_core" = some (some (.ref f11))) (l11 : K.lookup f11 = some ⟨oc11, od11, .func (PySem.W.fnOf "stays_core" "stays_core" (defArgs sStaysCore) (defBody sStaysCore) (defScope sStaysCore) .none kV11 dc11 pm11 an11 cd11 ct11), sl11⟩) (c11 : PySem.W.codeIn K cd11 "stays_core" = true) (k11 : PySem.W.keepIn K (.ref f11) = true)
    {f12 : Addr} {oc12 : Value} {od12 an12 : Option Addr} {sl12 : Array (Option Value)} {kV12 dc12 pm12 cd12 ct12 : Value}
    (a12 : PySem.W.nsIn K mainGlobals "is_core" = some (some (.ref f12))) (l12 : K.lookup f12 = some ⟨oc12, od12, .func (PySem.W.fnOf "is_core" "is_core" (defArgs sIsCore) (defBody sIsCore) (defScope sIsCore) .none kV12 dc12 pm12 an12 cd12 ct12), sl12⟩) (c12 : PySem.W.codeIn K cd12 "is_core" = true) (k12 : PySem.W.keepIn K (.ref f12) = true)
    {f13 : Addr} {oc13 : Value} {od13 an13 : Option Addr} {sl13 : Array (Option Value)} {kV13 dc13 pm13 cd13 ct13 : Value}
    (a13 : PySem.W.nsIn K mainGlobals "check_core" = some (some (.ref f13))) (l13 : K.lookup f13 = some ⟨oc13, od13, .func (PySem.W.fnOf "check_core" "check_core" (defArgs sCheckCore) (defBody sCheckCore) (defScope sCheckCore) .none kV13 dc13 pm13 an13 cd13 ct13), sl13⟩) (c13 : PySem.W.codeIn K cd13 "check_core" = true) (k13 : PySem.W.keepIn K (.ref f13) = true)
    {f14 : Addr} {oc14 : Value} {od14 an14 : Option Addr} {sl14 : Array (Option Value)} {kV14 dc14 pm14 cd14 ct14 : Value}
    (a14 : PySem.W.nsIn K mainGlobals "check_told" = some (some (.ref f14))) (l14 : K.lookup f14 = some ⟨oc14, od14, .func (PySem.W.fnOf "check_told" "check_told" (defArgs sCheckTold) (defBody sCheckTold) (defScope sCheckTold) .none kV14 dc14 pm14 an14 cd14 ct14), sl14⟩) (c14 : PySem.W.codeIn K cd14 "check_told" = true) (k14 : PySem.W.keepIn K (.ref f14) = true)
    {f15 : Addr} {oc15 : Value} {od15 an15 : Option Addr} {sl15 : Array (Option Value)} {kV15 dc15 pm15 cd15 ct15 : Value}
    (a15 : PySem.W.nsIn K mainGlobals "charges" = some (some (.ref f15))) (l15 : K.lookup f15 = some ⟨oc15, od15, .func (PySem.W.fnOf "charges" "charges" (defArgs sCharges) (defBody sCharges) (defScope sCharges) .none kV15 dc15 pm15 an15 cd15 ct15), sl15⟩) (c15 : PySem.W.codeIn K cd15 "charges" = true) (k15 : PySem.W.keepIn K (.ref f15) = true)
    {f16 : Addr} {oc16 : Value} {od16 an16 : Option Addr} {sl16 : Array (Option Value)} {kV16 dc16 pm16 cd16 ct16 : Value}
    (a16 : PySem.W.nsIn K mainGlobals "first_holes" = some (some (.ref f16))) (l16 : K.lookup f16 = some ⟨oc16, od16, .func (PySem.W.fnOf "first_holes" "first_holes" (defArgs sFirstHoles) (defBody sFirstHoles) (defScope sFirstHoles) .none kV16 dc16 pm16 an16 cd16 ct16), sl16⟩) (c16 : PySem.W.codeIn K cd16 "first_holes" = true) (k16 : PySem.W.keepIn K (.ref f16) = true)
    {f17 : Addr} {oc17 : Value} {od17 an17 : Option Addr} {sl17 : Array (Option Value)} {kV17 dc17 pm17 cd17 ct17 : Value}
    (a17 : PySem.W.nsIn K mainGlobals "letters_between" = some (some (.ref f17))) (l17 : K.lookup f17 = some ⟨oc17, od17, .func (PySem.W.fnOf "letters_between" "letters_between" (defArgs sLettersBetween) (defBody sLettersBetween) (defScope sLettersBetween) .none kV17 dc17 pm17 an17 cd17 ct17), sl17⟩) (c17 : PySem.W.codeIn K cd17 "letters_between" = true) (k17 : PySem.W.keepIn K (.ref f17) = true)
    {f18 : Addr} {oc18 : Value} {od18 an18 : Option Addr} {sl18 : Array (Option Value)} {kV18 dc18 pm18 cd18 ct18 : Value}
    (a18 : PySem.W.nsIn K mainGlobals "core_of_charges" = some (some (.ref f18))) (l18 : K.lookup f18 = some ⟨oc18, od18, .func (PySem.W.fnOf "core_of_charges" "core_of_charges" (defArgs sCoreOfCharges) (defBody sCoreOfCharges) (defScope sCoreOfCharges) .none kV18 dc18 pm18 an18 cd18 ct18), sl18⟩) (c18 : PySem.W.codeIn K cd18 "core_of_charges" = true) (k18 : PySem.W.keepIn K (.ref f18) = true)
    {f19 : Addr} {oc19 : Value} {od19 an19 : Option Addr} {sl19 : Array (Option Value)} {kV19 dc19 pm19 cd19 ct19 : Value}
    (a19 : PySem.W.nsIn K mainGlobals "parts_of" = some (some (.ref f19))) (l19 : K.lookup f19 = some ⟨oc19, od19, .func (PySem.W.fnOf "parts_of" "parts_of" (defArgs sPartsOf) (defBody sPartsOf) (defScope sPartsOf) .none kV19 dc19 pm19 an19 cd19 ct19), sl19⟩) (c19 : PySem.W.codeIn K cd19 "parts_of" = true) (k19 : PySem.W.keepIn K (.ref f19) = true)
    {f20 : Addr} {oc20 : Value} {od20 an20 : Option Addr} {sl20 : Array (Option Value)} {kV20 dc20 pm20 cd20 ct20 : Value}
    (a20 : PySem.W.nsIn K mainGlobals "letters_of" = some (some (.ref f20))) (l20 : K.lookup f20 = some ⟨oc20, od20, .func (PySem.W.fnOf "letters_of" "letters_of" (defArgs sLettersOf) (defBody sLettersOf) (defScope sLettersOf) .none kV20 dc20 pm20 an20 cd20 ct20), sl20⟩) (c20 : PySem.W.codeIn K cd20 "letters_of" = true) (k20 : PySem.W.keepIn K (.ref f20) = true)
    {f21 : Addr} {oc21 : Value} {od21 an21 : Option Addr} {sl21 : Array (Option Value)} {kV21 dc21 pm21 cd21 ct21 : Value}
    (a21 : PySem.W.nsIn K mainGlobals "_law_dice" = some (some (.ref f21))) (l21 : K.lookup f21 = some ⟨oc21, od21, .func (PySem.W.fnOf "_law_dice" "_law_dice" (defArgs sLDice) (defBody sLDice) (defScope sLDice) .none kV21 dc21 pm21 an21 cd21 ct21), sl21⟩) (c21 : PySem.W.codeIn K cd21 "_law_dice" = true) (k21 : PySem.W.keepIn K (.ref f21) = true)
    {f22 : Addr} {oc22 : Value} {od22 an22 : Option Addr} {sl22 : Array (Option Value)} {kV22 dc22 pm22 cd22 ct22 : Value}
    (a22 : PySem.W.nsIn K mainGlobals "_law_roll" = some (some (.ref f22))) (l22 : K.lookup f22 = some ⟨oc22, od22, .func (PySem.W.fnOf "_law_roll" "_law_roll" (defArgs sLRoll) (defBody sLRoll) (defScope sLRoll) .none kV22 dc22 pm22 an22 cd22 ct22), sl22⟩) (c22 : PySem.W.codeIn K cd22 "_law_roll" = true) (k22 : PySem.W.keepIn K (.ref f22) = true)
    {f23 : Addr} {oc23 : Value} {od23 an23 : Option Addr} {sl23 : Array (Option Value)} {kV23 dc23 pm23 cd23 ct23 : Value}
    (a23 : PySem.W.nsIn K mainGlobals "_law_grown" = some (some (.ref f23))) (l23 : K.lookup f23 = some ⟨oc23, od23, .func (PySem.W.fnOf "_law_grown" "_law_grown" (defArgs sLGrown) (defBody sLGrown) (defScope sLGrown) .none kV23 dc23 pm23 an23 cd23 ct23), sl23⟩) (c23 : PySem.W.codeIn K cd23 "_law_grown" = true) (k23 : PySem.W.keepIn K (.ref f23) = true)
    {f24 : Addr} {oc24 : Value} {od24 an24 : Option Addr} {sl24 : Array (Option Value)} {kV24 dc24 pm24 cd24 ct24 : Value}
    (a24 : PySem.W.nsIn K mainGlobals "_law_beads" = some (some (.ref f24))) (l24 : K.lookup f24 = some ⟨oc24, od24, .func (PySem.W.fnOf "_law_beads" "_law_beads" (defArgs sLBeads) (defBody sLBeads) (defScope sLBeads) .none kV24 dc24 pm24 an24 cd24 ct24), sl24⟩) (c24 : PySem.W.codeIn K cd24 "_law_beads" = true) (k24 : PySem.W.keepIn K (.ref f24) = true)
    {f25 : Addr} {oc25 : Value} {od25 an25 : Option Addr} {sl25 : Array (Option Value)} {kV25 dc25 pm25 cd25 ct25 : Value}
    (a25 : PySem.W.nsIn K mainGlobals "_law_hook" = some (some (.ref f25))) (l25 : K.lookup f25 = some ⟨oc25, od25, .func (PySem.W.fnOf "_law_hook" "_law_hook" (defArgs sLHook) (defBody sLHook) (defScope sLHook) .none kV25 dc25 pm25 an25 cd25 ct25), sl25⟩) (c25 : PySem.W.codeIn K cd25 "_law_hook" = true) (k25 : PySem.W.keepIn K (.ref f25) = true)
    {f26 : Addr} {oc26 : Value} {od26 an26 : Option Addr} {sl26 : Array (Option Value)} {kV26 dc26 pm26 cd26 ct26 : Value}
    (a26 : PySem.W.nsIn K mainGlobals "_law_letters" = some (some (.ref f26))) (l26 : K.lookup f26 = some ⟨oc26, od26, .func (PySem.W.fnOf "_law_letters" "_law_letters" (defArgs sLLetters) (defBody sLLetters) (defScope sLLetters) .none kV26 dc26 pm26 an26 cd26 ct26), sl26⟩) (c26 : PySem.W.codeIn K cd26 "_law_letters" = true) (k26 : PySem.W.keepIn K (.ref f26) = true)
    {f27 : Addr} {oc27 : Value} {od27 an27 : Option Addr} {sl27 : Array (Option Value)} {kV27 dc27 pm27 cd27 ct27 : Value}
    (a27 : PySem.W.nsIn K mainGlobals "_law_some_core" = some (some (.ref f27))) (l27 : K.lookup f27 = some ⟨oc27, od27, .func (PySem.W.fnOf "_law_some_core" "_law_some_core" (defArgs sLSomeCore) (defBody sLSomeCore) (defScope sLSomeCore) .none kV27 dc27 pm27 an27 cd27 ct27), sl27⟩) (c27 : PySem.W.codeIn K cd27 "_law_some_core" = true) (k27 : PySem.W.keepIn K (.ref f27) = true)
    {f28 : Addr} {oc28 : Value} {od28 an28 : Option Addr} {sl28 : Array (Option Value)} {kV28 dc28 pm28 cd28 ct28 : Value}
    (a28 : PySem.W.nsIn K mainGlobals "_law_charges" = some (some (.ref f28))) (l28 : K.lookup f28 = some ⟨oc28, od28, .func (PySem.W.fnOf "_law_charges" "_law_charges" (defArgs sLCharges) (defBody sLCharges) (defScope sLCharges) .none kV28 dc28 pm28 an28 cd28 ct28), sl28⟩) (c28 : PySem.W.codeIn K cd28 "_law_charges" = true) (k28 : PySem.W.keepIn K (.ref f28) = true)
    {f29 : Addr} {oc29 : Value} {od29 an29 : Option Addr} {sl29 : Array (Option Value)} {kV29 dc29 pm29 cd29 ct29 : Value}
    (a29 : PySem.W.nsIn K mainGlobals "_law_core_of" = some (some (.ref f29))) (l29 : K.lookup f29 = some ⟨oc29, od29, .func (PySem.W.fnOf "_law_core_of" "_law_core_of" (defArgs sLCoreOf) (defBody sLCoreOf) (defScope sLCoreOf) .none kV29 dc29 pm29 an29 cd29 ct29), sl29⟩) (c29 : PySem.W.codeIn K cd29 "_law_core_of" = true) (k29 : PySem.W.keepIn K (.ref f29) = true)
    {f30 : Addr} {oc30 : Value} {od30 an30 : Option Addr} {sl30 : Array (Option Value)} {kV30 dc30 pm30 cd30 ct30 : Value}
    (a30 : PySem.W.nsIn K mainGlobals "_law_told_core" = some (some (.ref f30))) (l30 : K.lookup f30 = some ⟨oc30, od30, .func (PySem.W.fnOf "_law_told_core" "_law_told_core" (defArgs sLToldCore) (defBody sLToldCore) (defScope sLToldCore) .none kV30 dc30 pm30 an30 cd30 ct30), sl30⟩) (c30 : PySem.W.codeIn K cd30 "_law_told_core" = true) (k30 : PySem.W.keepIn K (.ref f30) = true)
    {f31 : Addr} {oc31 : Value} {od31 an31 : Option Addr} {sl31 : Array (Option Value)} {kV31 dc31 pm31 cd31 ct31 : Value}
    (a31 : PySem.W.nsIn K mainGlobals "_law_letter_right" = some (some (.ref f31))) (l31 : K.lookup f31 = some ⟨oc31, od31, .func (PySem.W.fnOf "_law_letter_right" "_law_letter_right" (defArgs sLLetterRight) (defBody sLLetterRight) (defScope sLLetterRight) .none kV31 dc31 pm31 an31 cd31 ct31), sl31⟩) (c31 : PySem.W.codeIn K cd31 "_law_letter_right" = true) (k31 : PySem.W.keepIn K (.ref f31) = true)
    {f32 : Addr} {oc32 : Value} {od32 an32 : Option Addr} {sl32 : Array (Option Value)} {kV32 dc32 pm32 cd32 ct32 : Value}
    (a32 : PySem.W.nsIn K mainGlobals "law" = some (some (.ref f32))) (l32 : K.lookup f32 = some ⟨oc32, od32, .func (PySem.W.fnOf "law" "law" (defArgs sLaw) (defBody sLaw) (defScope sLaw) .none kV32 dc32 pm32 an32 cd32 ct32), sl32⟩) (c32 : PySem.W.codeIn K cd32 "law" = true) (k32 : PySem.W.keepIn K (.ref f32) = true)
    {C fI N : Addr} {nm q : Str} {bs : List Value} {sn : List Str} {sub : List Value} {ab : Bool} {col : Option Bool} {dd : Option Addr} {m0 m1 m2 m3 m5 : Option Value} {odI anI : Option Addr} {slI : Array (Option Value)} {ocI dcI pmI cdI ctI : Value}
    (aC : PySem.W.nsIn K mainGlobals "TooMany" = some (some (.ref C)))
    (xL : K.lookup C = some (excClassObj nm q C N bs [.type "OverflowError", .type "ArithmeticError", .type "Exception", .type "BaseException", .type "object"] true sn sub ab col dd m0 m1 m2 m3 m5 "OverflowError.__new__"))
    (sa : PySem.W.findIn K (.ref C) "__setattr__" = some (some (.builtin "object.__setattr__"))) (ga : PySem.W.findIn K (.ref C) "__getattribute__" = some (some (.builtin "BaseException.__getattribute__"))) (gg : PySem.W.findIn K (.ref C) "__getattr__" = some none) (nb : PySem.W.findIn K (.ref C) "limit" = some none)
    (aI : PySem.W.findIn K (.ref C) "__init__" = some (some (.ref fI))) (tI : PySem.W.typeIn K (.ref fI) = some (.type "function"))
    (lI : K.lookup fI = some ⟨ocI, odI, .func (PySem.W.fnOf "__init__" "TooMany.__init__" (PySem.TmX.iA ⟨14, 17, 14, 21⟩ ⟨14, 23, 14, 28⟩) (PySem.TmX.iB ⟨15, 8, 15, 12⟩ ⟨15, 8, 15, 18⟩ ⟨15, 21, 15, 26⟩ ⟨15, 8, 15, 26⟩) PySem.TmX.iS .none .none dcI pmI anI cdI ctI), slI⟩) (cI : PySem.W.codeIn K cdI "TooMany.__init__" = true)
    (kC : PySem.W.keepIn K (.ref C) = true) (eC : PySem.W.subIn K (.ref C) (.type "BaseException") = some true) (tC : PySem.W.typeIn K (.ref C) = some (.type "type")) (hC : PySem.W.hasDictIn K C = true) (iC : PySem.W.isClsIn K C = true) (sC : PySem.W.subIn K (.ref C) (.ref C) = some true) :
    ∃ fd : FuncData, (∀ (s : Shared) (v : Value), BindsTo s fd ⟨[v], []⟩ [("_law_script", v)]) ∧ ∀ base : Heap, K.In base → base.Ns mainGlobals mg → FnOk P w K mg base CX0 8 fa fd ["_law_script"] (spLaw K) := by
  have e := hfa.symm.trans (PySem.W.mg_of X G a32)
  cases e
  have TM : PySem.TmX.TmTxt K mg C fI :=
    { gC := PySem.W.mg_of X G aC, cls := ⟨nm, q, N, bs, sn, sub, ab, col, dd, m0, m1, m2, m3, m5, xL⟩, sa := sa, ga := ga, gg := gg, noN := nb, iC := aI, tC := tI, kC := kC, exC := eC, tyC := tC, hdC := hC, te := exm_self eC iC tC sC,
      fn := ⟨_, _, _, _, _, _, _, _, _, _, _, _, _, _, lI, cI⟩ }
  have T : Txt K mg :=
    { z_abs := PySem.W.mg_none_of X G z_abs, z_all := PySem.W.mg_none_of X G z_all, z_bool := PySem.W.mg_none_of X G z_bool, z_enumerate := PySem.W.mg_none_of X G z_enumerate, z_int := PySem.W.mg_none_of X G z_int, z_isinstance := PySem.W.mg_none_of X G z_isinstance, z_len := PySem.W.mg_none_of X G z_len, z_list := PySem.W.mg_none_of X G z_list, z_max := PySem.W.mg_none_of X G z_max, z_min := PySem.W.mg_none_of X G z_min, z_range := PySem.W.mg_none_of X G z_range, z_sorted := PySem.W.mg_none_of X G z_sorted, z_sum := PySem.W.mg_none_of X G z_sum, z_tuple := PySem.W.mg_none_of X G z_tuple, v_BOUND := vBOUND, v_SIDE := ⟨tSIDE, PySem.W.mg_of X G gSIDE⟩, v_MAX_ORDER := ⟨tMAX_ORDER, PySem.W.mg_of X G gMAX_ORDER⟩, v_MAX_LETTERS := ⟨tMAX_LETTERS, PySem.W.mg_of X G gMAX_LETTERS⟩,
      d_is_integer := mk_def (ps := ["value"]) X G a0 l0 c0 k0 fun _ _ _ _ _ _ us hl => match us, hl with | [_], _ => rfl,
      d_is_between := mk_def (ps := ["value", "low", "high"]) X G a1 l1 c1 k1 fun _ _ _ _ _ _ us hl => match us, hl with | [_, _, _], _ => rfl,
      d_is_row := mk_def (ps := ["value", "many", "low", "high"]) X G a2 l2 c2 k2 fun _ _ _ _ _ _ us hl => match us, hl with | [_, _, _, _], _ => rfl,
      d_is_long_row := mk_def (ps := ["value", "many"]) X G a3 l3 c3 k3 fun _ _ _ _ _ _ us hl => match us, hl with | [_, _], _ => rfl,
      d_check_between := mk_def (ps := ["value", "low", "high"]) X G a4 l4 c4 k4 fun _ _ _ _ _ _ us hl => match us, hl with | [_, _, _], _ => rfl,
      d_is_heap := mk_def (ps := ["value"]) X G a5 l5 c5 k5 fun _ _ _ _ _ _ us hl => match us, hl with | [_], _ => rfl,
      d_height_at := mk_def (ps := ["heap", "column"]) X G a6 l6 c6 k6 fun _ _ _ _ _ _ us hl => match us, hl with | [_, _], _ => rfl,
      d_lengths_of := mk_def (ps := ["heap"]) X G a7 l7 c7 k7 fun _ _ _ _ _ _ us hl => match us, hl with | [_], _ => rfl,
      d_hook_at := mk_def (ps := ["heap", "lengths", "column", "row"]) X G a8 l8 c8 k8 fun _ _ _ _ _ _ us hl => match us, hl with | [_, _, _, _], _ => rfl,
      d_check_order := mk_def (ps := ["k"]) X G a9 l9 c9 k9 fun _ _ _ _ _ _ us hl => match us, hl with | [_], _ => rfl,
      d_beads_of := mk_def (ps := ["heap"]) X G a10 l10 c10 k10 fun _ _ _ _ _ _ us hl => match us, hl with | [_], _ => rfl,
      d_stays_core := mk_def (ps := ["k", "heap"]) X G a11 l11 c11 k11 fun _ _ _ _ _ _ us hl => match us, hl with | [_, _], _ => rfl,
      d_is_core := mk_def (ps := ["k", "value"]) X G a12 l12 c12 k12 fun _ _ _ _ _ _ us hl => match us, hl with | [_, _], _ => rfl,
      d_check_core := mk_def (ps := ["k", "core"]) X G a13 l13 c13 k13 fun _ _ _ _ _ _ us hl => match us, hl with | [_, _], _ => rfl,
      d_check_told := mk_def (ps := ["k", "core"]) X G a14 l14 c14 k14 fun _ _ _ _ _ _ us hl => match us, hl with | [_, _], _ => rfl,
      d_charges := mk_def (ps := ["k", "core"]) X G a15 l15 c15 k15 fun _ _ _ _ _ _ us hl => match us, hl with | [_, _], _ => rfl,
      d_first_holes := mk_def (ps := ["k", "told"]) X G a16 l16 c16 k16 fun _ _ _ _ _ _ us hl => match us, hl with | [_, _], _ => rfl,
      d_letters_between := mk_def (ps := ["k", "holes"]) X G a17 l17 c17 k17 fun _ _ _ _ _ _ us hl => match us, hl with | [_, _], _ => rfl,
      d_core_of_charges := mk_def (ps := ["k", "value"]) X G a18 l18 c18 k18 fun _ _ _ _ _ _ us hl => match us, hl with | [_, _], _ => rfl,
      d_parts_of := mk_def (ps := ["k", "heap"]) X G a19 l19 c19 k19 fun _ _ _ _ _ _ us hl => match us, hl with | [_, _], _ => rfl,
      d_letters_of := mk_def (ps := ["k", "core"]) X G a20 l20 c20 k20 fun _ _ _ _ _ _ us hl => match us, hl with | [_, _], _ => rfl,
      d_l_dice := mk_def (ps := ["_law_script", "_law_at"]) X G a21 l21 c21 k21 fun _ _ _ _ _ _ us hl => match us, hl with | [_, _], _ => rfl,
      d_l_roll := mk_def (ps := ["_law_dice_here", "_law_total"]) X G a22 l22 c22 k22 fun _ _ _ _ _ _ us hl => match us, hl with | [_, _], _ => rfl,
      d_l_grown := mk_def (ps := ["_law_heap", "_law_ring", "_law_x"]) X G a23 l23 c23 k23 fun _ _ _ _ _ _ us hl => match us, hl with | [_, _, _], _ => rfl,
      d_l_beads := mk_def (ps := ["_law_heap"]) X G a24 l24 c24 k24 fun _ _ _ _ _ _ us hl => match us, hl with | [_], _ => rfl,
      d_l_hook := mk_def (ps := ["_law_heap", "_law_square"]) X G a25 l25 c25 k25 fun _ _ _ _ _ _ us hl => match us, hl with | [_, _], _ => rfl,
      d_l_letters := mk_def (ps := ["_law_k", "_law_heap"]) X G a26 l26 c26 k26 fun _ _ _ _ _ _ us hl => match us, hl with | [_, _], _ => rfl,
      d_l_some_core := mk_def (ps := ["_law_dice_here", "_law_k", "_law_most"]) X G a27 l27 c27 k27 fun _ _ _ _ _ _ us hl => match us, hl with | [_, _, _], _ => rfl,
      d_l_charges := mk_def (ps := ["_law_k", "_law_heap"]) X G a28 l28 c28 k28 fun _ _ _ _ _ _ us hl => match us, hl with | [_, _], _ => rfl,
      d_l_core_of := mk_def (ps := ["_law_told"]) X G a29 l29 c29 k29 fun _ _ _ _ _ _ us hl => match us, hl with | [_], _ => rfl,
      d_l_told_core := mk_def (ps := ["_law_k", "_law_told"]) X G a30 l30 c30 k30 fun _ _ _ _ _ _ us hl => match us, hl with | [_, _], _ => rfl,
      d_l_letter_right := mk_def (ps := ["_law_k", "_law_heap", "_law_letter"]) X G a31 l31 c31 k31 fun _ _ _ _ _ _ us hl => match us, hl with | [_, _, _], _ => rfl }
  have F := fun_mk (st := sLaw) l32 c32 k32
  exact ⟨PySem.W.fnOf "law" "law" (defArgs sLaw) (defBody sLaw) (defScope sLaw) .none kV32 dc32 pm32 an32 cd32 ct32, fun s v => .of_eq rfl, fun base _ _ => ok_law T TM F⟩
/-- the end of the law's row, what the loose names hold told -/
theorem walk_x {l : PySem.W.OpenLaw} {k : Nat} {q : Program} {loose : List Str} {lv : List (Str × PySem.W.WData)} {YP : World → Heap → Prop} {d : DefRec} {K : Params → PySem.W.Frag}
    (hn : l.most = some 63) (hdf : d.params.defaults = []) (hr : Room k callerA) (hY : ∀ (w : World) (h : Heap), YP w h → (K w.params).In h)
    (F : ∀ (w : World) (mg : Str → Option Value) (fa : Addr) (h : Heap), (K w.params).In h → h.Ns mainGlobals mg → PySem.W.XL q lv mg h → mg d.name = some (.ref fa) →
      ∃ fd : FuncData, (∀ (s : Shared) (u : Value), BindsTo s fd ⟨[u], []⟩ [("_law_script", u)]) ∧
        ∀ base : Heap, (K w.params).In base → base.Ns mainGlobals mg → FnOk l.prog w (K w.params) mg base CX0 k fa fd ["_law_script"] (spLaw (K w.params))) :
    PySem.W.WalkO q loose (PySem.W.XL q lv) YP l.row.toRowW d [] (fun f vs => PySem.call f vs) := by
  refine Att.attach_call hn hdf fun w s₀ s₁ mg mb fa o pm cd doc a vs ns G Y ho hd hcd hmg hobj hints hlen hg => ?_
  obtain ⟨fd, hb, hF⟩ := F w mg fa _ (hY w _ Y) G.T.g G.X hmg
  exact law_call (hY w _ Y) G.T.g G.T.b G.T.builtins G.T.nolimit hg hobj hints (Nat.le_trans hlen (by decide)) hr hF hb (fun H _ hS => ⟨a, ns, rfl, hS, hlen, fun _ => rfl⟩) fun H e s' z => z
end K1

open PySem PySem.W PyProof.Rows
set_option maxHeartbeats 0 in
theorem PySem.Challenge.cw_ringstairs_k60_whole_cores_and_their_cha_holds : PySem.Challenge.rw_ringstairs_k60_whole_cores_and_their_cha.Holds := by
  w_on; o_law; k_head; (case hw => w_witness2)
  k_fill
  refine K1.walk_x (k := 8) rfl rfl ⟨rfl, by decide, by decide⟩ (fun w h Y => PySem.W.kIn_of Y) ?F
  case F =>
    intro w mg fa h KX G XF hmg
    have vBOUND : ∃ t, mg "BOUND" = some (.int (10 ^ 60) t) := by
      obtain ⟨v, e1, e2⟩ := XF.2.val _ (List.mem_cons_self ..)
      cases e2
      exact ⟨_, e1⟩
    refine' K1.all_mk KX G hmg vBOUND ?gSIDE ?gMAX_ORDER ?gMAX_LETTERS ?z_abs ?z_all ?z_bool ?z_enumerate ?z_int ?z_isinstance ?z_len ?z_list ?z_max ?z_min ?z_range ?z_sorted ?z_sum ?z_tuple ?a0 ?l0 ?c0 ?k0 ?a1 ?l1 ?c1 ?k1 ?a2 ?l2 ?c2 ?k2 ?a3 ?l3 ?c3 ?k3 ?a4 ?l4 ?c4 ?k4 ?a5 ?l5 ?c5 ?k5 ?a6 ?l6 ?c6 ?k6 ?a7 ?l7 ?c7 ?k7 ?a8 ?l8 ?c8 ?k8 ?a9 ?l9 ?c9 ?k9 ?a10 ?l10 ?c10 ?k10 ?a11 ?l11 ?c11 ?k11 ?a12 ?l12 ?c12 ?k12 ?a13 ?l13 ?c13 ?k13 ?a14 ?l14 ?c14 ?k14 ?a15 ?l15 ?c15 ?k15 ?a16 ?l16 ?c16 ?k16 ?a17 ?l17 ?c17 ?k17 ?a18 ?l18 ?c18 ?k18 ?a19 ?l19 ?c19 ?k19 ?a20 ?l20 ?c20 ?k20 ?a21 ?l21 ?c21 ?k21 ?a22 ?l22 ?c22 ?k22 ?a23 ?l23 ?c23 ?k23 ?a24 ?l24 ?c24 ?k24 ?a25 ?l25 ?c25 ?k25 ?a26 ?l26 ?c26 ?k26 ?a27 ?l27 ?c27 ?k27 ?a28 ?l28 ?c28 ?k28 ?a29 ?l29 ?c29 ?k29 ?a30 ?l30 ?c30 ?k30 ?a31 ?l31 ?c31 ?k31 ?a32 ?l32 ?c32 ?k32 ?aC ?xL ?sa ?ga ?gg ?nb ?aI ?tI ?lI ?cI ?kC ?eC ?tC ?hC ?iC ?sC
    (case gSIDE => k_is); (case gMAX_ORDER => k_is); (case gMAX_LETTERS => k_is); (case z_abs => k_is); (case z_all => k_is); (case z_bool => k_is); (case z_enumerate => k_is); (case z_int => k_is)
    (case z_isinstance => k_is); (case z_len => k_is); (case z_list => k_is); (case z_max => k_is); (case z_min => k_is); (case z_range => k_is); (case z_sorted => k_is); (case z_sum => k_is)
    (case z_tuple => k_is); (case a0 => k_is); (case l0 => k_is); (case c0 => k_is); (case k0 => k_is); (case a1 => k_is); (case l1 => k_is); (case c1 => k_is)
    (case k1 => k_is); (case a2 => k_is); (case l2 => k_is); (case c2 => k_is); (case k2 => k_is); (case a3 => k_is); (case l3 => k_is); (case c3 => k_is)
    (case k3 => k_is); (case a4 => k_is); (case l4 => k_is); (case c4 => k_is); (case k4 => k_is); (case a5 => k_is); (case l5 => k_is); (case c5 => k_is)
    (case k5 => k_is); (case a6 => k_is); (case l6 => k_is); (case c6 => k_is); (case k6 => k_is); (case a7 => k_is); (case l7 => k_is); (case c7 => k_is)
    (case k7 => k_is); (case a8 => k_is); (case l8 => k_is); (case c8 => k_is); (case k8 => k_is); (case a9 => k_is); (case l9 => k_is); (case c9 => k_is)
    (case k9 => k_is); (case a10 => k_is); (case l10 => k_is); (case c10 => k_is); (case k10 => k_is); (case a11 => k_is); (case l11 => k_is); (case c11 => k_is)
    (case k11 => k_is); (case a12 => k_is); (case l12 => k_is); (case c12 => k_is); (case k12 => k_is); (case a13 => k_is); (case l13 => k_is); (case c13 => k_is)
    (case k13 => k_is); (case a14 => k_is); (case l14 => k_is); (case c14 => k_is); (case k14 => k_is); (case a15 => k_is); (case l15 => k_is); (case c15 => k_is)
    (case k15 => k_is); (case a16 => k_is); (case l16 => k_is); (case c16 => k_is); (case k16 => k_is); (case a17 => k_is); (case l17 => k_is); (case c17 => k_is)
    (case k17 => k_is); (case a18 => k_is); (case l18 => k_is); (case c18 => k_is); (case k18 => k_is); (case a19 => k_is); (case l19 => k_is); (case c19 => k_is)
    (case k19 => k_is); (case a20 => k_is); (case l20 => k_is); (case c20 => k_is); (case k20 => k_is); (case a21 => k_is); (case l21 => k_is); (case c21 => k_is)
    (case k21 => k_is); (case a22 => k_is); (case l22 => k_is); (case c22 => k_is); (case k22 => k_is); (case a23 => k_is); (case l23 => k_is); (case c23 => k_is)
    (case k23 => k_is); (case a24 => k_is); (case l24 => k_is); (case c24 => k_is); (case k24 => k_is); (case a25 => k_is); (case l25 => k_is); (case c25 => k_is)
    (case k25 => k_is); (case a26 => k_is); (case l26 => k_is); (case c26 => k_is); (case k26 => k_is); (case a27 => k_is); (case l27 => k_is); (case c27 => k_is)
    (case k27 => k_is); (case a28 => k_is); (case l28 => k_is); (case c28 => k_is); (case k28 => k_is); (case a29 => k_is); (case l29 => k_is); (case c29 => k_is)
    (case k29 => k_is); (case a30 => k_is); (case l30 => k_is); (case c30 => k_is); (case k30 => k_is); (case a31 => k_is); (case l31 => k_is); (case c31 => k_is)
    (case k31 => k_is); (case a32 => k_is); (case l32 => k_is); (case c32 => k_is); (case k32 => k_is); (case aC => k_is); (case xL => k_is); (case sa => k_is)
    (case ga => k_is); (case gg => k_is); (case nb => k_is); (case aI => k_is); (case tI => k_is); (case lI => k_is); (case cI => k_is); (case kC => k_is)
    (case eC => k_is); (case tC => k_is); (case hC => k_is); (case iC => k_is); (case sC => first | rfl | k_is)

