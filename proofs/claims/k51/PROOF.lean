import PyProof.Rows.All
import Wide.All
import OpenK.AllK
import Wide.FinOn
import HandS.ForMost
import KE.GoesEnum
import PySem.Challenge.RW_ringstairs_k51_whole_boxes_that_fill_a_h
import HandS.ForExc
import HandS.Wide
import HandS.SortInts
import HandS.Zip
import HandS.Style
import HandS.Rev
import HandS.TupMul
import HandS.IsInst
import HandS.Evl
import HandS.Walk
import HandS.TupAny
import HandS.Deep
set_option Elab.async false
set_option linter.all false
set_option maxRecDepth 100000
set_option maxHeartbeats 4000000
/-! plain mathematics for the orders and the diagonals -/
namespace K1M
/-- the step: the i-th place on the way from the right door by the left door -/
theorem dvd_iff {n s i : Nat} (hn : 0 < n) : (i * s) % n = 0 ↔ (n / Nat.gcd n s) ∣ i := by
  have hg : 0 < Nat.gcd n s := Nat.gcd_pos_of_pos_left _ hn
  have hc : Nat.Coprime (n / Nat.gcd n s) (s / Nat.gcd n s) := Nat.coprime_div_gcd_div_gcd hg
  have hn' : n = Nat.gcd n s * (n / Nat.gcd n s) := (Nat.mul_div_cancel' (Nat.gcd_dvd_left n s)).symm
  have hs' : s = Nat.gcd n s * (s / Nat.gcd n s) := (Nat.mul_div_cancel' (Nat.gcd_dvd_right n s)).symm
  constructor
  · intro h
    have d : n ∣ i * s := Nat.dvd_of_mod_eq_zero h
    have d2 : Nat.gcd n s * (n / Nat.gcd n s) ∣ Nat.gcd n s * (i * (s / Nat.gcd n s)) := by
      rw [← hn']
      have e : Nat.gcd n s * (i * (s / Nat.gcd n s)) = i * s := by
        rw [Nat.mul_left_comm, ← hs']
      rw [e]
      exact d
    have d3 := Nat.dvd_of_mul_dvd_mul_left hg d2
    exact hc.dvd_of_dvd_mul_right d3
  · rintro ⟨c, rfl⟩
    apply Nat.mod_eq_zero_of_dvd
    refine ⟨c * (s / Nat.gcd n s), ?_⟩
    have e : n / Nat.gcd n s * c * s = n / Nat.gcd n s * c * (Nat.gcd n s * (s / Nat.gcd n s)) := by rw [← hs']
    rw [e]
    have e2 : n * (c * (s / Nat.gcd n s)) = Nat.gcd n s * (n / Nat.gcd n s) * (c * (s / Nat.gcd n s)) := by rw [← hn']
    rw [e2]
    simp only [Nat.mul_assoc, Nat.mul_left_comm, Nat.mul_comm]
def ord (n s : Nat) : Nat := n / Nat.gcd n s
theorem ord_pos {n s : Nat} (hn : 0 < n) : 0 < ord n s := Nat.div_pos (Nat.gcd_le_left s hn) (Nat.gcd_pos_of_pos_left _ hn)
theorem ord_le {n s : Nat} : ord n s ≤ n := Nat.div_le_self _ _
theorem ord_ge2 {n s : Nat} (h1 : 1 ≤ s) (h2 : s < n) : 2 ≤ ord n s := by
  have hn : 0 < n := by omega
  have hg : 0 < Nat.gcd n s := Nat.gcd_pos_of_pos_left _ hn
  have hle : Nat.gcd n s ≤ s := Nat.le_of_dvd h1 (Nat.gcd_dvd_right n s)
  have hn' : n = Nat.gcd n s * ord n s := (Nat.mul_div_cancel' (Nat.gcd_dvd_left n s)).symm
  rcases Nat.lt_or_ge (ord n s) 2 with h | h
  · exfalso
    have hp := ord_pos (s := s) hn
    have e1 : ord n s = 1 := by omega
    rw [e1, Nat.mul_one] at hn'
    omega
  · exact h
/-- the way: while the next is not 0 and there are fewer than n -/
def stp (n s i : Nat) : Nat := (i * s) % n
theorem stp_zero_iff {n s i : Nat} (hn : 0 < n) : stp n s i = 0 ↔ ord n s ∣ i := dvd_iff hn
theorem stp_mod {n s i : Nat} (hn : 0 < n) : stp n s (i % ord n s) = stp n s i := by
  have h0 : (ord n s * s) % n = 0 := (stp_zero_iff (i := ord n s) hn).mpr (Nat.dvd_refl _)
  have e : i = ord n s * (i / ord n s) + i % ord n s := (Nat.div_add_mod i (ord n s)).symm
  have e2 : i * s = (i / ord n s) * (ord n s * s) + (i % ord n s) * s := by
    have : (ord n s * (i / ord n s) + i % ord n s) * s = (i / ord n s) * (ord n s * s) + (i % ord n s) * s := by
      rw [Nat.add_mul]
      congr 1
      simp only [Nat.mul_assoc, Nat.mul_left_comm, Nat.mul_comm]
    rw [← this, ← e]
  obtain ⟨q, hq⟩ := Nat.dvd_of_mod_eq_zero h0
  unfold stp
  rw [e2, hq, Nat.mul_left_comm, Nat.add_comm, Nat.add_mul_mod_self_left]
/-- the same for integers: the diagonal's place -/
theorem istp {n s : Nat} (hn : 0 < n) (c : Int) : (c * (s : Int)) % (n : Int) = ((stp n s (c % (ord n s : Int)).toNat : Nat) : Int) := by
  have hm : 0 < ord n s := ord_pos hn
  have hm' : (0 : Int) < (ord n s : Int) := by exact_mod_cast hm
  have hr0 : 0 ≤ c % (ord n s : Int) := Int.emod_nonneg _ (by omega)
  have h0 : ((ord n s : Int) * (s : Int)) % (n : Int) = 0 := by
    have h0 : (ord n s * s) % n = 0 := (stp_zero_iff (i := ord n s) hn).mpr (Nat.dvd_refl _)
    have := congrArg (fun x : Nat => (x : Int)) h0
    simpa using this
  have e : c = (ord n s : Int) * (c / (ord n s : Int)) + c % (ord n s : Int) := (Int.mul_ediv_add_emod c (ord n s : Int)).symm
  have e2 : c * (s : Int) = (c / (ord n s : Int)) * ((ord n s : Int) * (s : Int)) + (c % (ord n s : Int)) * (s : Int) := by
    have : ((ord n s : Int) * (c / (ord n s : Int)) + c % (ord n s : Int)) * (s : Int) = (c / (ord n s : Int)) * ((ord n s : Int) * (s : Int)) + (c % (ord n s : Int)) * (s : Int) := by
      rw [Int.add_mul]
      congr 1
      rw [Int.mul_assoc, Int.mul_left_comm]
    rw [← this, ← e]
  rw [e2, Int.add_emod, Int.mul_emod, h0, Int.mul_zero, Int.zero_emod, Int.zero_add, Int.emod_emod]
  unfold stp
  have e3 : c % (ord n s : Int) = (((c % (ord n s : Int)).toNat : Nat) : Int) := (Int.toNat_of_nonneg hr0).symm
  conv => lhs; rw [e3]
  simp
/-- does_let tells just the place -/
theorem lets_iff {n : Nat} {x p : Int} (hn : 0 < n) (h0 : 0 ≤ p) (h1 : p < n) : (x - p) % (n : Int) = 0 ↔ x % (n : Int) = p := by
  have hn' : (0 : Int) < n := by exact_mod_cast hn
  constructor
  · intro h
    have e := Int.emod_emod_of_dvd x (Int.dvd_refl (n : Int))
    have h2 : x = (n : Int) * ((x - p) / n) + p := by
      have := Int.mul_ediv_add_emod (x - p) n
      omega
    rw [h2, Int.add_comm, Int.add_mul_emod_self_left]
    exact Int.emod_eq_of_lt h0 h1
  · intro h
    have h2 := Int.mul_ediv_add_emod x n
    have h3 : x - p = (n : Int) * (x / n) := by omega
    rw [h3, Int.mul_emod_right]
/-- the stop of the loop is the order -/
theorem stop_is {n s k : Nat} (hn : 0 < n) (hk : 1 ≤ k) (hkn : k ≤ n) (hlow : ∀ i, 0 < i → i < k → stp n s i ≠ 0) (hstop : stp n s k = 0 ∨ k = n) : k = ord n s := by
  have hm := ord_pos (s := s) hn
  have hmn : ord n s ≤ n := ord_le
  have h1 : k ≤ ord n s := by
    rcases Nat.lt_or_ge (ord n s) k with h | h
    · exact absurd ((stp_zero_iff hn).mpr (Nat.dvd_refl _)) (hlow _ hm h)
    · exact h
  rcases hstop with h | h
  · have d := (stp_zero_iff hn).mp h
    have := Nat.le_of_dvd hk d
    omega
  · omega
end K1M

/-! plain mathematics for the written names -/
namespace K1N
def nAt (rs : List (Int × Int)) (j : Nat) : Nat := (rs.getD j (0, 0)).1.toNat
def sAt (rs : List (Int × Int)) (j : Nat) : Int := (rs.getD j (0, 0)).2
def row (j n : Nat) : List (Int × Int) := (List.range n).map fun (q : Nat) => ((j : Int), (q : Int))
def pre (rs : List (Int × Int)) : Nat → List (Int × Int)
  | 0 => []
  | i + 1 => pre rs i ++ row i (nAt rs i)
/-- a place that is its own written name -/
def own (rs : List (Int × Int)) (p : Int × Int) : Bool := !(decide (0 < p.1) && decide (p.2 = sAt rs p.1.toNat))
def names (rs : List (Int × Int)) : List (Int × Int) := (pre rs rs.length).filter (own rs)
def sumTo (rs : List (Int × Int)) : Nat → Nat
  | 0 => 0
  | i + 1 => sumTo rs i + nAt rs i
theorem row_succ (j n : Nat) : row j (n + 1) = row j n ++ [((j : Int), (n : Int))] := by
  unfold row
  rw [List.range_succ, List.map_append]
  rfl
theorem row_len (j n : Nat) : (row j n).length = n := by
  unfold row
  rw [List.length_map, List.length_range]
theorem pre_len {rs : List (Int × Int)} (h : ∀ j, nAt rs j ≤ 60) : ∀ i, (pre rs i).length ≤ 60 * i
  | 0 => Nat.le_refl _
  | i + 1 => by
    show (pre rs i ++ row i (nAt rs i)).length ≤ 60 * (i + 1)
    rw [List.length_append, row_len]
    have := pre_len h i
    have := h i
    omega
theorem row0 (rs : List (Int × Int)) : ∀ n, ((row 0 n).filter (own rs)).length = n
  | 0 => rfl
  | n + 1 => by
    rw [row_succ, List.filter_append, List.length_append, row0 rs n]
    have : own rs (((0 : Nat) : Int), (n : Int)) = true := rfl
    rw [List.filter_cons, if_pos this]
    rfl
theorem rowS (rs : List (Int × Int)) (j : Nat) (s : Nat) (hs : sAt rs (j + 1) = (s : Int)) : ∀ n, ((row (j + 1) n).filter (own rs)).length = if s < n then n - 1 else n
  | 0 => rfl
  | n + 1 => by
    rw [row_succ, List.filter_append, List.length_append, rowS rs j s hs n]
    by_cases c : n = s
    · have e : own rs (((j + 1 : Nat) : Int), (n : Int)) = false := by
        unfold own
        rw [show (((j + 1 : Nat) : Int)).toNat = j + 1 by omega, hs, decide_eq_true (show (0 : Int) < ((j + 1 : Nat) : Int) by omega), decide_eq_true (show (n : Int) = (s : Int) by omega)]
        rfl
      have e2 : [(((j + 1 : Nat) : Int), (n : Int))].filter (own rs) = [] := by
        rw [List.filter_cons, if_neg (show ¬ own rs (((j + 1 : Nat) : Int), (n : Int)) = true by rw [e]; decide)]
        rfl
      rw [e2, if_neg (show ¬ s < n by omega), if_pos (show s < n + 1 by omega)]
      show n + 0 = n + 1 - 1
      omega
    · have e : own rs (((j + 1 : Nat) : Int), (n : Int)) = true := by
        unfold own
        rw [show (((j + 1 : Nat) : Int)).toNat = j + 1 by omega, hs, decide_eq_false (show ¬ (n : Int) = (s : Int) by omega), Bool.and_false]
        rfl
      rw [List.filter_cons, if_pos e]
      show (if s < n then n - 1 else n) + 1 = _
      by_cases c2 : s < n
      · rw [if_pos c2, if_pos (by omega)]
        omega
      · rw [if_neg c2, if_neg (by omega)]
/-- how many written names -/
theorem count_to {rs : List (Int × Int)} (h : ∀ j, j < rs.length → 1 ≤ sAt rs j ∧ sAt rs j < (nAt rs j : Int)) : ∀ i, 1 ≤ i → i ≤ rs.length → ((pre rs i).filter (own rs)).length + i = sumTo rs i + 1
  | 0, z, _ => absurd z (by decide)
  | 1, _, h1 => by
    show (([] ++ row 0 (nAt rs 0)).filter (own rs)).length + 1 = 0 + nAt rs 0 + 1
    rw [List.nil_append, row0]
    omega
  | i + 2, _, h1 => by
    have ih := count_to h (i + 1) (by omega) (by omega)
    have hs := h (i + 1) (by omega)
    have hr := rowS rs i (sAt rs (i + 1)).toNat (by omega) (nAt rs (i + 1))
    rw [if_pos (by omega)] at hr
    show ((pre rs (i + 1) ++ row (i + 1) (nAt rs (i + 1))).filter (own rs)).length + (i + 2) = sumTo rs (i + 1) + nAt rs (i + 1) + 1
    rw [List.filter_append, List.length_append, hr]
    omega
theorem nAt_left {a b : List (Int × Int)} {j : Nat} (h : j < a.length) : nAt (a ++ b) j = nAt a j := by
  unfold nAt
  rw [List.getD_eq_getElem?_getD, List.getD_eq_getElem?_getD, List.getElem?_append_left h]
theorem nAt_right {a b : List (Int × Int)} {j : Nat} : nAt (a ++ b) (a.length + j) = nAt b j := by
  unfold nAt
  rw [List.getD_eq_getElem?_getD, List.getD_eq_getElem?_getD, List.getElem?_append_right (by omega), Nat.add_sub_cancel_left]
theorem sum_left {a b : List (Int × Int)} : ∀ i, i ≤ a.length → sumTo (a ++ b) i = sumTo a i
  | 0, _ => rfl
  | i + 1, h => by
    show sumTo (a ++ b) i + nAt (a ++ b) i = sumTo a i + nAt a i
    rw [sum_left i (by omega), nAt_left (by omega)]
theorem sum_right {a b : List (Int × Int)} : ∀ i, sumTo (a ++ b) (a.length + i) = sumTo a a.length + sumTo b i
  | 0 => by
    rw [Nat.add_zero, sum_left _ (Nat.le_refl _)]
    rfl
  | i + 1 => by
    show sumTo (a ++ b) (a.length + i) + nAt (a ++ b) (a.length + i) = sumTo a a.length + (sumTo b i + nAt b i)
    rw [sum_right i, nAt_right, Nat.add_assoc]
theorem names_joined {a b : List (Int × Int)} (ha : 1 ≤ a.length) (hb : 1 ≤ b.length) (h1 : ∀ j, j < a.length → 1 ≤ sAt a j ∧ sAt a j < (nAt a j : Int)) (h2 : ∀ j, j < b.length → 1 ≤ sAt b j ∧ sAt b j < (nAt b j : Int))
    (h3 : ∀ j, j < (a ++ b).length → 1 ≤ sAt (a ++ b) j ∧ sAt (a ++ b) j < (nAt (a ++ b) j : Int)) : (names (a ++ b)).length + 1 = (names a).length + (names b).length := by
  unfold names
  have e1 := count_to h1 a.length ha (Nat.le_refl _)
  have e2 := count_to h2 b.length hb (Nat.le_refl _)
  have e3 := count_to h3 (a ++ b).length (by rw [List.length_append]; omega) (Nat.le_refl _)
  have e4 := sum_right (a := a) (b := b) b.length
  rw [List.length_append] at e3 ⊢
  omega
end K1N

/-! enumerate over a tuple, one argument -/
namespace EnT
open PySem PySem.Spec PyProof.Rows L2
theorem made {v : Value} {o : Obj} {Hy : Heap → Prop} (B : Begins v o Hy) : Meets (Builtin.«enumerate.__new__» ⟨[.type "enumerate", v], []⟩) (fun _ R s => Hy s.heap ∧
      R (.ok (.ret (.ref (s.heap.push o).objs.size))) { s with heap := (s.heap.push o).push { cls := .type "enumerate", data := .fields #[.none, .bool false, .ref s.heap.objs.size, rawInt 0, .none, .none] } }) :=
  .of_wp fun prog w A R s z => by
    obtain ⟨hp, gs, dr, tk, os⟩ := s
    obtain ⟨z1, z2⟩ := z
    have sb := sub_enumerate
    have it1 : ∀ {A2 : Around} {E2 : Value → Shared → Prop} {Q2 : Value → Shared → Prop}, Q2 (.ref hp.objs.size) ⟨hp.push o, gs, dr, tk, os⟩ → wpAny (model prog w) A2 (pyIter v) Q2 E2 ⟨hp, gs, dr, tk, os⟩ :=
      fun y => B.iter prog w _ _ ⟨hp, gs, dr, tk, os⟩ _ z1 y
    wp_walk using it1
    refine wpAny_stack_any fun _ => wpAny_pure ?_
    split
    · rename_i c _ _ _ _ _
      cases (c == Value.type "enumerate")
      · wp_walk using it1
        exact ⟨_, rfl, z2⟩
      · wp_walk using it1
        exact ⟨_, rfl, z2⟩
    · wp_walk using it1
      exact ⟨_, rfl, z2⟩
section
variable {prog : Program} {w : World} {A : Around} {E : Value → Shared → Prop} {s : Shared}
theorem call_made {v : Value} {o : Obj} {Hy : Heap → Prop} {Q : Value → Shared → Prop} (B : Begins v o Hy) (h1 : Hy s.heap)
    (k : ∀ h2, IsEnum h2 (s.heap.objs.size + 1) s.heap.objs.size 0 .none → h2.get? s.heap.objs.size = some o → (∀ b u, s.heap.get? b = some u → h2.get? b = some u) → Q (.ref (s.heap.objs.size + 1)) { s with heap := h2 }) :
    wpAny (model prog w) A (call (.type "enumerate") [v]) Q E s := by
  refine callType_new F.called_enumerate (by decide) (F.typeCall_enumerate_1 _) (F.newCall_enumerate_1 _) (fun obj => F.args_object_init_2 obj _) F.entry_enumerate_new (made B) ⟨h1, ?_⟩
  have sz : (s.heap.push o).objs.size = s.heap.objs.size + 1 := by rw [Heap.size_push]
  show _ ∧ _
  rw [sz]
  have en := Heap.get?_push_size (s.heap.push o) (o := { cls := .type "enumerate", data := .fields #[.none, .bool false, .ref s.heap.objs.size, rawInt 0, .none, .none] }) rfl
  rw [sz] at en
  exact ⟨⟨_, en, rfl⟩, k _ en (Heap.get?_push_of_some _ (Heap.get?_push_size _ B.free)) fun b u y => Heap.get?_push_of_some _ (Heap.get?_push_of_some _ y)⟩
end
/-- the tuple at a, each item in a new pair with its number -/
def IteT (K : PySem.W.Frag) (a : Addr) : It :=
  ⟨fun i H => ∃ (ts : List V) (x : V), SqT K H a ts ∧ ts[i]? = some x, fun i H v H' => ∃ T x, v = .ref T ∧ H T = none ∧ H' = upd H T (.tup [.int (i : Nat), x]) ∧ ∀ ts, SqT K H a ts → ts[i]? = some x, fun i H => ∃ ts : List V, SqT K H a ts ∧ ts.length = i⟩
theorem tup_inj {X : Cx} {pins : List (Addr × Obj)} {σ : L2.St} {H : Hp} {s : Shared} {a : Addr} {xs ys : List V} (I : Inv X pins σ H s) (h1 : SqT X.K H a xs) (h2 : SqT X.K H a ys) : xs = ys := by
  obtain ⟨i1, r1, ⟨o1, g1, c1, n1, d1⟩, _⟩ := I.tuple h1
  obtain ⟨i2, r2, ⟨o2, g2, c2, n2, d2⟩, _⟩ := I.tuple h2
  rw [g1] at g2
  have e := Option.some.inj g2
  subst e
  rw [d1] at d2
  injection d2 with e1 _
  have e3 : i1 = i2 := by simpa using e1
  subst e3
  exact Vals.inj r1 r2
theorem turn {P : Program} {w : World} {K : PySem.W.Frag} {elts : List Expr} {kk : Nat} {tpos : Pos} (a e it : Addr) :
    Turn P w K (.Tuple elts kk tpos) (IteT K a) [e, it] e (fun i h => (∃ old, IsEnum h e it ((i : Nat) : Int) old) ∧ h.IsTupleIter it a i ∧ e ≠ it ∧ a ≠ e ∧ a ≠ it) where
  mem := by simp
  obj := fun i h st b hb => by
    obtain ⟨⟨old, he⟩, ⟨o, ho, hc, hd⟩, _⟩ := st
    rcases (show b = e ∨ b = it by simpa using hb) with z | z
    · rw [z]
      exact ⟨_, he, fun v q => nomatch q⟩
    · rw [z]
      exact ⟨o, ho, fun v q => by rw [hd] at q; cases q⟩
  keep := fun i h h' st k => by
    obtain ⟨⟨old, he⟩, ⟨o, ho, hc, hd⟩, n1, n2, n3⟩ := st
    exact ⟨⟨old, k e (by simp) _ he⟩, ⟨o, k it (by simp) _ ho, hc, hd⟩, n1, n2, n3⟩
  item := by
    intro X hP hw hK hc i pins s σ H E I hf st hg
    subst hP hw hK
    obtain ⟨⟨old, he⟩, hit, n1, n2, n3⟩ := st
    obtain ⟨xs, x, hq, hx⟩ := hg
    obtain ⟨its, rv, p, _⟩ := I.tuple hq
    obtain ⟨u, hu, ru⟩ := rv.get hx
    have hel : e < s.heap.objs.size := Heap.lt_size he
    have hil : it < s.heap.objs.size := by
      obtain ⟨_, q, _⟩ := hit
      exact Heap.lt_size q
    have hlt : i < its.toArray.size := by
      have := (List.getElem?_eq_some_iff.mp hu).1
      simpa using this
    have hh : X.A.in1.handled = none := I.ok.hd hc
    have DT := Draws.tuple (prog := X.prog) (w := X.w) hh it a n3 its.toArray
    refine wpAny_pyNext_enum_itemD DT he ⟨hit, p⟩ hlt n1 (by simp [n1, Ne.symm n2]) fun y h1 tk hy ho hst hT hsz hk => ?_
    have ey : y = u := by
      have q : its.toArray[i]? = some u := by simpa using hu
      exact Option.some.inj (hy.symm.trans q)
    subst ey
    refine ⟨_, rfl, wpAny_letOwnedTupleGo_enum (s := { s with heap := h1, toks := tk + 1 }) ho fun h2 he2 sb => ?_⟩
    have hT2 : h2.get? s.heap.objs.size = some { cls := .type "tuple", data := .seq #[.int i tk, y] } := (sb.2 _ (Nat.ne_of_gt hel)).trans hT
    have new : ObjOk X.prog X.w (upd H s.heap.objs.size (.tup [.int (i : Nat), x])) h2 s.heap.objs.size (.tup [.int (i : Nat), x]) :=
      ⟨show 2 ≤ sizeLine by decide, [.int i tk, y], .cons ⟨_, rfl⟩ (.cons ru .nil), ⟨_, hT2, rfl, _, rfl⟩⟩
    have I1 : Inv X pins σ (upd H s.heap.objs.size (.tup [.int (i : Nat), x])) { s with heap := h2, toks := tk + 1 } :=
      I.turnedNew (ch := [e, it]) (fun b ob hb q => (sb.2 b (fun z => hb (by simp [z]))).trans (hk b ob (fun z => hb (by simp [z])) (fun z => hb (by simp [z])) q)) hf (Nat.le_refl _) new
    obtain ⟨oi, g1, g2, g3⟩ := hst.1
    refine ⟨.ref s.heap.objs.size, _, I1, rfl, ⟨_, x, rfl, I.hok.fresh (Nat.le_refl _), rfl, fun ys hys => by rw [tup_inj I hys hq]; exact hx⟩, ⟨⟨y, ?_⟩, ⟨oi, (sb.2 it (Ne.symm n1)).trans g1, g2, g3⟩, n1, n2, n3⟩, fun b hb => ?_⟩
    · rw [show ((i + 1 : Nat) : Int) = (i : Int) + 1 by omega]
      exact he2
    · have hb2 : b < s.heap.objs.size := by
        rcases (show b = e ∨ b = it by simpa using hb) with z | z
        · rw [z]
          exact hel
        · rw [z]
          exact hil
      rw [upd_ne (Nat.ne_of_lt hb2)]
      exact (hf b hb).1
  done := by
    intro X hP hw hK hc i pins s σ H E I hf st hg
    subst hP hw hK
    obtain ⟨⟨old, he⟩, hit, n1, n2, n3⟩ := st
    obtain ⟨xs, hq, hx⟩ := hg
    obtain ⟨its, rv, p, _⟩ := I.tuple hq
    obtain ⟨f0, f1, f2, f3, f4, f5⟩ := hf it (by simp)
    have hl := rv.length
    have hn : its.toArray.size = i := by
      rw [List.size_toArray]
      omega
    have hh : X.A.in1.handled = none := I.ok.hd hc
    have DT := Draws.tuple (prog := X.prog) (w := X.w) hh it a n3 its.toArray
    refine wpAny_pyNext_enum_endD DT he ⟨?_, p⟩ fun h1 eb => ⟨rfl, I.turned (t' := s.toks) (fun b o hb q => eb b o hb q) f0 f1 f3 f4 f5⟩
    rw [hn]
    exact hit
  self := fun A i s Q E st h => by
    obtain ⟨⟨_, he⟩, _⟩ := st
    exact wpAny_pyIter_enum he h
def iEnumT (K : PySem.W.Frag) (ta : TA) : TI := fun σ H R => ta σ H fun vs H1 => ∃ a xs, vs = [.ref a] ∧ SqT K H1 a xs ∧ R (IteT K a) H1
theorem pi_enumT {X : Cx} {e : Expr} {ta : TA} {p pos tpos : Pos} {elts : List Expr} {kk : Nat} (hg : Gl X "enumerate") (hm : X.mg "enumerate" = none) (ha : PA X [e] ta) (hs : starEach [e] X.env = [(false, eval e X.env)] := by rfl) :
    PI X (.Tuple elts kk tpos) (.Call (.Name "enumerate" p) [e] [] pos) (iEnumT X.K ta) := by
  refine ⟨fun pins s σ H R I h => ?_⟩
  refine Call_ (ld_blt I hg hm boot_enumerate (PyProof.Rows.callWith_type1 (thn (ha.run pos pins s σ H _ I h) fun us s1 ⟨vs, H1, I1, r1, y1⟩ => ?_) hs rfl))
  obtain ⟨a, xs, ex, hq, q⟩ := y1
  subst ex
  cases r1 with
  | cons r rr =>
    cases rr
    cases r
    obtain ⟨its, rv, p2, _⟩ := I1.tuple hq
    have hal : a < s1.heap.objs.size := by
      obtain ⟨o, g, _⟩ := p2
      exact Heap.lt_size g
    refine call_made (begins_tuple a its.toArray) p2 fun h2 he hit hk => wpAny_pyIter_enum he ?_
    have I2 : Inv X pins σ H1 { s1 with heap := h2 } := I1.kept (t' := s1.toks) hk
    refine ⟨s1.heap.objs.size + 1, [s1.heap.objs.size + 1, s1.heap.objs.size], _, _, H1, rfl, I2, turn a (s1.heap.objs.size + 1) s1.heap.objs.size, ⟨⟨.none, he⟩, ⟨_, hit, rfl, rfl⟩, Nat.succ_ne_self _, Nat.ne_of_lt (Nat.lt_succ_of_lt hal), Nat.ne_of_lt hal⟩, fun b hb => ?_, q⟩
    have hle : s1.heap.objs.size ≤ b := by
      rcases (show b = s1.heap.objs.size + 1 ∨ b = s1.heap.objs.size by simpa using hb) with z | z
      · rw [z]
        exact Nat.le_add_right _ _
      · rw [z]
        exact Nat.le_refl _
    exact I1.fpOk hle (I1.hok.fresh hle)
end EnT

namespace K1
open PySem PySem.Spec PyProof.Rows L2 Evl
def topS (i : Nat) : Stmt := PySem.Challenge.pw_ringstairs_k51_whole_boxes_that_fill_a_h.main.body.getD i (.Pass ⟨0, 0, 0, 0⟩)
abbrev sIsInteger : Stmt := topS 8
abbrev nIsInteger : List Str := ["value"]
theorem scIsInteger : FnScope nIsInteger ["value"] (defScope sIsInteger) := ⟨rfl, rfl, rfl, by decide +kernel, rfl, by decide +kernel, by decide +kernel⟩
abbrev sIsBetween : Stmt := topS 9
abbrev nIsBetween : List Str := ["value", "low", "high"]
theorem scIsBetween : FnScope nIsBetween ["value", "low", "high"] (defScope sIsBetween) := ⟨rfl, rfl, rfl, by decide +kernel, rfl, by decide +kernel, by decide +kernel⟩
abbrev sIsPair : Stmt := topS 10
abbrev nIsPair : List Str := ["value"]
theorem scIsPair : FnScope nIsPair ["value"] (defScope sIsPair) := ⟨rfl, rfl, rfl, by decide +kernel, rfl, by decide +kernel, by decide +kernel⟩
abbrev sIsRing : Stmt := topS 14
abbrev nIsRing : List Str := ["value", "places", "door"]
theorem scIsRing : FnScope nIsRing ["value"] (defScope sIsRing) := ⟨rfl, rfl, rfl, by decide +kernel, rfl, by decide +kernel, by decide +kernel⟩
abbrev sIsChain : Stmt := topS 15
abbrev nIsChain : List Str := ["value", "ring"]
theorem scIsChain : FnScope nIsChain ["value"] (defScope sIsChain) := ⟨rfl, rfl, rfl, by decide +kernel, rfl, by decide +kernel, by decide +kernel⟩
abbrev sCheckChain : Stmt := topS 16
abbrev nCheckChain : List Str := ["chain"]
theorem scCheckChain : FnScope nCheckChain ["chain"] (defScope sCheckChain) := ⟨rfl, rfl, rfl, by decide +kernel, rfl, by decide +kernel, by decide +kernel⟩
abbrev sLets : Stmt := topS 17
abbrev nLets : List Str := ["ring", "place", "diagonal"]
theorem scLets : FnScope nLets ["ring", "place", "diagonal"] (defScope sLets) := ⟨rfl, rfl, rfl, by decide +kernel, rfl, by decide +kernel, by decide +kernel⟩
abbrev sIsHeap : Stmt := topS 20
abbrev nIsHeap : List Str := ["value", "ahead", "height"]
theorem scIsHeap : FnScope nIsHeap ["value"] (defScope sIsHeap) := ⟨rfl, rfl, rfl, by decide +kernel, rfl, by decide +kernel, by decide +kernel⟩
abbrev sCheckHeap : Stmt := topS 21
abbrev nCheckHeap : List Str := ["heap"]
theorem scCheckHeap : FnScope nCheckHeap ["heap"] (defScope sCheckHeap) := ⟨rfl, rfl, rfl, by decide +kernel, rfl, by decide +kernel, by decide +kernel⟩
abbrev sHeightAt : Stmt := topS 22
abbrev nHeightAt : List Str := ["heap", "column"]
theorem scHeightAt : FnScope nHeightAt ["heap", "column"] (defScope sHeightAt) := ⟨rfl, rfl, rfl, by decide +kernel, rfl, by decide +kernel, by decide +kernel⟩
abbrev sHolds : Stmt := topS 23
abbrev nHolds : List Str := ["heap", "other", "column", "height"]
theorem scHolds : FnScope nHolds ["heap", "other"] (defScope sHolds) := ⟨rfl, rfl, rfl, by decide +kernel, rfl, by decide +kernel, by decide +kernel⟩
abbrev sOpenColumns : Stmt := topS 24
abbrev nOpenColumns : List Str := ["heap", "columns", "column"]
theorem scOpenColumns : FnScope nOpenColumns ["heap"] (defScope sOpenColumns) := ⟨rfl, rfl, rfl, by decide +kernel, rfl, by decide +kernel, by decide +kernel⟩
abbrev sHeaped : Stmt := topS 25
abbrev nHeaped : List Str := ["heap", "columns", "heights", "column", "height"]
theorem scHeaped : FnScope nHeaped ["heap", "columns"] (defScope sHeaped) := ⟨rfl, rfl, rfl, by decide +kernel, rfl, by decide +kernel, by decide +kernel⟩
abbrev sGrownBy : Stmt := topS 26
abbrev nGrownBy : List Str := ["heap", "ring", "place", "columns", "column"]
theorem scGrownBy : FnScope nGrownBy ["heap", "ring", "place"] (defScope sGrownBy) := ⟨rfl, rfl, rfl, by decide +kernel, rfl, by decide +kernel, by decide +kernel⟩
abbrev sCheckFilled : Stmt := topS 29
abbrev nCheckFilled : List Str := ["chain", "heap"]
theorem scCheckFilled : FnScope nCheckFilled ["chain", "heap"] (defScope sCheckFilled) := ⟨rfl, rfl, rfl, by decide +kernel, rfl, by decide +kernel, by decide +kernel⟩
abbrev sLiesBoxed : Stmt := topS 31
abbrev nLiesBoxed : List Str := ["chain", "value", "place", "ring"]
theorem scLiesBoxed : FnScope nLiesBoxed ["chain", "value"] (defScope sLiesBoxed) := ⟨rfl, rfl, rfl, by decide +kernel, rfl, by decide +kernel, by decide +kernel⟩
abbrev sCheckBox : Stmt := topS 32
abbrev nCheckBox : List Str := ["chain", "box"]
theorem scCheckBox : FnScope nCheckBox ["chain", "box"] (defScope sCheckBox) := ⟨rfl, rfl, rfl, by decide +kernel, rfl, by decide +kernel, by decide +kernel⟩
abbrev sLiesIn : Stmt := topS 33
abbrev nLiesIn : List Str := ["box", "places", "told", "place"]
theorem scLiesIn : FnScope nLiesIn ["box", "places"] (defScope sLiesIn) := ⟨rfl, rfl, rfl, by decide +kernel, rfl, by decide +kernel, by decide +kernel⟩
abbrev sCheckBoxes : Stmt := topS 34
abbrev nCheckBoxes : List Str := ["chain", "one", "other"]
theorem scCheckBoxes : FnScope nCheckBoxes ["chain", "one", "other"] (defScope sCheckBoxes) := ⟨rfl, rfl, rfl, by decide +kernel, rfl, by decide +kernel, by decide +kernel⟩
abbrev sHoldsBox : Stmt := topS 35
abbrev nHoldsBox : List Str := ["chain", "one", "other"]
theorem scHoldsBox : FnScope nHoldsBox ["chain", "one", "other"] (defScope sHoldsBox) := ⟨rfl, rfl, rfl, by decide +kernel, rfl, by decide +kernel, by decide +kernel⟩
abbrev sGrowsOver : Stmt := topS 36
abbrev nGrowsOver : List Str := ["chain", "heap", "box", "grown", "ring", "place"]
theorem scGrowsOver : FnScope nGrowsOver ["chain", "heap", "box"] (defScope sGrowsOver) := ⟨rfl, rfl, rfl, by decide +kernel, rfl, by decide +kernel, by decide +kernel⟩
abbrev sCheckFiller : Stmt := topS 37
abbrev nCheckFiller : List Str := ["chain", "heap", "box"]
theorem scCheckFiller : FnScope nCheckFiller ["chain", "heap", "box"] (defScope sCheckFiller) := ⟨rfl, rfl, rfl, by decide +kernel, rfl, by decide +kernel, by decide +kernel⟩
abbrev sDoesFill : Stmt := topS 38
abbrev nDoesFill : List Str := ["chain", "heap", "box"]
theorem scDoesFill : FnScope nDoesFill ["chain", "heap", "box"] (defScope sDoesFill) := ⟨rfl, rfl, rfl, by decide +kernel, rfl, by decide +kernel, by decide +kernel⟩
abbrev sLeftOut : Stmt := topS 39
abbrev nLeftOut : List Str := ["chain", "heap", "box", "told", "index", "place"]
theorem scLeftOut : FnScope nLeftOut ["chain", "heap", "box"] (defScope sLeftOut) := ⟨rfl, rfl, rfl, by decide +kernel, rfl, by decide +kernel, by decide +kernel⟩
abbrev sLDice : Stmt := topS 41
abbrev nLDice : List Str := ["_law_script", "_law_at", "_law_cell", "_law_great", "_law_left", "_law_mixed"]
theorem scLDice : FnScope nLDice ["_law_script", "_law_at"] (defScope sLDice) := ⟨rfl, rfl, rfl, by decide +kernel, rfl, by decide +kernel, by decide +kernel⟩
abbrev sLRoll : Stmt := topS 42
abbrev nLRoll : List Str := ["_law_dice_here", "_law_total", "_law_size", "_law_drawn", "_law_one", "_law_two"]
theorem scLRoll : FnScope nLRoll ["_law_dice_here", "_law_total"] (defScope sLRoll) := ⟨rfl, rfl, rfl, by decide +kernel, rfl, by decide +kernel, by decide +kernel⟩
abbrev sLOneOf : Stmt := topS 43
abbrev nLOneOf : List Str := ["_law_dice_here", "_law_items"]
theorem scLOneOf : FnScope nLOneOf ["_law_dice_here", "_law_items"] (defScope sLOneOf) := ⟨rfl, rfl, rfl, by decide +kernel, rfl, by decide +kernel, by decide +kernel⟩
abbrev sLCommon : Stmt := topS 44
abbrev nLCommon : List Str := ["_law_one", "_law_other"]
theorem scLCommon : FnScope nLCommon ["_law_one", "_law_other"] (defScope sLCommon) := ⟨rfl, rfl, rfl, by decide +kernel, rfl, by decide +kernel, by decide +kernel⟩
abbrev sLRing : Stmt := topS 45
abbrev nLRing : List Str := ["_law_dice_here", "_law_most", "_law_n"]
theorem scLRing : FnScope nLRing ["_law_dice_here", "_law_most"] (defScope sLRing) := ⟨rfl, rfl, rfl, by decide +kernel, rfl, by decide +kernel, by decide +kernel⟩
abbrev sLRingOf : Stmt := topS 46
abbrev nLRingOf : List Str := ["_law_dice_here", "_law_k", "_law_times", "_law_more", "_law_steps", "_law_one"]
theorem scLRingOf : FnScope nLRingOf ["_law_dice_here", "_law_k", "_law_times"] (defScope sLRingOf) := ⟨rfl, rfl, rfl, by decide +kernel, rfl, by decide +kernel, by decide +kernel⟩
abbrev sLChain : Stmt := topS 47
abbrev nLChain : List Str := ["_law_dice_here", "_law_rings", "_law_most", "_law_k", "_law_turn"]
theorem scLChain : FnScope nLChain ["_law_dice_here", "_law_rings", "_law_most"] (defScope sLChain) := ⟨rfl, rfl, rfl, by decide +kernel, rfl, by decide +kernel, by decide +kernel⟩
abbrev sLGrown : Stmt := topS 48
abbrev nLGrown : List Str := ["_law_heap_here", "_law_ring_here", "_law_x", "_law_n", "_law_s", "_law_found", "_law_column", "_law_height", "_law_can_rise"]
theorem scLGrown : FnScope nLGrown ["_law_heap_here", "_law_ring_here", "_law_x"] (defScope sLGrown) := ⟨rfl, rfl, rfl, by decide +kernel, rfl, by decide +kernel, by decide +kernel⟩
abbrev sLHeap : Stmt := topS 49
abbrev nLHeap : List Str := ["_law_chain_here", "_law_x", "_law_heap_here", "_law_ring_here", "_law_place"]
theorem scLHeap : FnScope nLHeap ["_law_chain_here", "_law_x"] (defScope sLHeap) := ⟨rfl, rfl, rfl, by decide +kernel, rfl, by decide +kernel, by decide +kernel⟩
abbrev sLAllTuples : Stmt := topS 50
abbrev nLAllTuples : List Str := ["_law_chain_here", "_law_found", "_law_n", "_law_s", "_law_wider", "_law_one", "_law_p"]
theorem scLAllTuples : FnScope nLAllTuples ["_law_chain_here"] (defScope sLAllTuples) := ⟨rfl, rfl, rfl, by decide +kernel, rfl, by decide +kernel, by decide +kernel⟩
abbrev sLHolds : Stmt := topS 51
abbrev nLHolds : List Str := ["_law_heap_here", "_law_other", "_law_left", "_law_right"]
theorem scLHolds : FnScope nLHolds ["_law_heap_here", "_law_other"] (defScope sLHolds) := ⟨rfl, rfl, rfl, by decide +kernel, rfl, by decide +kernel, by decide +kernel⟩
abbrev sLIsIn : Stmt := topS 52
abbrev nLIsIn : List Str := ["_law_box_told", "_law_x", "_law_told", "_law_place"]
theorem scLIsIn : FnScope nLIsIn ["_law_box_told", "_law_x"] (defScope sLIsIn) := ⟨rfl, rfl, rfl, by decide +kernel, rfl, by decide +kernel, by decide +kernel⟩
abbrev sLDrawnBox : Stmt := topS 53
abbrev nLDrawnBox : List Str := ["_law_dice_here", "_law_chain_here", "_law_n", "_law_s"]
theorem scLDrawnBox : FnScope nLDrawnBox ["_law_dice_here", "_law_chain_here"] (defScope sLDrawnBox) := ⟨rfl, rfl, rfl, by decide +kernel, rfl, by decide +kernel, by decide +kernel⟩
abbrev sLSmallHeap : Stmt := topS 54
abbrev nLSmallHeap : List Str := ["_law_dice_here", "_law_squares_most", "_law_found", "_law_left", "_law_height"]
theorem scLSmallHeap : FnScope nLSmallHeap ["_law_dice_here", "_law_squares_most"] (defScope sLSmallHeap) := ⟨rfl, rfl, rfl, by decide +kernel, rfl, by decide +kernel, by decide +kernel⟩
abbrev sLCutHeap : Stmt := topS 55
abbrev nLCutHeap : List Str := ["_law_dice_here", "_law_heap_here", "_law_found", "_law_top", "_law_height"]
theorem scLCutHeap : FnScope nLCutHeap ["_law_dice_here", "_law_heap_here"] (defScope sLCutHeap) := ⟨rfl, rfl, rfl, by decide +kernel, rfl, by decide +kernel, by decide +kernel⟩
abbrev sLSomeHeap : Stmt := topS 56
abbrev nLSomeHeap : List Str := ["_law_dice_here", "_law_chain_here", "_law_rows", "_law_way", "_law_heap_here"]
theorem scLSomeHeap : FnScope nLSomeHeap ["_law_dice_here", "_law_chain_here", "_law_rows"] (defScope sLSomeHeap) := ⟨rfl, rfl, rfl, by decide +kernel, rfl, by decide +kernel, by decide +kernel⟩
abbrev sLBoxRight : Stmt := topS 57
abbrev nLBoxRight : List Str := ["_law_chain_here", "_law_heap_here", "_law_box_told", "_law_rows", "_law_low", "_law_told", "_law_x"]
theorem scLBoxRight : FnScope nLBoxRight ["_law_chain_here", "_law_heap_here", "_law_box_told", "_law_rows"] (defScope sLBoxRight) := ⟨rfl, rfl, rfl, by decide +kernel, rfl, by decide +kernel, by decide +kernel⟩
abbrev sLaw : Stmt := topS 58
abbrev nLaw : List Str := ["_law_script", "_law_at", "_law_dice_here", "_law_chain_here", "_law_rows", "_law_turn", "_law_heap_here", "_law_good", "_law_box_told", "_law_less", "_law_x", "_law_place", "_law_told", "_law_n", "_law_s"]
theorem scLaw : FnScope nLaw ["_law_script"] (defScope sLaw) := ⟨rfl, rfl, rfl, by decide +kernel, rfl, by decide +kernel, by decide +kernel⟩
/-- a def of the text at its place, and how its arguments bind -/
structure DefAt (K : PySem.W.Frag) (mg : Str → Option Value) (x : Str) (st : Stmt) (ps : List Str) (f : Addr) (fd : FuncData) : Prop where
  F : Fun K x x st f fd
  g : mg x = some (.ref f)
  b : Binds K fd ps []
/-- what the top has written -/
structure Txt (K : PySem.W.Frag) (mg : Str → Option Value) : Prop where
  z_isinstance : mg "isinstance" = none
  z_len : mg "len" = none
  z_int : mg "int" = none
  z_bool : mg "bool" = none
  z_tuple : mg "tuple" = none
  z_all : mg "all" = none
  z_range : mg "range" = none
  z_abs : mg "abs" = none
  z_min : mg "min" = none
  z_max : mg "max" = none
  z_list : mg "list" = none
  z_zip : mg "zip" = none
  z_enumerate : mg "enumerate" = none
  z_sum : mg "sum" = none
  v_BOUND : ∃ t, mg "BOUND" = some (.int (10 ^ 60) t)
  v_RINGS : ∃ t, mg "MOST_RINGS" = some (.int 12 t)
  v_PLACES : ∃ t, mg "MOST_PLACES" = some (.int 60 t)
  v_SIDE : ∃ t, mg "MOST_SIDE" = some (.int 60 t)
  v_SQ : ∃ t, mg "MAX_SQUARES" = some (.int 42 t)
  d_is_integer : ∃ f fd, DefAt K mg "is_integer" sIsInteger ["value"] f fd
  d_is_between : ∃ f fd, DefAt K mg "is_between" sIsBetween ["value", "low", "high"] f fd
  d_is_pair : ∃ f fd, DefAt K mg "is_pair" sIsPair ["value"] f fd
  d_is_ring : ∃ f fd, DefAt K mg "is_ring" sIsRing ["value"] f fd
  d_is_chain : ∃ f fd, DefAt K mg "is_chain" sIsChain ["value"] f fd
  d_check_chain : ∃ f fd, DefAt K mg "check_chain" sCheckChain ["chain"] f fd
  d_lets : ∃ f fd, DefAt K mg "lets" sLets ["ring", "place", "diagonal"] f fd
  d_is_heap : ∃ f fd, DefAt K mg "is_heap" sIsHeap ["value"] f fd
  d_check_heap : ∃ f fd, DefAt K mg "check_heap" sCheckHeap ["heap"] f fd
  d_height_at : ∃ f fd, DefAt K mg "height_at" sHeightAt ["heap", "column"] f fd
  d_holds : ∃ f fd, DefAt K mg "holds" sHolds ["heap", "other"] f fd
  d_open_columns : ∃ f fd, DefAt K mg "open_columns" sOpenColumns ["heap"] f fd
  d_heaped : ∃ f fd, DefAt K mg "heaped" sHeaped ["heap", "columns"] f fd
  d_grown_by : ∃ f fd, DefAt K mg "grown_by" sGrownBy ["heap", "ring", "place"] f fd
  d_check_filled : ∃ f fd, DefAt K mg "check_filled" sCheckFilled ["chain", "heap"] f fd
  d_lies_boxed : ∃ f fd, DefAt K mg "lies_boxed" sLiesBoxed ["chain", "value"] f fd
  d_check_box : ∃ f fd, DefAt K mg "check_box" sCheckBox ["chain", "box"] f fd
  d_lies_in : ∃ f fd, DefAt K mg "lies_in" sLiesIn ["box", "places"] f fd
  d_check_boxes : ∃ f fd, DefAt K mg "check_boxes" sCheckBoxes ["chain", "one", "other"] f fd
  d_holds_box : ∃ f fd, DefAt K mg "holds_box" sHoldsBox ["chain", "one", "other"] f fd
  d_grows_over : ∃ f fd, DefAt K mg "grows_over" sGrowsOver ["chain", "heap", "box"] f fd
  d_check_filler : ∃ f fd, DefAt K mg "check_filler" sCheckFiller ["chain", "heap", "box"] f fd
  d_does_fill : ∃ f fd, DefAt K mg "does_fill" sDoesFill ["chain", "heap", "box"] f fd
  d_left_out : ∃ f fd, DefAt K mg "left_out" sLeftOut ["chain", "heap", "box"] f fd
  d_l_dice : ∃ f fd, DefAt K mg "_law_dice" sLDice ["_law_script", "_law_at"] f fd
  d_l_roll : ∃ f fd, DefAt K mg "_law_roll" sLRoll ["_law_dice_here", "_law_total"] f fd
  d_l_one_of : ∃ f fd, DefAt K mg "_law_one_of" sLOneOf ["_law_dice_here", "_law_items"] f fd
  d_l_common : ∃ f fd, DefAt K mg "_law_common" sLCommon ["_law_one", "_law_other"] f fd
  d_l_ring : ∃ f fd, DefAt K mg "_law_ring" sLRing ["_law_dice_here", "_law_most"] f fd
  d_l_ring_of : ∃ f fd, DefAt K mg "_law_ring_of" sLRingOf ["_law_dice_here", "_law_k", "_law_times"] f fd
  d_l_chain : ∃ f fd, DefAt K mg "_law_chain" sLChain ["_law_dice_here", "_law_rings", "_law_most"] f fd
  d_l_grown : ∃ f fd, DefAt K mg "_law_grown" sLGrown ["_law_heap_here", "_law_ring_here", "_law_x"] f fd
  d_l_heap : ∃ f fd, DefAt K mg "_law_heap" sLHeap ["_law_chain_here", "_law_x"] f fd
  d_l_all_tuples : ∃ f fd, DefAt K mg "_law_all_tuples" sLAllTuples ["_law_chain_here"] f fd
  d_l_holds : ∃ f fd, DefAt K mg "_law_holds" sLHolds ["_law_heap_here", "_law_other"] f fd
  d_l_is_in : ∃ f fd, DefAt K mg "_law_is_in" sLIsIn ["_law_box_told", "_law_x"] f fd
  d_l_drawn_box : ∃ f fd, DefAt K mg "_law_drawn_box" sLDrawnBox ["_law_dice_here", "_law_chain_here"] f fd
  d_l_small_heap : ∃ f fd, DefAt K mg "_law_small_heap" sLSmallHeap ["_law_dice_here", "_law_squares_most"] f fd
  d_l_cut_heap : ∃ f fd, DefAt K mg "_law_cut_heap" sLCutHeap ["_law_dice_here", "_law_heap_here"] f fd
  d_l_some_heap : ∃ f fd, DefAt K mg "_law_some_heap" sLSomeHeap ["_law_dice_here", "_law_chain_here", "_law_rows"] f fd
  d_l_box_right : ∃ f fd, DefAt K mg "_law_box_right" sLBoxRight ["_law_chain_here", "_law_heap_here", "_law_box_told", "_law_rows"] f fd
end K1

namespace K1
open PySem PySem.Spec PyProof.Rows L2 Evl
/-! ### great powers -/
def CPowW (i j : Int) : Prop := 0 ≤ j ∧ (Builtin.Int.intBits i : Int) * j ≤ 2 ^ 27
theorem op_powW {X : Cx} : OpR X (binaryOp .Pow) (rI CPowW fun i j => .int (i ^ j.toNat)) := opI fun _ _ _ _ _ _ _ hc q => pow_int hc.1 hc.2 q
/-! ### values that are looked at -/
/-- no int -/
inductive NotInt (K : PySem.W.Frag) (H : Hp) : V → Prop where
  | bl (b : Bool) : NotInt K H (.bl b)
  | non : NotInt K H .non
  | str (x : Str) : NotInt K H (.str x)
  | lst {a : Addr} {xs : List V} (e : H a = some (.lst xs)) : NotInt K H (.ref a)
  | tup {a : Addr} {xs : List V} (e : H a = some (.tup xs)) : NotInt K H (.ref a)
  | dK {a : Addr} {kvs : List (Key × V)} (e : H a = some (.dK kvs)) : NotInt K H (.ref a)
inductive IntB (K : PySem.W.Frag) (H : Hp) : V → Bool → Prop where
  | int (i : Int) : IntB K H (.int i) (decide (-(10 ^ 60) < i) && decide (i < 10 ^ 60))
  | no {x : V} (h : NotInt K H x) : IntB K H x false
/-- between two ints -/
inductive BtwB (K : PySem.W.Frag) (H : Hp) (lo hi : Int) : V → Bool → Prop where
  | int (i : Int) : BtwB K H lo hi (.int i) ((decide (-(10 ^ 60) < i) && decide (i < 10 ^ 60)) && (decide (lo ≤ i) && decide (i ≤ hi)))
  | no {x : V} (h : NotInt K H x) : BtwB K H lo hi x false
theorem NotInt.ty {K : PySem.W.Frag} {H : Hp} {x : V} (h : NotInt K H x) : ∃ t : Value, TyX K H x t ∧ ((PySem.W.kitOne K t (.type "int") = some false) ∨ (t = .type "bool")) := by
  cases h with
  | bl b => exact ⟨_, .base (.bl b), .inr rfl⟩
  | non => exact ⟨_, .base .non, .inl (kit_ty (by decide +kernel))⟩
  | str x => exact ⟨_, .base (.str x), .inl (kit_ty (by decide +kernel))⟩
  | lst e => exact ⟨_, .base (.lst e), .inl (kit_ty (by decide +kernel))⟩
  | tup e => exact ⟨_, .base (.tup e), .inl (kit_ty (by decide +kernel))⟩
  | dK e => exact ⟨_, .base (.dK e), .inl (kit_ty (by decide +kernel))⟩
theorem NotInt.mono {K : PySem.W.Frag} {H H' : Hp} {x : V} (e : Ex H H') (h : NotInt K H x) : NotInt K H' x := by
  cases h with
  | bl b => exact .bl b
  | non => exact .non
  | str x => exact .str x
  | lst q => exact .lst (e _ _ q)
  | tup q => exact .tup (e _ _ q)
  | dK q => exact .dK (e _ _ q)
section
variable {P : Program} {w : World} {K : PySem.W.Frag} {mg : Str → Option Value} {base : Heap}
def spIsInteger (K : PySem.W.Frag) : Sp := fun vs H Q _ => ∃ x b, vs = [x] ∧ IntB K H x b ∧ ∀ H', Ex H H' → Q (.bl b) H'
theorem ok_is_integer (T : Txt K mg) {f : Addr} {fd : FuncData} (D : DefAt K mg "is_integer" sIsInteger ["value"] f fd) : FnOk P w K mg base CX0 1 f fd ["value"] (spIsInteger K) := by
  refine D.F.ok scIsInteger (fun vs H Q E h => ?_) (fun cdv A outer s H vs Q E hr h => ?_)
  · obtain ⟨x, b, rfl, _⟩ := h
    rfl
  · obtain ⟨x, b, rfl, hb, q⟩ := h
    obtain ⟨tB, vB⟩ := T.v_BOUND
    refine ⟨_, pss_one (ps_ret (pe_and (pe_callB call_isi (by rfl) T.z_isinstance (by decide +kernel) (pa_cons (pv 0) (pa_cons (pe_bltn (v := .ty "int") (by rfl) T.z_int (by decide +kernel) rfl) pa_nil)))
      (pe_and (pe_not (pe_callB call_isi (by rfl) T.z_isinstance (by decide +kernel) (pa_cons (pv 0) (pa_cons (pe_bltn (v := .ty "bool") (by rfl) T.z_bool (by decide +kernel) rfl) pa_nil))))
      (pe_one (pe_chain op_lt op_lt (pe_un un_neg (pe_glob (v := .int (10 ^ 60)) rfl vB ⟨_, rfl⟩)) (pv 0) (pe_glob (v := .int (10 ^ 60)) rfl vB ⟨_, rfl⟩)))))), ?_⟩
    cases hb with
    | int i =>
      refine ⟨.int i, rfl, .int i, .ty "int", .type "int", .type "int", true, rfl, .ty _, .base (.int i), kit_ty (by decide +kernel), true, rfl, iteT ?_⟩
      refine ⟨.int i, rfl, .int i, .ty "bool", .type "int", .type "bool", false, rfl, .ty _, .base (.int i), kit_ty (by decide +kernel), false, rfl, true, rfl, iteT ?_⟩
      refine ⟨_, rfl, .int i, rfl, _, _, rfl, rfl, _, rfl, ite2 (fun c => ?_) (fun c => ?_)⟩
      · refine ⟨_, _, rfl, rfl, ?_⟩
        have e : decide (-(10 ^ 60) < i) = true := c
        rw [e, Bool.true_and] at q
        exact q _ (Ex.refl _)
      · have e : decide (-(10 ^ 60) < i) = false := Bool.eq_false_iff.mpr c
        rw [e, Bool.false_and] at q
        exact q _ (Ex.refl _)
    | no hn =>
      obtain ⟨t, ty, h | rfl⟩ := hn.ty
      · exact ⟨x, rfl, x, .ty "int", t, .type "int", false, rfl, .ty _, ty, h, false, rfl, iteF (q _ (Ex.refl _))⟩
      · refine ⟨x, rfl, x, .ty "int", .type "bool", .type "int", true, rfl, .ty _, ty, kit_ty (by decide +kernel), true, rfl, iteT ?_⟩
        exact ⟨x, rfl, x, .ty "bool", .type "bool", .type "bool", true, rfl, .ty _, ty, kit_ty (by decide +kernel), true, rfl, false, rfl, iteF (q _ (Ex.refl _))⟩
def spIsBetween (K : PySem.W.Frag) : Sp := fun vs H Q _ => ∃ x lo hi b, vs = [x, .int lo, .int hi] ∧ BtwB K H lo hi x b ∧ ∀ H', Ex H H' → Q (.bl b) H'
theorem ok_is_between (T : Txt K mg) {f : Addr} {fd : FuncData} (D : DefAt K mg "is_between" sIsBetween ["value", "low", "high"] f fd) : FnOk P w K mg base CX0 2 f fd ["value", "low", "high"] (spIsBetween K) := by
  refine D.F.ok scIsBetween (fun vs H Q E h => ?_) (fun cdv A outer s H vs Q E hr h => ?_)
  · obtain ⟨x, lo, hi, b, rfl, _⟩ := h
    rfl
  · obtain ⟨x, lo, hi, b, rfl, hb, q⟩ := h
    obtain ⟨f1, fd1, D1⟩ := T.d_is_integer
    refine ⟨_, pss_one (ps_ret (pe_and (pe_call (ok_is_integer T D1) hr (by rfl) D1.g D1.F.kp D1.b .nil pass0 (pa_cons (pv 0) pa_nil)) (pe_one (pe_chain op_le op_le (pv 1) (pv 0) (pv 2))))), ?_⟩
    cases hb with
    | int i =>
      refine ⟨.int i, rfl, .int i, _, rfl, .int i, fun H1 e1 => ⟨_, rfl, ite2 (fun c => ?_) (fun c => ?_)⟩⟩
      · refine ⟨.int lo, rfl, .int i, rfl, _, _, rfl, rfl, _, rfl, ?_⟩
        rw [c, Bool.true_and] at q
        refine ite2 (fun c2 => ⟨.int hi, rfl, _, _, rfl, rfl, ?_⟩) (fun c2 => ?_)
        · have e : decide (lo ≤ i) = true := c2
          rw [e, Bool.true_and] at q
          exact q _ e1
        · have e : decide (lo ≤ i) = false := Bool.eq_false_iff.mpr c2
          rw [e, Bool.false_and] at q
          exact q _ e1
      · rw [Bool.eq_false_iff.mpr c, Bool.false_and] at q
        exact q _ e1
    | no hn => exact ⟨x, rfl, x, false, rfl, .no hn, fun H1 e1 => ⟨false, rfl, iteF (q _ e1)⟩⟩
end
end K1

namespace K1
open PySem PySem.Spec PyProof.Rows L2 Evl
/-! ### the dice -/
def Dice (H : Hp) (d : Addr) : Prop := ∃ l m c : Int, H d = some (.lst [.int l, .int m, .int c])
/-- all but the dice is as it was -/
def Keep (d : Addr) (H H' : Hp) : Prop := ∀ b o, b ≠ d → H b = some o → H' b = some o
theorem Keep.refl (d : Addr) (H : Hp) : Keep d H H := fun _ _ _ h => h
theorem Keep.trans {d : Addr} {H H1 H2 : Hp} (a : Keep d H H1) (b : Keep d H1 H2) : Keep d H H2 := fun x o n h => b x o n (a x o n h)
theorem Keep.ex {d : Addr} {H H' : Hp} (e : Ex H H') : Keep d H H' := fun b o _ h => e b o h
theorem Keep.dice {d : Addr} {H : Hp} {o : HO} : Keep d H (upd H d o) := fun b u n h => by
  rw [upd_ne n]
  exact h
theorem Keep.new {d p : Addr} {H : Hp} {o : HO} (h : H p = none) : Keep d H (upd H p o) := .ex (.new h)
/-- a thing that H did not know may change -/
theorem Keep.mut {d p : Addr} {H H' : Hp} {o : HO} (e : Keep d H H') (h : H p = none) : Keep d H (upd H' p o) := fun b u n q => by
  rw [upd_ne (ne_of_none q h)]
  exact e b u n q
theorem Keep.free {d p : Addr} {H H' : Hp} (e : Keep d H H') (n : p ≠ d) (h : H' p = none) : H p = none := by
  cases q : H p with
  | none => rfl
  | some o =>
    rw [e p o n q] at h
    cases h
theorem Dice.ex {d : Addr} {H H' : Hp} (e : Ex H H') (h : Dice H d) : Dice H' d := by
  obtain ⟨l, m, c, q⟩ := h
  exact ⟨l, m, c, e _ _ q⟩
theorem Dice.upd {d p : Addr} {H : Hp} {o : HO} (n : d ≠ p) (h : Dice H d) : Dice (L2.upd H p o) d := by
  obtain ⟨l, m, c, q⟩ := h
  exact ⟨l, m, c, by rw [upd_ne n]; exact q⟩
theorem Dice.ne_new {d p : Addr} {H : Hp} (h : Dice H d) (n : H p = none) : d ≠ p := by
  obtain ⟨l, m, c, q⟩ := h
  exact ne_of_none q n
theorem Dice.ne_tup {d p : Addr} {H : Hp} {xs : List V} (h : Dice H d) (n : H p = some (.tup xs)) : p ≠ d := by
  obtain ⟨l, m, c, q⟩ := h
  exact ne_of n q (by intro z; cases z)
theorem Keep.tup {d p : Addr} {H H' : Hp} {xs : List V} (e : Keep d H H') (h : Dice H d) (n : H p = some (.tup xs)) : H' p = some (.tup xs) := e _ _ (h.ne_tup n) n
theorem wide_n {n : Int} (h : 1 ≤ n) (h2 : n ≤ 10 ^ 50) {i : Int} : CDivW i n := wide_div (b := 200) (by omega) (by omega) (by decide) (by decide)
section
variable {P : Program} {w : World} {K : PySem.W.Frag} {mg : Str → Option Value} {base : Heap}
def spRoll : Sp := fun vs H Q _ => ∃ (d : Addr) (n : Int), vs = [.ref d, .int n] ∧ Dice H d ∧ 1 ≤ n ∧ n ≤ 10 ^ 50 ∧ ∀ (r : Int) H', 0 ≤ r → r < n → Dice H' d → Keep d H H' → Q (.int r) H'
theorem ok_roll (T : Txt K mg) {f : Addr} {fd : FuncData} (D : DefAt K mg "_law_roll" sLRoll ["_law_dice_here", "_law_total"] f fd) : FnOk P w K mg base CX0 1 f fd ["_law_dice_here", "_law_total"] spRoll := by
  refine D.F.ok scLRoll (fun vs H Q E h => ?_) (fun cdv A outer s H vs Q E hr h => ?_)
  · obtain ⟨d, n, rfl, _⟩ := h
    rfl
  · obtain ⟨d, n, rfl, ⟨l, m, c, hd⟩, h1, h2, q⟩ := h
    refine ⟨_, pss_cons (ps_set (i := 2) scLRoll.nd rfl (.inl rfl) (pe_callTy call_int1 (by rfl) T.z_int (by decide +kernel) (pa_cons (pv 1) pa_nil)))
      (pss_cons (ps_if (pt_cmpR op_gt (pe_ix ix_list (pv 0) pe_int (fun _ _ => rfl)) pe_int (nomark _))
        (pss_cons (ps_set (i := 3) scLRoll.nd rfl (.inl rfl) (pe_op op_mod (pe_ix ix_list (pv 0) pe_int (fun _ _ => rfl)) (pv 2)))
        (pss_cons (ps_asg (pe_op op_fdivW (pe_ix ix_list (pv 0) pe_int (fun _ _ => rfl)) (pv 2)) (pg_sub (pv 0) pe_int set_list))
        (pss_one (ps_ret (pe_callTy call_int1 (by rfl) T.z_int (by decide +kernel) (pa_cons (pv 3) pa_nil)))))) pss_nil)
      (pss_cons (ps_asg (pe_op op_add (pe_ix ix_list (pv 0) pe_int (fun _ _ => rfl)) pe_int) (pg_sub (pv 0) pe_int set_list))
      (pss_cons (ps_set (i := 4) scLRoll.nd rfl (.inl rfl) (pe_op op_mod (pe_op op_add (pe_ix ix_list (pv 0) pe_int (fun _ _ => rfl)) (pe_op op_mul pe_int (pe_ix ix_list (pv 0) pe_int (fun _ _ => rfl)))) pe_int))
      (pss_cons (ps_set (i := 5) scLRoll.nd rfl (.inl rfl) (pe_op op_add (pe_op op_mul (pe_op op_mod (pe_op op_mul (pv 4) (pv 4)) pe_int) (pv 4)) (pe_op op_mul pe_int (pe_ix ix_list (pv 0) pe_int (fun _ _ => rfl)))))
      (pss_cons (ps_set (i := 5) scLRoll.nd rfl (.inl rfl) (pe_op op_mod (pv 5) pe_int))
      (pss_one (ps_ret (pe_callTy call_int1 (by rfl) T.z_int (by decide +kernel) (pa_cons (pe_op op_mod (pe_op op_fdiv (pv 5) pe_int) (pv 2)) pa_nil))))))))), ?_⟩
    refine ⟨.int n, rfl, .inl ⟨n, rfl, ?_⟩⟩
    have S0 : SqL K H d [.int l, .int m, .int c] := SqL.of hd
    refine ⟨.ref d, rfl, d, _, 0, .int l, rfl, rfl, S0, rfl, l, 0, rfl, rfl, _, rfl, ite2 (fun cc => ?_) (fun cc => ?_)⟩
    · refine ⟨.ref d, rfl, d, _, 0, .int l, rfl, rfl, S0, rfl, .int n, rfl, l, n, rfl, rfl, by omega, ?_⟩
      refine ⟨.ref d, rfl, d, _, 0, .int l, rfl, rfl, S0, rfl, .int n, rfl, l, n, rfl, rfl, wide_n h1 h2, .ref d, rfl, d, _, 0, 0, rfl, rfl, hd, rfl, ?_⟩
      refine ⟨_, rfl, .inl ⟨l % n, rfl, ?_⟩⟩
      exact q _ _ (Int.emod_nonneg _ (by omega)) (Int.emod_lt_of_pos _ (by omega)) ⟨_, _, _, upd_same⟩ Keep.dice
    · refine ⟨.ref d, rfl, d, _, 2, .int c, rfl, rfl, S0, rfl, c, 1, rfl, rfl, .ref d, rfl, d, _, 2, 2, rfl, rfl, hd, rfl, ?_⟩
      generalize hH1 : upd H d _ = H1
      have hd1 : H1 d = some (.lst [.int l, .int m, .int (c + 1)]) := by
        rw [← hH1]
        exact upd_same
      have k1 : Keep d H H1 := by
        rw [← hH1]
        exact Keep.dice
      have S1 : SqL K H1 d [.int l, .int m, .int (c + 1)] := SqL.of hd1
      refine ⟨.ref d, rfl, d, _, 1, .int m, rfl, rfl, S1, rfl, .ref d, rfl, d, _, 2, .int (c + 1), rfl, rfl, S1, rfl, _, _, rfl, rfl, .inl (by decide), _, _, rfl, rfl, _, _, rfl, rfl, by show (0 : Int) < _; decide, ?_⟩
      refine ⟨_, rfl, _, rfl, (m + 1000409 * (c + 1)) % 2305843009213693951, (m + 1000409 * (c + 1)) % 2305843009213693951, rfl, rfl, .inl (by constructor <;> omega), _, _, rfl, rfl, by show (0 : Int) < _; decide, _, rfl, _, (m + 1000409 * (c + 1)) % 2305843009213693951, rfl, rfl, .inr (by constructor <;> omega), ?_⟩
      refine ⟨.ref d, rfl, d, _, 2, .int (c + 1), rfl, rfl, S1, rfl, _, _, rfl, rfl, .inl (by decide), _, _, rfl, rfl, ?_⟩
      refine ⟨_, rfl, _, _, rfl, rfl, by show (0 : Int) < _; decide, ?_⟩
      refine ⟨_, rfl, _, _, rfl, rfl, ⟨by decide, by decide⟩, .int n, rfl, _, n, rfl, rfl, by omega, .inl ⟨_, rfl, ?_⟩⟩
      exact q _ _ (Int.emod_nonneg _ (by omega)) (Int.emod_lt_of_pos _ (by omega)) ⟨_, _, _, hd1⟩ k1
def spOneOf (K : PySem.W.Frag) : Sp := fun vs H Q _ => ∃ (d a : Addr) (xs : List V), vs = [.ref d, .ref a] ∧ Dice H d ∧ H a = some (.lst xs) ∧ a ≠ d ∧ 1 ≤ xs.length ∧ xs.length ≤ 1000 ∧ ∀ x H', x ∈ xs → Dice H' d → Keep d H H' → Q x H'
theorem ok_one_of (T : Txt K mg) {f : Addr} {fd : FuncData} (D : DefAt K mg "_law_one_of" sLOneOf ["_law_dice_here", "_law_items"] f fd) : FnOk P w K mg base CX0 2 f fd ["_law_dice_here", "_law_items"] (spOneOf K) := by
  refine D.F.ok scLOneOf (fun vs H Q E h => ?_) (fun cdv A outer s H vs Q E hr h => ?_)
  · obtain ⟨d, a, xs, rfl, _⟩ := h
    rfl
  · obtain ⟨d, a, xs, rfl, hd, ha, nad, h1, h2, q⟩ := h
    obtain ⟨f1, fd1, D1⟩ := T.d_l_roll
    refine ⟨_, pss_one (ps_ret (pe_ix ix_list (pv 1) (pe_call (ok_roll T D1) hr (by rfl) D1.g D1.F.kp D1.b .nil pass0 (pa_cons (pv 0) (pa_cons (pe_callB call_len_seq (by rfl) T.z_len PySem.boot_len (pa_cons (pv 1) pa_nil)) pa_nil))) (fun _ _ => rfl))), ?_⟩
    refine ⟨.ref a, rfl, .ref d, rfl, .ref a, rfl, a, xs, rfl, .inl (SqL.of ha), d, _, rfl, hd, by omega, by omega, fun r H1 r0 r1 hd1 k1 => ?_⟩
    have hx : xs[r.toNat]? = some (xs[r.toNat]'(by omega)) := List.getElem?_eq_getElem _
    refine ⟨a, xs, r, _, rfl, rfl, SqL.of (k1 _ _ nad ha), ?_, q (xs[r.toNat]'(by omega)) H1 (List.getElem_mem _) hd1 k1⟩
    exact at_of (show r = ((r.toNat : Nat) : Int) by omega) hx
/-- a drawn ring -/
def RingAt (H : Hp) (most : Int) (x : V) (n s : Int) : Prop := ∃ t, x = .ref t ∧ H t = some (.tup [.int n, .int s]) ∧ 2 ≤ n ∧ n ≤ most ∧ 1 ≤ s ∧ s < n
def spRing : Sp := fun vs H Q _ => ∃ (d : Addr) (most : Int), vs = [.ref d, .int most] ∧ Dice H d ∧ 2 ≤ most ∧ most ≤ 1000 ∧ ∀ x n s H', RingAt H' most x n s → Dice H' d → Keep d H H' → Q x H'
theorem ok_ring (T : Txt K mg) {f : Addr} {fd : FuncData} (D : DefAt K mg "_law_ring" sLRing ["_law_dice_here", "_law_most"] f fd) : FnOk P w K mg base CX0 2 f fd ["_law_dice_here", "_law_most"] spRing := by
  refine D.F.ok scLRing (fun vs H Q E h => ?_) (fun cdv A outer s H vs Q E hr h => ?_)
  · obtain ⟨d, a, rfl, _⟩ := h
    rfl
  · obtain ⟨d, most, rfl, hd, h1, h2, q⟩ := h
    obtain ⟨f1, fd1, D1⟩ := T.d_l_roll
    refine ⟨_, pss_cons (ps_set (i := 2) scLRing.nd rfl (.inl rfl) (pe_op op_add pe_int (pe_call (ok_roll T D1) hr (by rfl) D1.g D1.F.kp D1.b .nil pass0 (pa_cons (pv 0) (pa_cons (pe_op op_sub (pv 1) pe_int) pa_nil)))))
      (pss_one (ps_ret (pe_tup (pa_cons (pv 2) (pa_cons (pe_op op_add pe_int (pe_call (ok_roll T D1) hr (by rfl) D1.g D1.F.kp D1.b .nil pass0 (pa_cons (pv 0) (pa_cons (pe_op op_sub (pv 2) pe_int) pa_nil)))) pa_nil))))), ?_⟩
    refine ⟨.ref d, rfl, .int most, rfl, _, _, rfl, rfl, d, _, rfl, hd, by omega, by omega, fun r H1 r0 r1 hd1 k1 => ?_⟩
    refine ⟨2, r, rfl, rfl, _, rfl, .ref d, rfl, .int (2 + r), rfl, _, _, rfl, rfl, d, _, rfl, hd1, by omega, by omega, fun r' H2 r0' r1' hd2 k2 => ?_⟩
    refine ⟨1, r', rfl, rfl, by show 2 ≤ sizeLine; decide, fun t ht => ?_⟩
    exact q _ (2 + r) (1 + r') _ ⟨t, rfl, upd_same, by omega, by omega, by omega, by omega⟩ (hd2.upd (hd2.ne_new ht)) ((k1.trans k2).trans (Keep.new ht))
end
end K1

namespace K1
open PySem PySem.Spec PyProof.Rows L2 Evl
section
variable {P : Program} {w : World} {K : PySem.W.Frag} {mg : Str → Option Value} {base : Heap}
def spDice (K : PySem.W.Frag) : Sp := fun vs H Q _ => ∃ (a : Addr) (ns : List Int) (i : Nat), vs = [.ref a, .int i] ∧ SqL K H a (ns.map V.int) ∧ ∀ p H', H p = none → Ex H H' → Dice H' p → Q (.ref p) H'
theorem ok_dice (T : Txt K mg) {f : Addr} {fd : FuncData} (D : DefAt K mg "_law_dice" sLDice ["_law_script", "_law_at"] f fd) : FnOk P w K mg base CX0 1 f fd ["_law_script", "_law_at"] (spDice K) := by
  refine D.F.ok scLDice (fun vs H Q E h => ?_) (fun cdv A outer s H vs Q E hr h => ?_)
  · obtain ⟨d, n, i, rfl, _⟩ := h
    rfl
  · obtain ⟨a, ns, i, rfl, hS, q⟩ := h
    refine ⟨_, pss_cons (ps_set (i := 2) scLDice.nd rfl (.inl rfl) (pe_op op_add (pe_op op_mul pe_int (pv 1)) pe_int))
      (pss_cut (ps_if (pt_cmpR op_lt (pv 1) (pe_callB call_len_seq (by rfl) T.z_len PySem.boot_len (pa_cons (pv 0) pa_nil)) (nomark _))
        (pss_one (ps_set (i := 2) scLDice.nd rfl (.inl rfl) (pe_ix ix_list (pv 0) (pv 1) (fun _ _ => rfl)))) pss_nil)
      (pss_cons (ps_set (i := 3) scLDice.nd rfl (.inl rfl) (pe_op op_mod (pe_callTy call_int1 (by rfl) T.z_int (by decide +kernel) (pa_cons (pe_callB call_abs (by rfl) T.z_abs (by decide +kernel) (pa_cons (pv 2) pa_nil)) pa_nil)) (pe_op op_powW (pe_op op_pow pe_int pe_int) pe_int)))
      (pss_cons (ps_set (i := 4) scLDice.nd rfl (.inl rfl) (pe_op op_fdivW (pv 3) (pe_op op_pow pe_int pe_int)))
      (pss_cons (ps_set (i := 5) scLDice.nd rfl (.inl rfl) (pe_op op_add (pe_op op_add (pe_op op_add (pe_op op_mul (pe_op op_mod (pv 3) pe_int) pe_int) (pe_op op_mul pe_int (pv 1))) (pe_op op_mul pe_int (pe_callTy call_int1 (by rfl) T.z_int (by decide +kernel) (pa_cons (pe_cmpR op_lt (pv 2) pe_int (nomark _)) pa_nil)))) pe_int))
      (pss_one (ps_ret (pe_lst (pa_cons (pv 4) (pa_cons (pe_op op_mod (pv 5) pe_int) (pa_cons pe_int pa_nil))))))))) ), ?_⟩
    refine ⟨_, rfl, _, _, rfl, rfl, .inl (by decide), _, _, rfl, rfl, ?_⟩
    refine ⟨fun σ' H' => ∃ cell : Int, σ' = [some (.ref a), some (.int i), some (.int cell), none, none, none] ∧ H' = H, ?_, ?_⟩
    · refine ⟨_, rfl, .ref a, rfl, a, _, rfl, .inl hS, _, _, rfl, rfl, _, rfl, ite2 (fun c => ?_) (fun c => ⟨_, rfl, rfl⟩)⟩
      have c' : (i : Int) < ((ns.map V.int).length : Int) := of_decide_eq_true c
      rw [List.length_map] at c'
      have hx : (ns.map V.int)[i]? = some (.int (ns[i]'(by omega))) := by
        rw [List.getElem?_map, List.getElem?_eq_getElem (by omega)]
        rfl
      exact ⟨.ref a, rfl, _, rfl, a, _, _, _, rfl, rfl, hS, atI_nat hx, _, rfl, rfl⟩
    · rintro σ' H' ⟨cell, rfl, rfl⟩
      refine ⟨_, rfl, _, rfl, .inl ⟨_, rfl, _, _, rfl, rfl, ⟨by decide, by decide, by decide⟩, _, _, rfl, rfl, ⟨by decide, by decide +kernel⟩, _, _, rfl, rfl, by show (0 : Int) < (10 ^ Int.toNat 60) ^ Int.toNat 10; decide +kernel, ?_⟩⟩
      refine ⟨_, rfl, _, _, rfl, rfl, ⟨by decide, by decide, by decide⟩, _, _, rfl, rfl, wide_div (b := 60) (by decide +kernel) (by decide +kernel) (by decide) (by decide), ?_⟩
      refine ⟨_, rfl, _, _, rfl, rfl, by show (0 : Int) < _; decide, _, _, rfl, rfl, .inr (by decide), _, rfl, _, _, rfl, rfl, .inl (by decide), _, _, rfl, rfl, _, rfl, _, _, rfl, rfl, .inr ⟨_, rfl, _, _, rfl, rfl, .inl (by decide), _, _, rfl, rfl, _, _, rfl, rfl, ?_⟩⟩
      refine ⟨_, rfl, _, rfl, _, _, rfl, rfl, by show (0 : Int) < _; decide, by show 3 ≤ sizeLine; decide, fun p hp => ?_⟩
      exact q p _ hp (Ex.new hp) ⟨_, _, _, upd_same⟩
/-- the greatest common divisor -/
def spCommon : Sp := fun vs H Q _ => ∃ (a b : Nat), vs = [.int a, .int b] ∧ ∀ H', Ex H H' → Q (.int (Nat.gcd a b : Nat)) H'
theorem ok_common (T : Txt K mg) {f : Addr} {fd : FuncData} (D : DefAt K mg "_law_common" sLCommon ["_law_one", "_law_other"] f fd) : FnOk P w K mg base CX0 1 f fd ["_law_one", "_law_other"] spCommon := by
  refine D.F.ok scLCommon (fun vs H Q E h => ?_) (fun cdv A outer s H vs Q E hr h => ?_)
  · obtain ⟨d, n, rfl, _⟩ := h
    rfl
  · obtain ⟨a, b, rfl, q⟩ := h
    refine ⟨_, pss_cons (ps_while PassesOwn.never (pt_cmpR op_ne (pv 1) pe_int (nomark _))
        (pss_one (ps_par (i := 0) (j := 1) (by rfl) scLCommon.nd rfl rfl (by decide) rfl rfl (pa_cons (pv 1) (pa_cons (pe_op op_mod (pv 0) (pv 1)) pa_nil)) (by rfl))))
      (pss_one (ps_ret (pv 0))), ?_⟩
    refine q_while (fun m σ' H' => ∃ x y : Nat, σ' = [some (.int x), some (.int y)] ∧ m = y ∧ Nat.gcd x y = Nat.gcd a b ∧ Ex H H') b ⟨a, b, rfl, rfl, rfl, Ex.refl _⟩ (fun m σ' H' hW => ?_)
    obtain ⟨x, y, rfl, rfl, hg, e1⟩ := hW
    refine ⟨_, et_test (ev_op (ev_var (v := .int (m : Int)) rfl) ev_c (rv_ne rfl)), fun hb H1 e2 => ?_, fun hb H1 e2 => ?_⟩
    · have hy : m ≠ 0 := fun z => by
        subst z
        exact absurd hb (by decide)
      have hm : (x : Int) % (m : Int) = ((x % m : Nat) : Int) := by simp
      refine ⟨fun σ2 H2 => σ2 = [some (.int m), some (.int ((x % m : Nat) : Int))] ∧ H2 = H1, fun σ2 H2 hN => ?_, ?_⟩
      · obtain ⟨rfl, rfl⟩ := hN
        refine ⟨x % m, Nat.mod_lt _ (by omega), m, x % m, rfl, rfl, ?_, e1.trans e2⟩
        rw [← hg, Nat.gcd_comm m (x % m), ← Nat.gcd_rec, Nat.gcd_comm]
      · refine ⟨_, rfl, _, rfl, _, rfl, (x : Int), (m : Int), rfl, rfl, by omega, _, _, rfl, ?_⟩
        refine ⟨?_, rfl⟩
        show [some (V.int (m : Int)), some (V.int ((x : Int) % (m : Int)))] = _
        rw [hm]
    · have hy : m = 0 := by
        by_cases z : m = 0
        · exact z
        · exfalso
          have : (!decide (V.int (m : Int) = V.int 0)) = true := by
            rw [decide_eq_false (fun q => z (by have := V.int.inj q; omega))]
            rfl
          rw [this] at hb
          cases hb
      subst hy
      refine ⟨_, rfl, ?_⟩
      rw [Nat.gcd_zero_right] at hg
      rw [hg]
      exact q _ (e1.trans e2)
/-- a drawn ring of one order -/
def spRingOf : Sp := fun vs H Q _ => ∃ (d : Addr) (k t : Int), vs = [.ref d, .int k, .int t] ∧ Dice H d ∧ 2 ≤ k ∧ k ≤ 100 ∧ 1 ≤ t ∧ t ≤ 1000 ∧ ∀ x n s H', RingAt H' (k * t) x n s → Dice H' d → Keep d H H' → Q x H'
theorem ok_ring_of (T : Txt K mg) {f : Addr} {fd : FuncData} (D : DefAt K mg "_law_ring_of" sLRingOf ["_law_dice_here", "_law_k", "_law_times"] f fd) : FnOk P w K mg base CX0 3 f fd ["_law_dice_here", "_law_k", "_law_times"] spRingOf := by
  refine D.F.ok scLRingOf (fun vs H Q E h => ?_) (fun cdv A outer s H vs Q E hr h => ?_)
  · obtain ⟨d, n, t, rfl, _⟩ := h
    rfl
  · obtain ⟨d, k, t, rfl, hd, h1, h2, h3, h4, q⟩ := h
    obtain ⟨f1, fd1, D1⟩ := T.d_l_roll
    obtain ⟨f2, fd2, D2⟩ := T.d_l_common
    obtain ⟨f3, fd3, D3⟩ := T.d_l_one_of
    have hr1 : Room 1 _ := hr.mono (by decide)
    refine ⟨_, pss_cons (ps_set (i := 3) scLRingOf.nd rfl (.inl rfl) (pe_op op_add pe_int (pe_call (ok_roll T D1) hr1 (by rfl) D1.g D1.F.kp D1.b .nil pass0 (pa_cons (pv 0) (pa_cons (pv 2) pa_nil)))))
      (pss_cons (ps_setLc (i := 4) (own := [("_law_one", 5)]) (g := gName 5) (by rfl) scLRingOf.nd rfl rfl (sw_true rfl rfl rfl (by decide +kernel)) (pi_range2 (by rfl) T.z_range (pa_cons pe_int (pa_cons (pv 1) pa_nil)))
        (blkOk_by (N := nLRingOf) (sc := defScope sLRingOf) (by decide +kernel)) (fun _ _ _ _ _ => pg_name (i := 5) scLRingOf.nd rfl (Or.inl rfl))
        (fun _ _ _ _ _ => pts_one (pt_cmpR op_eq (pe_call (ok_common T D2) hr1 (by rfl) D2.g D2.F.kp D2.b .nil pass0 (pa_cons (pv 1) (pa_cons (pv 5) pa_nil))) pe_int (nomark _))) (fun _ _ _ _ _ => pv 5))
      (pss_one (ps_ret (pe_tup (pa_cons (pe_op op_mul (pv 1) (pv 3)) (pa_cons (pe_op op_mul (pv 3) (pe_call (ok_one_of T D3) hr (by rfl) D3.g D3.F.kp D3.b .nil pass0 (pa_cons (pv 0) (pa_cons (pv 4) pa_nil)))) pa_nil)))))), ?_⟩
    refine ⟨.ref d, rfl, .int t, rfl, d, _, rfl, hd, by omega, by omega, fun r H1 r0 r1 hd1 k1 => ?_⟩
    refine ⟨1, r, rfl, rfl, .int k, rfl, 1, k, rfl, by omega, fun Dl hD => ?_⟩
    have ndl : d ≠ Dl := hd1.ne_new hD
    have hD0 : H Dl = none := k1.free ndl.symm hD
    refine lc_range (lo := 1) (n := (k - 1).toNat) (fun i H' => ∃ js : List Int, H' Dl = some (.lst (js.map V.int)) ∧ js.length ≤ i ∧ (∀ j ∈ js, 1 ≤ j ∧ j < k) ∧ (1 ≤ i → 1 ≤ js.length) ∧ Keep d H H' ∧ Dice H' d)
      ⟨[], upd_same, Nat.le_refl _, by simp, by omega, k1.trans (Keep.new hD), hd1.upd (hd1.ne_new hD)⟩ (fun i H' hi hp => ?_) (fun H' hp => ?_)
    · obtain ⟨js, a1, a2, a3, a4, a5, a6⟩ := hp
      refine ⟨rfl, .int k, rfl, .int (1 + (i : Int)), rfl, k.toNat, 1 + i, ?_, fun H2 e2 => ?_⟩
      · show [V.int k, V.int (1 + (i : Int))] = [V.int ((k.toNat : Nat) : Int), V.int (((1 + i : Nat)) : Int)]
        rw [show ((k.toNat : Nat) : Int) = k by omega, show (((1 + i : Nat)) : Int) = 1 + (i : Int) by omega]
      · refine ⟨rfl, _, rfl, ite2 (fun c => ?_) (fun c => ?_)⟩
        · refine ⟨_, rfl, js.map V.int, e2 _ _ a1, ?_, js ++ [1 + (i : Int)], ?_, ?_, ?_, ?_, ?_, ?_⟩
          · rw [List.length_map]
            exact small1000 (by omega)
          · rw [List.map_append]
            exact upd_same
          · rw [List.length_append]
            exact Nat.add_le_add_right a2 1
          · intro j hj
            rcases List.mem_append.mp hj with hj | hj
            · exact a3 j hj
            · have := List.mem_singleton.mp hj
              omega
          · intro _
            rw [List.length_append]
            exact Nat.le_add_left _ _
          · exact (a5.trans (Keep.ex e2)).mut hD0
          · exact (a6.ex e2).upd ndl
        · refine ⟨js, e2 _ _ a1, by omega, a3, fun _ => ?_, a5.trans (Keep.ex e2), a6.ex e2⟩
          by_cases z : i = 0
          · subst z
            refine absurd ?_ c
            rw [show k.toNat.gcd (1 + 0) = 1 from Nat.gcd_one_right k.toNat]
            rfl
          · exact a4 (by omega)
    · obtain ⟨js, a1, a2, a3, a4, a5, a6⟩ := hp
      have hl : 1 ≤ js.length := a4 (by omega)
      have hb : 1 ≤ 1 + r ∧ 1 + r ≤ t := by omega
      have hkm : k * (1 + r) ≤ k * t := Int.mul_le_mul_of_nonneg_left hb.2 (by omega)
      have hk2 : 2 ≤ k * (1 + r) := by
        have := Int.mul_le_mul_of_nonneg_left hb.1 (show (0 : Int) ≤ k by omega)
        omega
      refine ⟨.int k, rfl, .int (1 + r), rfl, k, 1 + r, rfl, rfl, .inl (by constructor <;> omega), .int (1 + r), rfl, .ref d, rfl, .ref Dl, rfl, d, Dl, _, rfl, a6, a1, ndl.symm, by rw [List.length_map]; exact hl, by rw [List.length_map]; omega, fun x H2 hx hd2 k2 => ?_⟩
      obtain ⟨j, hj, rfl⟩ := List.mem_map.mp hx
      obtain ⟨j1, j2⟩ := a3 j hj
      refine ⟨1 + r, j, rfl, rfl, .inl (by constructor <;> omega), by show 2 ≤ sizeLine; decide, fun p hp => ?_⟩
      have c1 : 1 ≤ (1 + r) * j := by
        have := Int.mul_le_mul_of_nonneg_left j1 (show (0 : Int) ≤ 1 + r by omega)
        omega
      have c2 : (1 + r) * j < k * (1 + r) := by
        rw [Int.mul_comm k (1 + r)]
        exact Int.mul_lt_mul_of_pos_left j2 (by omega)
      exact q _ _ _ _ ⟨p, rfl, upd_same, hk2, hkm, c1, c2⟩ (hd2.upd (hd2.ne_new hp)) ((a5.trans k2).trans (Keep.new hp))
end
end K1

namespace K1
open PySem PySem.Spec PyProof.Rows L2 Evl
/-! ### chains -/
theorem RingAt.keep {d : Addr} {H H' : Hp} {most n s : Int} {x : V} (e : Keep d H H') (h : Dice H d) (r : RingAt H most x n s) : RingAt H' most x n s := by
  obtain ⟨t, rfl, ht, q⟩ := r
  exact ⟨t, rfl, e.tup h ht, q⟩
theorem RingAt.ex {H H' : Hp} {most n s : Int} {x : V} (e : Ex H H') (r : RingAt H most x n s) : RingAt H' most x n s := by
  obtain ⟨t, rfl, ht, q⟩ := r
  exact ⟨t, rfl, e _ _ ht, q⟩
theorem RingAt.upd {H : Hp} {most n s : Int} {x : V} {p : Addr} {o : HO} (h : ∀ t, x = .ref t → t ≠ p) (r : RingAt H most x n s) : RingAt (upd H p o) most x n s := by
  obtain ⟨t, rfl, ht, q⟩ := r
  exact ⟨t, rfl, by rw [upd_ne (h t rfl)]; exact ht, q⟩
theorem RingAt.most {H : Hp} {m m' n s : Int} {x : V} (h : m ≤ m') (r : RingAt H m x n s) : RingAt H m' x n s := by
  obtain ⟨t, rfl, ht, q1, q2, q3, q4⟩ := r
  exact ⟨t, rfl, ht, q1, by omega, q3, q4⟩
/-- rings at values, one by one -/
abbrev RingsAt (H : Hp) (most : Int) (xs : List V) (rs : List (Int × Int)) : Prop := Paired (fun x (r : Int × Int) => RingAt H most x r.1 r.2) xs rs
theorem paired_snoc {α β : Type} {R : α → β → Prop} {x : α} {y : β} (h : R x y) : ∀ {xs : List α} {ys : List β}, Paired R xs ys → Paired R (xs ++ [x]) (ys ++ [y])
  | _, _, .nil => .cons h .nil
  | _, _, .cons r t => .cons r (paired_snoc h t)
theorem paired_imp {α β : Type} {R S : α → β → Prop} (h : ∀ x y, R x y → S x y) : ∀ {xs : List α} {ys : List β}, Paired R xs ys → Paired S xs ys
  | _, _, .nil => .nil
  | _, _, .cons r t => .cons (h _ _ r) (paired_imp h t)
theorem paired_append {α β : Type} {R : α → β → Prop} : ∀ {xs xs' : List α} {ys ys' : List β}, Paired R xs ys → Paired R xs' ys' → Paired R (xs ++ xs') (ys ++ ys')
  | _, _, _, _, .nil, s => s
  | _, _, _, _, .cons r t, s => .cons r (paired_append t s)
theorem paired_get {α β : Type} {R : α → β → Prop} : ∀ {xs : List α} {ys : List β} {i : Nat} {x : α}, Paired R xs ys → xs[i]? = some x → ∃ y, ys[i]? = some y ∧ R x y
  | _, _, _, _, .nil, e => by simp at e
  | _, _, 0, _, .cons r _, e => by simp at e; subst e; exact ⟨_, rfl, r⟩
  | _, _, i + 1, x, .cons _ t, e => by
    obtain ⟨u, h1, h2⟩ := paired_get (i := i) (x := x) t (by simpa using e)
    exact ⟨u, by simpa using h1, h2⟩
theorem paired_len {α β : Type} {R : α → β → Prop} {xs : List α} {ys : List β} (h : Paired R xs ys) : xs.length = ys.length := Paired.length h
section
variable {P : Program} {w : World} {K : PySem.W.Frag} {mg : Str → Option Value} {base : Heap}
def spChain : Sp := fun vs H Q _ => ∃ (d : Addr) (g most : Int), vs = [.ref d, .int g, .int most] ∧ Dice H d ∧ 1 ≤ g ∧ g ≤ 100 ∧ 2 ≤ most ∧ most ≤ 60 ∧
  ∀ p xs rs H', H' p = some (.tup xs) → RingsAt H' most xs rs → (xs.length : Int) = g → Dice H' d → Keep d H H' → Q (.ref p) H'
/-- what stands behind i rings of the list at D -/
def ChW (d Dl : Addr) (H : Hp) (most : Int) (i : Nat) (H' : Hp) : Prop := ∃ xs rs, H' Dl = some (.lst xs) ∧ RingsAt H' most xs rs ∧ xs.length = i ∧ Keep d H H' ∧ Dice H' d
theorem ChW.turn {d Dl : Addr} {H H' H2 : Hp} {most n s : Int} {x : V} {i : Nat} (W : ChW d Dl H most i H') (ndl : d ≠ Dl) (hD0 : H Dl = none) (k : Keep d H' H2) (hd : Dice H2 d) (r : RingAt H2 most x n s) (hi : i < 1000) :
    ∃ acc, H2 Dl = some (.lst acc) ∧ acc.length < sizeLine ∧ ChW d Dl H most (i + 1) (upd H2 Dl (.lst (acc ++ [x]))) := by
  obtain ⟨xs, rs, a1, a2, a3, a4, a5⟩ := W
  have e1 : H2 Dl = some (.lst xs) := k _ _ ndl.symm a1
  have nt : ∀ {y : V} {n s : Int}, RingAt H2 most y n s → RingAt (upd H2 Dl (.lst (xs ++ [x]))) most y n s := fun {y n s} q => q.upd fun t ht => by
    obtain ⟨t', rfl, ht', _⟩ := q
    cases ht
    exact ne_of ht' e1 (by intro z; cases z)
  refine ⟨xs, e1, small1000 (by omega), xs ++ [x], rs ++ [(n, s)], upd_same, paired_snoc (R := fun x (r : Int × Int) => RingAt (upd H2 Dl (.lst (xs ++ [_]))) most x r.1 r.2) (y := (n, s)) (nt r) (paired_imp (R := fun x (r : Int × Int) => RingAt H' most x r.1 r.2) (fun y r' q => nt (q.keep k a5)) a2), ?_, (a4.trans k).mut hD0, hd.upd ndl⟩
  rw [List.length_append, a3]
  rfl
theorem ok_chain (T : Txt K mg) {f : Addr} {fd : FuncData} (D : DefAt K mg "_law_chain" sLChain ["_law_dice_here", "_law_rings", "_law_most"] f fd) : FnOk P w K mg base CX0 4 f fd ["_law_dice_here", "_law_rings", "_law_most"] spChain := by
  refine D.F.ok scLChain (fun vs H Q E h => ?_) (fun cdv A outer s H vs Q E hr h => ?_)
  · obtain ⟨d, n, t, rfl, _⟩ := h
    rfl
  · obtain ⟨d, g, most, rfl, hd, h1, h2, h3, h4, q⟩ := h
    obtain ⟨f1, fd1, D1⟩ := T.d_l_roll
    obtain ⟨f2, fd2, D2⟩ := T.d_l_ring_of
    obtain ⟨f3, fd3, D3⟩ := T.d_l_ring
    have hr1 : Room 1 _ := hr.mono (by decide)
    have hr2 : Room 2 _ := hr.mono (by decide)
    refine ⟨_, pss_cons (ps_if (pt_cmpR op_eq (pe_call (ok_roll T D1) hr1 (by rfl) D1.g D1.F.kp D1.b .nil pass0 (pa_cons (pv 0) (pa_cons pe_int pa_nil))) pe_int (nomark _))
        (pss_cons (ps_set (i := 3) scLChain.nd rfl (.inr rfl) (pe_op op_add pe_int (pe_call (ok_roll T D1) hr1 (by rfl) D1.g D1.F.kp D1.b .nil pass0 (pa_cons (pv 0) (pa_cons (pe_callB (call_min2 rfl) (by rfl) T.z_min (by decide +kernel) (pa_cons pe_int (pa_cons (pe_op op_sub (pv 2) pe_int) pa_nil))) pa_nil)))))
        (pss_one (ps_ret (pe_callTy call_tuple_of (by rfl) T.z_tuple (by decide +kernel) (pa_cons (pe_lc (own := [("_law_turn", 4)]) (g := gName 4) (tt := tYes) rfl scLChain.nd (pi_range1 (by rfl) T.z_range (pa_cons (pv 1) pa_nil))
          (blkOk_by (N := nLChain) (sc := defScope sLChain) (by decide +kernel)) (fun _ _ _ _ _ => pg_name (i := 4) scLChain.nd rfl (Or.inl rfl)) (fun _ _ _ _ _ => pts_nil)
          (fun _ _ _ _ _ => pe_call (ok_ring_of T D2) hr (by rfl) D2.g D2.F.kp D2.b .nil pass0 (pa_cons (pv 0) (pa_cons (pv 3) (pa_cons (pe_op op_fdiv (pv 2) (pv 3)) pa_nil))))) pa_nil))))) pss_nil)
      (pss_one (ps_ret (pe_callTy call_tuple_of (by rfl) T.z_tuple (by decide +kernel) (pa_cons (pe_lc (own := [("_law_turn", 4)]) (g := gName 4) (tt := tYes) rfl scLChain.nd (pi_range1 (by rfl) T.z_range (pa_cons (pv 1) pa_nil))
          (blkOk_by (N := nLChain) (sc := defScope sLChain) (by decide +kernel)) (fun _ _ _ _ _ => pg_name (i := 4) scLChain.nd rfl (Or.inl rfl)) (fun _ _ _ _ _ => pts_nil)
          (fun _ _ _ _ _ => pe_call (ok_ring T D3) hr2 (by rfl) D3.g D3.F.kp D3.b .nil pass0 (pa_cons (pv 0) (pa_cons (pv 2) pa_nil)))) pa_nil)))), ?_⟩
    refine ⟨.ref d, rfl, d, 3, rfl, hd, by omega, by omega, fun r H1 r0 r1 hd1 k1 => ?_⟩
    refine ⟨rfl, _, rfl, ite2 (fun c => ?_) (fun c => ?_)⟩
    · refine ⟨.ref d, rfl, .int most, rfl, most, 1, rfl, rfl, 3, most - 1, rfl, d, _, rfl, hd1, ?_, ?_, fun r' H2 r0' r1' hd2 k2 => ?_⟩
      · split <;> omega
      · split <;> omega
      have hk : 2 + r' ≤ most ∧ 2 + r' ≤ 4 := by
        split at r1' <;> omega
      refine ⟨2, r', rfl, rfl, .int g, rfl, g, rfl, by omega, by omega, fun Dl hD => ?_⟩
      have ndl : d ≠ Dl := hd2.ne_new hD
      have k12 := k1.trans k2
      have hD0 : H Dl = none := k12.free ndl.symm hD
      refine lc_range (lo := 0) (n := g.toNat) (ChW d Dl H most) ⟨[], [], upd_same, .nil, rfl, k12.trans (Keep.new hD), hd2.upd ndl⟩ (fun i H' hi W => ?_) (fun H' W => ?_)
      · have hd' := W.choose_spec.choose_spec.2.2.2.2
        have hq : 1 ≤ most / (2 + r') := Int.le_ediv_of_mul_le (by omega) (by omega)
        have hq2 : most / (2 + r') ≤ most := Int.ediv_le_self _ (by omega)
        have hq3 : (2 + r') * (most / (2 + r')) ≤ most := Int.mul_ediv_self_le (by omega)
        refine ⟨rfl, ?_⟩
        dsimp only [tYes]
        rw [if_pos rfl]
        refine ⟨.ref d, rfl, .int (2 + r'), rfl, .int most, rfl, .int (2 + r'), rfl, most, 2 + r', rfl, rfl, ⟨by omega, by omega⟩, d, 2 + r', most / (2 + r'), rfl, hd', by omega, by omega, hq, by omega, fun x n s H3 hx hd3 k3 => ?_⟩
        exact W.turn ndl hD0 k3 hd3 (hx.most hq3) (by omega)
      · obtain ⟨xs, rs, a1, a2, a3, a4, a5⟩ := W
        refine ⟨Dl, xs, rfl, .inl ⟨SqL.of a1, fun p hp => q p xs rs _ upd_same (paired_imp (fun y r' z => RingAt.ex (.new hp) z) a2) (by omega) (a5.upd (a5.ne_new hp)) (a4.trans (Keep.new hp))⟩⟩
    · refine ⟨.int g, rfl, g, rfl, by omega, by omega, fun Dl hD => ?_⟩
      have ndl : d ≠ Dl := hd1.ne_new hD
      have hD0 : H Dl = none := k1.free ndl.symm hD
      refine lc_range (lo := 0) (n := g.toNat) (ChW d Dl H most) ⟨[], [], upd_same, .nil, rfl, k1.trans (Keep.new hD), hd1.upd ndl⟩ (fun i H' hi W => ?_) (fun H' W => ?_)
      · have hd' := W.choose_spec.choose_spec.2.2.2.2
        refine ⟨rfl, ?_⟩
        dsimp only [tYes]
        rw [if_pos rfl]
        refine ⟨.ref d, rfl, .int most, rfl, d, most, rfl, hd', by omega, by omega, fun x n s H3 hx hd3 k3 => ?_⟩
        exact W.turn ndl hD0 k3 hd3 hx (by omega)
      · obtain ⟨xs, rs, a1, a2, a3, a4, a5⟩ := W
        refine ⟨Dl, xs, rfl, .inl ⟨SqL.of a1, fun p hp => q p xs rs _ upd_same (paired_imp (fun y r' z => RingAt.ex (.new hp) z) a2) (by omega) (a5.upd (a5.ne_new hp)) (a4.trans (Keep.new hp))⟩⟩
end
end K1

namespace K1
open PySem PySem.Spec PyProof.Rows L2 Evl
/-! ### judges of rings and chains -/
/-- no tuple -/
inductive NotTup (K : PySem.W.Frag) (H : Hp) : V → Prop where
  | bl (b : Bool) : NotTup K H (.bl b)
  | non : NotTup K H .non
  | int (i : Int) : NotTup K H (.int i)
  | str (x : Str) : NotTup K H (.str x)
  | lst {a : Addr} {xs : List V} (e : H a = some (.lst xs)) : NotTup K H (.ref a)
  | dK {a : Addr} {kvs : List (Key × V)} (e : H a = some (.dK kvs)) : NotTup K H (.ref a)
theorem NotTup.ty {K : PySem.W.Frag} {H : Hp} {x : V} (h : NotTup K H x) : ∃ t : Value, TyX K H x t ∧ PySem.W.kitOne K t (.type "tuple") = some false := by
  cases h with
  | bl b => exact ⟨_, .base (.bl b), (kit_ty (by decide +kernel))⟩
  | non => exact ⟨_, .base .non, (kit_ty (by decide +kernel))⟩
  | int x => exact ⟨_, .base (.int x), (kit_ty (by decide +kernel))⟩
  | str x => exact ⟨_, .base (.str x), (kit_ty (by decide +kernel))⟩
  | lst e => exact ⟨_, .base (.lst e), (kit_ty (by decide +kernel))⟩
  | dK e => exact ⟨_, .base (.dK e), (kit_ty (by decide +kernel))⟩
theorem NotTup.mono {K : PySem.W.Frag} {H H' : Hp} {x : V} (e : Ex H H') (h : NotTup K H x) : NotTup K H' x := by
  cases h with
  | bl b => exact .bl b
  | non => exact .non
  | int x => exact .int x
  | str x => exact .str x
  | lst q => exact .lst (e _ _ q)
  | dK q => exact .dK (e _ _ q)
theorem BtwB.mono {K : PySem.W.Frag} {H H' : Hp} {lo hi : Int} {x : V} {b : Bool} (e : Ex H H') (h : BtwB K H lo hi x b) : BtwB K H' lo hi x b := by
  cases h with
  | int i => exact .int i
  | no h => exact .no (h.mono e)
theorem BtwB.yes {K : PySem.W.Frag} {H : Hp} {lo hi i : Int} (h1 : lo ≤ i) (h2 : i ≤ hi) (h3 : -(10 ^ 60) < i) (h4 : i < 10 ^ 60) : BtwB K H lo hi (.int i) true := by
  have := BtwB.int (K := K) (H := H) (lo := lo) (hi := hi) i
  rw [decide_eq_true h1, decide_eq_true h2, decide_eq_true h3, decide_eq_true h4] at this
  exact this
theorem BtwB.out {K : PySem.W.Frag} {H : Hp} {lo hi i : Int} (h1 : ¬ (lo ≤ i ∧ i ≤ hi)) : BtwB K H lo hi (.int i) false := by
  have := BtwB.int (K := K) (H := H) (lo := lo) (hi := hi) i
  have e : (decide (lo ≤ i) && decide (i ≤ hi)) = false := by
    by_cases c : lo ≤ i
    · have c2 : ¬ i ≤ hi := fun z => h1 ⟨c, z⟩
      rw [decide_eq_false c2, Bool.and_false]
    · rw [decide_eq_false c, Bool.false_and]
  rw [e, Bool.and_false] at this
  exact this
inductive PairB (K : PySem.W.Frag) (H : Hp) : V → Bool → Prop where
  | no {x : V} (h : NotTup K H x) : PairB K H x false
  | tup {a : Addr} {xs : List V} (e : H a = some (.tup xs)) : PairB K H (.ref a) (decide (xs.length = 2))
inductive RingB (K : PySem.W.Frag) (H : Hp) : V → Bool → Prop where
  | no {x : V} (h : NotTup K H x) : RingB K H x false
  | len {a : Addr} {xs : List V} (e : H a = some (.tup xs)) (h : xs.length ≠ 2) : RingB K H (.ref a) false
  | first {a : Addr} {x y : V} (e : H a = some (.tup [x, y])) (h : BtwB K H 2 60 x false) : RingB K H (.ref a) false
  | both {a : Addr} {n : Int} {y : V} {b : Bool} (e : H a = some (.tup [.int n, y])) (h1 : 2 ≤ n) (h2 : n ≤ 60) (h : BtwB K H 1 (n - 1) y b) : RingB K H (.ref a) b
theorem RingB.mono {K : PySem.W.Frag} {H H' : Hp} {x : V} {b : Bool} (e : Ex H H') (h : RingB K H x b) : RingB K H' x b := by
  cases h with
  | no h => exact .no (h.mono e)
  | len q h => exact .len (e _ _ q) h
  | first q h => exact .first (e _ _ q) (h.mono e)
  | both q h1 h2 h => exact .both (e _ _ q) h1 h2 (h.mono e)
inductive ChainB (K : PySem.W.Frag) (H : Hp) : V → Bool → Prop where
  | no {x : V} (h : NotTup K H x) : ChainB K H x false
  | len {a : Addr} {xs : List V} (e : H a = some (.tup xs)) (h : ¬ (1 ≤ xs.length ∧ xs.length ≤ 12)) : ChainB K H (.ref a) false
  | tup {a : Addr} {xs : List V} {bs : List Bool} (e : H a = some (.tup xs)) (h : 1 ≤ xs.length ∧ xs.length ≤ 12) (hb : Paired (RingB K H) xs bs) : ChainB K H (.ref a) (bs.all id)
theorem RingAt.ring {K : PySem.W.Frag} {H : Hp} {most n s : Int} {x : V} (h : RingAt H most x n s) (hm : most ≤ 60) : RingB K H x true := by
  obtain ⟨t, rfl, ht, h1, h2, h3, h4⟩ := h
  exact .both ht h1 (by omega) (.yes h3 (by omega) (by omega) (by omega))
section
variable {P : Program} {w : World} {K : PySem.W.Frag} {mg : Str → Option Value} {base : Heap}
def spIsPair (K : PySem.W.Frag) : Sp := fun vs H Q _ => ∃ x b, vs = [x] ∧ PairB K H x b ∧ ∀ H', Ex H H' → Q (.bl b) H'
theorem ok_is_pair (T : Txt K mg) {f : Addr} {fd : FuncData} (D : DefAt K mg "is_pair" sIsPair ["value"] f fd) : FnOk P w K mg base CX0 1 f fd ["value"] (spIsPair K) := by
  refine D.F.ok scIsPair (fun vs H Q E h => ?_) (fun cdv A outer s H vs Q E hr h => ?_)
  · obtain ⟨x, b, rfl, _⟩ := h
    rfl
  · obtain ⟨x, b, rfl, hb, q⟩ := h
    refine ⟨_, pss_one (ps_ret (pe_and (pe_callB call_isi (by rfl) T.z_isinstance (by decide +kernel) (pa_cons (pv 0) (pa_cons (pe_bltn (v := .ty "tuple") (by rfl) T.z_tuple (by decide +kernel) rfl) pa_nil)))
      (pe_one (pe_cmpR op_eq (pe_callB call_len (by rfl) T.z_len PySem.boot_len (pa_cons (pv 0) pa_nil)) pe_int (nomark _))))), ?_⟩
    cases hb with
    | no hn =>
      obtain ⟨t, ty, h⟩ := hn.ty
      exact ⟨x, rfl, x, .ty "tuple", t, .type "tuple", false, rfl, .ty _, ty, h, false, rfl, iteF (q _ (Ex.refl _))⟩
    | @tup a xs e =>
      refine ⟨_, rfl, .ref a, .ty "tuple", .type "tuple", .type "tuple", true, rfl, .ty _, .base (.tup e), kit_ty (by decide +kernel), true, rfl, iteT ?_⟩
      refine ⟨_, rfl, _, xs.length, rfl, .inr ⟨_, SqT.of e, rfl⟩, rfl, ?_⟩
      have e2 : decide (V.int (xs.length : Int) = V.int 2) = decide (xs.length = 2) := by
        by_cases c : xs.length = 2
        · rw [c]
          rfl
        · rw [decide_eq_false c, decide_eq_false (fun z => c (by have := V.int.inj z; omega))]
      rw [e2]
      exact q _ (Ex.refl _)
def spIsRing (K : PySem.W.Frag) : Sp := fun vs H Q _ => ∃ x b, vs = [x] ∧ RingB K H x b ∧ ∀ H', Ex H H' → Q (.bl b) H'
theorem ok_is_ring (T : Txt K mg) {f : Addr} {fd : FuncData} (D : DefAt K mg "is_ring" sIsRing ["value"] f fd) : FnOk P w K mg base CX0 3 f fd ["value"] (spIsRing K) := by
  refine D.F.ok scIsRing (fun vs H Q E h => ?_) (fun cdv A outer s H vs Q E hr h => ?_)
  · obtain ⟨x, b, rfl, _⟩ := h
    rfl
  · obtain ⟨x, b, rfl, hb, q⟩ := h
    obtain ⟨f1, fd1, D1⟩ := T.d_is_pair
    obtain ⟨f2, fd2, D2⟩ := T.d_is_between
    obtain ⟨tM, vM⟩ := T.v_PLACES
    have hr1 : Room 1 _ := hr.mono (by decide)
    refine ⟨_, pss_cons (ps_if (pt_not (pt_val (pe_call (ok_is_pair T D1) hr1 (by rfl) D1.g D1.F.kp D1.b .nil pass0 (pa_cons (pv 0) pa_nil)))) (pss_one (ps_ret pe_bl)) pss_nil)
      (pss_cons (ps_asg (pv 0) (pg_tup (by rfl) (pgs_cons (pg_name (i := 1) scIsRing.nd rfl (.inl rfl)) (pgs_cons (pg_name (i := 2) scIsRing.nd rfl (.inl rfl)) pgs_nil))))
      (pss_one (ps_ret (pe_and (pe_call (ok_is_between T D2) hr (by rfl) D2.g D2.F.kp D2.b .nil pass0 (pa_cons (pv 1) (pa_cons pe_int (pa_cons (pe_glob (v := .int 60) rfl vM ⟨_, rfl⟩) pa_nil))))
        (pe_one (pe_call (ok_is_between T D2) hr (by rfl) D2.g D2.F.kp D2.b .nil pass0 (pa_cons (pv 2) (pa_cons pe_int (pa_cons (pe_op op_sub (pv 1) pe_int) pa_nil))))))))), ?_⟩
    cases hb with
    | no h => exact ⟨x, rfl, x, false, rfl, .no h, fun H1 e1 => ⟨false, rfl, iteT (q _ e1)⟩⟩
    | @len a xs e h => exact ⟨_, rfl, .ref a, false, rfl, by have := PairB.tup (K := K) e; rw [decide_eq_false h] at this; exact this, fun H1 e1 => ⟨false, rfl, iteT (q _ e1)⟩⟩
    | @first a x y e h =>
      refine ⟨_, rfl, .ref a, true, rfl, .tup e, fun H1 e1 => ⟨true, rfl, iteF ?_⟩⟩
      refine ⟨_, rfl, a, [x, y], rfl, SqT.of (e1 _ _ e), rfl, x, [y], rfl, y, [], rfl, rfl, ?_⟩
      exact ⟨x, rfl, x, 2, 60, false, rfl, h.mono e1, fun H2 e2 => ⟨false, rfl, iteF (q _ (e1.trans e2))⟩⟩
    | @both a n y b e h1 h2 h =>
      refine ⟨_, rfl, .ref a, true, rfl, .tup e, fun H1 e1 => ⟨true, rfl, iteF ?_⟩⟩
      refine ⟨_, rfl, a, [.int n, y], rfl, SqT.of (e1 _ _ e), rfl, .int n, [y], rfl, y, [], rfl, rfl, ?_⟩
      refine ⟨.int n, rfl, .int n, 2, 60, true, rfl, .yes h1 h2 (by omega) (by omega), fun H2 e2 => ⟨true, rfl, iteT ?_⟩⟩
      exact ⟨y, rfl, .int n, rfl, n, 1, rfl, rfl, y, 1, n - 1, b, rfl, h.mono (e1.trans e2), fun H3 e3 => q _ ((e1.trans e2).trans e3)⟩
def spIsChain (K : PySem.W.Frag) : Sp := fun vs H Q _ => ∃ x b, vs = [x] ∧ ChainB K H x b ∧ ∀ H', Ex H H' → Q (.bl b) H'
theorem ok_is_chain (T : Txt K mg) {f : Addr} {fd : FuncData} (D : DefAt K mg "is_chain" sIsChain ["value"] f fd) : FnOk P w K mg base CX0 4 f fd ["value"] (spIsChain K) := by
  refine D.F.ok scIsChain (fun vs H Q E h => ?_) (fun cdv A outer s H vs Q E hr h => ?_)
  · obtain ⟨x, b, rfl, _⟩ := h
    rfl
  · obtain ⟨x, b, rfl, hb, q⟩ := h
    obtain ⟨f1, fd1, D1⟩ := T.d_is_ring
    obtain ⟨tM, vM⟩ := T.v_RINGS
    refine ⟨_, pss_cons (ps_if (PW.pt (pw_or (pt_not (pt_val (pe_callB call_isi (by rfl) T.z_isinstance (by decide +kernel) (pa_cons (pv 0) (pa_cons (pe_bltn (v := .ty "tuple") (by rfl) T.z_tuple (by decide +kernel) rfl) pa_nil)))))
        (pw_or1 (pt_not (pt_chain op_le op_le pe_int (pe_callB call_len (by rfl) T.z_len PySem.boot_len (pa_cons (pv 0) pa_nil)) (pe_glob (v := .int 12) rfl vM ⟨_, rfl⟩)))))) (pss_one (ps_ret pe_bl)) pss_nil)
      (pss_one (ps_ret (pe_callB (cr_all rfl) (by rfl) T.z_all (by decide +kernel) (pa_cons (pe_lc (own := [("ring", 1)]) (g := gName 1) (tt := tYes) rfl scIsChain.nd (pi_tup (pv 0))
          (blkOk_by (N := nIsChain) (sc := defScope sIsChain) (by decide +kernel)) (fun _ _ _ _ _ => pg_name (i := 1) scIsChain.nd rfl (Or.inl rfl)) (fun _ _ _ _ _ => pts_nil)
          (fun _ _ _ _ _ => pe_call (ok_is_ring T D1) hr (by rfl) D1.g D1.F.kp D1.b .nil pass0 (pa_cons (pv 1) pa_nil))) pa_nil)))), ?_⟩
    cases hb with
    | no hn =>
      obtain ⟨t, ty, h⟩ := hn.ty
      exact ⟨x, rfl, x, .ty "tuple", t, .type "tuple", false, rfl, .ty _, ty, h, false, rfl, iteT (iteT (q _ (Ex.refl _)))⟩
    | @len a xs e h =>
      refine ⟨_, rfl, .ref a, .ty "tuple", .type "tuple", .type "tuple", true, rfl, .ty _, .base (.tup e), kit_ty (by decide +kernel), true, rfl, iteF ?_⟩
      refine ⟨_, rfl, _, xs.length, rfl, .inr ⟨_, SqT.of e, rfl⟩, _, _, rfl, rfl, _, rfl, ite2 (fun c => ?_) (fun c => ?_)⟩
      · refine ⟨_, _, rfl, rfl, _, rfl, ?_⟩
        have c2 : ¬ ((xs.length : Int) ≤ 12) := fun z => h ⟨by have : (1 : Int) ≤ (xs.length : Int) := of_decide_eq_true c; omega, by omega⟩
        rw [decide_eq_false c2]
        exact iteT (q _ (Ex.refl _))
      · exact ⟨_, rfl, iteT (q _ (Ex.refl _))⟩
    | @tup a xs bs e h hb =>
      refine ⟨_, rfl, .ref a, .ty "tuple", .type "tuple", .type "tuple", true, rfl, .ty _, .base (.tup e), kit_ty (by decide +kernel), true, rfl, iteF ?_⟩
      refine ⟨_, rfl, _, xs.length, rfl, .inr ⟨_, SqT.of e, rfl⟩, _, _, rfl, rfl, _, rfl, ite2 (fun c => ?_) (fun c => ?_)⟩
      · refine ⟨_, _, rfl, rfl, _, rfl, ?_⟩
        rw [decide_eq_true (show (xs.length : Int) ≤ 12 by omega)]
        refine iteF ?_
        refine ⟨_, rfl, a, rfl, ⟨_, SqT.of e⟩, fun Dl hD => ?_⟩
        refine lc_tup (K := K) (a := a) (xs := xs) (fun i H' => H' Dl = some (.lst ((bs.take i).map V.bl)) ∧ Ex H H') ⟨upd_same, Ex.new hD⟩ (fun i H' _ hp => SqT.of (hp.2 _ _ e)) (fun i x H' hx hp => ?_) (fun H' hp => ?_)
        · obtain ⟨y, hy, hR⟩ := paired_get hb hx
          refine ⟨rfl, ?_⟩
          dsimp only [tYes]
          rw [if_pos rfl]
          refine ⟨x, rfl, x, y, rfl, hR.mono hp.2, fun H2 e2 => ⟨_, e2 _ _ hp.1, ?_, ?_, ?_⟩⟩
          · have := (List.getElem?_eq_some_iff.mp hx).1
            rw [List.length_map, List.length_take]
            exact small1000 (Nat.le_trans (Nat.min_le_left _ _) (by omega))
          · rw [upd_same, List.take_add_one, hy, List.map_append]
            rfl
          · exact Ex.mut (hp.2.trans e2) hD
        · refine ⟨Dl, bs, rfl, ?_, q _ hp.2⟩
          have e3 : bs.take xs.length = bs := List.take_of_length_le (by rw [paired_len hb]; exact Nat.le_refl _)
          have h1 := hp.1
          rw [e3] at h1
          exact SqL.of h1
      · exact absurd (decide_eq_true (show (1 : Int) ≤ (xs.length : Int) by omega)) c
end
end K1

namespace K1
open PySem PySem.Spec PyProof.Rows L2 Evl
/-! ### orders and diagonals -/
section
variable {P : Program} {w : World} {K : PySem.W.Frag} {mg : Str → Option Value} {base : Heap}
def spCheckInteger (K : PySem.W.Frag) : Sp := fun vs H Q _ => ∃ i : Int, vs = [.int i] ∧ -(10 ^ 60) < i ∧ i < 10 ^ 60 ∧ ∀ H', Ex H H' → Q .non H'
def spCheckRing (K : PySem.W.Frag) : Sp := fun vs H Q _ => ∃ x, vs = [x] ∧ RingB K H x true ∧ ∀ H', Ex H H' → Q .non H'
def spCheckChain (K : PySem.W.Frag) : Sp := fun vs H Q _ => ∃ x, vs = [x] ∧ ChainB K H x true ∧ ∀ H', Ex H H' → Q .non H'
theorem ok_check_chain (T : Txt K mg) {f : Addr} {fd : FuncData} (D : DefAt K mg "check_chain" sCheckChain ["chain"] f fd) : FnOk P w K mg base CX0 5 f fd ["chain"] (spCheckChain K) := by
  refine D.F.ok scCheckChain (fun vs H Q E h => ?_) (fun cdv A outer s H vs Q E hr h => ?_)
  · obtain ⟨x, rfl, _⟩ := h
    rfl
  · obtain ⟨x, rfl, hb, q⟩ := h
    obtain ⟨f1, fd1, D1⟩ := T.d_is_chain
    refine ⟨_, pss_one (ps_if (pt_not (pt_val (pe_call (ok_is_chain T D1) hr (by rfl) D1.g D1.F.kp D1.b .nil pass0 (pa_cons (pv 0) pa_nil)))) pss_never pss_nil), ?_⟩
    exact ⟨_, rfl, x, true, rfl, hb, fun H1 e1 => ⟨true, rfl, iteF (q _ e1)⟩⟩
def spLets : Sp := fun vs H Q _ => ∃ x n s p c, vs = [x, .int p, .int c] ∧ RingAt H 60 x n s ∧ ∀ H', Ex H H' → Q (.bl (decide ((c * s - p) % n = 0))) H'
theorem ok_lets (T : Txt K mg) {f : Addr} {fd : FuncData} (D : DefAt K mg "lets" sLets ["ring", "place", "diagonal"] f fd) : FnOk P w K mg base CX0 1 f fd ["ring", "place", "diagonal"] spLets := by
  refine D.F.ok scLets (fun vs H Q E h => ?_) (fun cdv A outer s H vs Q E hr h => ?_)
  · obtain ⟨x, n, s, p, c, rfl, _⟩ := h
    rfl
  · obtain ⟨x, n, s, p, c, rfl, hx, q⟩ := h
    refine ⟨_, pss_one (ps_ret (pe_cmpR op_eq (pe_op op_mod (pe_op op_sub (pe_op op_mul (pv 2) (pe_ix ix_tup (pv 0) pe_int (fun _ _ => rfl))) (pv 1)) (pe_ix ix_tup (pv 0) pe_int (fun _ _ => rfl))) pe_int (nomark _))), ?_⟩
    obtain ⟨t, rfl, ht, h1, h2, h3, h4⟩ := hx
    have ht1 := SqT.of (K := K) ht
    refine ⟨_, rfl, _, rfl, t, _, 1, .int s, rfl, rfl, ht1, rfl, c, s, rfl, rfl, .inr (by constructor <;> omega), _, rfl, _, _, rfl, rfl, _, rfl, t, _, 0, .int n, rfl, rfl, ht1, rfl, _, n, rfl, rfl, by omega, rfl, ?_⟩
    have e : decide (V.int ((c * s - p) % n) = V.int 0) = decide ((c * s - p) % n = 0) := by
      by_cases z : (c * s - p) % n = 0
      · rw [z]
        rfl
      · rw [decide_eq_false z, decide_eq_false (fun y => z (V.int.inj y))]
    show Q (V.bl (decide (V.int ((c * s - p) % n) = V.int 0))) H
    rw [e]
    exact q _ (Ex.refl _)
def spDoesLet : Sp := fun vs H Q _ => ∃ x n s p c, vs = [x, .int p, .int c] ∧ RingAt H 60 x n s ∧ 0 ≤ p ∧ p < n ∧ -(10 ^ 60) < c ∧ c < 10 ^ 60 ∧ ∀ H', Ex H H' → Q (.bl (decide ((c * s) % n = p))) H'
end
end K1

/-! plain mathematics of heaps: heights of columns that do not ascend -/
namespace HM
def hAt (h : List Nat) (c : Nat) : Nat := h.getD c 0
theorem hAt_lt {h : List Nat} {c : Nat} (hc : c < h.length) : h[c]? = some (hAt h c) := by
  unfold hAt
  rw [List.getD_eq_getElem?_getD, List.getElem?_eq_getElem hc]
  rfl
theorem hAt_ge {h : List Nat} {c : Nat} (hc : h.length ≤ c) : hAt h c = 0 := by
  unfold hAt
  rw [List.getD_eq_getElem?_getD, List.getElem?_eq_none hc]
  rfl
structure IsHeap (h : List Nat) : Prop where
  pos : ∀ c, c < h.length → 0 < hAt h c
  fall : ∀ c, hAt h (c + 1) ≤ hAt h c
theorem IsHeap.nil : IsHeap [] := ⟨fun c hc => absurd hc (Nat.not_lt_zero c), fun c => by rw [hAt_ge (Nat.zero_le _), hAt_ge (Nat.zero_le _)]; exact Nat.le_refl _⟩
theorem IsHeap.le {h : List Nat} (H : IsHeap h) {c : Nat} : ∀ {d : Nat}, c ≤ d → hAt h d ≤ hAt h c
  | 0, hd => by
    have : c = 0 := by omega
    rw [this]
    exact Nat.le_refl _
  | d + 1, hd => by
    by_cases e : c = d + 1
    · rw [e]
      exact Nat.le_refl _
    · exact Nat.le_trans (H.fall d) (H.le (by omega))
/-- two heaps with the same heights are one -/
theorem heap_ext {h h' : List Nat} (H : IsHeap h) (H' : IsHeap h') (e : ∀ c, hAt h c = hAt h' c) : h = h' := by
  have l : h.length = h'.length := by
    rcases Nat.lt_trichotomy h.length h'.length with q | q | q
    · have a := H'.pos _ q
      rw [← e, hAt_ge (Nat.le_refl _)] at a
      omega
    · exact q
    · have a := H.pos _ q
      rw [e, hAt_ge (Nat.le_refl _)] at a
      omega
  refine List.ext_getElem? fun c => ?_
  by_cases hc : c < h.length
  · rw [hAt_lt hc, hAt_lt (by omega), e]
  · rw [List.getElem?_eq_none (by omega), List.getElem?_eq_none (by omega)]
/-- a square can be added on top of the column -/
def opn (h : List Nat) (c : Nat) : Bool := decide (c = 0) || decide (hAt h c < hAt h (c - 1))
theorem opn_le {h : List Nat} {c : Nat} (o : opn h c = true) : c ≤ h.length := by
  unfold opn at o
  by_cases hc : c ≤ h.length
  · exact hc
  · rw [decide_eq_false (show ¬ c = 0 by omega), hAt_ge (show h.length ≤ c by omega), hAt_ge (show h.length ≤ c - 1 by omega)] at o
    exact absurd o (by decide)
theorem opn_lt {h : List Nat} {c : Nat} (o : opn h (c + 1) = true) : hAt h (c + 1) < hAt h c := by
  unfold opn at o
  rw [decide_eq_false (show ¬ c + 1 = 0 by omega), Bool.false_or] at o
  exact of_decide_eq_true o
def b2n (b : Bool) : Nat := if b = true then 1 else 0
theorem b2n_le (b : Bool) : b2n b ≤ 1 := by cases b <;> decide
def grow (h : List Nat) (g : Nat → Bool) : List Nat := (List.range h.length).map (fun c => hAt h c + b2n (g c)) ++ (if g h.length = true then [1] else [])
theorem grow_len (h : List Nat) (g : Nat → Bool) : (grow h g).length = h.length + b2n (g h.length) := by
  unfold grow b2n
  rw [List.length_append, List.length_map, List.length_range]
  split <;> rfl
theorem hAt_grow {h : List Nat} {g : Nat → Bool} (hg : ∀ c, g c = true → opn h c = true) (c : Nat) : hAt (grow h g) c = hAt h c + b2n (g c) := by
  unfold hAt
  rw [List.getD_eq_getElem?_getD, List.getD_eq_getElem?_getD]
  unfold grow
  by_cases hc : c < h.length
  · rw [List.getElem?_append_left (by rw [List.length_map, List.length_range]; exact hc), List.getElem?_map, List.getElem?_range hc, hAt_lt hc]
    rfl
  · rw [List.getElem?_append_right (by rw [List.length_map, List.length_range]; omega), List.length_map, List.length_range, List.getElem?_eq_none (show h.length ≤ c by omega)]
    by_cases e : c = h.length
    · subst e
      rw [Nat.sub_self]
      unfold b2n
      by_cases q : g h.length = true
      · rw [if_pos q, if_pos q]
        rfl
      · rw [if_neg q, if_neg q]
        rfl
    · have q : g c = false := by
        cases q : g c with
        | false => rfl
        | true => exact absurd (opn_le (hg c q)) (by omega)
      rw [q]
      have l : (if g h.length = true then [1] else []).length ≤ 1 := by split <;> decide
      rw [List.getElem?_eq_none (by omega)]
      rfl
theorem grow_heap {h : List Nat} {g : Nat → Bool} (H : IsHeap h) (hg : ∀ c, g c = true → opn h c = true) : IsHeap (grow h g) := by
  refine ⟨fun c hc => ?_, fun c => ?_⟩
  · rw [hAt_grow hg]
    rw [grow_len] at hc
    by_cases q : c < h.length
    · have := H.pos c q
      omega
    · have : c = h.length := by
        have := b2n_le (g h.length)
        omega
      subst this
      omega
  · rw [hAt_grow hg, hAt_grow hg]
    have := H.fall c
    cases q : g (c + 1) with
    | false =>
      show hAt h (c + 1) + 0 ≤ _
      omega
    | true =>
      have := opn_lt (hg _ q)
      show hAt h (c + 1) + 1 ≤ _
      omega
/-- heights and one more, 0, with some more -/
def hts (h : List Nat) (f : Nat → Nat) : List Nat := (List.range (h.length + 1)).map fun c => hAt h c + f c
theorem hts_len (h : List Nat) (f : Nat → Nat) : (hts h f).length = h.length + 1 := by
  unfold hts
  rw [List.length_map, List.length_range]
theorem hts_get {h : List Nat} {f : Nat → Nat} {c : Nat} (hc : c ≤ h.length) : (hts h f)[c]? = some (hAt h c + f c) := by
  unfold hts
  rw [List.getElem?_map, List.getElem?_range (by omega)]
  rfl
theorem hts_zero (h : List Nat) : h ++ [0] = hts h fun _ => 0 := by
  refine List.ext_getElem? fun c => ?_
  by_cases q : c < h.length
  · rw [List.getElem?_append_left q, hAt_lt q, hts_get (by omega)]
    rfl
  · by_cases e : c = h.length
    · subst e
      rw [List.getElem?_append_right (Nat.le_refl _), Nat.sub_self, hts_get (Nat.le_refl _), hAt_ge (Nat.le_refl _)]
      rfl
    · rw [List.getElem?_eq_none (by rw [List.length_append]; show h.length + 1 ≤ c; omega), List.getElem?_eq_none (by rw [hts_len]; omega)]
def cnt (cols : List Nat) (c : Nat) : Nat := (cols.filter fun d => d == c).length
theorem cnt_snoc (cols : List Nat) (d c : Nat) : cnt (cols ++ [d]) c = cnt cols c + b2n (d == c) := by
  unfold cnt
  rw [List.filter_append, List.length_append]
  cases q : (d == c) with
  | true =>
    rw [List.filter_cons, if_pos q]
    rfl
  | false =>
    rw [List.filter_cons, if_neg (by rw [q]; decide)]
    rfl
theorem hts_set {h : List Nat} {cols : List Nat} {d : Nat} (hd : d ≤ h.length) : (hts h (cnt cols)).set d (hAt h d + cnt cols d + 1) = hts h (cnt (cols ++ [d])) := by
  refine List.ext_getElem? fun c => ?_
  rw [List.getElem?_set]
  by_cases e : d = c
  · subst e
    rw [if_pos rfl, if_pos (by rw [hts_len]; omega), hts_get hd, cnt_snoc]
    show some _ = some (hAt h d + (cnt cols d + b2n (d == d)))
    rw [beq_self_eq_true]
    rfl
  · rw [if_neg e]
    by_cases q : c ≤ h.length
    · rw [hts_get q, hts_get q, cnt_snoc]
      have : (d == c) = false := by simpa using e
      rw [this]
      rfl
    · rw [List.getElem?_eq_none (by rw [hts_len]; omega), List.getElem?_eq_none (by rw [hts_len]; omega)]
theorem range_filter_cnt (n : Nat) (g : Nat → Bool) (c : Nat) : cnt ((List.range n).filter g) c = b2n (decide (c < n) && g c) := by
  induction n with
  | zero => rfl
  | succ n ih =>
    rw [List.range_succ, List.filter_append]
    have e : cnt ((List.range n).filter g ++ [n].filter g) c = cnt ((List.range n).filter g) c + cnt ([n].filter g) c := by
      unfold cnt
      rw [List.filter_append, List.length_append]
    rw [e, ih]
    by_cases q : g n = true
    · have : [n].filter g = [n] := by
        rw [List.filter_cons, if_pos q]
        rfl
      rw [this]
      unfold cnt
      by_cases z : n = c
      · subst z
        rw [List.filter_cons, if_pos (beq_self_eq_true n), decide_eq_false (Nat.lt_irrefl n), decide_eq_true (Nat.lt_succ_self n), q]
        rfl
      · rw [List.filter_cons, if_neg (show ¬ (n == c) = true by simpa using z)]
        have : decide (c < n) = decide (c < n + 1) := decide_eq_decide.mpr (by omega)
        rw [this]
        rfl
    · have : [n].filter g = [] := by
        rw [List.filter_cons, if_neg q]
        rfl
      rw [this]
      by_cases z : c = n
      · subst z
        have : g c = false := by simpa using q
        rw [this, Bool.and_false, Bool.and_false]
        rfl
      · have : decide (c < n) = decide (c < n + 1) := decide_eq_decide.mpr (by omega)
        rw [this]
        rfl
/-- what heaped makes of columns -/
theorem hts_filter {h : List Nat} (hp : ∀ c, c < h.length → 0 < hAt h c) {g : Nat → Bool} {f : Nat → Nat} (hf : ∀ c, c ≤ h.length → f c = b2n (g c)) : (hts h f).filter (fun x => decide (0 < x)) = grow h g := by
  unfold hts grow
  rw [List.range_succ, List.map_append, List.filter_append]
  have e1 : ((List.range h.length).map fun c => hAt h c + f c).filter (fun x => decide (0 < x)) = (List.range h.length).map fun c => hAt h c + b2n (g c) := by
    have e : ((List.range h.length).map fun c => hAt h c + f c) = (List.range h.length).map fun c => hAt h c + b2n (g c) := by
      refine List.map_congr_left fun c hc => ?_
      rw [hf c (Nat.le_of_lt (List.mem_range.mp hc))]
    rw [e]
    refine List.filter_eq_self.mpr fun x hx => ?_
    obtain ⟨c, hc, rfl⟩ := List.mem_map.mp hx
    have := hp c (List.mem_range.mp hc)
    exact decide_eq_true (by omega)
  rw [e1]
  congr 1
  show [hAt h h.length + f h.length].filter _ = _
  rw [hAt_ge (Nat.le_refl _), hf _ (Nat.le_refl _)]
  unfold b2n
  by_cases q : g h.length = true
  · rw [if_pos q, if_pos q]
    rfl
  · rw [if_neg q, if_neg q]
    rfl
/-- the diagonal of the square on top -/
def dg (h : List Nat) (c : Nat) : Int := (c : Int) - (hAt h c : Int)
theorem dg_lt {h : List Nat} (H : IsHeap h) {c d : Nat} (hcd : c < d) : dg h c < dg h d := by
  unfold dg
  have := H.le (Nat.le_of_lt hcd)
  omega
theorem dg_inj {h : List Nat} (H : IsHeap h) {c d : Nat} (e : dg h c = dg h d) : c = d := by
  rcases Nat.lt_trichotomy c d with q | q | q
  · have := dg_lt H q
    omega
  · exact q
  · have := dg_lt H q
    omega
theorem dg_two {h : List Nat} (H : IsHeap h) {c d : Nat} (hcd : c < d) (o : opn h d = true) : dg h c + 2 ≤ dg h d := by
  obtain ⟨e, rfl⟩ : ∃ e, d = e + 1 := ⟨d - 1, by omega⟩
  have a := opn_lt o
  have b := H.le (show c ≤ e by omega)
  unfold dg
  omega
def oc (h : List Nat) : List Nat := (List.range (h.length + 1)).filter (opn h)
theorem oc_mem {h : List Nat} {c : Nat} : c ∈ oc h ↔ opn h c = true := by
  unfold oc
  rw [List.mem_filter, List.mem_range]
  exact ⟨fun z => z.2, fun z => ⟨Nat.lt_succ_of_le (opn_le z), z⟩⟩
end HM

/-! own rules: xs[i] op= e of a list; range(n) as a value, walked later -/
namespace LX
open PySem PySem.Spec PyProof.Rows L2
section
variable {X : Cx}
/-- xs[i] by values, 0 ≤ i -/
def rGetL (K : PySem.W.Frag) : V → V → Hp → VK → Prop := fun o i H Q => ∃ (a : Addr) (ys : List V) (j : Nat) (v : V), o = .ref a ∧ i = .int (j : Int) ∧ SqL K H a ys ∧ ys[j]? = some v ∧ Q v H
theorem get_list : PGet X (rGetL X.K) := by
  intro pins s σ H o i ov iv Q I ro ri h
  obtain ⟨a, ys, j, v, rfl, rfl, hq, hv, q⟩ := h
  cases ro
  obtain ⟨t, rfl⟩ := ri
  obtain ⟨its, r, pl, hz⟩ := I.list hq
  obtain ⟨u, hu, ru⟩ := r.get hv
  have hn := line63
  have hj := (List.getElem?_eq_some_iff.mp hu).1
  have hl := r.length
  exact wpAny_getItem_list pl.isList (by omega) (by omega) (by simpa using hu) ⟨v, H, I, ru, q⟩
/-- range(n), a new range object -/
theorem cr_range1 : CallR X (.type "range") (fun vs H Q => ∃ j, vs = [V.int j] ∧ ∀ p, H p = none → Q (.ref p) (upd H p (.rng 0 j))) := by
  intro pins s σ H vs us Q I r h
  obtain ⟨j, rfl, q⟩ := h
  obtain ⟨u1, rfl, rj⟩ := vals1 r
  obtain ⟨t, rfl⟩ := rj
  have nw : ObjOk X.prog X.w (upd H s.heap.objs.size (.rng 0 j)) (s.heap.push { cls := .type "range", data := .fields #[.int 0 s.toks, .int j t, .int 1 (s.toks + 1)] }) s.heap.objs.size (.rng 0 j) := ⟨s.toks, t, s.toks + 1, Heap.get?_push_size _ rfl⟩
  exact call_range_1 ⟨.ref s.heap.objs.size, _, I.laid (t' := s.toks + 1 + 1) (fun b o e => Heap.get?_push_of_some _ e) (Nat.le_refl _) nw, rfl, q _ (I.hok.fresh (Nat.le_refl _))⟩
/-- a range object that stands, walked -/
def iRngV (te : TE) : TI := fun σ H R => te σ H fun x H1 => ∃ (p : Addr) (lo hi : Int), x = .ref p ∧ H1 p = some (.rng lo hi) ∧ (-(2 ^ 62) ≤ lo ∧ lo < 2 ^ 62 ∧ -(2 ^ 62) ≤ hi ∧ hi < 2 ^ 62) ∧ R (Itr lo (hi - lo).toNat) H1
theorem pi_rngV {tg e : Expr} {te : TE} (he : PE X e te) : PI X tg e (iRngV te) := by
  refine ⟨fun pins s σ H R I h => ?_⟩
  refine thn (he.run pins s σ H _ I h) fun u s1 ⟨x, H1, I1, r1, p, lo, hi, ex, hp, ⟨b1, b2, b3, b4⟩, q⟩ => ?_
  subst ex
  obtain rfl : u = Value.ref p := r1
  obtain ⟨t, u, v, g⟩ := (show ObjOk X.prog X.w H1 s1.heap p (.rng lo hi) from I1.hok p _ hp)
  refine wpAny_pyIter_range (s := s1) g (small_one b1 b2 b3 b4) ?_
  refine ⟨s1.heap.objs.size, [s1.heap.objs.size], _, _, H1, rfl, I1.kept (t' := s1.toks) fun b o e => Heap.get?_push_of_some _ e, turn_range _ lo (hi - lo).toNat, ?_, fun b hb => ?_, q⟩
  · have e1 : lo + ((0 : Nat) : Int) * 1 = lo := by simp
    have e2 : (((hi - lo).toNat : Nat) : Int) - ((0 : Nat) : Int) = Builtin.Range.rangeSize lo hi 1 := by
      rw [rangeSize_one]
      split <;> omega
    show IsRangeIter _ _ (lo + ((0 : Nat) : Int) * 1) ((((hi - lo).toNat : Nat) : Int) - ((0 : Nat) : Int)) 1
    rw [e1, e2]
    exact Heap.get?_push_size _ rfl
  · obtain rfl : b = s1.heap.objs.size := by simpa using hb
    exact I1.fpOk (Nat.le_refl _) (I1.hok.fresh (Nat.le_refl _))
end
end LX

namespace K1
open PySem PySem.Spec PyProof.Rows L2 Evl HM LX
/-! ### heaps -/
def hv (h : List Nat) : List V := h.map fun (n : Nat) => V.int (n : Int)
theorem hv_len (h : List Nat) : (hv h).length = h.length := List.length_map ..
theorem hv_get {h : List Nat} {c : Nat} (hc : c < h.length) : (hv h)[c]? = some (V.int (hAt h c : Int)) := by
  unfold hv
  rw [List.getElem?_map, hAt_lt hc]
  rfl
def HeapAt (H : Hp) (p : Addr) (h : List Nat) : Prop := H p = some (.tup (hv h))
/-- a heap that the package takes -/
structure Good (h : List Nat) : Prop where
  heap : IsHeap h
  len : h.length ≤ 60
  top : hAt h 0 ≤ 60
theorem Good.all {h : List Nat} (G : Good h) (c : Nat) : hAt h c ≤ 60 := Nat.le_trans (G.heap.le (Nat.zero_le c)) G.top
section
variable {P : Program} {w : World} {K : PySem.W.Frag} {mg : Str → Option Value} {base : Heap}
def spCheckBetween (K : PySem.W.Frag) : Sp := fun vs H Q _ => ∃ i lo hi : Int, vs = [.int i, .int lo, .int hi] ∧ lo ≤ i ∧ i ≤ hi ∧ -(10 ^ 60) < i ∧ i < 10 ^ 60 ∧ ∀ H', Ex H H' → Q .non H'
def spIsHeap (K : PySem.W.Frag) : Sp := fun vs H Q _ => ∃ p h, vs = [.ref p] ∧ HeapAt H p h ∧ Good h ∧ ∀ H', Ex H H' → Q (.bl true) H'
theorem ok_is_heap (T : Txt K mg) {f : Addr} {fd : FuncData} (D : DefAt K mg "is_heap" sIsHeap ["value"] f fd) : FnOk P w K mg base CX0 3 f fd ["value"] (spIsHeap K) := by
  refine D.F.ok scIsHeap (fun vs H Q E h => ?_) (fun cdv A outer s H vs Q E hr h => ?_)
  · obtain ⟨p, h, rfl, _⟩ := h
    rfl
  · obtain ⟨p, h, rfl, hp, G, q⟩ := h
    obtain ⟨f1, fd1, D1⟩ := T.d_is_between
    obtain ⟨tM, vM⟩ := T.v_SIDE
    refine ⟨_, pss_cons (ps_if (PW.pt (pw_or (pt_not (pt_val (pe_callB call_isi (by rfl) T.z_isinstance (by decide +kernel) (pa_cons (pv 0) (pa_cons (pe_bltn (v := .ty "tuple") (by rfl) T.z_tuple (by decide +kernel) rfl) pa_nil)))))
        (pw_or1 (pt_cmpR op_gt (pe_callB call_len (by rfl) T.z_len PySem.boot_len (pa_cons (pv 0) pa_nil)) (pe_glob (v := .int 60) rfl vM ⟨_, rfl⟩) (nomark _))))) (pss_one (ps_ret pe_bl)) pss_nil)
      (pss_cons (ps_set (i := 1) scIsHeap.nd rfl (.inl rfl) (pe_glob (v := .int 60) rfl vM ⟨_, rfl⟩))
      (pss_cons (ps_for PassesOwn.never rfl (pi_tup (pv 0)) (pg_name (i := 2) scIsHeap.nd rfl (.inl rfl))
        (pss_cons (ps_if (pt_not (pt_val (pe_call (ok_is_between T D1) hr (by rfl) D1.g D1.F.kp D1.b .nil pass0 (pa_cons (pv 2) (pa_cons pe_int (pa_cons (pv 1) pa_nil)))))) (pss_one (ps_ret pe_bl)) pss_nil)
        (pss_one (ps_set (i := 1) scIsHeap.nd rfl (.inl rfl) (pv 2)))))
      (pss_one (ps_ret pe_bl)))), ?_⟩
    refine ⟨_, rfl, .ref p, .ty "tuple", .type "tuple", .type "tuple", true, rfl, .ty _, .base (.tup hp), kit_ty (by decide +kernel), true, rfl, iteF ?_⟩
    refine ⟨_, rfl, _, (hv h).length, rfl, .inr ⟨_, SqT.of hp, rfl⟩, _, _, rfl, rfl, _, rfl, ?_⟩
    rw [hv_len, decide_eq_false (show ¬ (60 : Int) < (h.length : Int) by have := G.len; omega)]
    refine iteF ?_
    refine ⟨_, rfl, p, rfl, ⟨_, SqT.of hp⟩, for_tup (K := K) (a := p) (xs := hv h) (fun i σ' H' => ∃ (a : Nat) (y : Option V), σ' = [some (.ref p), some (.int (a : Int)), y] ∧ hAt h i ≤ a ∧ a ≤ 60 ∧ Ex H H') ⟨60, none, rfl, G.all 0, Nat.le_refl _, Ex.refl _⟩ (fun i σ' H' _ hW => ?_) (fun i x σ' H' hx hW => ?_) (fun σ' H' hW => ?_)⟩
    · obtain ⟨_, _, _, _, _, e⟩ := hW
      exact SqT.of (e _ _ hp)
    · obtain ⟨a, y, rfl, h1, h2, e⟩ := hW
      have hi : i < h.length := by
        have := (List.getElem?_eq_some_iff.mp hx).1
        rw [hv_len] at this
        exact this
      rw [hv_get hi] at hx
      obtain rfl := Option.some.inj hx
      have hp0 := G.heap.pos i hi
      refine ⟨_, rfl, _, rfl, _, 1, a, true, rfl, .yes (by omega) (by omega) (by omega) (by omega), fun H1 e1 => ⟨true, rfl, iteF ?_⟩⟩
      exact ⟨_, rfl, hAt h i, _, rfl, G.heap.fall i, by omega, e.trans e1⟩
    · obtain ⟨a, y, rfl, h1, h2, e⟩ := hW
      exact q _ e
def spCheckHeap (K : PySem.W.Frag) : Sp := fun vs H Q _ => ∃ p h, vs = [.ref p] ∧ HeapAt H p h ∧ Good h ∧ ∀ H', Ex H H' → Q .non H'
theorem ok_check_heap (T : Txt K mg) {f : Addr} {fd : FuncData} (D : DefAt K mg "check_heap" sCheckHeap ["heap"] f fd) : FnOk P w K mg base CX0 4 f fd ["heap"] (spCheckHeap K) := by
  refine D.F.ok scCheckHeap (fun vs H Q E h => ?_) (fun cdv A outer s H vs Q E hr h => ?_)
  · obtain ⟨p, h, rfl, _⟩ := h
    rfl
  · obtain ⟨p, h, rfl, hp, G, q⟩ := h
    obtain ⟨f1, fd1, D1⟩ := T.d_is_heap
    refine ⟨_, pss_one (ps_if (pt_not (pt_val (pe_call (ok_is_heap T D1) hr (by rfl) D1.g D1.F.kp D1.b .nil pass0 (pa_cons (pv 0) pa_nil)))) pss_never pss_nil), ?_⟩
    exact ⟨_, rfl, p, h, rfl, hp, G, fun H1 e1 => ⟨true, rfl, iteF (q _ e1)⟩⟩
def spHeightAt : Sp := fun vs H Q _ => ∃ p h, ∃ c : Nat, vs = [.ref p, .int (c : Int)] ∧ HeapAt H p h ∧ ∀ H', Ex H H' → Q (.int (hAt h c : Int)) H'
theorem ok_height_at (T : Txt K mg) {f : Addr} {fd : FuncData} (D : DefAt K mg "height_at" sHeightAt ["heap", "column"] f fd) : FnOk P w K mg base CX0 1 f fd ["heap", "column"] spHeightAt := by
  refine D.F.ok scHeightAt (fun vs H Q E h => ?_) (fun cdv A outer s H vs Q E hr h => ?_)
  · obtain ⟨p, h, c, rfl, _⟩ := h
    rfl
  · obtain ⟨p, h, c, rfl, hp, q⟩ := h
    refine ⟨_, pss_one (ps_ret (pe_ifExp (pt_cmpR op_lt (pv 1) (pe_callB call_len_seq (by rfl) T.z_len PySem.boot_len (pa_cons (pv 0) pa_nil)) (nomark _)) (pe_ix ix_tup (pv 0) (pv 1) (fun _ _ => rfl)) pe_int)), ?_⟩
    refine ⟨_, rfl, _, rfl, p, _, rfl, .inr (SqT.of hp), _, _, rfl, rfl, _, rfl, ite2 (fun cc => ?_) (fun cc => ?_)⟩
    · have hc : c < h.length := by
        have : (c : Int) < ((hv h).length : Int) := of_decide_eq_true cc
        rw [hv_len] at this
        omega
      exact ⟨_, rfl, _, rfl, p, _, _, _, rfl, rfl, SqT.of hp, atI_nat (hv_get hc), q _ (Ex.refl _)⟩
    · have hc : h.length ≤ c := by
        have : ¬ (c : Int) < ((hv h).length : Int) := fun z => cc (decide_eq_true z)
        rw [hv_len] at this
        omega
      have := hAt_ge hc
      have q2 := q _ (Ex.refl _)
      rw [this] at q2
      exact q2
/-- the list of columns -/
def spOpenColumns : Sp := fun vs H Q _ => ∃ p h, vs = [.ref p] ∧ HeapAt H p h ∧ h.length ≤ 100 ∧ ∀ a H', Ex H H' → H a = none → H' a = some (.lst (hv (oc h))) → Q (.ref a) H'
theorem oc_snoc (h : List Nat) (i : Nat) : ((List.range (i + 1)).filter (opn h)) = ((List.range i).filter (opn h)) ++ (if opn h i = true then [i] else []) := by
  rw [List.range_succ, List.filter_append]
  by_cases q : opn h i = true
  · rw [if_pos q, List.filter_cons, if_pos q]
    rfl
  · rw [if_neg q, List.filter_cons, if_neg q]
    rfl
theorem hv_snoc (l : List Nat) (c : Nat) : hv (l ++ [c]) = hv l ++ [V.int (c : Int)] := by
  unfold hv
  rw [List.map_append]
  rfl
theorem ok_open_columns (T : Txt K mg) {f : Addr} {fd : FuncData} (D : DefAt K mg "open_columns" sOpenColumns ["heap"] f fd) : FnOk P w K mg base CX0 2 f fd ["heap"] spOpenColumns := by
  refine D.F.ok scOpenColumns (fun vs H Q E h => ?_) (fun cdv A outer s H vs Q E hr h => ?_)
  · obtain ⟨p, h, rfl, _⟩ := h
    rfl
  · obtain ⟨p, h, rfl, hp, hl, q⟩ := h
    obtain ⟨f1, fd1, D1⟩ := T.d_height_at
    refine ⟨_, pss_cons (ps_set (i := 1) scOpenColumns.nd rfl (.inl rfl) (pe_callTy cr_range1 (by rfl) T.z_range (by decide +kernel) (pa_cons (pe_op op_add (pe_callB call_len_seq (by rfl) T.z_len PySem.boot_len (pa_cons (pv 0) pa_nil)) pe_int) pa_nil)))
      (pss_one (ps_ret (pe_lc (own := [("column", 2)]) (g := gName 2) rfl scOpenColumns.nd (pi_rngV (pv 1)) (blkOk_by (N := nOpenColumns) (sc := defScope sOpenColumns) (by decide +kernel)) (fun _ _ _ _ _ => pg_name (i := 2) scOpenColumns.nd rfl (Or.inl rfl))
        (fun _ _ _ _ _ => pts_one (PW.pt (pw_or (pt_cmpR op_eq (pv 2) pe_int (nomark _)) (pw_or1 (pt_cmpR op_gt (pe_ix (show IxR _ (rIxT K) from ix_tup) (pv 0) (pe_op op_sub (pv 2) pe_int) (fun _ _ => rfl)) (pe_call (ok_height_at T D1) hr (by rfl) D1.g D1.F.kp D1.b .nil pass0 (pa_cons (pv 0) (pa_cons (pv 2) pa_nil))) (nomark _))))))
        (fun _ _ _ _ _ => pv 2)))), ?_⟩
    refine ⟨_, rfl, p, _, rfl, .inr (SqT.of hp), _, _, rfl, rfl, _, rfl, fun r hr0 => ?_⟩
    have e1 := Ex.new (o := .rng 0 (((hv h).length : Int) + 1)) hr0
    have hr1 : (upd H r (.rng 0 (((hv h).length : Int) + 1))) r = some (.rng 0 (((hv h).length : Int) + 1)) := upd_same
    generalize hG : upd H r (.rng 0 (((hv h).length : Int) + 1)) = H1 at *
    have hp1 : HeapAt H1 p h := e1 _ _ hp
    refine ⟨.ref r, rfl, r, 0, _, rfl, hr1, ⟨by decide, by decide, by rw [hv_len]; omega, by rw [hv_len]; omega⟩, fun Dl hD => ?_⟩
    refine lc_range (lo := 0) (n := (((hv h).length : Int) + 1 - 0).toNat) (fun i H' => H' Dl = some (.lst (hv ((List.range i).filter (opn h)))) ∧ Ex H1 H') ⟨upd_same, Ex.new hD⟩ (fun i H' hi hW => ?_) (fun H' hW => ?_)
    · obtain ⟨w1, w2⟩ := hW
      rw [hv_len] at hi
      have hi' : i ≤ h.length := by omega
      have hp2 := w2 _ _ hp1
      have ll : (hv ((List.range i).filter (opn h))).length < sizeLine := by
        rw [hv_len]
        have := List.length_filter_le (opn h) (List.range i)
        rw [List.length_range] at this
        exact small1000 (by omega)
      have fin : ∀ H3, Ex H' H3 → opn h i = true → ∃ acc, H3 Dl = some (.lst acc) ∧ acc.length < sizeLine ∧ (upd H3 Dl (.lst (acc ++ [V.int (0 + (i : Int))]))) Dl = some (.lst (hv ((List.range (i + 1)).filter (opn h)))) ∧ Ex H1 (upd H3 Dl (.lst (acc ++ [V.int (0 + (i : Int))]))) := fun H3 e3 o => by
        refine ⟨_, e3 _ _ w1, ll, ?_, Ex.mut (w2.trans e3) hD⟩
        rw [upd_same, oc_snoc, if_pos o, hv_snoc, Int.zero_add]
      refine ⟨rfl, _, rfl, rfl, _, rfl, ite2 (fun c => ?_) (fun c => ?_)⟩
      · have c2 : i = 0 := by
          have := V.int.inj (of_decide_eq_true c)
          omega
        have o : opn h i = true := by
          unfold opn
          rw [decide_eq_true c2, Bool.true_or]
        exact ⟨_, rfl, fin H' (Ex.refl _) o⟩
      · have c2 : i ≠ 0 := fun z => c (by subst z; rfl)
        have hx : (hv h)[i - 1]? = some (V.int (hAt h (i - 1) : Int)) := hv_get (by omega)
        refine ⟨_, rfl, _, rfl, _, _, rfl, rfl, p, _, _, _, rfl, rfl, SqT.of hp2, at_of (show (0 + (i : Int)) - 1 = ((i - 1 : Nat) : Int) by omega) hx, _, rfl, _, rfl, p, h, i, by rw [Int.zero_add]; rfl, hp2, fun H3 e3 => ⟨_, _, rfl, rfl, _, rfl, ite2 (fun cc => ?_) (fun cc => ?_)⟩⟩
        · have o : opn h i = true := by
            unfold opn
            have := of_decide_eq_true cc
            rw [decide_eq_true (show hAt h i < hAt h (i - 1) by omega), Bool.or_true]
          exact ⟨_, rfl, fin H3 e3 o⟩
        · have o : ¬ opn h i = true := fun z => by
            unfold opn at z
            rw [decide_eq_false c2, Bool.false_or] at z
            have := of_decide_eq_true z
            exact cc (decide_eq_true (by omega))
          refine ⟨?_, w2.trans e3⟩
          rw [oc_snoc, if_neg o, List.append_nil]
          exact e3 _ _ w1
    · obtain ⟨w1, w2⟩ := hW
      have e : (((hv h).length : Int) + 1 - 0).toNat = h.length + 1 := by
        rw [hv_len]
        omega
      rw [e] at w1
      exact q Dl H' (e1.trans w2) (fresh_back e1 hD) w1
end
end K1

namespace K1
open PySem PySem.Spec PyProof.Rows L2 Evl HM LX
theorem hv_set {l : List Nat} {d x : Nat} : (hv l).set d (V.int (x : Int)) = hv (l.set d x) := by
  unfold hv
  rw [List.map_set]
theorem hv_at {l : List Nat} {i x : Nat} (h : l[i]? = some x) : (hv l)[i]? = some (V.int (x : Int)) := by
  unfold hv
  rw [List.getElem?_map, h]
  rfl
theorem hv_inv {l : List Nat} {i : Nat} {v : V} (h : (hv l)[i]? = some v) : ∃ x, l[i]? = some x ∧ v = V.int (x : Int) := by
  unfold hv at h
  rw [List.getElem?_map] at h
  cases e : l[i]? with
  | none =>
    rw [e] at h
    cases h
  | some x =>
    rw [e] at h
    exact ⟨x, rfl, (Option.some.inj h).symm⟩
theorem take_filter_snoc {α : Type} {l : List α} {i : Nat} {x : α} (g : α → Bool) (h : l[i]? = some x) : (l.take (i + 1)).filter g = (l.take i).filter g ++ (if g x = true then [x] else []) := by
  rw [List.take_add_one, h, List.filter_append]
  show _ ++ [x].filter g = _
  by_cases q : g x = true
  · rw [if_pos q, List.filter_cons, if_pos q]
    rfl
  · rw [if_neg q, List.filter_cons, if_neg q]
    rfl
section
variable {P : Program} {w : World} {K : PySem.W.Frag} {mg : Str → Option Value} {base : Heap}
def spHeaped : Sp := fun vs H Q _ => ∃ p a h cols, vs = [.ref p, .ref a] ∧ HeapAt H p h ∧ H a = some (.lst (hv cols)) ∧ h.length ≤ 100 ∧ (∀ c ∈ cols, c ≤ h.length) ∧
  ∀ r H', Ex H H' → HeapAt H' r ((hts h (cnt cols)).filter fun x => decide (0 < x)) → Q (.ref r) H'
theorem ok_heaped (T : Txt K mg) {f : Addr} {fd : FuncData} (D : DefAt K mg "heaped" sHeaped ["heap", "columns"] f fd) : FnOk P w K mg base CX0 1 f fd ["heap", "columns"] spHeaped := by
  refine D.F.ok scHeaped (fun vs H Q E h => ?_) (fun cdv A outer s H vs Q E hr h => ?_)
  · obtain ⟨p, a, h, cols, rfl, _⟩ := h
    rfl
  · obtain ⟨p, a, h, cols, rfl, hp, ha, hl, hc, q⟩ := h
    refine ⟨_, pss_cons (ps_set (i := 2) scHeaped.nd rfl (.inl rfl) (pe_op op_cat (pe_callTy call_list_of (by rfl) T.z_list (by decide +kernel) (pa_cons (pv 0) pa_nil)) (pe_lst (pa_cons pe_int pa_nil))))
      (pss_cons (ps_for PassesOwn.never rfl (pi_list (pv 1)) (pg_name (i := 3) scHeaped.nd rfl (.inl rfl)) (pss_one (ps_augS (pv 2) (pv 3) get_list pe_int ip_add set_list)))
      (pss_one (ps_ret (pe_callTy call_tuple_of (by rfl) T.z_tuple (by decide +kernel) (pa_cons (pe_lc (own := [("height", 4)]) (g := gName 4) rfl scHeaped.nd (pi_list (pv 2)) (blkOk_by (N := nHeaped) (sc := defScope sHeaped) (by decide +kernel)) (fun _ _ _ _ _ => pg_name (i := 4) scHeaped.nd rfl (Or.inl rfl))
        (fun _ _ _ _ _ => pts_one (pt_cmpR op_gt (pv 4) pe_int (nomark _))) (fun _ _ _ _ _ => pv 4)) pa_nil))))), ?_⟩
    refine ⟨_, rfl, p, hv h, rfl, .inr (SqT.of hp), fun l1 hl1 => ⟨by show 1 ≤ sizeLine; decide, fun l2 hl2 => ?_⟩⟩
    have e1 := Ex.new (o := .lst (hv h)) hl1
    have e2 := Ex.new (o := .lst [V.int 0]) hl2
    refine ⟨l1, l2, hv h, [V.int 0], rfl, rfl, e2 _ _ upd_same, upd_same, ?_, fun l3 hl3 => ?_⟩
    · rw [hv_len]
      exact sz_of (by show h.length + 1 ≤ _; omega)
    have e03 : Ex H (upd (upd (upd H l1 (.lst (hv h))) l2 (.lst [V.int 0])) l3 (.lst (hv h ++ [V.int 0]))) := (e1.trans e2).trans (Ex.new hl3)
    have n3 : H l3 = none := fresh_back (e1.trans e2) hl3
    have g3 : (upd (upd (upd H l1 (.lst (hv h))) l2 (.lst [V.int 0])) l3 (.lst (hv h ++ [V.int 0]))) l3 = some (.lst (hv (hts h (cnt [])))) := by
      rw [upd_same, show hts h (cnt []) = h ++ [0] from (hts_zero h).symm, hv_snoc]
      rfl
    generalize upd (upd (upd H l1 (.lst (hv h))) l2 (.lst [V.int 0])) l3 (.lst (hv h ++ [V.int 0])) = H3 at *
    refine ⟨.ref a, rfl, a, rfl, ⟨_, SqL.of (e03 _ _ ha)⟩, for_list (K := K) (a := a) (xs := hv cols) (fun i σ' H' => ∃ y, σ' = [some (.ref p), some (.ref a), some (.ref l3), y, none] ∧ H' l3 = some (.lst (hv (hts h (cnt (cols.take i))))) ∧ Ex H H') ⟨none, rfl, g3, e03⟩ (fun i σ' H' _ hW => ?_) (fun i x σ' H' hx hW => ?_) (fun σ' H' hW => ?_)⟩
    · obtain ⟨_, _, _, e⟩ := hW
      exact SqL.of (e _ _ ha)
    · obtain ⟨y, rfl, w1, w2⟩ := hW
      obtain ⟨c, hcx, rfl⟩ := hv_inv hx
      have hcl : c ≤ h.length := hc c (List.mem_of_getElem? hcx)
      have gt : (hts h (cnt (cols.take i)))[c]? = some (hAt h c + cnt (cols.take i) c) := hts_get hcl
      refine ⟨_, rfl, _, rfl, l3, _, c, _, rfl, rfl, SqL.of w1, hv_at gt, _, _, rfl, rfl, l3, _, _, c, rfl, rfl, w1, ?_, ?_⟩
      · refine ixN_nat ?_
        rw [hv_len, hts_len]
        omega
      · refine ⟨_, rfl, ?_, Ex.mut w2 n3⟩
        rw [upd_same]
        dsimp only
        rw [show ((hAt h c + cnt (cols.take i) c : Nat) : Int) + 1 = ((hAt h c + cnt (cols.take i) c + 1 : Nat) : Int) by omega, hv_set, hts_set hcl, List.take_add_one, hcx]
        rfl
    · obtain ⟨y, rfl, w1, w2⟩ := hW
      rw [hv_len, List.take_length] at w1
      refine ⟨.ref l3, rfl, l3, rfl, ⟨_, SqL.of w1⟩, fun Dl hD => ?_⟩
      refine lc_list (K := K) (a := l3) (xs := hv (hts h (cnt cols))) (fun i H2 => H2 Dl = some (.lst (hv (((hts h (cnt cols)).take i).filter fun x => decide (0 < x)))) ∧ Ex H' H2) ⟨upd_same, Ex.new hD⟩ (fun i H2 _ hp2 => SqL.of (hp2.2 _ _ w1)) (fun i x H2 hx hp2 => ?_) (fun H2 hp2 => ?_)
      · obtain ⟨v1, v2⟩ := hp2
        obtain ⟨c, hcx, rfl⟩ := hv_inv hx
        refine ⟨rfl, _, rfl, _, _, rfl, rfl, _, rfl, ite2 (fun cc => ?_) (fun cc => ?_)⟩
        · have c0 : 0 < c := by
            have := of_decide_eq_true cc
            omega
          refine ⟨_, rfl, _, v1, ?_, ?_, Ex.mut v2 hD⟩
          · rw [hv_len]
            have a1 := List.length_filter_le (fun x => decide (0 < x)) ((hts h (cnt cols)).take i)
            have a2 : ((hts h (cnt cols)).take i).length ≤ (hts h (cnt cols)).length := by
              rw [List.length_take]
              exact Nat.min_le_right _ _
            rw [hts_len] at a2
            exact small1000 (by omega)
          · rw [upd_same, take_filter_snoc _ hcx, if_pos (decide_eq_true c0), hv_snoc]
        · have c0 : ¬ 0 < c := fun z => cc (decide_eq_true (by omega))
          refine ⟨?_, v2⟩
          rw [take_filter_snoc _ hcx, if_neg (by rw [decide_eq_false c0]; decide), List.append_nil]
          exact v1
      · obtain ⟨v1, v2⟩ := hp2
        rw [hv_len, List.take_length] at v1
        exact ⟨Dl, _, rfl, .inl ⟨SqL.of v1, fun r hr => q r _ ((w2.trans v2).trans (Ex.new hr)) upd_same⟩⟩
/-- which columns a ring with a place adds to -/
def gl (h : List Nat) (n s q : Int) (c : Nat) : Bool := opn h c && decide ((dg h c * s - q) % n = 0)
theorem gl_opn {h : List Nat} {n s q : Int} (c : Nat) (z : gl h n s q c = true) : opn h c = true := by
  unfold gl at z
  exact (Bool.and_eq_true_iff.mp z).1
def spGrownBy : Sp := fun vs H Q _ => ∃ p h x n s q, vs = [.ref p, x, .int q] ∧ HeapAt H p h ∧ IsHeap h ∧ h.length ≤ 100 ∧ RingAt H 60 x n s ∧ ∀ r H', Ex H H' → HeapAt H' r (grow h (gl h n s q)) → Q (.ref r) H'
theorem ok_grown_by (T : Txt K mg) {f : Addr} {fd : FuncData} (D : DefAt K mg "grown_by" sGrownBy ["heap", "ring", "place"] f fd) : FnOk P w K mg base CX0 3 f fd ["heap", "ring", "place"] spGrownBy := by
  refine D.F.ok scGrownBy (fun vs H Q E h => ?_) (fun cdv A outer s₀ H vs Q E hr h => ?_)
  · obtain ⟨p, h, x, n, s, q, rfl, _⟩ := h
    rfl
  · obtain ⟨p, h, x, n, s, q, rfl, hp, IH, hl, hx, k⟩ := h
    obtain ⟨f1, fd1, D1⟩ := T.d_open_columns
    obtain ⟨f2, fd2, D2⟩ := T.d_heaped
    obtain ⟨f3, fd3, D3⟩ := T.d_lets
    obtain ⟨f4, fd4, D4⟩ := T.d_height_at
    have hr1 : Room 1 _ := hr.mono (by decide)
    refine ⟨_, pss_cons (ps_set (i := 3) scGrownBy.nd rfl (.inl rfl) (pe_call (ok_open_columns T D1) hr (by rfl) D1.g D1.F.kp D1.b .nil pass0 (pa_cons (pv 0) pa_nil)))
      (pss_one (ps_ret (pe_call (ok_heaped T D2) hr1 (by rfl) D2.g D2.F.kp D2.b .nil pass0 (pa_cons (pv 0) (pa_cons (pe_lc (own := [("column", 4)]) (g := gName 4) rfl scGrownBy.nd (pi_list (pv 3)) (blkOk_by (N := nGrownBy) (sc := defScope sGrownBy) (by decide +kernel)) (fun _ _ _ _ _ => pg_name (i := 4) scGrownBy.nd rfl (Or.inl rfl))
        (fun _ _ _ _ _ => pts_one (pt_val (pe_call (ok_lets T D3) hr1 (by rfl) D3.g D3.F.kp D3.b .nil pass0 (pa_cons (pv 1) (pa_cons (pv 2) (pa_cons (pe_op op_sub (pv 4) (pe_call (ok_height_at T D4) hr1 (by rfl) D4.g D4.F.kp D4.b .nil pass0 (pa_cons (pv 0) (pa_cons (pv 4) pa_nil)))) pa_nil))))))
        (fun _ _ _ _ _ => pv 4)) pa_nil))))), ?_⟩
    refine ⟨_, rfl, p, h, rfl, hp, hl, fun a H1 e1 ha0 ha => ?_⟩
    have hp1 : HeapAt H1 p h := e1 _ _ hp
    have hx1 := hx.ex e1
    let lt : Nat → Bool := fun c => decide ((dg h c * s - q) % n = 0)
    refine ⟨_, rfl, .ref a, rfl, a, rfl, ⟨_, SqL.of ha⟩, fun Dl hD => ?_⟩
    refine lc_list (K := K) (a := a) (xs := hv (oc h)) (fun i H2 => H2 Dl = some (.lst (hv (((oc h).take i).filter lt))) ∧ Ex H1 H2) ⟨upd_same, Ex.new hD⟩ (fun i H2 _ hp2 => SqL.of (hp2.2 _ _ ha)) (fun i x H2 hx2 hp2 => ?_) (fun H2 hp2 => ?_)
    · obtain ⟨v1, v2⟩ := hp2
      obtain ⟨c, hcx, rfl⟩ := hv_inv hx2
      have ol : (oc h).length ≤ 101 := by
        unfold oc
        have := List.length_filter_le (opn h) (List.range (h.length + 1))
        rw [List.length_range] at this
        omega
      refine ⟨rfl, _, rfl, _, rfl, _, rfl, _, rfl, _, rfl, p, h, c, rfl, v2 _ _ hp1, fun H3 e3 => ⟨_, _, rfl, rfl, _, n, s, q, dg h c, rfl, (hx1.ex v2).ex e3, fun H4 e4 => ⟨_, rfl, ite2 (fun cc => ?_) (fun cc => ?_)⟩⟩⟩
      · refine ⟨_, rfl, _, e4 _ _ (e3 _ _ v1), ?_, ?_, Ex.mut ((v2.trans e3).trans e4) hD⟩
        · rw [hv_len]
          have a1 := List.length_filter_le lt ((oc h).take i)
          have a2 : ((oc h).take i).length ≤ (oc h).length := by
            rw [List.length_take]
            exact Nat.min_le_right _ _
          exact small1000 (by omega)
        · rw [upd_same, take_filter_snoc lt hcx, if_pos (show lt c = true from cc), hv_snoc]
      · refine ⟨?_, (v2.trans e3).trans e4⟩
        rw [take_filter_snoc lt hcx, if_neg (show ¬ lt c = true from cc), List.append_nil]
        exact e4 _ _ (e3 _ _ v1)
    · obtain ⟨v1, v2⟩ := hp2
      rw [hv_len, List.take_length] at v1
      have ef : (oc h).filter lt = (List.range (h.length + 1)).filter (gl h n s q) := by
        unfold oc
        rw [List.filter_filter]
        refine List.filter_congr fun c _ => ?_
        unfold gl
        rw [Bool.and_comm]
      refine ⟨p, Dl, h, (oc h).filter lt, rfl, v2 _ _ hp1, v1, hl, fun c hc => opn_le (oc_mem.mp (List.mem_filter.mp hc).1), fun r H3 e3 hrr => ?_⟩
      rw [ef, hts_filter IH.pos (g := gl h n s q) (fun c hc => by rw [range_filter_cnt, decide_eq_true (show c < h.length + 1 by omega), Bool.true_and])] at hrr
      exact k r H3 ((e1.trans v2).trans e3) hrr
end
end K1

/-! own walks: comprehensions and loops over zip and enumerate of tuples, zip of lists of any lengths -/
namespace ZW
open PySem PySem.Spec PyProof.Rows L2
theorem lc_zipT {K : PySem.W.Frag} {a b : Addr} {xs ys : List V} {n : Nat} {g : TG} {tt : TT} {te : TE} {vs : List Nat} {σ : L2.St} {H1 : Hp} {D : Addr} {Qd : Hp → Prop} (hx : n ≤ xs.length) (hy : n ≤ ys.length) (hn : xs.length ≤ n ∨ ys.length ≤ n)
    (Pv : Nat → Hp → Prop) (h0 : Pv 0 (upd H1 D (.lst []))) (hq : ∀ i H, Pv i H → SqT K H a xs ∧ SqT K H b ys)
    (hs : ∀ i x y T H, i < n → xs[i]? = some x → ys[i]? = some y → Pv i H → H T = none → g (.ref T) (wipe σ vs) (upd H T (.tup [x, y])) fun σ2 H2 => wipe σ2 vs = wipe σ vs ∧ tt σ2 H2 fun c H3 =>
      if c = true then te σ2 H3 fun z H4 => ∃ acc, H4 D = some (.lst acc) ∧ acc.length < sizeLine ∧ Pv (i + 1) (upd H4 D (.lst (acc ++ [z]))) else Pv (i + 1) H3) (hd : ∀ H, Pv n H → Qd H) :
    ∃ W : Nat → Nat → Hp → Prop, (∃ m, W 0 m (upd H1 D (.lst []))) ∧ ∀ i m H, W i m H →
      ((RZ.ItzT K a b).stop i H ∧ Qd H) ∨ ((RZ.ItzT K a b).go i H ∧ ∃ Nx : Hp → Prop, (∀ H', Nx H' → ∃ m', m' < m ∧ W (i + 1) m' H') ∧ ∀ v H', (RZ.ItzT K a b).yld i H v H' → g v (wipe σ vs) H' fun σ2 H2 => wipe σ2 vs = wipe σ vs ∧ tt σ2 H2 fun c H3 =>
        if c = true then te σ2 H3 fun z H4 => ∃ acc, H4 D = some (.lst acc) ∧ acc.length < sizeLine ∧ Nx (upd H4 D (.lst (acc ++ [z]))) else Nx H3) := by
  refine ⟨fun i m H => m = n - i ∧ i ≤ n ∧ Pv i H, ⟨n, (Nat.sub_zero n).symm, Nat.zero_le _, h0⟩, ?_⟩
  rintro i m H ⟨rfl, hi, p⟩
  obtain ⟨qa, qb⟩ := hq i H p
  by_cases hlt : i < n
  · have e1 : xs[i]? = some (xs[i]'(by omega)) := List.getElem?_eq_getElem _
    have e2 : ys[i]? = some (ys[i]'(by omega)) := List.getElem?_eq_getElem _
    refine .inr ⟨⟨xs, ys, _, _, qa, qb, e1, e2⟩, Pv (i + 1), fun H' p' => ⟨n - (i + 1), by omega, rfl, hlt, p'⟩, fun v H' hy' => ?_⟩
    obtain ⟨T, x, y, rfl, nT, rfl, fx, fy⟩ := hy'
    exact hs i x y T H hlt (fx _ qa) (fy _ qb) p nT
  · have e : i = n := by omega
    subst e
    exact .inl ⟨⟨xs, ys, qa, qb, by omega⟩, hd H p⟩
theorem for_zipT {K : PySem.W.Frag} {a b : Addr} {xs ys : List V} {n : Nat} {g : TG} {tb : TS} {D : Ends} {σ : L2.St} {H : Hp} (hx : n ≤ xs.length) (hy : n ≤ ys.length) (hn : xs.length ≤ n ∨ ys.length ≤ n)
    (Pv : Nat → L2.St → Hp → Prop) (h0 : Pv 0 σ H) (hq : ∀ i σ H, Pv i σ H → SqT K H a xs ∧ SqT K H b ys)
    (hs : ∀ i x y T σ H, i < n → xs[i]? = some x → ys[i]? = some y → Pv i σ H → H T = none → g (.ref T) σ (upd H T (.tup [x, y])) fun σ2 H2 => tb { D with nx := Pv (i + 1), ct := Pv (i + 1), bk := D.nx } σ2 H2) (hd : ∀ σ H, Pv n σ H → D.nx σ H) :
    ∃ W : Nat → Nat → L2.St → Hp → Prop, (∃ m, W 0 m σ H) ∧ ∀ i m σ H, W i m σ H →
      ((RZ.ItzT K a b).stop i H ∧ D.nx σ H) ∨ ((RZ.ItzT K a b).go i H ∧ ∃ N : L2.St → Hp → Prop, (∀ σ' H', N σ' H' → ∃ m', m' < m ∧ W (i + 1) m' σ' H') ∧ ∀ v H', (RZ.ItzT K a b).yld i H v H' → g v σ H' fun σ2 H2 => tb { D with nx := N, ct := N, bk := D.nx } σ2 H2) := by
  refine ⟨fun i m σ H => m = n - i ∧ i ≤ n ∧ Pv i σ H, ⟨n, (Nat.sub_zero n).symm, Nat.zero_le _, h0⟩, ?_⟩
  rintro i m σ H ⟨rfl, hi, p⟩
  obtain ⟨qa, qb⟩ := hq i σ H p
  by_cases hlt : i < n
  · have e1 : xs[i]? = some (xs[i]'(by omega)) := List.getElem?_eq_getElem _
    have e2 : ys[i]? = some (ys[i]'(by omega)) := List.getElem?_eq_getElem _
    refine .inr ⟨⟨xs, ys, _, _, qa, qb, e1, e2⟩, Pv (i + 1), fun σ' H' p' => ⟨n - (i + 1), by omega, rfl, hlt, p'⟩, fun v H' hy' => ?_⟩
    obtain ⟨T, x, y, rfl, nT, rfl, fx, fy⟩ := hy'
    exact hs i x y T σ H hlt (fx _ qa) (fy _ qb) p nT
  · have e : i = n := by omega
    subst e
    exact .inl ⟨⟨xs, ys, qa, qb, by omega⟩, hd σ H p⟩
theorem lc_zipL {K : PySem.W.Frag} {a b : Addr} {xs ys : List V} {n : Nat} {g : TG} {tt : TT} {te : TE} {vs : List Nat} {σ : L2.St} {H1 : Hp} {D : Addr} {Qd : Hp → Prop} (hx : n ≤ xs.length) (hy : n ≤ ys.length) (hn : xs.length ≤ n ∨ ys.length ≤ n)
    (Pv : Nat → Hp → Prop) (h0 : Pv 0 (upd H1 D (.lst []))) (hq : ∀ i H, Pv i H → SqL K H a xs ∧ SqL K H b ys)
    (hs : ∀ i x y T H, i < n → xs[i]? = some x → ys[i]? = some y → Pv i H → H T = none → g (.ref T) (wipe σ vs) (upd H T (.tup [x, y])) fun σ2 H2 => wipe σ2 vs = wipe σ vs ∧ tt σ2 H2 fun c H3 =>
      if c = true then te σ2 H3 fun z H4 => ∃ acc, H4 D = some (.lst acc) ∧ acc.length < sizeLine ∧ Pv (i + 1) (upd H4 D (.lst (acc ++ [z]))) else Pv (i + 1) H3) (hd : ∀ H, Pv n H → Qd H) :
    ∃ W : Nat → Nat → Hp → Prop, (∃ m, W 0 m (upd H1 D (.lst []))) ∧ ∀ i m H, W i m H →
      ((Itz K a b).stop i H ∧ Qd H) ∨ ((Itz K a b).go i H ∧ ∃ Nx : Hp → Prop, (∀ H', Nx H' → ∃ m', m' < m ∧ W (i + 1) m' H') ∧ ∀ v H', (Itz K a b).yld i H v H' → g v (wipe σ vs) H' fun σ2 H2 => wipe σ2 vs = wipe σ vs ∧ tt σ2 H2 fun c H3 =>
        if c = true then te σ2 H3 fun z H4 => ∃ acc, H4 D = some (.lst acc) ∧ acc.length < sizeLine ∧ Nx (upd H4 D (.lst (acc ++ [z]))) else Nx H3) := by
  refine ⟨fun i m H => m = n - i ∧ i ≤ n ∧ Pv i H, ⟨n, (Nat.sub_zero n).symm, Nat.zero_le _, h0⟩, ?_⟩
  rintro i m H ⟨rfl, hi, p⟩
  obtain ⟨qa, qb⟩ := hq i H p
  by_cases hlt : i < n
  · have e1 : xs[i]? = some (xs[i]'(by omega)) := List.getElem?_eq_getElem _
    have e2 : ys[i]? = some (ys[i]'(by omega)) := List.getElem?_eq_getElem _
    refine .inr ⟨⟨xs, ys, _, _, qa, qb, e1, e2⟩, Pv (i + 1), fun H' p' => ⟨n - (i + 1), by omega, rfl, hlt, p'⟩, fun v H' hy' => ?_⟩
    obtain ⟨T, x, y, rfl, nT, rfl, fx, fy⟩ := hy'
    exact hs i x y T H hlt (fx _ qa) (fy _ qb) p nT
  · have e : i = n := by omega
    subst e
    exact .inl ⟨⟨xs, ys, qa, qb, by omega⟩, hd H p⟩
theorem for_zipL {K : PySem.W.Frag} {a b : Addr} {xs ys : List V} {n : Nat} {g : TG} {tb : TS} {D : Ends} {σ : L2.St} {H : Hp} (hx : n ≤ xs.length) (hy : n ≤ ys.length) (hn : xs.length ≤ n ∨ ys.length ≤ n)
    (Pv : Nat → L2.St → Hp → Prop) (h0 : Pv 0 σ H) (hq : ∀ i σ H, Pv i σ H → SqL K H a xs ∧ SqL K H b ys)
    (hs : ∀ i x y T σ H, i < n → xs[i]? = some x → ys[i]? = some y → Pv i σ H → H T = none → g (.ref T) σ (upd H T (.tup [x, y])) fun σ2 H2 => tb { D with nx := Pv (i + 1), ct := Pv (i + 1), bk := D.nx } σ2 H2) (hd : ∀ σ H, Pv n σ H → D.nx σ H) :
    ∃ W : Nat → Nat → L2.St → Hp → Prop, (∃ m, W 0 m σ H) ∧ ∀ i m σ H, W i m σ H →
      ((Itz K a b).stop i H ∧ D.nx σ H) ∨ ((Itz K a b).go i H ∧ ∃ N : L2.St → Hp → Prop, (∀ σ' H', N σ' H' → ∃ m', m' < m ∧ W (i + 1) m' σ' H') ∧ ∀ v H', (Itz K a b).yld i H v H' → g v σ H' fun σ2 H2 => tb { D with nx := N, ct := N, bk := D.nx } σ2 H2) := by
  refine ⟨fun i m σ H => m = n - i ∧ i ≤ n ∧ Pv i σ H, ⟨n, (Nat.sub_zero n).symm, Nat.zero_le _, h0⟩, ?_⟩
  rintro i m σ H ⟨rfl, hi, p⟩
  obtain ⟨qa, qb⟩ := hq i σ H p
  by_cases hlt : i < n
  · have e1 : xs[i]? = some (xs[i]'(by omega)) := List.getElem?_eq_getElem _
    have e2 : ys[i]? = some (ys[i]'(by omega)) := List.getElem?_eq_getElem _
    refine .inr ⟨⟨xs, ys, _, _, qa, qb, e1, e2⟩, Pv (i + 1), fun σ' H' p' => ⟨n - (i + 1), by omega, rfl, hlt, p'⟩, fun v H' hy' => ?_⟩
    obtain ⟨T, x, y, rfl, nT, rfl, fx, fy⟩ := hy'
    exact hs i x y T σ H hlt (fx _ qa) (fy _ qb) p nT
  · have e : i = n := by omega
    subst e
    exact .inl ⟨⟨xs, ys, qa, qb, by omega⟩, hd σ H p⟩
theorem for_enumT {K : PySem.W.Frag} {a : Addr} {xs : List V} {g : TG} {tb : TS} {D : Ends} {σ : L2.St} {H : Hp} (Pv : Nat → L2.St → Hp → Prop) (h0 : Pv 0 σ H) (hq : ∀ i σ H, Pv i σ H → SqT K H a xs)
    (hs : ∀ i x T σ H, xs[i]? = some x → Pv i σ H → H T = none → g (.ref T) σ (upd H T (.tup [.int (i : Nat), x])) fun σ2 H2 => tb { D with nx := Pv (i + 1), ct := Pv (i + 1), bk := D.nx } σ2 H2) (hd : ∀ σ H, Pv xs.length σ H → D.nx σ H) :
    ∃ W : Nat → Nat → L2.St → Hp → Prop, (∃ m, W 0 m σ H) ∧ ∀ i m σ H, W i m σ H →
      ((EnT.IteT K a).stop i H ∧ D.nx σ H) ∨ ((EnT.IteT K a).go i H ∧ ∃ N : L2.St → Hp → Prop, (∀ σ' H', N σ' H' → ∃ m', m' < m ∧ W (i + 1) m' σ' H') ∧ ∀ v H', (EnT.IteT K a).yld i H v H' → g v σ H' fun σ2 H2 => tb { D with nx := N, ct := N, bk := D.nx } σ2 H2) := by
  refine ⟨fun i m σ H => m = xs.length - i ∧ i ≤ xs.length ∧ Pv i σ H, ⟨xs.length, (Nat.sub_zero _).symm, Nat.zero_le _, h0⟩, ?_⟩
  rintro i m σ H ⟨rfl, hi, p⟩
  have qa := hq i σ H p
  by_cases hlt : i < xs.length
  · have e1 : xs[i]? = some (xs[i]'hlt) := List.getElem?_eq_getElem _
    refine .inr ⟨⟨xs, _, qa, e1⟩, Pv (i + 1), fun σ' H' p' => ⟨xs.length - (i + 1), by omega, rfl, hlt, p'⟩, fun v H' hy' => ?_⟩
    obtain ⟨T, x, rfl, nT, rfl, fx⟩ := hy'
    exact hs i x T σ H (fx _ qa) p nT
  · have e : i = xs.length := by omega
    subst e
    exact .inl ⟨⟨xs, qa, rfl⟩, hd σ H p⟩
theorem lc_enumT {K : PySem.W.Frag} {a : Addr} {xs : List V} {g : TG} {tt : TT} {te : TE} {vs : List Nat} {σ : L2.St} {H1 : Hp} {D : Addr} {Qd : Hp → Prop} (Pv : Nat → Hp → Prop) (h0 : Pv 0 (upd H1 D (.lst []))) (hq : ∀ i H, Pv i H → SqT K H a xs)
    (hs : ∀ i x T H, xs[i]? = some x → Pv i H → H T = none → g (.ref T) (wipe σ vs) (upd H T (.tup [.int (i : Nat), x])) fun σ2 H2 => wipe σ2 vs = wipe σ vs ∧ tt σ2 H2 fun c H3 =>
      if c = true then te σ2 H3 fun z H4 => ∃ acc, H4 D = some (.lst acc) ∧ acc.length < sizeLine ∧ Pv (i + 1) (upd H4 D (.lst (acc ++ [z]))) else Pv (i + 1) H3) (hd : ∀ H, Pv xs.length H → Qd H) :
    ∃ W : Nat → Nat → Hp → Prop, (∃ m, W 0 m (upd H1 D (.lst []))) ∧ ∀ i m H, W i m H →
      ((EnT.IteT K a).stop i H ∧ Qd H) ∨ ((EnT.IteT K a).go i H ∧ ∃ Nx : Hp → Prop, (∀ H', Nx H' → ∃ m', m' < m ∧ W (i + 1) m' H') ∧ ∀ v H', (EnT.IteT K a).yld i H v H' → g v (wipe σ vs) H' fun σ2 H2 => wipe σ2 vs = wipe σ vs ∧ tt σ2 H2 fun c H3 =>
        if c = true then te σ2 H3 fun z H4 => ∃ acc, H4 D = some (.lst acc) ∧ acc.length < sizeLine ∧ Nx (upd H4 D (.lst (acc ++ [z]))) else Nx H3) := by
  refine ⟨fun i m H => m = xs.length - i ∧ i ≤ xs.length ∧ Pv i H, ⟨xs.length, (Nat.sub_zero _).symm, Nat.zero_le _, h0⟩, ?_⟩
  rintro i m H ⟨rfl, hi, p⟩
  have qa := hq i H p
  by_cases hlt : i < xs.length
  · have e1 : xs[i]? = some (xs[i]'hlt) := List.getElem?_eq_getElem _
    refine .inr ⟨⟨xs, _, qa, e1⟩, Pv (i + 1), fun H' p' => ⟨xs.length - (i + 1), by omega, rfl, hlt, p'⟩, fun v H' hy' => ?_⟩
    obtain ⟨T, x, rfl, nT, rfl, fx⟩ := hy'
    exact hs i x T H (fx _ qa) p nT
  · have e : i = xs.length := by omega
    subst e
    exact .inl ⟨⟨xs, qa, rfl⟩, hd H p⟩
end ZW

namespace K1
open PySem PySem.Spec PyProof.Rows L2 Evl HM LX ZW
theorem grow_good {h : List Nat} {g : Nat → Bool} (G : IsHeap h) (h1 : h.length < 60) (h2 : hAt h 0 < 60) (hg : ∀ c, g c = true → opn h c = true) : Good (grow h g) := by
  refine ⟨grow_heap G hg, ?_, ?_⟩
  · rw [grow_len]
    have := b2n_le (g h.length)
    omega
  · rw [hAt_grow hg]
    have := b2n_le (g 0)
    omega
/-- ints of a tuple of places -/
def PlacesT (H : Hp) (a : Addr) (ps : List Int) : Prop := H a = some (.tup (ps.map V.int))
/-- the heaps behind each ring -/
def hseq (rs : List (Int × Int)) (ps : List Int) : Nat → List Nat
  | 0 => []
  | i + 1 => grow (hseq rs ps i) (gl (hseq rs ps i) (K1N.nAt rs i) (K1N.sAt rs i) (ps.getD i 0))
theorem hseq_ok (rs : List (Int × Int)) (ps : List Int) : ∀ i, IsHeap (hseq rs ps i) ∧ (hseq rs ps i).length ≤ i ∧ hAt (hseq rs ps i) 0 ≤ i
  | 0 => ⟨IsHeap.nil, Nat.le_refl _, Nat.le_refl _⟩
  | i + 1 => by
    obtain ⟨a, b, c⟩ := hseq_ok rs ps i
    refine ⟨grow_heap a gl_opn, ?_, ?_⟩
    · show (grow _ _).length ≤ _
      rw [grow_len]
      have := b2n_le (gl (hseq rs ps i) (K1N.nAt rs i) (K1N.sAt rs i) (ps.getD i 0) (hseq rs ps i).length)
      omega
    · show hAt (grow _ _) 0 ≤ _
      rw [hAt_grow gl_opn]
      have := b2n_le (gl (hseq rs ps i) (K1N.nAt rs i) (K1N.sAt rs i) (ps.getD i 0) 0)
      omega
theorem rings_nth4 {H : Hp} {most : Int} {xs : List V} {rs : List (Int × Int)} (h : RingsAt H most xs rs) {j : Nat} {x : V} (hx : xs[j]? = some x) : RingAt H most x (K1N.nAt rs j : Int) (K1N.sAt rs j) := by
  obtain ⟨r, hr, q⟩ := paired_get h hx
  have e : rs.getD j (0, 0) = r := by
    rw [List.getD_eq_getElem?_getD, hr]
    rfl
  obtain ⟨t, e1, e2, e3, e4, e5, e6⟩ := id q
  unfold K1N.nAt K1N.sAt
  rw [e, show ((r.1.toNat : Nat) : Int) = r.1 by omega]
  exact q
theorem rings_ex4 {H H' : Hp} {most : Int} {xs : List V} {rs : List (Int × Int)} (e : Ex H H') (h : RingsAt H most xs rs) : RingsAt H' most xs rs := paired_imp (fun _ _ z => RingAt.ex e z) h
theorem rings_chain4 {K : PySem.W.Frag} {H : Hp} {a : Addr} {xs : List V} {rs : List (Int × Int)} (h : RingsAt H 60 xs rs) (ha : H a = some (.tup xs)) (h1 : 1 ≤ xs.length) (h2 : xs.length ≤ 12) : ChainB K H (.ref a) true := by
  have p : ∀ {xs : List V} {rs : List (Int × Int)}, RingsAt H 60 xs rs → Paired (RingB K H) xs (List.replicate xs.length true) := by
    intro xs rs h
    induction h with
    | nil => exact .nil
    | cons r _ ih => exact .cons (RingAt.ring r (Int.le_refl _)) ih
  have q := ChainB.tup (K := K) ha ⟨h1, h2⟩ (p h)
  rw [show (List.replicate xs.length true).all id = true by simp] at q
  exact q
section
variable {P : Program} {w : World} {K : PySem.W.Frag} {mg : Str → Option Value} {base : Heap}
def spGrown : Sp := fun vs H Q _ => ∃ p h x n s q, vs = [.ref p, x, .int q] ∧ HeapAt H p h ∧ IsHeap h ∧ h.length < 60 ∧ hAt h 0 < 60 ∧ RingAt H 60 x n s ∧ 0 ≤ q ∧ q < n ∧ ∀ r H', Ex H H' → HeapAt H' r (grow h (gl h n s q)) → Q (.ref r) H'
def spCheckPlaces (K : PySem.W.Frag) : Sp := fun vs H Q _ => ∃ c a xs rs ps, vs = [.ref c, .ref a] ∧ H c = some (.tup xs) ∧ RingsAt H 60 xs rs ∧ xs.length ≤ 12 ∧ PlacesT H a ps ∧ ps.length = xs.length ∧ (∀ j : Nat, j < ps.length → 0 ≤ ps.getD j 0 ∧ ps.getD j 0 < (K1N.nAt rs j : Int)) ∧ ∀ H', Ex H H' → Q .non H'
def spLiesTold (K : PySem.W.Frag) : Sp := fun vs H Q E => spCheckPlaces K vs H (fun _ H' => Q (.bl true) H') E
/-- the list of the heaps -/
def spHeapsOf : Sp := fun vs H Q _ => ∃ c a xs rs ps, vs = [.ref c, .ref a] ∧ H c = some (.tup xs) ∧ RingsAt H 60 xs rs ∧ xs.length ≤ 12 ∧ PlacesT H a ps ∧ ps.length = xs.length ∧
  ∀ (p : Addr) (as : List Addr) (H' : Hp), Ex H H' → H p = none → H' p = some (.lst (as.map V.ref)) → as.length = xs.length + 1 → (∀ i b, as[i]? = some b → HeapAt H' b (hseq rs ps i)) → Q (.ref p) H'
end
end K1

namespace K1
open PySem PySem.Spec PyProof.Rows L2 Evl HM LX ZW
theorem at_end {as : List Addr} {g : Nat} (h : as.length = g + 1) : atI (as.map V.ref) (-1) = some (V.ref (as[g]'(by omega))) := by
  have e : as = as.take g ++ [as[g]'(by omega)] := by
    have := List.take_append_getElem (l := as) (i := g) (by omega)
    rw [this, List.take_of_length_le (by omega)]
  have e2 : as.map V.ref = (as.take g).map V.ref ++ [V.ref (as[g]'(by omega))] := by
    conv => lhs; rw [e]
    rw [List.map_append]
    rfl
  rw [e2]
  exact atI_last _ _
section
variable {P : Program} {w : World} {K : PySem.W.Frag} {mg : Str → Option Value} {base : Heap}
def spHeapOf : Sp := fun vs H Q _ => ∃ c a xs rs ps, vs = [.ref c, .ref a] ∧ H c = some (.tup xs) ∧ RingsAt H 60 xs rs ∧ (1 ≤ xs.length ∧ xs.length ≤ 12) ∧ PlacesT H a ps ∧ ps.length = xs.length ∧ (∀ j : Nat, j < ps.length → 0 ≤ ps.getD j 0 ∧ ps.getD j 0 < (K1N.nAt rs j : Int)) ∧
  ∀ (b : Addr) H', Ex H H' → HeapAt H' b (hseq rs ps xs.length) → Q (.ref b) H'
def spHeapsAlong : Sp := fun vs H Q _ => ∃ c a xs rs ps, vs = [.ref c, .ref a] ∧ H c = some (.tup xs) ∧ RingsAt H 60 xs rs ∧ (1 ≤ xs.length ∧ xs.length ≤ 12) ∧ PlacesT H a ps ∧ ps.length = xs.length ∧ (∀ j : Nat, j < ps.length → 0 ≤ ps.getD j 0 ∧ ps.getD j 0 < (K1N.nAt rs j : Int)) ∧
  ∀ (r : Addr) (as : List Addr) H', Ex H H' → H' r = some (.tup (as.map V.ref)) → as.length = xs.length + 1 → (∀ i b, as[i]? = some b → HeapAt H' b (hseq rs ps i)) → Q (.ref r) H'
/-- how many squares the first columns have -/
def sumT (h : List Nat) : Nat → Nat
  | 0 => 0
  | i + 1 => sumT h i + hAt h i
theorem sumT_le {h : List Nat} (G : Good h) : ∀ i, sumT h i ≤ 60 * i
  | 0 => Nat.le_refl _
  | i + 1 => by
    show sumT h i + hAt h i ≤ _
    have := sumT_le G i
    have := G.all i
    omega
def spSquares : Sp := fun vs H Q _ => ∃ p h, vs = [.ref p] ∧ HeapAt H p h ∧ Good h ∧ ∀ r ys H', Ex H H' → H' r = some (.tup ys) → ys.length = sumT h h.length → Q (.ref r) H'
end
end K1

namespace K1
open PySem PySem.Spec PyProof.Rows L2 Evl HM LX ZW
/-! ### data: ints in lists and tuples -/
theorem dp_ints {K : PySem.W.Frag} {H : Hp} : ∀ ns : List Int, DpAll K H (ns.map V.int) (ns.map PyData.int)
  | [] => .nil
  | n :: r => .cons (.int n) (dp_ints r)
theorem can_ints : ∀ l : List Int, PyData.canLayAll0 (l.map PyData.int) = true
  | [] => rfl
  | b :: r => by simp [PyData.canLayAll0, PyData.canLay0, can_ints r]
theorem shaped_intsL (ns : List Int) : SeqAt.shaped (.list (ns.map PyData.int)) = true := by
  induction ns with
  | nil => rfl
  | cons b r ih => exact ih
theorem depth_ints : ∀ l : List Int, PyData.depthAll (l.map PyData.int) ≤ 60
  | [] => by decide
  | b :: r => by
    have := depth_ints r
    simp only [List.map_cons, PyData.depthAll, PyData.depth]
    omega
theorem shaped_intsT (ns : List Int) : SeqAt.shaped (.tuple (ns.map PyData.int)) = true := by
  unfold SeqAt.shaped
  have h1 : (PyData.tuple (ns.map PyData.int)).canLay0 = true := by simp [PyData.canLay0, can_ints ns]
  have h2 : (PyData.tuple (ns.map PyData.int)).depth ≤ 64 := by
    have := depth_ints ns
    simp only [PyData.depth]
    omega
  rw [h1, decide_eq_true h2]
  rfl
theorem eqv_intsL (ns : List Int) : PyData.eqv (.list (ns.map PyData.int)) (.list (ns.map PyData.int)) = true := SeqAt.eqv_refl _ (by simp [PyData.canLay0, can_ints ns])
theorem eqv_intsT (ns : List Int) : PyData.eqv (.tuple (ns.map PyData.int)) (.tuple (ns.map PyData.int)) = true := SeqAt.eqv_refl _ (by simp [PyData.canLay0, can_ints ns])
theorem eqv_nil : PyData.eqv (.list []) (.list []) = true := eqv_intsL []
theorem eqv_consnil (d : PyData) (ds : List PyData) : PyData.eqv (.list (d :: ds)) (.list []) = false := by simp [PyData.eqv, PyData.eqvAll]
theorem erase_perm {ls : List Int} {i : Nat} {y : Int} (h : ls[i]? = some y) : ls.Perm (y :: ls.eraseIdx i) := by
  induction ls generalizing i with
  | nil => simp at h
  | cons x r ih =>
    cases i with
    | zero =>
      obtain rfl := Option.some.inj h
      exact .refl _
    | succ i =>
      have := ih (i := i) h
      exact (List.Perm.cons x this).trans (List.Perm.swap y x _)
theorem map_erase {α β : Type} (g : α → β) : ∀ (ls : List α) (i : Nat), (ls.eraseIdx i).map g = (ls.map g).eraseIdx i
  | [], _ => rfl
  | _ :: _, 0 => rfl
  | x :: r, i + 1 => congrArg (g x :: ·) (map_erase g r i)
section
variable {P : Program} {w : World} {K : PySem.W.Frag} {mg : Str → Option Value} {base : Heap}
def spMixed : Sp := fun vs H Q _ => ∃ (d a : Addr) (ns : List Int), vs = [.ref d, .ref a] ∧ Dice H d ∧ H a = some (.lst (ns.map V.int)) ∧ ns.length ≤ 1000 ∧
  ∀ (p : Addr) (ms : List Int) H', ms.Perm ns → H' p = some (.lst (ms.map V.int)) → Dice H' d → Keep d H H' → Q (.ref p) H'
end
end K1

namespace K1
open PySem PySem.Spec PyProof.Rows L2 Evl HM LX ZW
theorem getD_snoc_lt {l : List Int} {x : Int} {j : Nat} (h : j < l.length) : (l ++ [x]).getD j 0 = l.getD j 0 := by
  rw [List.getD_eq_getElem?_getD, List.getD_eq_getElem?_getD, List.getElem?_append_left h]
theorem getD_snoc_eq {l : List Int} {x : Int} : (l ++ [x]).getD l.length 0 = x := by
  rw [List.getD_eq_getElem?_getD, List.getElem?_append_right (Nat.le_refl _), Nat.sub_self]
  rfl
def PlOk (rs : List (Int × Int)) (ps : List Int) : Prop := ∀ j : Nat, j < ps.length → 0 ≤ ps.getD j 0 ∧ ps.getD j 0 < (K1N.nAt rs j : Int)
theorem PlOk.snoc {rs : List (Int × Int)} {ps : List Int} {x : Int} (h : PlOk rs ps) (h0 : 0 ≤ x) (h1 : x < (K1N.nAt rs ps.length : Int)) : PlOk rs (ps ++ [x]) := by
  intro j hj
  by_cases c : j < ps.length
  · rw [getD_snoc_lt c]
    exact h j c
  · have e : j = ps.length := by
      rw [List.length_append] at hj
      have : ([x] : List Int).length = 1 := rfl
      omega
    subst e
    rw [getD_snoc_eq]
    exact ⟨h0, h1⟩
section
variable {P : Program} {w : World} {K : PySem.W.Frag} {mg : Str → Option Value} {base : Heap}
def spTuple : Sp := fun vs H Q _ => ∃ d c xs rs, vs = [.ref d, .ref c] ∧ Dice H d ∧ H c = some (.tup xs) ∧ RingsAt H 60 xs rs ∧ xs.length ≤ 12 ∧
  ∀ (a : Addr) (ps : List Int) H', PlacesT H' a ps → ps.length = xs.length → PlOk rs ps → Dice H' d → Keep d H H' → Q (.ref a) H'
end
end K1

/-! plain mathematics of heaps, continued: growing column by column, tries, squares added in any order -/
namespace HM
theorem range_hAt (h : List Nat) : (List.range h.length).map (hAt h) = h := by
  refine List.ext_getElem? fun c => ?_
  by_cases q : c < h.length
  · rw [List.getElem?_map, List.getElem?_range q, hAt_lt q]
    rfl
  · rw [List.getElem?_eq_none (by rw [List.length_map, List.length_range]; omega), List.getElem?_eq_none (by omega)]
/-- grown at the first columns -/
def fr (h : List Nat) (g : Nat → Bool) (i : Nat) : List Nat := (List.range h.length).map (fun c => hAt h c + b2n (decide (c < i) && g c)) ++ (if (decide (h.length < i) && g h.length) = true then [1] else [])
theorem fr_zero (h : List Nat) (g : Nat → Bool) : fr h g 0 = h := by
  unfold fr
  rw [decide_eq_false (Nat.not_lt_zero _), Bool.false_and, if_neg (by decide), List.append_nil]
  conv => rhs; rw [← range_hAt h]
  refine List.map_congr_left fun c _ => ?_
  rw [decide_eq_false (Nat.not_lt_zero _), Bool.false_and]
  rfl
theorem fr_end (h : List Nat) (g : Nat → Bool) : fr h g (h.length + 1) = grow h g := by
  unfold fr grow
  rw [decide_eq_true (Nat.lt_succ_self _), Bool.true_and]
  congr 1
  refine List.map_congr_left fun c hc => ?_
  rw [decide_eq_true (show c < h.length + 1 from Nat.lt_succ_of_lt (List.mem_range.mp hc)), Bool.true_and]
theorem fr_skip {h : List Nat} {g : Nat → Bool} {i : Nat} (q : g i = false) : fr h g (i + 1) = fr h g i := by
  have e : ∀ c, (decide (c < i + 1) && g c) = (decide (c < i) && g c) := fun c => by
    by_cases z : c = i
    · subst z
      rw [q, Bool.and_false, Bool.and_false]
    · have : decide (c < i + 1) = decide (c < i) := decide_eq_decide.mpr (by omega)
      rw [this]
  unfold fr
  rw [e]
  congr 1
  exact List.map_congr_left fun c _ => by rw [e]
theorem fr_low {h : List Nat} {g : Nat → Bool} {i : Nat} (hi : i ≤ h.length) : fr h g i = (List.range h.length).map (fun c => hAt h c + b2n (decide (c < i) && g c)) := by
  unfold fr
  rw [decide_eq_false (show ¬ h.length < i by omega), Bool.false_and, if_neg (by decide), List.append_nil]
theorem fr_low_len {h : List Nat} {g : Nat → Bool} {i : Nat} (hi : i ≤ h.length) : (fr h g i).length = h.length := by
  rw [fr_low hi, List.length_map, List.length_range]
theorem fr_set {h : List Nat} {g : Nat → Bool} {i : Nat} (hi : i < h.length) (q : g i = true) : (fr h g i).set i (hAt h i + 1) = fr h g (i + 1) := by
  rw [fr_low (show i ≤ h.length by omega), fr_low (show i + 1 ≤ h.length by omega)]
  refine List.ext_getElem? fun c => ?_
  rw [List.getElem?_set]
  by_cases e : i = c
  · subst e
    rw [if_pos rfl, if_pos (by rw [List.length_map, List.length_range]; exact hi), List.getElem?_map, List.getElem?_range hi]
    show some _ = some (hAt h i + b2n (decide (i < i + 1) && g i))
    rw [decide_eq_true (Nat.lt_succ_self i), q]
    rfl
  · rw [if_neg e, List.getElem?_map, List.getElem?_map]
    have : decide (c < i + 1) = decide (c < i) := decide_eq_decide.mpr (by omega)
    by_cases l : c < h.length
    · rw [List.getElem?_range l]
      show some (hAt h c + b2n (decide (c < i) && g c)) = some (hAt h c + b2n (decide (c < i + 1) && g c))
      rw [this]
    · rw [List.getElem?_eq_none (by rw [List.length_range]; omega)]
      rfl
theorem fr_app {h : List Nat} {g : Nat → Bool} (q : g h.length = true) : fr h g h.length ++ [1] = fr h g (h.length + 1) := by
  rw [fr_end, fr_low (Nat.le_refl _)]
  unfold grow
  rw [if_pos q]
  congr 1
  refine List.map_congr_left fun c hc => ?_
  rw [decide_eq_true (List.mem_range.mp hc), Bool.true_and]
/-! ### tries -/
def Falls (ns : List Int) : Prop := (∀ j, j + 1 < ns.length → ns.getD (j + 1) 0 ≤ ns.getD j 0) ∧ ∀ y ∈ ns, (0 : Int) ≤ y
/-- heights with 0 behind them, one changed -/
def chg (h : List Nat) (st : Int) (c : Nat) : List Int := (List.range (h.length + 1)).map fun x => (hAt h x : Int) + (if x = c then st else 0)
theorem chg_len (h : List Nat) (st : Int) (c : Nat) : (chg h st c).length = h.length + 1 := by
  unfold chg
  rw [List.length_map, List.length_range]
theorem chg_get {h : List Nat} {st : Int} {c x : Nat} (hx : x ≤ h.length) : (chg h st c).getD x 0 = (hAt h x : Int) + (if x = c then st else 0) := by
  unfold chg
  rw [List.getD_eq_getElem?_getD, List.getElem?_map, List.getElem?_range (by omega)]
  rfl
/-- columns at which a try leaves a heap -/
def tr (h : List Nat) (st : Int) (c : Nat) : Bool := if st = 1 then opn h c else decide (hAt h (c + 1) < hAt h c)
theorem chg_falls {h : List Nat} (H : IsHeap h) {st : Int} (hst : st = 1 ∨ st = -1) {c : Nat} (hc : c ≤ h.length) : Falls (chg h st c) ↔ tr h st c = true := by
  have hm : ∀ y, y ∈ chg h st c → ∃ x, x ≤ h.length ∧ y = (hAt h x : Int) + (if x = c then st else 0) := fun y hy => by
    unfold chg at hy
    obtain ⟨x, hx, rfl⟩ := List.mem_map.mp hy
    exact ⟨x, Nat.le_of_lt_succ (List.mem_range.mp hx), rfl⟩
  have hm2 : ∀ x, x ≤ h.length → (hAt h x : Int) + (if x = c then st else 0) ∈ chg h st c := fun x hx => List.mem_map.mpr ⟨x, List.mem_range.mpr (Nat.lt_succ_of_le hx), rfl⟩
  rcases hst with rfl | rfl
  · unfold tr
    rw [if_pos rfl]
    constructor
    · rintro ⟨f1, f2⟩
      unfold opn
      by_cases z : c = 0
      · rw [decide_eq_true z, Bool.true_or]
      · have a := f1 (c - 1) (by rw [chg_len]; omega)
        rw [show c - 1 + 1 = c by omega, chg_get hc, chg_get (by omega), if_pos rfl, if_neg (by omega)] at a
        rw [decide_eq_true (show hAt h c < hAt h (c - 1) by omega), Bool.or_true]
    · intro o
      refine ⟨fun j hj => ?_, fun y hy => ?_⟩
      · rw [chg_len] at hj
        rw [chg_get (show j + 1 ≤ h.length by omega), chg_get (show j ≤ h.length by omega)]
        have := H.fall j
        by_cases z : j + 1 = c
        · subst z
          have := opn_lt o
          rw [if_pos rfl, if_neg (by omega)]
          omega
        · rw [if_neg z]
          split <;> omega
      · obtain ⟨x, _, rfl⟩ := hm y hy
        split <;> omega
  · unfold tr
    rw [if_neg (by decide)]
    constructor
    · rintro ⟨f1, f2⟩
      by_cases z : c = h.length
      · have := f2 _ (hm2 c hc)
        rw [if_pos rfl, z, hAt_ge (Nat.le_refl _)] at this
        exact absurd this (by decide)
      · have a := f1 c (by rw [chg_len]; omega)
        rw [chg_get (by omega), chg_get hc, if_pos rfl, if_neg (by omega)] at a
        exact decide_eq_true (by omega)
    · intro o
      have o' := of_decide_eq_true o
      refine ⟨fun j hj => ?_, fun y hy => ?_⟩
      · rw [chg_len] at hj
        rw [chg_get (show j + 1 ≤ h.length by omega), chg_get (show j ≤ h.length by omega)]
        have := H.fall j
        by_cases z : j = c
        · subst z
          rw [if_pos rfl, if_neg (by omega)]
          omega
        · rw [if_neg z]
          split <;> omega
      · obtain ⟨x, _, rfl⟩ := hm y hy
        split
        · next z =>
          subst z
          omega
        · omega
def tv (h : List Nat) (st : Int) (c : Nat) : Int := if st = 1 then dg h c else dg h c + 1
def trs (h : List Nat) (st : Int) (i : Nat) : List Int := ((List.range i).filter (tr h st)).map (tv h st)
theorem tv_lt {h : List Nat} (H : IsHeap h) {st : Int} {c d : Nat} (hcd : c < d) : tv h st c < tv h st d := by
  have := dg_lt H hcd
  unfold tv
  split <;> omega
theorem range_lt (n : Nat) : (List.range n).Pairwise (· < ·) := List.pairwise_lt_range
theorem trs_sorted {h : List Nat} (H : IsHeap h) (st : Int) (i : Nat) : (trs h st i).Pairwise (· ≤ ·) := by
  unfold trs
  refine List.pairwise_map.mpr ?_
  refine ((range_lt i).filter _).imp fun {a b} hab => ?_
  have := tv_lt H (st := st) hab
  omega
theorem sorted_eq : ∀ {a b : List Int}, a.Perm b → a.Pairwise (· ≤ ·) → b.Pairwise (· ≤ ·) → a = b
  | [], b, p, _, _ => (List.nil_perm.mp p).symm
  | x :: a, [], p, _, _ => absurd p.length_eq (by simp)
  | x :: a, y :: b, p, ha, hb => by
    have e : x = y := by
      have h1 : y ∈ x :: a := p.mem_iff.mpr List.mem_cons_self
      have h2 : x ∈ y :: b := p.mem_iff.mp List.mem_cons_self
      rcases List.mem_cons.mp h1 with z | z
      · exact z.symm
      · rcases List.mem_cons.mp h2 with u | u
        · exact u
        · have q1 := (List.pairwise_cons.mp ha).1 y z
          have q2 := (List.pairwise_cons.mp hb).1 x u
          omega
    subst e
    rw [sorted_eq ((List.perm_cons x).mp p) (List.pairwise_cons.mp ha).2 (List.pairwise_cons.mp hb).2]
theorem trs_add (h : List Nat) : trs h 1 (h.length + 1) = (oc h).map (dg h) := by
  have e : tr h 1 = opn h := funext fun c => if_pos rfl
  have e2 : tv h 1 = dg h := funext fun c => if_pos rfl
  unfold trs oc
  rw [e, e2]
theorem trs_sub (h : List Nat) : trs h (-1) (h.length + 1) = ((List.range h.length).filter fun c => decide (hAt h (c + 1) < hAt h c)).map fun c => dg h c + 1 := by
  have e : tr h (-1) = fun c => decide (hAt h (c + 1) < hAt h c) := funext fun c => if_neg (by decide)
  have e2 : tv h (-1) = fun c => dg h c + 1 := funext fun c => if_neg (by decide)
  unfold trs
  rw [e, e2, List.range_succ, List.filter_append, List.filter_cons, if_neg (by rw [hAt_ge (Nat.le_refl h.length)]; simp)]
  simp
theorem oc_two {h : List Nat} (H : IsHeap h) : ((oc h).map (dg h)).Pairwise (fun a b => a + 2 ≤ b) := by
  refine List.pairwise_map.mpr ?_
  unfold oc
  have : ((List.range (h.length + 1)).filter (opn h)).Pairwise (fun a b => a < b) := (range_lt _).filter _
  refine (List.Pairwise.and_mem.mp this).imp fun {a b} hab => ?_
  exact dg_two H hab.2.2 (List.mem_filter.mp hab.2.1).2
theorem two_next {l : List Int} (h : l.Pairwise (fun a b => a + 2 ≤ b)) {i : Nat} {x y : Int} (hx : l[i]? = some x) (hy : l[i + 1]? = some y) : x + 2 ≤ y := by
  obtain ⟨h1, rfl⟩ := List.getElem?_eq_some_iff.mp hx
  obtain ⟨h2, rfl⟩ := List.getElem?_eq_some_iff.mp hy
  exact List.pairwise_iff_getElem.mp h i (i + 1) h1 h2 (by omega)
/-! ### squares added in any order -/
def adm (h : List Nat) (ms : List Int) (i : Nat) (c : Nat) : Bool := opn h c && decide (dg h c ∈ ms.take i)
theorem adm_opn {h : List Nat} {ms : List Int} {i : Nat} (c : Nat) (z : adm h ms i c = true) : opn h c = true := by
  unfold adm at z
  exact (Bool.and_eq_true_iff.mp z).1
theorem adm_zero (h : List Nat) (ms : List Int) : grow h (adm h ms 0) = h := by
  have e : adm h ms 0 = fun _ => false := funext fun c => by
    unfold adm
    rw [List.take_zero, decide_eq_false (by simp), Bool.and_false]
  rw [e]
  unfold grow
  rw [if_neg (show ¬ false = true by decide), List.append_nil]
  exact range_hAt h
theorem grow_opn {h : List Nat} {g : Nat → Bool} (hg : ∀ c, g c = true → opn h c = true) {c : Nat} (o : opn h c = true) (q : g c = false) : opn (grow h g) c = true := by
  unfold opn
  by_cases z : c = 0
  · rw [decide_eq_true z, Bool.true_or]
  · obtain ⟨e, rfl⟩ : ∃ e, c = e + 1 := ⟨c - 1, by omega⟩
    have a := opn_lt o
    have b : hAt (grow h g) (e + 1) < hAt (grow h g) (e + 1 - 1) := by
      rw [hAt_grow hg, hAt_grow hg, q, show e + 1 - 1 = e by omega]
      have : b2n false = 0 := rfl
      omega
    rw [decide_eq_true b, Bool.or_true]
theorem grow_dg {h : List Nat} {g : Nat → Bool} (hg : ∀ c, g c = true → opn h c = true) {c : Nat} (q : g c = false) : dg (grow h g) c = dg h c := by
  unfold dg
  rw [hAt_grow hg, q]
  rfl
theorem adm_no {h : List Nat} (_ : IsHeap h) {ms : List Int} (nd : ms.Nodup) {i c : Nat} (hi : ms[i]? = some (dg h c)) : adm h ms i c = false := by
  unfold adm
  have : ¬ dg h c ∈ ms.take i := fun z => by
    obtain ⟨j, hj, e⟩ := List.getElem_of_mem z
    rw [List.length_take] at hj
    obtain ⟨hi', e'⟩ := List.getElem?_eq_some_iff.mp hi
    rw [List.getElem_take] at e
    have := (List.nodup_iff_pairwise_ne.mp nd)
    have := List.pairwise_iff_getElem.mp this j i (by omega) hi' (by omega)
    exact this (e.trans e'.symm)
  rw [decide_eq_false this, Bool.and_false]
theorem adm_next {h : List Nat} (H : IsHeap h) {ms : List Int} (nd : ms.Nodup) {i c : Nat} (o : opn h c = true) (hi : ms[i]? = some (dg h c)) {g1 : Nat → Bool} (hg1 : ∀ x, g1 x = (c == x)) :
    grow (grow h (adm h ms i)) g1 = grow h (adm h ms (i + 1)) := by
  have no := adm_no H nd hi
  have h1 : IsHeap (grow h (adm h ms i)) := grow_heap H adm_opn
  have o1 : ∀ x, g1 x = true → opn (grow h (adm h ms i)) x = true := fun x z => by
    rw [hg1] at z
    have e : c = x := by simpa using z
    subst e
    exact grow_opn adm_opn o no
  refine heap_ext (grow_heap h1 o1) (grow_heap H adm_opn) fun x => ?_
  rw [hAt_grow o1, hAt_grow adm_opn, hAt_grow adm_opn, hg1]
  by_cases e : c = x
  · subst e
    have yes : adm h ms (i + 1) c = true := by
      unfold adm
      rw [o, List.take_add_one, hi, decide_eq_true (by simp)]
      rfl
    rw [no, yes, beq_self_eq_true]
    rfl
  · have e2 : (c == x) = false := by simpa using e
    have e3 : adm h ms (i + 1) x = adm h ms i x := by
      unfold adm
      have : (dg h x ∈ ms.take (i + 1)) ↔ dg h x ∈ ms.take i := by
        rw [List.take_add_one, hi, List.mem_append]
        constructor
        · rintro (z | z)
          · exact z
          · have : dg h x = dg h c := by simpa using z
            exact absurd (dg_inj H this).symm e
        · exact Or.inl
      rw [decide_eq_decide.mpr this]
    rw [e2, e3]
    rfl
end HM

namespace K1
open PySem PySem.Spec PyProof.Rows L2 Evl HM LX ZW
section
variable {P : Program} {w : World} {K : PySem.W.Frag} {mg : Str → Option Value} {base : Heap}
def spLGrown : Sp := fun vs H Q _ => ∃ p h x n s q, vs = [.ref p, x, .int q] ∧ HeapAt H p h ∧ h.length ≤ 100 ∧ RingAt H 60 x n s ∧ ∀ r H', Ex H H' → HeapAt H' r (grow h (gl h n s q)) → Q (.ref r) H'
theorem ok_lgrown (T : Txt K mg) {f : Addr} {fd : FuncData} (D : DefAt K mg "_law_grown" sLGrown ["_law_heap_here", "_law_ring_here", "_law_x"] f fd) : FnOk P w K mg base CX0 1 f fd ["_law_heap_here", "_law_ring_here", "_law_x"] spLGrown := by
  refine D.F.ok scLGrown (fun vs H Q E h => ?_) (fun cdv A outer s₀ H vs Q E hr h => ?_)
  · obtain ⟨p, h, x, n, s, q, rfl, _⟩ := h
    rfl
  · obtain ⟨p, h, x, n, s, q, rfl, hp, hl, hx, k⟩ := h
    refine ⟨_, pss_cons (ps_asg (pv 1) (pg_tup (by rfl) (pgs_cons (pg_name (i := 3) scLGrown.nd rfl (.inl rfl)) (pgs_cons (pg_name (i := 4) scLGrown.nd rfl (.inl rfl)) pgs_nil))))
      (pss_cons (ps_set (i := 5) scLGrown.nd rfl (.inl rfl) (pe_callTy call_list_of (by rfl) T.z_list (by decide +kernel) (pa_cons (pv 0) pa_nil)))
      (pss_cons (ps_for PassesOwn.never rfl (pi_range1 (by rfl) T.z_range (pa_cons (pe_op op_add (pe_callB call_len_seq (by rfl) T.z_len PySem.boot_len (pa_cons (pv 0) pa_nil)) pe_int) pa_nil)) (pg_name (i := 6) scLGrown.nd rfl (.inl rfl))
        (pss_cut (ps_set (i := 7) scLGrown.nd rfl (.inl rfl) (pe_ifExp (pt_cmpR op_lt (pv 6) (pe_callB call_len_seq (by rfl) T.z_len PySem.boot_len (pa_cons (pv 0) pa_nil)) (nomark _)) (pe_ix ix_tup (pv 0) (pv 6) (fun _ _ => rfl)) pe_int))
        (pss_cut (ps_set (i := 8) scLGrown.nd rfl (.inl rfl) (pe_or (pe_cmpR op_eq (pv 6) pe_int (nomark _)) (pe_one (pe_cmpR op_gt (pe_ix ix_tup (pv 0) (pe_op op_sub (pv 6) pe_int) (fun _ _ => rfl)) (pv 7) (nomark _)))))
        (pss_one (ps_if (PW.pt (pw_and (pt_val (pv 8)) (pw_and1 (pt_cmpR op_eq (pe_op op_mod (pe_op op_sub (pe_op op_mul (pe_op op_sub (pv 6) (pv 7)) (pv 4)) (pv 2)) (pv 3)) pe_int (nomark _)))))
          (pss_one (ps_if (pt_cmpR op_lt (pv 6) (pe_callB call_len_seq (by rfl) T.z_len PySem.boot_len (pa_cons (pv 0) pa_nil)) (nomark _))
            (pss_one (ps_asg (pe_op op_add (pv 7) pe_int) (pg_sub (pv 5) (pv 6) set_list)))
            (pss_one (ps_expr (pe_bm PySem.F.plainAttrs_list PySem.F.slot_list_append PySem.F.type_list_append mt_append (pv 5) (pa_cons pe_int pa_nil)))))) pss_nil)))))
      (pss_one (ps_ret (pe_callTy call_tuple_of (by rfl) T.z_tuple (by decide +kernel) (pa_cons (pv 5) pa_nil)))))), ?_⟩
    obtain ⟨t, rfl, ht, b1, b2, b3, b4⟩ := id hx
    refine ⟨_, rfl, t, [.int n, .int s], rfl, SqT.of ht, rfl, .int n, [.int s], rfl, .int s, [], rfl, rfl, ?_⟩
    refine ⟨_, rfl, p, hv h, rfl, .inr (SqT.of hp), fun l hl0 => ?_⟩
    have e1 := Ex.new (o := .lst (hv h)) hl0
    have g0 : (upd H l (.lst (hv h))) l = some (.lst (hv (fr h (gl h n s q) 0))) := by
      rw [upd_same, fr_zero]
    generalize upd H l (.lst (hv h)) = H1 at *
    refine ⟨_, rfl, p, _, rfl, .inr (SqT.of (e1 _ _ hp)), _, _, rfl, rfl, _, rfl, by rw [hv_len]; omega, by rw [hv_len]; omega, ?_⟩
    refine for_range (lo := 0) (n := (((hv h).length : Int) + 1).toNat) (fun i σ' H' => ∃ (y6 y7 y8 : Option V), σ' = [some (.ref p), some (.ref t), some (.int q), some (.int n), some (.int s), some (.ref l), y6, y7, y8] ∧ H' l = some (.lst (hv (fr h (gl h n s q) i))) ∧ Ex H H')
      ⟨none, none, none, rfl, g0, e1⟩ (fun i σ' H' hi hW => ?_) (fun σ' H' hW => ?_)
    · obtain ⟨y6, y7, y8, rfl, w1, w2⟩ := hW
      rw [hv_len] at hi
      have hi' : i ≤ h.length := by omega
      have hp2 := w2 _ _ hp
      have e0 : (0 : Int) + (i : Int) = (i : Int) := Int.zero_add _
      refine ⟨fun σ2 H2 => σ2 = [some (.ref p), some (.ref t), some (.int q), some (.int n), some (.int s), some (.ref l), some (.int (0 + (i : Int))), some (.int (hAt h i : Int)), y8] ∧ H2 = H', ?_, ?_⟩
      · refine ⟨_, rfl, _, rfl, p, _, rfl, .inr (SqT.of hp2), _, _, rfl, rfl, _, rfl, ite2 (fun cc => ?_) (fun cc => ?_)⟩
        · have c2 : i < h.length := by
            have := of_decide_eq_true cc
            rw [hv_len] at this
            omega
          exact ⟨_, rfl, _, rfl, p, _, _, _, rfl, rfl, SqT.of hp2, at_of e0 (hv_get c2), rfl, rfl⟩
        · have c2 : h.length ≤ i := by
            have : ¬ ((0 : Int) + (i : Int) < ((hv h).length : Int)) := fun z => cc (decide_eq_true z)
            rw [hv_len] at this
            omega
          refine ⟨?_, rfl⟩
          rw [hAt_ge c2]
          rfl
      · rintro σ2 H2 ⟨rfl, rfl⟩
        refine ⟨fun σ3 H3 => σ3 = [some (.ref p), some (.ref t), some (.int q), some (.int n), some (.int s), some (.ref l), some (.int (0 + (i : Int))), some (.int (hAt h i : Int)), some (.bl (opn h i))] ∧ H3 = H2, ?_, ?_⟩
        · refine ⟨_, rfl, rfl, _, rfl, ite2 (fun cc => ?_) (fun cc => ?_)⟩
          · have c2 : i = 0 := by
              have := V.int.inj (of_decide_eq_true cc)
              omega
            refine ⟨?_, rfl⟩
            have : opn h i = true := by
              unfold opn
              rw [decide_eq_true c2, Bool.true_or]
            rw [this]
            rfl
          · have c2 : i ≠ 0 := fun z => cc (by subst z; rfl)
            refine ⟨_, rfl, _, rfl, _, _, rfl, rfl, p, _, _, _, rfl, rfl, SqT.of hp2, at_of (show (0 + (i : Int)) - 1 = ((i - 1 : Nat) : Int) by omega) (hv_get (by omega)), _, rfl, _, _, rfl, rfl, ?_, rfl⟩
            have : opn h i = decide ((hAt h i : Int) < (hAt h (i - 1) : Int)) := by
              unfold opn
              rw [decide_eq_false c2, Bool.false_or]
              exact decide_eq_decide.mpr (by omega)
            rw [this]
            rfl
        · rintro σ3 H3 ⟨rfl, rfl⟩
          refine ⟨_, rfl, _, rfl, ite2 (fun cc => ?_) (fun cc => ?_)⟩
          · refine ⟨_, rfl, _, rfl, _, _, rfl, rfl, _, rfl, _, _, rfl, rfl, .inr (by constructor <;> omega), _, rfl, _, _, rfl, rfl, _, rfl, _, _, rfl, rfl, by omega, rfl, _, rfl, ite2 (fun c3 => ?_) (fun c3 => ?_)⟩
            · have yes : gl h n s q i = true := by
                unfold gl
                rw [cc, Bool.true_and]
                have z := V.int.inj (of_decide_eq_true c3)
                rw [Int.zero_add] at z
                exact decide_eq_true z
              refine ⟨_, rfl, _, rfl, p, _, rfl, .inr (SqT.of hp2), _, _, rfl, rfl, _, rfl, ite2 (fun c4 => ?_) (fun c4 => ?_)⟩
              · have c5 : i < h.length := by
                  have := of_decide_eq_true c4
                  rw [hv_len] at this
                  omega
                refine ⟨_, rfl, _, _, rfl, rfl, _, rfl, _, rfl, l, _, _, i, rfl, rfl, w1, ?_, _, _, _, rfl, ?_, Ex.mut w2 hl0⟩
                · rw [e0]
                  refine ixN_nat ?_
                  rw [hv_len, fr_low_len hi']
                  exact c5
                · rw [upd_same]
                  dsimp only
                  rw [show ((hAt h i : Int)) + 1 = ((hAt h i + 1 : Nat) : Int) by omega, hv_set, fr_set c5 yes]
              · have c5 : i = h.length := by
                  have : ¬ ((0 : Int) + (i : Int) < ((hv h).length : Int)) := fun z => c4 (decide_eq_true z)
                  rw [hv_len] at this
                  omega
                subst c5
                refine ⟨_, rfl, .inl ⟨rfl, _, SqL.of w1⟩, l, _, _, rfl, rfl, w1, ?_, _, _, _, rfl, ?_, Ex.mut w2 hl0⟩
                · rw [hv_len, fr_low_len (Nat.le_refl _)]
                  exact small1000 (by omega)
                · rw [upd_same, ← fr_app yes, hv_snoc]
                  rfl
            · have no : gl h n s q i = false := by
                unfold gl
                have z : ¬ ((dg h i * s - q) % n = 0) := fun z => c3 (decide_eq_true (congrArg V.int (by rw [Int.zero_add]; exact z)))
                rw [decide_eq_false z, Bool.and_false]
              refine ⟨_, _, _, rfl, ?_, w2⟩
              rw [fr_skip no]
              exact w1
          · have no : gl h n s q i = false := by
              unfold gl
              rw [Bool.eq_false_iff.mpr cc, Bool.false_and]
            refine ⟨_, _, _, rfl, ?_, w2⟩
            rw [fr_skip no]
            exact w1
    · obtain ⟨y6, y7, y8, rfl, w1, w2⟩ := hW
      have e : (((hv h).length : Int) + 1).toNat = h.length + 1 := by
        rw [hv_len]
        omega
      rw [e, fr_end] at w1
      exact ⟨_, rfl, l, _, rfl, .inl ⟨SqL.of w1, fun r hr' => k r _ (w2.trans (Ex.new hr')) upd_same⟩⟩
end
end K1

namespace K1
open PySem PySem.Spec PyProof.Rows L2 Evl HM LX ZW
theorem pair_heap {l : List Nat} (hp : l.Pairwise (fun a b => b ≤ a)) (h0 : ∀ x ∈ l, 0 < x) : IsHeap l := by
  refine ⟨fun c hc => h0 _ (List.mem_of_getElem? (hAt_lt hc)), fun c => ?_⟩
  by_cases q : c + 1 < l.length
  · obtain ⟨h1, e1⟩ := List.getElem?_eq_some_iff.mp (hAt_lt q)
    obtain ⟨h2, e2⟩ := List.getElem?_eq_some_iff.mp (hAt_lt (show c < l.length by omega))
    have := List.pairwise_iff_getElem.mp hp c (c + 1) h2 h1 (by omega)
    rw [e1, e2] at this
    exact this
  · rw [hAt_ge (show l.length ≤ c + 1 by omega)]
    exact Nat.zero_le _
theorem hv_nat {js : List Int} (h : ∀ j ∈ js, 0 ≤ j) : js.map V.int = hv (js.map Int.toNat) := by
  unfold hv
  rw [List.map_map]
  refine List.map_congr_left fun j hj => ?_
  show V.int j = V.int ((j.toNat : Nat) : Int)
  rw [Int.toNat_of_nonneg (h j hj)]
theorem pl_get {ps : List Int} {i : Nat} {x : V} (hx : (ps.map V.int)[i]? = some x) : x = .int (ps.getD i 0) := by
  rw [List.getElem?_map] at hx
  rw [List.getD_eq_getElem?_getD]
  cases e : ps[i]? with
  | none =>
    rw [e] at hx
    cases hx
  | some p =>
    rw [e] at hx
    exact (Option.some.inj hx).symm
section
variable {P : Program} {w : World} {K : PySem.W.Frag} {mg : Str → Option Value} {base : Heap}
def spLHeap : Sp := fun vs H Q _ => ∃ c a xs rs ps, vs = [.ref c, .ref a] ∧ H c = some (.tup xs) ∧ RingsAt H 60 xs rs ∧ xs.length ≤ 12 ∧ PlacesT H a ps ∧ ps.length = xs.length ∧ ∀ b H', Ex H H' → HeapAt H' b (hseq rs ps xs.length) → Q (.ref b) H'
theorem ok_lheap (T : Txt K mg) {f : Addr} {fd : FuncData} (D : DefAt K mg "_law_heap" sLHeap ["_law_chain_here", "_law_x"] f fd) : FnOk P w K mg base CX0 2 f fd ["_law_chain_here", "_law_x"] spLHeap := by
  refine D.F.ok scLHeap (fun vs H Q E h => ?_) (fun cdv A outer s₀ H vs Q E hr h => ?_)
  · obtain ⟨c, a, xs, rs, ps, rfl, _⟩ := h
    rfl
  · obtain ⟨c, a, xs, rs, ps, rfl, hc, hR, hl, ha, hlen, q⟩ := h
    obtain ⟨f1, fd1, D1⟩ := T.d_l_grown
    refine ⟨_, pss_cons (ps_set (i := 2) scLHeap.nd rfl (.inl rfl) (pe_tup pa_nil))
      (pss_cons (ps_for PassesOwn.never rfl (RZ.pi_zipA (by rfl) T.z_zip (pa_cons (pv 0) (pa_cons (pv 1) pa_nil))) (pg_tup (by rfl) (pgs_cons (pg_name (i := 3) scLHeap.nd rfl (.inl rfl)) (pgs_cons (pg_name (i := 4) scLHeap.nd rfl (.inl rfl)) pgs_nil)))
        (pss_one (ps_set (i := 2) scLHeap.nd rfl (.inl rfl) (pe_call (ok_lgrown T D1) hr (by rfl) D1.g D1.F.kp D1.b .nil pass0 (pa_cons (pv 2) (pa_cons (pv 3) (pa_cons (pv 4) pa_nil)))))))
      (pss_one (ps_ret (pv 2)))), ?_⟩
    refine ⟨by show 0 ≤ sizeLine; decide, fun t0 ht0 => ?_⟩
    have e1 := Ex.new (o := .tup []) ht0
    have g0 : HeapAt (upd H t0 (.tup [])) t0 (hseq rs ps 0) := upd_same
    generalize upd H t0 (.tup []) = H1 at *
    refine ⟨_, rfl, _, rfl, c, a, _, _, rfl, .inr ⟨SqT.of (e1 _ _ hc), SqT.of (e1 _ _ ha), ?_⟩⟩
    refine for_zipT (K := K) (a := c) (b := a) (xs := xs) (ys := ps.map V.int) (n := xs.length) (Nat.le_refl _) (by rw [List.length_map]; omega) (.inl (Nat.le_refl _))
      (fun i σ' H' => ∃ (b : Addr) (y3 y4 : Option V), σ' = [some (.ref c), some (.ref a), some (.ref b), y3, y4] ∧ HeapAt H' b (hseq rs ps i) ∧ Ex H H') ⟨t0, none, none, rfl, g0, e1⟩ (fun i σ' H' hW => ?_) (fun i x y Tp σ' H' hi hx hy hW nT => ?_) (fun σ' H' hW => ?_)
    · obtain ⟨_, _, _, _, _, e⟩ := hW
      exact ⟨SqT.of (e _ _ hc), SqT.of (e _ _ ha)⟩
    · obtain ⟨b, y3, y4, rfl, w1, w2⟩ := hW
      have eT := Ex.new (o := .tup [x, y]) nT
      obtain rfl := pl_get hy
      have hx1 := rings_nth4 (rings_ex4 (w2.trans eT) hR) hx
      obtain ⟨ok1, ok2, ok3⟩ := hseq_ok rs ps i
      refine ⟨Tp, _, rfl, SqT.of upd_same, rfl, x, [_], rfl, _, [], rfl, rfl, ?_⟩
      refine ⟨_, rfl, _, rfl, _, rfl, b, hseq rs ps i, x, _, _, _, rfl, eT _ _ w1, by omega, hx1, fun r H4 e4 hr4 => ?_⟩
      exact ⟨r, _, _, rfl, hr4, (w2.trans eT).trans e4⟩
    · obtain ⟨b, y3, y4, rfl, w1, w2⟩ := hW
      exact ⟨_, rfl, q b _ w2 w1⟩
def spDrawnHeap : Sp := fun vs H Q _ => ∃ d, vs = [.ref d] ∧ Dice H d ∧ ∀ b h H', HeapAt H' b h → IsHeap h → h.length ≤ 9 → hAt h 0 ≤ 9 → Dice H' d → Keep d H H' → Q (.ref b) H'
end
end K1

namespace K1
open PySem PySem.Spec PyProof.Rows L2 Evl K1N
/-! ### written names -/
theorem eqv_pair (a b c d : Int) : PyData.eqv (.tuple [.int a, .int b]) (.tuple [.int c, .int d]) = (a == c && b == d) := by
  simp [PyData.eqv, PyData.eqvAll]
def PlaceAt (H : Hp) (x : V) (p : Int × Int) : Prop := ∃ t, x = .ref t ∧ H t = some (.tup [.int p.1, .int p.2])
theorem PlaceAt.ex {H H' : Hp} {x : V} {p : Int × Int} (e : Ex H H') (h : PlaceAt H x p) : PlaceAt H' x p := by
  obtain ⟨t, rfl, ht⟩ := h
  exact ⟨t, rfl, e _ _ ht⟩
theorem PlaceAt.updL {H : Hp} {x : V} {p : Int × Int} {D : Addr} {ys zs : List V} (hD : H D = some (.lst ys)) (h : PlaceAt H x p) : PlaceAt (upd H D (.lst zs)) x p := by
  obtain ⟨t, rfl, ht⟩ := h
  exact ⟨t, rfl, by rw [upd_ne (ne_of ht hD (by intro z; cases z))]; exact ht⟩
abbrev Places (H : Hp) (xs : List V) (ps : List (Int × Int)) : Prop := Paired (PlaceAt H) xs ps
theorem Places.ex {H H' : Hp} {xs : List V} {ps : List (Int × Int)} (e : Ex H H') (h : Places H xs ps) : Places H' xs ps := paired_imp (fun _ _ q => PlaceAt.ex e q) h
theorem Places.updL {H : Hp} {xs : List V} {ps : List (Int × Int)} {D : Addr} {ys zs : List V} (hD : H D = some (.lst ys)) (h : Places H xs ps) : Places (upd H D (.lst zs)) xs ps := paired_imp (fun _ _ q => PlaceAt.updL hD q) h
/-- what the rings of a chain are, by number -/
theorem rings_nth {H : Hp} {most : Int} {xs : List V} {rs : List (Int × Int)} (h : RingsAt H most xs rs) {j : Nat} (hj : j < rs.length) : ∃ x, xs[j]? = some x ∧ RingAt H most x (nAt rs j : Int) (sAt rs j) := by
  have hl := paired_len h
  have hx : xs[j]? = some (xs[j]'(by omega)) := List.getElem?_eq_getElem _
  obtain ⟨r, hr, q⟩ := paired_get h hx
  have e : rs.getD j (0, 0) = r := by rw [List.getD_eq_getElem?_getD, hr]; rfl
  obtain ⟨t, e1, e2, e3, e4, e5, e6⟩ := id q
  refine ⟨_, hx, ?_⟩
  unfold nAt sAt
  rw [e, show ((r.1.toNat : Nat) : Int) = r.1 by omega]
  exact q
theorem rings_ok {H : Hp} {most : Int} {xs : List V} {rs : List (Int × Int)} (h : RingsAt H most xs rs) (j : Nat) (hj : j < rs.length) : 1 ≤ sAt rs j ∧ sAt rs j < (nAt rs j : Int) := by
  obtain ⟨x, _, t, _, _, _, _, e5, e6⟩ := rings_nth h hj
  exact ⟨e5, e6⟩
theorem rings_n {H : Hp} {xs : List V} {rs : List (Int × Int)} (h : RingsAt H 60 xs rs) (j : Nat) : nAt rs j ≤ 60 := by
  by_cases hj : j < rs.length
  · obtain ⟨x, _, t, _, _, _, e4, _⟩ := rings_nth h hj
    omega
  · unfold nAt
    rw [List.getD_eq_getElem?_getD, List.getElem?_eq_none (by omega)]
    decide
theorem rings_chain {K : PySem.W.Frag} {H : Hp} {a : Addr} {xs : List V} {rs : List (Int × Int)} (h : RingsAt H 60 xs rs) (ha : H a = some (.tup xs)) (h1 : 1 ≤ xs.length) (h2 : xs.length ≤ 12) : ChainB K H (.ref a) true := by
  have p : ∀ {xs : List V} {rs : List (Int × Int)}, RingsAt H 60 xs rs → Paired (RingB K H) xs (List.replicate xs.length true) := by
    intro xs rs h
    induction h with
    | nil => exact .nil
    | cons r _ ih => exact .cons (RingAt.ring r (Int.le_refl _)) ih
  have q := ChainB.tup (K := K) ha ⟨h1, h2⟩ (p h)
  have e : (List.replicate xs.length true).all id = true := by simp
  rw [e] at q
  exact q
theorem pre_in (rs : List (Int × Int)) : ∀ (i : Nat) {p : Int × Int}, p ∈ pre rs i → 0 ≤ p.1 ∧ p.1 < (i : Int)
  | 0, p, h => by cases h
  | i + 1, p, h => by
    rcases List.mem_append.mp h with h | h
    · have := pre_in rs i h
      omega
    · unfold row at h
      obtain ⟨q, _, rfl⟩ := List.mem_map.mp h
      show 0 ≤ (i : Int) ∧ (i : Int) < ((i + 1 : Nat) : Int)
      omega
/-- the written name of a place -/
def wn (rs : List (Int × Int)) (p : Int × Int) : Int × Int := if own rs p then p else (p.1 - 1, 0)
section
variable {P : Program} {w : World} {K : PySem.W.Frag} {mg : Str → Option Value} {base : Heap}
def spWrittenName : Sp := fun vs H Q _ => ∃ (c : Addr) (xs : List V) (rs : List (Int × Int)) (x : V) (p : Int × Int), vs = [.ref c, x] ∧ H c = some (.tup xs) ∧ RingsAt H 60 xs rs ∧ PlaceAt H x p ∧ 0 ≤ p.1 ∧ p.1 < (rs.length : Int) ∧
  ∀ y H', Ex H H' → PlaceAt H' y (wn rs p) → Q y H'
def spNamesOf : Sp := fun vs H Q _ => ∃ (c : Addr) (xs : List V) (rs : List (Int × Int)), vs = [.ref c] ∧ H c = some (.tup xs) ∧ RingsAt H 60 xs rs ∧ xs.length ≤ 12 ∧ ∀ p ys H', Ex H H' → H p = none → H' p = some (.lst ys) → Places H' ys (names rs) → Q (.ref p) H'
def spPlacesOf : Sp := fun vs H Q _ => ∃ (c : Addr) (xs : List V) (rs : List (Int × Int)), vs = [.ref c] ∧ H c = some (.tup xs) ∧ RingsAt H 60 xs rs ∧ 1 ≤ xs.length ∧ xs.length ≤ 12 ∧ ∀ p ys H', Ex H H' → H' p = some (.tup ys) → Places H' ys (names rs) → Q (.ref p) H'
end
end K1

/-! own walk: zip of a list and a tuple -/
namespace ZM
open PySem PySem.Spec PyProof.Rows L2
/-- a list and a tuple, their items in new pairs -/
def ItM (K : PySem.W.Frag) (a b : Addr) : It :=
  ⟨fun i H => ∃ (xs ys : List V) (x y : V), SqL K H a xs ∧ SqT K H b ys ∧ xs[i]? = some x ∧ ys[i]? = some y,
    fun i H v H' => ∃ T x y, v = .ref T ∧ H T = none ∧ H' = upd H T (.tup [x, y]) ∧ (∀ xs, SqL K H a xs → xs[i]? = some x) ∧ ∀ ys, SqT K H b ys → ys[i]? = some y,
    fun i H => ∃ xs ys : List V, SqL K H a xs ∧ SqT K H b ys ∧ xs.length = i ∧ ys.length = i⟩
theorem turnM {P : Program} {w : World} {K : PySem.W.Frag} {elts : List Expr} {kk : Nat} {tpos : Pos} {a b z TI TO i1 i2 : Addr} (S : ZipSep2 z TI TO i1 i2 [i1, a] [i2, b]) (na : a ≠ i1) (nb : b ≠ i2) (w1 : z ≠ i1 ∧ z ≠ i2) :
    Turn P w K (.Tuple elts kk tpos) (ItM K a b) [z, TI, TO, i1, i2] z (fun i h => IsZip h z TI TO .none ∧ IsTupOf2 h TI (.ref i1) (.ref i2) ∧ (∃ x y, IsTupOf2 h TO x y) ∧ h.IsListIter i1 a i ∧ h.IsTupleIter i2 b i) where
  mem := by simp
  obj := fun i h st t ht => by
    obtain ⟨hz, hTI, ⟨x, y, hTO⟩, ⟨o1, e1, _, d1⟩, ⟨o2, e2, _, d2⟩⟩ := st
    rcases (show t = z ∨ t = TI ∨ t = TO ∨ t = i1 ∨ t = i2 by simpa using ht) with q | q | q | q | q
    · rw [q]
      exact ⟨_, hz, fun v q => nomatch q⟩
    · rw [q]
      exact ⟨_, hTI, fun v q => nomatch q⟩
    · rw [q]
      exact ⟨_, hTO, fun v q => nomatch q⟩
    · exact ⟨o1, q ▸ e1, fun v q => by rw [d1] at q; cases q⟩
    · exact ⟨o2, q ▸ e2, fun v q => by rw [d2] at q; cases q⟩
  keep := fun i h h' st k => by
    obtain ⟨hz, hTI, ⟨x, y, hTO⟩, h1, h2⟩ := st
    exact ⟨k z (by simp) _ hz, k TI (by simp) _ hTI, ⟨x, y, k TO (by simp) _ hTO⟩, h1.at fun o q => k i1 (by simp) o q, h2.at fun o q => k i2 (by simp) o q⟩
  item := by
    intro X eP eW eK hc i pins s σ H E I hf st hg
    subst eP eW eK
    obtain ⟨hz, hTI, ⟨x0, y0, hTO⟩, h1, h2⟩ := st
    obtain ⟨xs, ys, x, y, qx, qy, gx, gy⟩ := hg
    obtain ⟨t1, r1, p1, _⟩ := I.list qx
    obtain ⟨t2, r2, p2, _⟩ := I.tuple qy
    obtain ⟨v1, m1, rv1⟩ := r1.get gx
    obtain ⟨v2, m2, rv2⟩ := r2.get gy
    have l1 : i < t1.toArray.size := by simpa using (List.getElem?_eq_some_iff.mp m1).1
    have l2 : i < t2.toArray.size := by simpa using (List.getElem?_eq_some_iff.mp m2).1
    have hzl : z < s.heap.objs.size := Heap.lt_size hz
    have hh : X.A.in1.handled = none := I.ok.hd hc
    refine wpAny_pyNext_zipD2_item S (Draws.list hh i1 a na t1.toArray) (Draws.tuple hh i2 b nb t2.toArray) hz hTI hTO ⟨h1, p1.isList⟩ ⟨h2, p2⟩ l1 l2 fun w1' w2' h' tk g1 g2 zz tt s1 s2 hT hsz hk => ?_
    have a1 : w1' = v1 := Option.some.inj (g1.symm.trans (by simpa using m1))
    have a2 : w2' = v2 := Option.some.inj (g2.symm.trans (by simpa using m2))
    subst a1 a2
    refine ⟨_, rfl, wpAny_letOwnedTupleGo_zip (s := { s with heap := h', toks := tk }) zz fun h2' z2 sb => ?_⟩
    have hT2 : h2'.get? s.heap.objs.size = some { cls := .type "tuple", data := .seq #[w1', w2'] } := (sb.2 _ (Nat.ne_of_gt hzl)).trans hT
    have made : ObjOk X.prog X.w (upd H s.heap.objs.size (.tup [x, y])) h2' s.heap.objs.size (.tup [x, y]) :=
      ⟨by show 2 ≤ sizeLine; decide, [w1', w2'], .cons rv1 (.cons rv2 .nil), ⟨_, hT2, rfl, _, rfl⟩⟩
    have I2 : Inv X pins σ (upd H s.heap.objs.size (.tup [x, y])) { s with heap := h2', toks := tk } :=
      I.turnedNew (ch := [z, TI, TO, i1, i2]) (fun t o ht q => (sb.2 t (fun e => ht (by simp [e]))).trans (hk t o (fun e => ht (by simp [e])) (fun e => ht (by simp [e])) (fun e => ht (by simp [e])) (fun e => ht (by simp [e])) q)) hf (Nat.le_refl _) made
    refine ⟨.ref s.heap.objs.size, _, I2, rfl, ⟨_, x, y, rfl, I.hok.fresh (Nat.le_refl _), rfl, fun l hl => by rw [I.list_inj hl qx]; exact gx, fun l hl => by rw [I.tuple_inj hl qy]; exact gy⟩,
      ⟨z2, (sb.2 _ S.TIz).trans (hk _ _ S.TIz S.TITO S.TIi1 S.TIi2 hTI), ⟨w1', w2', (sb.2 _ S.TOz).trans tt⟩, s1.1.at fun o q => (sb.2 _ w1.1.symm).trans q, s2.1.at fun o q => (sb.2 _ w1.2.symm).trans q⟩, fun t ht => ?_⟩
    have lt : t < s.heap.objs.size := by
      rcases (show t = z ∨ t = TI ∨ t = TO ∨ t = i1 ∨ t = i2 by simpa using ht) with q | q | q | q | q
      · exact q ▸ hzl
      · exact q ▸ Heap.lt_size hTI
      · exact q ▸ Heap.lt_size hTO
      · obtain ⟨_, e, _⟩ := h1
        exact q ▸ Heap.lt_size e
      · obtain ⟨_, e, _⟩ := h2
        exact q ▸ Heap.lt_size e
    rw [upd_ne (Nat.ne_of_lt lt)]
    exact (hf t ht).1
  done := by
    intro X eP eW eK hc i pins s σ H E I hf st hg
    subst eP eW eK
    obtain ⟨hz, hTI, ⟨x0, y0, hTO⟩, h1, h2⟩ := st
    obtain ⟨xs, ys, qx, qy, gx, gy⟩ := hg
    obtain ⟨t1, r1, p1, _⟩ := I.list qx
    obtain ⟨t2, r2, p2, _⟩ := I.tuple qy
    have k1 := r1.length
    have k2 := r2.length
    have hh : X.A.in1.handled = none := I.ok.hd hc
    exact wpAny_pyNext_zipD2_end S (Draws.list hh i1 a na t1.toArray) (Draws.tuple hh i2 b nb t2.toArray) hz hTI hTO ⟨h1, p1.isList⟩ ⟨h2, p2⟩ (by rw [List.size_toArray]; omega) (by rw [List.size_toArray]; omega) (.inl (by rw [List.size_toArray]; omega))
      fun h' tk hk => ⟨rfl, I.turnedL (ch := [z, TI, TO, i1, i2]) (fun t o ht q => hk t o (fun e => ht (by simp [e])) (fun e => ht (by simp [e])) (fun e => ht (by simp [e])) (fun e => ht (by simp [e])) q) hf⟩
  self := fun A i s Q E st h => wpAny_pyIter_zip st.1 h
def iZipM (K : PySem.W.Frag) (ta : TA) : TI := fun σ H R => ta σ H fun vs H1 => ∃ a b xs ys, vs = [.ref a, .ref b] ∧ SqL K H1 a xs ∧ SqT K H1 b ys ∧ R (ItM K a b) H1
theorem pi_zipM {X : Cx} {e e2 : Expr} {ta : TA} {p pos tpos : Pos} {elts : List Expr} {kk : Nat} (hg : Gl X "zip") (hm : X.mg "zip" = none) (ha : PA X [e, e2] ta)
    (hs : starEach [e, e2] X.env = (false, eval e X.env) :: starEach [e2] X.env := by rfl) (hpl : (backTo pos (starEach [e2] X.env)).any (·.1) = false := by rfl) :
    PI X (.Tuple elts kk tpos) (.Call (.Name "zip" p) [e, e2] [] pos) (iZipM X.K ta) := by
  refine ⟨fun pins s σ H R I h => ?_⟩
  refine Call_ (ld_blt I hg hm PyProof.Rows.boot_zip (PyProof.Rows.callWith_type1 (thn (ha.run pos pins s σ H _ I h) fun vs' s1 ⟨vs, H1, I1, r1, q1⟩ => ?_) hs hpl))
  obtain ⟨a, b, xs, ys, ex, qx, qy, q⟩ := q1
  subst ex
  obtain ⟨t1, r1', p1, _⟩ := I1.list qx
  obtain ⟨t2, r2', p2, _⟩ := I1.tuple qy
  cases r1 with
  | cons ra rr =>
    cases rr with
    | cons rb rr =>
      cases rr
      cases ra
      cases rb
      have la : a < s1.heap.objs.size := by
        obtain ⟨_, e, _⟩ := p1.isList
        exact Heap.lt_size e
      have lb : b < s1.heap.objs.size := by
        obtain ⟨_, e, _⟩ := p2
        exact Heap.lt_size e
      refine zip_begins2 (begins_list a t1.toArray) (begins_tuple b t2.toArray) p1.isList p2 fun h' hz hTI hTO g1 g2 _ hk => wpAny_pyIter_zip hz ?_
      have I2 : Inv X pins σ H1 { s1 with heap := h' } := I1.kept (t' := s1.toks) hk
      have S : ZipSep2 (s1.heap.objs.size + 4) (s1.heap.objs.size + 2) (s1.heap.objs.size + 3) s1.heap.objs.size (s1.heap.objs.size + 1) [s1.heap.objs.size, a] [s1.heap.objs.size + 1, b] :=
        zip_sep2 (fun t ht => by rw [List.mem_singleton.mp ht]; exact la) (fun t ht => by rw [List.mem_singleton.mp ht]; exact lb)
      have add : ∀ {m k : Nat}, m ≠ k → s1.heap.objs.size + m ≠ s1.heap.objs.size + k := fun n e => n (Nat.add_left_cancel e)
      refine ⟨s1.heap.objs.size + 4, [s1.heap.objs.size + 4, s1.heap.objs.size + 2, s1.heap.objs.size + 3, s1.heap.objs.size, s1.heap.objs.size + 1], _, _, H1, rfl, I2,
        turnM S (Nat.ne_of_lt la) (Nat.ne_of_lt (Nat.lt_succ_of_lt lb)) ⟨add (m := 4) (k := 0) (by decide), add (by decide)⟩,
        ⟨hz, hTI, ⟨_, _, hTO⟩, ⟨_, g1, rfl, rfl⟩, ⟨_, g2, rfl, rfl⟩⟩, fun t ht => ?_, q⟩
      have le : s1.heap.objs.size ≤ t := by
        rcases (show t = s1.heap.objs.size + 4 ∨ t = s1.heap.objs.size + 2 ∨ t = s1.heap.objs.size + 3 ∨ t = s1.heap.objs.size ∨ t = s1.heap.objs.size + 1 by simpa using ht) with q | q | q | q | q
        · exact q ▸ Nat.le_add_right _ _
        · exact q ▸ Nat.le_add_right _ _
        · exact q ▸ Nat.le_add_right _ _
        · exact q ▸ Nat.le_refl _
        · exact q ▸ Nat.le_add_right _ _
      exact I1.fpOk le (I1.hok.fresh le)
theorem lc_zipM {K : PySem.W.Frag} {a b : Addr} {xs ys : List V} {n : Nat} {g : TG} {tt : TT} {te : TE} {vs : List Nat} {σ : L2.St} {H1 : Hp} {D : Addr} {Qd : Hp → Prop} (hx : xs.length = n) (hy : ys.length = n)
    (Pv : Nat → Hp → Prop) (h0 : Pv 0 (upd H1 D (.lst []))) (hq : ∀ i H, Pv i H → SqL K H a xs ∧ SqT K H b ys)
    (hs : ∀ i x y T H, i < n → xs[i]? = some x → ys[i]? = some y → Pv i H → H T = none → g (.ref T) (wipe σ vs) (upd H T (.tup [x, y])) fun σ2 H2 => wipe σ2 vs = wipe σ vs ∧ tt σ2 H2 fun c H3 =>
      if c = true then te σ2 H3 fun z H4 => ∃ acc, H4 D = some (.lst acc) ∧ acc.length < sizeLine ∧ Pv (i + 1) (upd H4 D (.lst (acc ++ [z]))) else Pv (i + 1) H3) (hd : ∀ H, Pv n H → Qd H) :
    ∃ W : Nat → Nat → Hp → Prop, (∃ m, W 0 m (upd H1 D (.lst []))) ∧ ∀ i m H, W i m H →
      ((ItM K a b).stop i H ∧ Qd H) ∨ ((ItM K a b).go i H ∧ ∃ Nx : Hp → Prop, (∀ H', Nx H' → ∃ m', m' < m ∧ W (i + 1) m' H') ∧ ∀ v H', (ItM K a b).yld i H v H' → g v (wipe σ vs) H' fun σ2 H2 => wipe σ2 vs = wipe σ vs ∧ tt σ2 H2 fun c H3 =>
        if c = true then te σ2 H3 fun z H4 => ∃ acc, H4 D = some (.lst acc) ∧ acc.length < sizeLine ∧ Nx (upd H4 D (.lst (acc ++ [z]))) else Nx H3) := by
  refine ⟨fun i m H => m = n - i ∧ i ≤ n ∧ Pv i H, ⟨n, (Nat.sub_zero n).symm, Nat.zero_le _, h0⟩, ?_⟩
  rintro i m H ⟨rfl, hi, p⟩
  obtain ⟨qa, qb⟩ := hq i H p
  by_cases hlt : i < n
  · have e1 : xs[i]? = some (xs[i]'(by omega)) := List.getElem?_eq_getElem _
    have e2 : ys[i]? = some (ys[i]'(by omega)) := List.getElem?_eq_getElem _
    refine .inr ⟨⟨xs, ys, _, _, qa, qb, e1, e2⟩, Pv (i + 1), fun H' p' => ⟨n - (i + 1), by omega, rfl, hlt, p'⟩, fun v H' hy' => ?_⟩
    obtain ⟨T, x, y, rfl, nT, rfl, fx, fy⟩ := hy'
    exact hs i x y T H hlt (fx _ qa) (fy _ qb) p nT
  · have e : i = n := by omega
    subst e
    exact .inl ⟨⟨xs, ys, qa, qb, hx, hy⟩, hd H p⟩
end ZM

namespace K1
open PySem PySem.Spec PyProof.Rows L2 Evl LX ZW
theorem int_get5 {ns : List Int} {i : Nat} (h : i < ns.length) : (ns.map V.int)[i]? = some (V.int (ns.getD i 0)) := by
  rw [List.getElem?_map, List.getD_eq_getElem?_getD, List.getElem?_eq_getElem h]
  rfl
theorem mapr_get {n i : Nat} (f : Nat → Int) (h : i < n) : ((List.range n).map f).getD i 0 = f i := by
  rw [List.getD_eq_getElem?_getD, List.getElem?_map, List.getElem?_range h]
  rfl
end K1

/-! boxes of tuples: mathematics -/
namespace BX
abbrev Rg := List (Int × Int)
def ups (n : Nat) : List Int := (List.range n).map fun (i : Nat) => (i : Int)
/-- all tuples, the first place outermost -/
def allT : Rg → List (List Int)
  | [] => [[]]
  | r :: rs => (ups r.1.toNat).flatMap fun p => (allT rs).map (p :: ·)
/-- one ring more, as the law makes it -/
def wider (l : List (List Int)) (n : Nat) : List (List Int) := l.flatMap fun one => (ups n).map fun p => one ++ [p]
def allF (rs : Rg) : List (List Int) := rs.foldl (fun l r => wider l r.1.toNat) [[]]
theorem foldl_wider : ∀ (rs : Rg) (l : List (List Int)), rs.foldl (fun l r => wider l r.1.toNat) l = l.flatMap fun one => (allT rs).map (one ++ ·)
  | [], l => by simp [allT]
  | r :: rs, l => by
    rw [List.foldl_cons, foldl_wider rs, show allT (r :: rs) = (ups r.1.toNat).flatMap fun p => (allT rs).map (p :: ·) from rfl]
    unfold wider
    rw [List.flatMap_assoc]
    congr 1
    funext one
    rw [List.flatMap_map, List.map_flatMap]
    congr 1
    funext p
    rw [List.map_map]
    congr 1
    funext x
    simp
theorem allF_eq (rs : Rg) : allF rs = allT rs := by
  unfold allF
  rw [foldl_wider]
  simp
theorem mem_ups {n : Nat} {p : Int} : p ∈ ups n ↔ 0 ≤ p ∧ p < n := by
  unfold ups
  rw [List.mem_map]
  constructor
  · rintro ⟨i, hi, rfl⟩
    have := List.mem_range.mp hi
    omega
  · rintro ⟨h0, h1⟩
    exact ⟨p.toNat, List.mem_range.mpr (by omega), by omega⟩
/-- tuples of places of the rings -/
inductive InT : Rg → List Int → Prop where
  | nil : InT [] []
  | cons {r : Int × Int} {rs : Rg} {p : Int} {ps : List Int} (h0 : 0 ≤ p) (h1 : p < r.1) (h : InT rs ps) : InT (r :: rs) (p :: ps)
theorem mem_allT : ∀ {rs : Rg} {x : List Int}, x ∈ allT rs ↔ InT rs x
  | [], x => by
    unfold allT
    rw [List.mem_singleton]
    exact ⟨fun h => h ▸ .nil, fun h => by cases h; rfl⟩
  | r :: rs, x => by
    unfold allT
    rw [List.mem_flatMap]
    constructor
    · rintro ⟨p, hp, hx⟩
      obtain ⟨y, hy, rfl⟩ := List.mem_map.mp hx
      have := mem_ups.mp hp
      exact .cons this.1 (by omega) (mem_allT.mp hy)
    · intro h
      cases h with
      | @cons _ _ p ps h0 h1 h => exact ⟨p, mem_ups.mpr ⟨h0, by omega⟩, List.mem_map.mpr ⟨_, mem_allT.mpr h, rfl⟩⟩
/-- boxes of the rings -/
inductive BoxR : Rg → List (Option Int) → Prop where
  | nil : BoxR [] []
  | open {r : Int × Int} {rs : Rg} {bs : List (Option Int)} (h : BoxR rs bs) : BoxR (r :: rs) (none :: bs)
  | told {r : Int × Int} {rs : Rg} {t : Int} {bs : List (Option Int)} (h0 : 0 ≤ t) (h1 : t < r.1) (h : BoxR rs bs) : BoxR (r :: rs) (some t :: bs)
theorem BoxR.length : ∀ {rs : Rg} {bs : List (Option Int)}, BoxR rs bs → bs.length = rs.length
  | _, _, .nil => rfl
  | _, _, .open h => by simp [h.length]
  | _, _, .told _ _ h => by simp [h.length]
theorem InT.length : ∀ {rs : Rg} {ps : List Int}, InT rs ps → ps.length = rs.length
  | _, _, .nil => rfl
  | _, _, .cons _ _ h => by simp [h.length]
def inB : List (Option Int) → List Int → Bool
  | some t :: bs, p :: ps => decide (t = p) && inB bs ps
  | none :: bs, _ :: ps => inB bs ps
  | _, _ => true
def liB : List (Option Int) → List (Option Int) → Bool
  | some t :: bs, o :: os => decide (some t = o) && liB bs os
  | none :: bs, _ :: os => liB bs os
  | _, _ => true
def sizeB : Rg → List (Option Int) → Nat
  | r :: rs, none :: bs => r.1.toNat * sizeB rs bs
  | _ :: rs, some _ :: bs => sizeB rs bs
  | _, _ => 1
def meetB : List (Option Int) → List (Option Int) → Option (List (Option Int))
  | some t :: bs, some u :: os => if t = u then (meetB bs os).map (some u :: ·) else none
  | some t :: bs, none :: os => (meetB bs os).map (some t :: ·)
  | none :: bs, o :: os => (meetB bs os).map (o :: ·)
  | _, _ => some []
theorem filter_flatMap {α β : Type} (q : β → Bool) (f : α → List β) : ∀ l : List α, (l.flatMap f).filter q = l.flatMap fun a => (f a).filter q
  | [] => rfl
  | a :: l => by simp [List.filter_append, filter_flatMap q f l]
theorem len_flatMap {α β : Type} (f : α → List β) (c : Nat) : ∀ l : List α, (∀ a ∈ l, (f a).length = c) → (l.flatMap f).length = l.length * c
  | [], _ => by simp
  | a :: l, h => by
    rw [List.flatMap_cons, List.length_append, h a (by simp), len_flatMap f c l fun b hb => h b (by simp [hb]), List.length_cons, Nat.succ_mul, Nat.add_comm]
theorem len_ups (n : Nat) : (ups n).length = n := by simp [ups]
theorem len_one {α : Type} (f : Int → List α) (t : Int) (c : Nat) (h1 : (f t).length = c) (h0 : ∀ p, p ≠ t → f p = []) : ∀ n : Nat, ((ups n).flatMap f).length = if 0 ≤ t ∧ t < n then c else 0
  | 0 => by
    rw [if_neg (by omega)]
    rfl
  | n + 1 => by
    have e : ups (n + 1) = ups n ++ [(n : Int)] := by simp [ups, List.range_succ]
    rw [e, List.flatMap_append, List.length_append, len_one f t c h1 h0 n]
    have e2 : ([(n : Int)].flatMap f) = f n := by simp
    rw [e2]
    by_cases z : (n : Int) = t
    · rw [z, h1, if_neg (by omega), if_pos (by omega)]
      omega
    · rw [h0 _ z]
      by_cases c2 : 0 ≤ t ∧ t < n
      · rw [if_pos c2, if_pos (by omega)]
        rfl
      · rw [if_neg c2, if_neg (by omega)]
        rfl
theorem count_box : ∀ {rs : Rg} {bs : List (Option Int)}, BoxR rs bs → ((allT rs).filter (inB bs)).length = sizeB rs bs
  | _, _, .nil => rfl
  | r :: rs, _, .open (bs := bs) h => by
    unfold allT sizeB
    rw [filter_flatMap, len_flatMap _ (sizeB rs bs), len_ups]
    intro p _
    rw [List.filter_map, List.length_map, ← count_box h]
    rfl
  | r :: rs, _, .told (t := t) (bs := bs) h0 h1 h => by
    unfold allT sizeB
    rw [filter_flatMap, len_one _ t (sizeB rs bs), if_pos (by omega)]
    · rw [List.filter_map, List.length_map, ← count_box h]
      congr 1
      refine List.filter_congr fun x _ => ?_
      show (decide (t = t) && inB bs x) = _
      rw [decide_eq_true rfl, Bool.true_and]
    · intro p hp
      rw [List.filter_map]
      rw [List.filter_eq_nil_iff.mpr]
      · rfl
      · intro x _
        show ¬ (decide (t = p) && inB bs x) = true
        rw [decide_eq_false (fun z => hp z.symm), Bool.false_and]
        exact Bool.false_ne_true
/-- a box has a tuple -/
def pick : List (Option Int) → List Int
  | some t :: bs => t :: pick bs
  | none :: bs => 0 :: pick bs
  | [] => []
theorem pick_in : ∀ {rs : Rg} {bs : List (Option Int)}, (∀ r ∈ rs, 2 ≤ r.1) → BoxR rs bs → InT rs (pick bs) ∧ inB bs (pick bs) = true
  | _, _, _, .nil => ⟨.nil, rfl⟩
  | r :: rs, _, hr, .open h => by
    have := pick_in (fun r hr' => hr r (by simp [hr'])) h
    have := hr r (by simp)
    exact ⟨.cons (Int.le_refl 0) (by omega) ‹_ ∧ _›.1, ‹_ ∧ _›.2⟩
  | r :: rs, _, hr, .told h0 h1 h => by
    have := pick_in (fun r hr' => hr r (by simp [hr'])) h
    refine ⟨.cons h0 h1 this.1, ?_⟩
    show (decide (_ = _) && _) = true
    rw [decide_eq_true rfl, Bool.true_and]
    exact this.2
theorem li_sound : ∀ {rs : Rg} {one other : List (Option Int)} {x : List Int}, BoxR rs one → BoxR rs other → InT rs x → liB one other = true → inB other x = true → inB one x = true
  | _, _, _, _, .nil, .nil, .nil, _, _ => rfl
  | _, _, _, _, .open (bs := bs) a, .open (bs := os) b, .cons (ps := ps) _ _ c, h, k => by
    have := li_sound (one := bs) (other := os) (x := ps) a b c h k
    exact this
  | _, _, _, _, .open (bs := bs) a, .told (t := u) (bs := os) _ _ b, .cons (p := p) (ps := ps) _ _ c, h, k => by
    have k : (decide (u = p) && inB os ps) = true := k
    have := li_sound (one := bs) (other := os) (x := ps) a b c h (Bool.and_eq_true_iff.mp k).2
    exact this
  | _, _, _, _, .told _ _ a, .open b, .cons _ _ c, h, k => by
    have h : (decide (_ = none) && _) = true := h
    have := of_decide_eq_true (Bool.and_eq_true_iff.mp h).1
    cases this
  | _, _, _, _, .told (t := t) (bs := bs) _ _ a, .told (t := u) (bs := os) _ _ b, .cons (p := p) (ps := ps) _ _ c, h, k => by
    have h : (decide (some t = some u) && liB bs os) = true := h
    have k : (decide (u = p) && inB os ps) = true := k
    obtain ⟨h1, h2⟩ := Bool.and_eq_true_iff.mp h
    obtain ⟨k1, k2⟩ := Bool.and_eq_true_iff.mp k
    have h1 := Option.some.inj (of_decide_eq_true h1)
    have k1 := of_decide_eq_true k1
    show (decide (t = p) && inB bs ps) = true
    rw [li_sound a b c h2 k2, decide_eq_true (by omega)]
    rfl
theorem li_full : ∀ {rs : Rg} {one other : List (Option Int)}, (∀ r ∈ rs, 2 ≤ r.1) → BoxR rs one → BoxR rs other → liB one other = false → ∃ x, InT rs x ∧ inB other x = true ∧ inB one x = false
  | _, _, _, _, .nil, .nil, h => by cases h
  | r :: rs, _, _, hr, .open a, .open b, h => by
    obtain ⟨x, h1, h2, h3⟩ := li_full (fun r hr' => hr r (by simp [hr'])) a b h
    have := hr r (by simp)
    exact ⟨0 :: x, .cons (Int.le_refl 0) (by omega) h1, h2, h3⟩
  | r :: rs, _, _, hr, .open a, .told (t := u) h0 h1 b, h => by
    obtain ⟨x, k1, k2, k3⟩ := li_full (fun r hr' => hr r (by simp [hr'])) a b h
    refine ⟨u :: x, .cons h0 h1 k1, ?_, k3⟩
    show (decide (_ = _) && _) = true
    rw [decide_eq_true rfl, Bool.true_and]
    exact k2
  | r :: rs, _, _, hr, .told (t := t) h0 h1 a, .open (bs := os) b, h => by
    obtain ⟨k1, k2⟩ := pick_in (fun r hr' => hr r (by simp [hr'])) b
    have := hr r (by simp)
    refine ⟨(if t = 0 then 1 else 0) :: pick os, .cons (by split <;> omega) (by split <;> omega) k1, k2, ?_⟩
    show (decide (_ = _) && _) = false
    rw [decide_eq_false (by split <;> omega), Bool.false_and]
  | r :: rs, _, _, hr, .told (t := t) (bs := bs) h0 h1 a, .told (t := u) (bs := os) g0 g1 b, h => by
    have h : (decide (some t = some u) && liB bs os) = false := h
    by_cases z : t = u
    · rw [decide_eq_true (by rw [z]), Bool.true_and] at h
      obtain ⟨x, k1, k2, k3⟩ := li_full (fun r hr' => hr r (by simp [hr'])) a b h
      refine ⟨u :: x, .cons g0 g1 k1, ?_, ?_⟩
      · show (decide (_ = _) && _) = true
        rw [decide_eq_true rfl, Bool.true_and]
        exact k2
      · show (decide (_ = _) && _) = false
        rw [k3, Bool.and_false]
    · obtain ⟨k1, k2⟩ := pick_in (fun r hr' => hr r (by simp [hr'])) b
      refine ⟨u :: pick os, .cons g0 g1 k1, ?_, ?_⟩
      · show (decide (_ = _) && _) = true
        rw [decide_eq_true rfl, Bool.true_and]
        exact k2
      · show (decide (_ = _) && _) = false
        rw [decide_eq_false z, Bool.false_and]
theorem meet_none : ∀ {rs : Rg} {one other : List (Option Int)} {x : List Int}, BoxR rs one → BoxR rs other → InT rs x → meetB one other = none → (inB one x && inB other x) = false
  | _, _, _, _, .nil, .nil, .nil, h => by cases h
  | _, _, _, _, .open (bs := bs) a, .open (bs := os) b, .cons (ps := ps) _ _ c, h => by
    have h : (meetB bs os).map ((none : Option Int) :: ·) = none := h
    have := meet_none (one := bs) (other := os) (x := ps) a b c (Option.map_eq_none_iff.mp h)
    exact this
  | _, _, _, _, .open (bs := bs) a, .told (t := u) (bs := os) _ _ b, .cons (p := p) (ps := ps) _ _ c, h => by
    have h : (meetB bs os).map (some u :: ·) = none := h
    have := meet_none (one := bs) (other := os) (x := ps) a b c (Option.map_eq_none_iff.mp h)
    show (inB bs ps && (decide (u = p) && inB os ps)) = false
    rw [← Bool.and_assoc, Bool.and_comm (inB _ _), Bool.and_assoc, this, Bool.and_false]
  | _, _, _, _, .told (t := t) (bs := bs) _ _ a, .open (bs := os) b, .cons (p := p) (ps := ps) _ _ c, h => by
    have h : (meetB bs os).map (some t :: ·) = none := h
    have := meet_none (one := bs) (other := os) (x := ps) a b c (Option.map_eq_none_iff.mp h)
    show ((decide (t = p) && inB bs ps) && inB os ps) = false
    rw [Bool.and_assoc, this, Bool.and_false]
  | _, _, _, _, .told (t := t) (bs := bs) _ _ a, .told (t := u) (bs := os) _ _ b, .cons (p := p) (ps := ps) _ _ c, h => by
    have h : (if t = u then (meetB bs os).map (some u :: ·) else none) = none := h
    show ((decide (t = p) && inB bs ps) && (decide (u = p) && inB os ps)) = false
    by_cases z : t = u
    · rw [if_pos z] at h
      have := meet_none a b c (Option.map_eq_none_iff.mp h)
      cases q1 : inB bs ps <;> cases q2 : inB os ps <;> simp_all
    · by_cases k : t = p
      · rw [decide_eq_false (show ¬ u = p by omega)]
        simp
      · rw [decide_eq_false k]
        simp
theorem meet_some : ∀ {rs : Rg} {one other m : List (Option Int)}, BoxR rs one → BoxR rs other → meetB one other = some m → BoxR rs m ∧ ∀ x, InT rs x → inB m x = (inB one x && inB other x)
  | _, _, _, _, .nil, .nil, h => by
    cases h
    exact ⟨.nil, fun x hx => by cases hx; rfl⟩
  | _, _, _, _, .open (bs := bs) a, .open (bs := os) b, h => by
    have h : (meetB bs os).map ((none : Option Int) :: ·) = some _ := h
    obtain ⟨m, e, rfl⟩ := Option.map_eq_some_iff.mp h
    obtain ⟨k1, k2⟩ := meet_some a b e
    exact ⟨.open k1, fun x hx => by cases hx with | cons _ _ hx => exact k2 _ hx⟩
  | _, _, _, _, .open (bs := bs) a, .told (t := u) (bs := os) h0 h1 b, h => by
    have h : (meetB bs os).map (some u :: ·) = some _ := h
    obtain ⟨m, e, rfl⟩ := Option.map_eq_some_iff.mp h
    obtain ⟨k1, k2⟩ := meet_some a b e
    refine ⟨.told h0 h1 k1, fun x hx => ?_⟩
    cases hx with
    | @cons _ _ p ps _ _ hx =>
      show (decide (u = p) && inB m ps) = (inB bs ps && (decide (u = p) && inB os ps))
      rw [k2 _ hx, ← Bool.and_assoc, ← Bool.and_assoc, Bool.and_comm (decide _)]
  | _, _, _, _, .told (t := t) (bs := bs) h0 h1 a, .open (bs := os) b, h => by
    have h : (meetB bs os).map (some t :: ·) = some _ := h
    obtain ⟨m, e, rfl⟩ := Option.map_eq_some_iff.mp h
    obtain ⟨k1, k2⟩ := meet_some a b e
    refine ⟨.told h0 h1 k1, fun x hx => ?_⟩
    cases hx with
    | @cons _ _ p ps _ _ hx =>
      show (decide (t = p) && inB m ps) = ((decide (t = p) && inB bs ps) && inB os ps)
      rw [k2 _ hx, Bool.and_assoc]
  | _, _, _, _, .told (t := t) (bs := bs) _ _ a, .told (t := u) (bs := os) h0 h1 b, h => by
    have h : (if t = u then (meetB bs os).map (some u :: ·) else none) = some _ := h
    by_cases z : t = u
    · rw [if_pos z] at h
      obtain ⟨m, e, rfl⟩ := Option.map_eq_some_iff.mp h
      obtain ⟨k1, k2⟩ := meet_some a b e
      refine ⟨.told h0 h1 k1, fun x hx => ?_⟩
      cases hx with
      | @cons _ _ p ps _ _ hx =>
        show (decide (u = p) && inB m ps) = ((decide (t = p) && inB bs ps) && (decide (u = p) && inB os ps))
        rw [k2 _ hx, z]
        cases decide (u = p) <;> simp
    · rw [if_neg z] at h
      cases h
end BX

/-! own rules: slices of a tuple and sums of tuples, whole or empty ones too, by what stands afterwards -/
namespace TE
open PySem PySem.Spec PyProof.Rows L2 Evl
section
variable {X : Cx}
def rSlE : V → Option Int → Option Int → Hp → VK → Prop := fun x lo hi H Q => ∃ a xs, x = .ref a ∧ H a = some (.tup xs) ∧ ∀ p H', Ex H H' → H' p = some (.tup (cutV xs lo hi)) → Q (.ref p) H'
theorem sl_tupE : SlR X rSlE := by
  intro pins s σ H x v vl vu lo hi sl Q I rx hs pl pu h
  obtain ⟨a, xs, rfl, hx, q⟩ := h
  refine sl_tupA pins s σ H _ v vl vu lo hi sl Q I rx hs pl pu ⟨a, xs, rfl, SqT.of hx, fun w => q a H (Ex.refl _) ?_, fun _ p hp => q p _ (Ex.new hp) upd_same⟩
  obtain ⟨w1, w2⟩ := w
  have e : cutV xs lo hi = xs := by
    unfold cutV
    rw [w1, w2, List.drop_zero, Nat.sub_zero, List.take_length]
  rw [e]
  exact hx
def rCatE : R2 := fun x y H Q => ∃ a b xs ys, x = .ref a ∧ y = .ref b ∧ H a = some (.tup xs) ∧ H b = some (.tup ys) ∧ xs.length + ys.length ≤ sizeLine ∧ ∀ p H', Ex H H' → H' p = some (.tup (xs ++ ys)) → Q (.ref p) H'
theorem op_catE : OpR X (binaryOp .Add) rCatE := by
  intro pins s σ H x y v u Q I rx ry h
  obtain ⟨a, b, xs, ys, rfl, rfl, ha, hb, hz, q⟩ := h
  refine op_catA pins s σ H _ _ v u Q I rx ry ⟨a, b, xs, ys, rfl, rfl, SqT.of ha, SqT.of hb, hz, fun e => q b H (Ex.refl _) ?_, fun _ e => q a H (Ex.refl _) ?_, fun _ _ p hp => q p _ (Ex.new hp) upd_same⟩
  · rw [e, List.nil_append]
    exact hb
  · rw [e, List.append_nil]
    exact ha
end
end TE

theorem L2.Room.units65 {k : Nat} {A : PySem.Around} (r : L2.Room k A) : A.units + 65 < PySem.cLine := by have := r.un; omega
namespace K1
open PySem PySem.Spec PyProof.Rows L2 Evl LX ZW ZM TE BX
/-! ### data: tuples of ints, lists of them -/
theorem dp_intsB {K : PySem.W.Frag} {H : Hp} : ∀ ns : List Int, DpAll K H (ns.map V.int) (ns.map PyData.int)
  | [] => .nil
  | n :: r => .cons (.int n) (dp_intsB r)
theorem can_intsB : ∀ l : List Int, PyData.canLayAll0 (l.map PyData.int) = true
  | [] => rfl
  | b :: r => by simp [PyData.canLayAll0, PyData.canLay0, can_intsB r]
theorem depth_intsB : ∀ l : List Int, PyData.depthAll (l.map PyData.int) ≤ 60
  | [] => by decide
  | b :: r => by
    have := depth_intsB r
    simp only [List.map_cons, PyData.depthAll, PyData.depth]
    omega
theorem eqvAll_ints : ∀ a b : List Int, PyData.eqvAll (a.map PyData.int) (b.map PyData.int) = decide (a = b)
  | [], [] => by simp [PyData.eqvAll]
  | [], _ :: _ => by simp [PyData.eqvAll]
  | _ :: _, [] => by simp [PyData.eqvAll]
  | x :: a, y :: b => by
    have := eqvAll_ints a b
    simp only [List.map_cons, PyData.eqvAll, PyData.eqv, this]
    by_cases e : x = y
    · subst e
      simp
    · simp [e]
def tD (ps : List Int) : PyData := .tuple (ps.map PyData.int)
theorem eqv_tD (a b : List Int) : PyData.eqv (tD a) (tD b) = decide (a = b) := by
  have : PyData.eqv (tD a) (tD b) = PyData.eqvAll (a.map PyData.int) (b.map PyData.int) := by
    unfold tD
    simp only [PyData.eqv]
  rw [this, eqvAll_ints]
theorem shaped_tD (ns : List Int) : SeqAt.shaped (tD ns) = true := by
  unfold SeqAt.shaped tD
  have h1 : (PyData.tuple (ns.map PyData.int)).canLay0 = true := by simp [PyData.canLay0, can_intsB ns]
  have h2 : (PyData.tuple (ns.map PyData.int)).depth ≤ 64 := by
    have := depth_intsB ns
    simp only [PyData.depth]
    omega
  rw [h1, decide_eq_true h2]
  rfl
theorem dp_row {K : PySem.W.Frag} {H : Hp} {a : Addr} {ps : List Int} (h : PlacesT H a ps) : Dp K H (.ref a) (tD ps) := .tup (SqT.of h) (dp_intsB _)
/-- tuples of integers at values -/
def Rows (H : Hp) (ys : List V) (pss : List (List Int)) : Prop := Paired (fun v ps => ∃ a, v = V.ref a ∧ PlacesT H a ps) ys pss
theorem Rows.keep {H H' : Hp} {ys : List V} {pss : List (List Int)} (k : ∀ b xs, H b = some (.tup xs) → H' b = some (.tup xs)) (h : Rows H ys pss) : Rows H' ys pss :=
  paired_imp (fun _ _ ⟨a, e, z⟩ => ⟨a, e, k a _ z⟩) h
theorem Rows.ex {H H' : Hp} {ys : List V} {pss : List (List Int)} (e : Ex H H') (h : Rows H ys pss) : Rows H' ys pss := h.keep fun b _ q => e b _ q
theorem Rows.lst {H : Hp} {ys acc : List V} {pss : List (List Int)} {l : Addr} {o : HO} (hl : H l = some (.lst acc)) (h : Rows H ys pss) : Rows (upd H l o) ys pss :=
  h.keep fun b _ q => (upd_ne (ne_of q hl (by intro z; cases z))).trans q
theorem Rows.get {H : Hp} {ys : List V} {pss : List (List Int)} {i : Nat} {x : V} (h : Rows H ys pss) (hx : ys[i]? = some x) : ∃ a ps, x = .ref a ∧ PlacesT H a ps ∧ pss[i]? = some ps := by
  obtain ⟨ps, h1, a, h2, h3⟩ := paired_get h hx
  exact ⟨a, ps, h2, h3, h1⟩
theorem dp_rows {K : PySem.W.Frag} {H : Hp} : ∀ {ys : List V} {pss : List (List Int)}, Rows H ys pss → DpAll K H ys (pss.map tD)
  | [], [], .nil => .nil
  | _ :: _, _ :: _, .cons ⟨_, e, r⟩ s => by
    subst e
    exact .cons (dp_row r) (dp_rows s)
theorem can_rows : ∀ l : List (List Int), PyData.canLayAll0 (l.map tD) = true
  | [] => rfl
  | b :: r => by
    have h1 : (tD b).canLay0 = true := by simp [tD, PyData.canLay0, can_intsB b]
    simp only [List.map_cons, PyData.canLayAll0, h1, can_rows r, Bool.true_and]
theorem depth_rows : ∀ l : List (List Int), PyData.depthAll (l.map tD) ≤ 62
  | [] => Nat.zero_le _
  | b :: r => by
    have h1 := depth_rows r
    have h2 := depth_intsB b
    simp only [List.map_cons, tD, PyData.depthAll, PyData.depth]
    have h1' : PyData.depthAll (List.map (fun ps => PyData.tuple (List.map PyData.int ps)) r) ≤ 62 := h1
    first
      | omega
      | (show max _ _ ≤ _; omega)
theorem shaped_rows (l : List (List Int)) : SeqAt.shaped (.list (l.map tD)) = true := by
  unfold SeqAt.shaped
  have h1 : (PyData.list (l.map tD)).canLay0 = true := by simp [PyData.canLay0, can_rows l]
  have h2 : (PyData.list (l.map tD)).depth ≤ 64 := by
    have := depth_rows l
    simp only [PyData.depth]
    omega
  rw [h1, decide_eq_true h2]
  rfl
theorem eqvAll_rows : ∀ a b : List (List Int), PyData.eqvAll (a.map tD) (b.map tD) = decide (a = b)
  | [], [] => by simp [PyData.eqvAll]
  | [], _ :: _ => by simp [PyData.eqvAll]
  | _ :: _, [] => by simp [PyData.eqvAll]
  | x :: a, y :: b => by
    have := eqvAll_rows a b
    simp only [List.map_cons, PyData.eqvAll, eqv_tD, this]
    by_cases e : x = y
    · subst e
      simp
    · simp [e]
theorem eqv_rows (a b : List (List Int)) : PyData.eqv (.list (a.map tD)) (.list (b.map tD)) = decide (a = b) := by
  rw [← eqvAll_rows]
  simp only [PyData.eqv]
theorem any_rows (l : List (List Int)) (x : List Int) : ((l.map tD).any fun z => PyData.eqv z (tD x)) = decide (x ∈ l) := by
  induction l with
  | nil => rfl
  | cons b r ih =>
    rw [List.map_cons, List.any_cons, ih, eqv_tD, ← Bool.decide_or]
    refine decide_eq_decide.mpr ?_
    rw [List.mem_cons]
    exact ⟨fun h => h.imp Eq.symm id, fun h => h.imp Eq.symm id⟩
/-- two lists of rows compared -/
theorem eq_rows {K : PySem.W.Frag} {H : Hp} {a b : Addr} {xs ys : List V} {pss qss : List (List Int)} {Q : VK} (ha : H a = some (.lst xs)) (hx : Rows H xs pss) (hb : H b = some (.lst ys)) (hy : Rows H ys qss) (q : Q (.bl (decide (pss = qss))) H) : rEqD K (.ref a) (.ref b) H Q := by
  refine ⟨_, _, .lst (SqL.of ha) (dp_rows hx), .lst (SqL.of hb) (dp_rows hy), shaped_rows _, shaped_rows _, ?_⟩
  rw [eqv_rows]
  exact q
theorem ne_rows {K : PySem.W.Frag} {H : Hp} {a b : Addr} {xs ys : List V} {pss qss : List (List Int)} {Q : VK} (ha : H a = some (.lst xs)) (hx : Rows H xs pss) (hb : H b = some (.lst ys)) (hy : Rows H ys qss) (q : Q (.bl (!decide (pss = qss))) H) : rNeD K (.ref a) (.ref b) H Q := by
  refine ⟨_, _, .lst (SqL.of ha) (dp_rows hx), .lst (SqL.of hb) (dp_rows hy), shaped_rows _, shaped_rows _, ?_⟩
  rw [eqv_rows]
  exact q
theorem in_rows {K : PySem.W.Frag} {H : Hp} {a b : Addr} {ys : List V} {ps : List Int} {qss : List (List Int)} {Q : VK} (ha : PlacesT H a ps) (hb : H b = some (.lst ys)) (hy : Rows H ys qss) (q : Q (.bl (decide (ps ∈ qss))) H) : rInD K (.ref a) (.ref b) H Q := by
  refine ⟨_, _, dp_row ha, .lst (SqL.of hb) (dp_rows hy), shaped_tD _, shaped_rows _, ?_⟩
  rw [any_rows]
  exact q
theorem notIn_rows {K : PySem.W.Frag} {H : Hp} {a b : Addr} {ys : List V} {ps : List Int} {qss : List (List Int)} {Q : VK} (ha : PlacesT H a ps) (hb : H b = some (.lst ys)) (hy : Rows H ys qss) (q : Q (.bl (!decide (ps ∈ qss))) H) : rNotInD K (.ref a) (.ref b) H Q := by
  refine ⟨_, _, dp_row ha, .lst (SqL.of hb) (dp_rows hy), shaped_tD _, shaped_rows _, ?_⟩
  rw [any_rows]
  exact q
/-- what a comprehension [x for x in rows if p x] has made of the first i rows -/
def FW (p : List Int → Bool) (Dl : Addr) (H0 : Hp) (pss : List (List Int)) (i : Nat) (H' : Hp) : Prop := ∃ acc, H' Dl = some (.lst acc) ∧ Rows H' acc ((pss.take i).filter p) ∧ Ex H0 H'
theorem take_snoc {α : Type} {l : List α} {i : Nat} {x : α} (h : l[i]? = some x) : l.take (i + 1) = l.take i ++ [x] := by
  rw [List.take_add_one, h]
  rfl
theorem FW.start {p : List Int → Bool} {Dl : Addr} {H0 : Hp} {pss : List (List Int)} (h : H0 Dl = none) : FW p Dl H0 pss 0 (upd H0 Dl (.lst [])) := ⟨[], upd_same, .nil, Ex.new h⟩
theorem FW.skip {p : List Int → Bool} {Dl : Addr} {H0 H' H2 : Hp} {pss : List (List Int)} {ps : List Int} {i : Nat} (W : FW p Dl H0 pss i H') (e : Ex H' H2) (hx : pss[i]? = some ps) (hp : p ps = false) : FW p Dl H0 pss (i + 1) H2 := by
  obtain ⟨acc, a1, a2, a3⟩ := W
  refine ⟨acc, e _ _ a1, ?_, a3.trans e⟩
  rw [take_snoc hx, List.filter_append, show [ps].filter p = [] by simp [hp], List.append_nil]
  exact a2.ex e
theorem FW.put {p : List Int → Bool} {Dl a : Addr} {H0 H' H2 : Hp} {pss : List (List Int)} {ps : List Int} {i : Nat} (W : FW p Dl H0 pss i H') (h0 : H0 Dl = none) (e : Ex H' H2) (hx : pss[i]? = some ps) (hp : p ps = true) (ha : PlacesT H2 a ps) (hl : pss.length ≤ 1000) :
    ∃ acc, H2 Dl = some (.lst acc) ∧ acc.length < sizeLine ∧ FW p Dl H0 pss (i + 1) (upd H2 Dl (.lst (acc ++ [.ref a]))) := by
  obtain ⟨acc, a1, a2, a3⟩ := W
  have hl2 : acc.length = ((pss.take i).filter p).length := paired_len a2
  have hl3 := List.length_filter_le p (pss.take i)
  have hl4 : (pss.take i).length ≤ pss.length := by rw [List.length_take]; exact Nat.min_le_right _ _
  refine ⟨acc, e _ _ a1, small1000 (by omega), acc ++ [.ref a], upd_same, ?_, Ex.mut (a3.trans e) h0⟩
  rw [take_snoc hx, List.filter_append, show [ps].filter p = [ps] by simp [hp]]
  exact Rows.lst (e _ _ a1) (show Rows H2 (acc ++ [.ref a]) _ from paired_snoc (R := fun v ps => ∃ a, v = V.ref a ∧ PlacesT H2 a ps) ⟨a, rfl, ha⟩ (a2.ex e))
/-! ### told places -/
def ov : Option Int → V
  | none => .non
  | some i => .int i
theorem ov_inj {a b : Option Int} : ov a = ov b ↔ a = b := by
  cases a <;> cases b <;> simp [ov]
def BoxAt (H : Hp) (a : Addr) (bs : List (Option Int)) : Prop := H a = some (.tup (bs.map ov))
theorem BoxAt.row {H : Hp} {a : Addr} {ps : List Int} (h : PlacesT H a ps) : BoxAt H a (ps.map some) := by
  unfold BoxAt
  rw [List.map_map]
  exact h
theorem ov_get {bs : List (Option Int)} {i : Nat} {x : V} (h : (bs.map ov)[i]? = some x) : ∃ o, bs[i]? = some o ∧ x = ov o := by
  rw [List.getElem?_map] at h
  cases e : bs[i]? with
  | none =>
    rw [e] at h
    cases h
  | some o =>
    rw [e] at h
    exact ⟨o, rfl, (Option.some.inj h).symm⟩
theorem inB_li : ∀ (bs : List (Option Int)) (ps : List Int), inB bs ps = liB bs (ps.map some)
  | some t :: bs, p :: ps => by
    show (decide (t = p) && inB bs ps) = (decide (some t = some p) && liB bs (ps.map some))
    rw [inB_li bs ps]
    congr 1
    exact decide_eq_decide.mpr ⟨fun h => by rw [h], fun h => Option.some.inj h⟩
  | none :: bs, p :: ps => inB_li bs ps
  | [], _ => by cases ‹List Int› <;> rfl
  | some _ :: _, [] => rfl
  | none :: _, [] => rfl
def li1 : Option Int → Option Int → Bool
  | none, _ => true
  | some t, o => decide (some t = o)
theorem li_all : ∀ (bs os : List (Option Int)), (List.zipWith li1 bs os).all id = liB bs os
  | some t :: bs, o :: os => by
    show (decide (some t = o) && (List.zipWith li1 bs os).all id) = _
    rw [li_all bs os]
    rfl
  | none :: bs, o :: os => by
    show (true && (List.zipWith li1 bs os).all id) = _
    rw [li_all bs os]
    rfl
  | [], _ => by cases ‹List (Option Int)› <;> rfl
  | some _ :: _, [] => rfl
  | none :: _, [] => rfl
theorem zip_get {bs os : List (Option Int)} {i : Nat} {a b : Option Int} (h1 : bs[i]? = some a) (h2 : os[i]? = some b) : (List.zipWith li1 bs os)[i]? = some (li1 a b) := by
  rw [List.getElem?_zipWith, h1, h2]
end K1

namespace K1
open PySem PySem.Spec PyProof.Rows L2 Evl LX ZW ZM TE BX
/-! ### judged rows of values -/
inductive OptB (K : PySem.W.Frag) (H : Hp) (hi : Int) : V → Bool → Prop where
  | non : OptB K H hi .non true
  | btw {x : V} {b : Bool} (n : x ≠ .non) (h : BtwB K H 0 hi x b) : OptB K H hi x b
inductive RowB (K : PySem.W.Frag) (R : Hp → Nat → V → Bool → Prop) (H : Hp) (n : Nat) : V → Bool → Prop where
  | no {x : V} (h : NotTup K H x) : RowB K R H n x false
  | len {a : Addr} {xs : List V} (e : H a = some (.tup xs)) (h : xs.length ≠ n) : RowB K R H n (.ref a) false
  | tup {a : Addr} {xs : List V} {bs : List Bool} (e : H a = some (.tup xs)) (h : xs.length = n) (hb : bs.length = n) (hr : ∀ i x b, xs[i]? = some x → bs[i]? = some b → R H i x b) : RowB K R H n (.ref a) (bs.all id)
abbrev optR (K : PySem.W.Frag) (rs : List (Int × Int)) : Hp → Nat → V → Bool → Prop := fun H i x b => OptB K H ((K1N.nAt rs i : Int) - 1) x b
abbrev intR (K : PySem.W.Frag) (rs : List (Int × Int)) : Hp → Nat → V → Bool → Prop := fun H i x b => BtwB K H 0 ((K1N.nAt rs i : Int) - 1) x b
theorem OptB.mono {K : PySem.W.Frag} {H H' : Hp} {hi : Int} {x : V} {b : Bool} (e : Ex H H') (h : OptB K H hi x b) : OptB K H' hi x b := by
  cases h with
  | non => exact .non
  | btw n h => exact .btw n (h.mono e)
theorem RowB.mono {K : PySem.W.Frag} {R : Hp → Nat → V → Bool → Prop} {H H' : Hp} {n : Nat} {x : V} {b : Bool} (m : ∀ i x b, R H i x b → R H' i x b) (e : Ex H H') (h : RowB K R H n x b) : RowB K R H' n x b := by
  cases h with
  | no h => exact .no (h.mono e)
  | len q h => exact .len (e _ _ q) h
  | tup q h hb hr => exact .tup (e _ _ q) h hb fun i x b h1 h2 => m i x b (hr i x b h1 h2)
theorem RowB.opt {K : PySem.W.Frag} {rs : List (Int × Int)} {H H' : Hp} {n : Nat} {x : V} {b : Bool} (e : Ex H H') (h : RowB K (optR K rs) H n x b) : RowB K (optR K rs) H' n x b := h.mono (fun _ _ _ q => OptB.mono e q) e
theorem RowB.int {K : PySem.W.Frag} {rs : List (Int × Int)} {H H' : Hp} {n : Nat} {x : V} {b : Bool} (e : Ex H H') (h : RowB K (intR K rs) H n x b) : RowB K (intR K rs) H' n x b := h.mono (fun _ _ _ q => BtwB.mono e q) e
section
variable {P : Program} {w : World} {K : PySem.W.Frag} {mg : Str → Option Value} {base : Heap}
def spLiesBoxed (K : PySem.W.Frag) : Sp := fun vs H Q _ => ∃ c v xs rs b, vs = [.ref c, v] ∧ H c = some (.tup xs) ∧ RingsAt H 60 xs rs ∧ xs.length ≤ 12 ∧ RowB K (optR K rs) H rs.length v b ∧ ∀ H', Ex H H' → Q (.bl b) H'
theorem ok_lies_boxed (T : Txt K mg) {f : Addr} {fd : FuncData} (D : DefAt K mg "lies_boxed" sLiesBoxed ["chain", "value"] f fd) : FnOk P w K mg base CX0 3 f fd ["chain", "value"] (spLiesBoxed K) := by
  refine D.F.ok scLiesBoxed (fun vs H Q E h => ?_) (fun cdv A outer s₀ H vs Q E hr h => ?_)
  · obtain ⟨c, v, xs, rs, b, rfl, _⟩ := h
    rfl
  · obtain ⟨c, v, xs, rs, b, rfl, hc, hR, hl, hb, q⟩ := h
    obtain ⟨f1, fd1, D1⟩ := T.d_is_between
    have hr2 : Room 2 _ := hr.mono (by decide)
    refine ⟨_, pss_cons (ps_if (PW.pt (pw_or (pt_not (pt_val (pe_callB call_isi (by rfl) T.z_isinstance (by decide +kernel) (pa_cons (pv 1) (pa_cons (pe_bltn (v := .ty "tuple") (by rfl) T.z_tuple (by decide +kernel) rfl) pa_nil)))))
          (pw_or1 (pt_cmpR op_ne (pe_callB call_len_seq (by rfl) T.z_len PySem.boot_len (pa_cons (pv 1) pa_nil)) (pe_callB call_len_seq (by rfl) T.z_len PySem.boot_len (pa_cons (pv 0) pa_nil)) (nomark _))))) (pss_one (ps_ret pe_bl)) pss_nil)
      (pss_one (ps_ret (pe_callB (cr_all rfl) (by rfl) T.z_all (by decide +kernel) (pa_cons (pe_lc (own := [("place", 2), ("ring", 3)]) (g := gTup K 2 (gCons (gName 2) (gCons (gName 3) gNil))) (tt := tYes) rfl scLiesBoxed.nd (RZ.pi_zipA (by rfl) T.z_zip (pa_cons (pv 1) (pa_cons (pv 0) pa_nil)))
        (blkOk_by (N := nLiesBoxed) (sc := defScope sLiesBoxed) (by decide +kernel)) (fun _ _ _ _ _ => (pg_tup (by rfl) (pgs_cons (pg_name (i := 2) scLiesBoxed.nd rfl (.inl rfl)) (pgs_cons (pg_name (i := 3) scLiesBoxed.nd rfl (.inl rfl)) pgs_nil)))) (fun _ _ _ _ _ => pts_nil)
        (fun _ _ _ _ _ => (pe_or (pe_cmpR op_isN (pv 2) pe_non (nomark _)) (pe_one (pe_call (ok_is_between T D1) hr2 (by rfl) D1.g D1.F.kp D1.b .nil pass0 (pa_cons (pv 2) (pa_cons pe_int (pa_cons (pe_op op_sub (pe_ix (show IxR _ (rIxT K) from ix_tup) (pv 3) pe_int (fun _ _ => rfl)) pe_int) pa_nil)))))))) pa_nil)))), ?_⟩
    have hlen : xs.length = rs.length := paired_len hR
    cases hb with
    | no hn =>
      obtain ⟨t, ty, h⟩ := hn.ty
      exact ⟨_, rfl, v, .ty "tuple", t, .type "tuple", false, rfl, .ty _, ty, h, false, rfl, iteT (iteT (q _ (Ex.refl _)))⟩
    | @len a ys ha hn =>
      refine ⟨_, rfl, .ref a, .ty "tuple", .type "tuple", .type "tuple", true, rfl, .ty _, .base (.tup ha), kit_ty (by decide +kernel), true, rfl, iteF ?_⟩
      refine ⟨_, rfl, a, _, rfl, .inr (SqT.of ha), _, rfl, c, _, rfl, .inr (SqT.of hc), rfl, _, rfl, ?_⟩
      rw [hlen, decide_eq_false (fun z => hn (by have := V.int.inj z; omega) : ¬ V.int (ys.length : Int) = V.int (rs.length : Int))]
      exact iteT (q _ (Ex.refl _))
    | @tup a ys bs ha h1 h2 hr2 =>
      refine ⟨_, rfl, .ref a, .ty "tuple", .type "tuple", .type "tuple", true, rfl, .ty _, .base (.tup ha), kit_ty (by decide +kernel), true, rfl, iteF ?_⟩
      refine ⟨_, rfl, a, _, rfl, .inr (SqT.of ha), _, rfl, c, _, rfl, .inr (SqT.of hc), rfl, _, rfl, ?_⟩
      rw [hlen, h1, decide_eq_true (rfl : V.int (rs.length : Int) = V.int (rs.length : Int))]
      refine iteF ?_
      refine ⟨_, rfl, _, rfl, a, c, _, _, rfl, .inr ⟨SqT.of ha, SqT.of hc, fun Dl hD => ?_⟩⟩
      refine lc_zipT (K := K) (a := a) (b := c) (xs := ys) (ys := xs) (n := xs.length) (by omega) (Nat.le_refl _) (.inr (Nat.le_refl _)) (fun i H' => H' Dl = some (.lst ((bs.take i).map V.bl)) ∧ Ex H H') ⟨upd_same, Ex.new hD⟩ (fun i H' hp => ⟨SqT.of (hp.2 _ _ ha), SqT.of (hp.2 _ _ hc)⟩) (fun i x y Tp H' hi hx hy hp nT => ?_) (fun H' hp => ?_)
      · have eT := Ex.new (o := .tup [x, y]) nT
        have hy1 := rings_nth4 (rings_ex4 (hp.2.trans eT) hR) hy
        obtain ⟨t, rfl, ht, b1, b2, b3, b4⟩ := hy1
        have hbx : bs[i]? = some (bs[i]'(by omega)) := List.getElem?_eq_getElem _
        have hj := hr2 i x _ hx hbx
        have fin : ∀ H3, Ex (upd H' Tp (.tup [x, .ref t])) H3 → ∃ acc, H3 Dl = some (.lst acc) ∧ acc.length < sizeLine ∧ ((upd H3 Dl (.lst (acc ++ [.bl (bs[i]'(by omega))]))) Dl = some (.lst ((bs.take (i + 1)).map V.bl)) ∧ Ex H (upd H3 Dl (.lst (acc ++ [.bl (bs[i]'(by omega))])))) := fun H3 e3 => by
          refine ⟨_, e3 _ _ (eT _ _ hp.1), ?_, ?_, Ex.mut ((hp.2.trans eT).trans e3) hD⟩
          · rw [List.length_map, List.length_take]
            exact small1000 (by omega)
          · rw [upd_same, take_snoc hbx, List.map_append]
            rfl
        generalize hbb : bs[i]'(by omega) = bb at hj fin
        refine ⟨Tp, _, rfl, SqT.of upd_same, rfl, x, [.ref t], rfl, .ref t, [], rfl, rfl, rfl, ?_⟩
        dsimp only [tYes]
        rw [if_pos rfl]
        refine ⟨_, rfl, rfl, ?_⟩
        cases hj with
        | non => exact ⟨true, rfl, iteT (fin _ (Ex.refl _))⟩
        | btw n h =>
          rw [decide_eq_false n]
          refine ⟨false, rfl, iteF ?_⟩
          exact ⟨_, rfl, _, rfl, t, _, 0, _, rfl, rfl, SqT.of ht, rfl, _, _, rfl, rfl, x, 0, _, bb, rfl, h.mono (hp.2.trans eT), fun H3 e3 => fin H3 e3⟩
      · refine ⟨Dl, bs, rfl, ?_, q _ hp.2⟩
        have := hp.1
        rw [List.take_of_length_le (by omega)] at this
        exact SqL.of this
def spLiesToldB (K : PySem.W.Frag) : Sp := fun vs H Q _ => ∃ c v xs rs b, vs = [.ref c, v] ∧ H c = some (.tup xs) ∧ RingsAt H 60 xs rs ∧ xs.length ≤ 12 ∧ RowB K (intR K rs) H rs.length v b ∧ ∀ H', Ex H H' → Q (.bl b) H'
def spLiesIn : Sp := fun vs H Q _ => ∃ a b bs os, vs = [.ref a, .ref b] ∧ BoxAt H a bs ∧ BoxAt H b os ∧ bs.length = os.length ∧ bs.length ≤ 12 ∧ ∀ H', Ex H H' → Q (.bl (liB bs os)) H'
theorem ok_lies_in (T : Txt K mg) {f : Addr} {fd : FuncData} (D : DefAt K mg "lies_in" sLiesIn ["box", "places"] f fd) : FnOk P w K mg base CX0 1 f fd ["box", "places"] spLiesIn := by
  refine D.F.ok scLiesIn (fun vs H Q E h => ?_) (fun cdv A outer s₀ H vs Q E hr h => ?_)
  · obtain ⟨a, b, bs, os, rfl, _⟩ := h
    rfl
  · obtain ⟨a, b, bs, os, rfl, ha, hb, hlen, hl, q⟩ := h
    refine ⟨_, pss_one (ps_ret (pe_callB (cr_all rfl) (by rfl) T.z_all (by decide +kernel) (pa_cons (pe_lc (own := [("told", 2), ("place", 3)]) (g := gTup K 2 (gCons (gName 2) (gCons (gName 3) gNil))) (tt := tYes) rfl scLiesIn.nd (RZ.pi_zipA (by rfl) T.z_zip (pa_cons (pv 0) (pa_cons (pv 1) pa_nil)))
        (blkOk_by (N := nLiesIn) (sc := defScope sLiesIn) (by decide +kernel)) (fun _ _ _ _ _ => (pg_tup (by rfl) (pgs_cons (pg_name (i := 2) scLiesIn.nd rfl (.inl rfl)) (pgs_cons (pg_name (i := 3) scLiesIn.nd rfl (.inl rfl)) pgs_nil)))) (fun _ _ _ _ _ => pts_nil)
        (fun _ _ _ _ _ => (pe_or (pe_cmpR op_isN (pv 2) pe_non (nomark _)) (pe_one (pe_cmpR op_eq (pv 2) (pv 3) (nomark _)))))) pa_nil))), ?_⟩
    refine ⟨_, rfl, _, rfl, a, b, _, _, rfl, .inr ⟨SqT.of ha, SqT.of hb, fun Dl hD => ?_⟩⟩
    refine lc_zipT (K := K) (a := a) (b := b) (xs := bs.map ov) (ys := os.map ov) (n := bs.length) (by rw [List.length_map]; omega) (by rw [List.length_map]; omega) (.inl (by rw [List.length_map]; omega)) (fun i H' => H' Dl = some (.lst (((List.zipWith li1 bs os).take i).map V.bl)) ∧ Ex H H') ⟨upd_same, Ex.new hD⟩ (fun i H' hp => ⟨SqT.of (hp.2 _ _ ha), SqT.of (hp.2 _ _ hb)⟩) (fun i x y Tp H' hi hx hy hp nT => ?_) (fun H' hp => ?_)
    · obtain ⟨o1, ho1, rfl⟩ := ov_get hx
      obtain ⟨o2, ho2, rfl⟩ := ov_get hy
      have eT := Ex.new (o := .tup [ov o1, ov o2]) nT
      refine ⟨Tp, _, rfl, SqT.of upd_same, rfl, ov o1, [ov o2], rfl, ov o2, [], rfl, rfl, rfl, ?_⟩
      dsimp only [tYes]
      rw [if_pos rfl]
      have fin : ∃ acc, (upd H' Tp (.tup [ov o1, ov o2])) Dl = some (.lst acc) ∧ acc.length < sizeLine ∧ ((upd (upd H' Tp (.tup [ov o1, ov o2])) Dl (.lst (acc ++ [.bl (li1 o1 o2)]))) Dl = some (.lst (((List.zipWith li1 bs os).take (i + 1)).map V.bl)) ∧ Ex H (upd (upd H' Tp (.tup [ov o1, ov o2])) Dl (.lst (acc ++ [.bl (li1 o1 o2)])))) := by
        refine ⟨_, eT _ _ hp.1, ?_, ?_, Ex.mut (hp.2.trans eT) hD⟩
        · rw [List.length_map, List.length_take]
          exact small1000 (by omega)
        · rw [upd_same, take_snoc (zip_get ho1 ho2), List.map_append]
          rfl
      refine ⟨_, rfl, rfl, ?_⟩
      cases o1 with
      | none => exact ⟨true, rfl, iteT fin⟩
      | some t =>
        refine ⟨false, rfl, iteF ⟨_, rfl, _, rfl, ?_⟩⟩
        cases o2 with
        | none => exact ⟨rfl, fin⟩
        | some u =>
          refine ⟨rfl, ?_⟩
          have e : decide (V.int t = V.int u) = li1 (some t) (some u) := decide_eq_decide.mpr ⟨fun z => by rw [V.int.inj z], fun z => by rw [Option.some.inj z]⟩
          show ∃ acc, _ ∧ _ ∧ _
          rw [show decide (ov (some t) = ov (some u)) = li1 (some t) (some u) from e]
          exact fin
    · refine ⟨Dl, List.zipWith li1 bs os, rfl, ?_, ?_⟩
      · have := hp.1
        rw [List.take_of_length_le (by rw [List.length_zipWith]; omega)] at this
        exact SqL.of this
      · rw [li_all]
        exact q _ hp.2
def spCheckBox (K : PySem.W.Frag) : Sp := fun vs H Q _ => ∃ c v xs rs, vs = [.ref c, v] ∧ H c = some (.tup xs) ∧ RingsAt H 60 xs rs ∧ xs.length ≤ 12 ∧ RowB K (optR K rs) H rs.length v true ∧ ∀ H', Ex H H' → Q .non H'
theorem ok_check_box (T : Txt K mg) {f : Addr} {fd : FuncData} (D : DefAt K mg "check_box" sCheckBox ["chain", "box"] f fd) : FnOk P w K mg base CX0 4 f fd ["chain", "box"] (spCheckBox K) := by
  refine D.F.ok scCheckBox (fun vs H Q E h => ?_) (fun cdv A outer s₀ H vs Q E hr h => ?_)
  · obtain ⟨c, v, xs, rs, rfl, _⟩ := h
    rfl
  · obtain ⟨c, v, xs, rs, rfl, hc, hR, hl, hb, q⟩ := h
    obtain ⟨f1, fd1, D1⟩ := T.d_lies_boxed
    have hr3 : Room 3 _ := hr.mono (by decide)
    refine ⟨_, pss_one (ps_if (pt_not (pt_val (pe_call (ok_lies_boxed T D1) hr3 (by rfl) D1.g D1.F.kp D1.b .nil pass0 (pa_cons (pv 0) (pa_cons (pv 1) pa_nil))))) pss_never pss_nil), ?_⟩
    exact ⟨_, rfl, _, rfl, c, v, xs, rs, true, rfl, hc, hR, hl, hb, fun H1 e1 => ⟨true, rfl, iteF (q _ e1)⟩⟩
end
end K1

namespace K1
open PySem PySem.Spec PyProof.Rows L2 Evl LX ZW ZM TE BX
/-! ### boxes of a chain -/
theorem boxR_get : ∀ {rs : List (Int × Int)} {bs : List (Option Int)} {i : Nat} {o : Option Int}, BoxR rs bs → bs[i]? = some o → o = none ∨ ∃ t, o = some t ∧ 0 ≤ t ∧ t < (rs.getD i (0, 0)).1
  | _, _, _, _, .nil, h => by simp at h
  | _, _, 0, _, .open b, h => by simp at h; exact .inl h.symm
  | _, _, 0, _, .told h0 h1 b, h => by
    simp at h
    exact .inr ⟨_, h.symm, h0, h1⟩
  | _, _, i + 1, _, .open b, h => by
    have := boxR_get (i := i) b (by simpa using h)
    simpa using this
  | _, _, i + 1, _, .told h0 h1 b, h => by
    have := boxR_get (i := i) b (by simpa using h)
    simpa using this
theorem inT_get : ∀ {rs : List (Int × Int)} {ps : List Int} {i : Nat} {p : Int}, InT rs ps → ps[i]? = some p → 0 ≤ p ∧ p < (rs.getD i (0, 0)).1
  | _, _, _, _, .nil, h => by simp at h
  | _, _, 0, _, .cons h0 h1 b, h => by
    simp at h
    subst h
    exact ⟨h0, h1⟩
  | _, _, i + 1, _, .cons h0 h1 b, h => by
    have := inT_get (i := i) b (by simpa using h)
    simpa using this
theorem nAt_eq {H : Hp} {most : Int} {xs : List V} {rs : List (Int × Int)} (hR : RingsAt H most xs rs) {i : Nat} (hi : i < rs.length) : (K1N.nAt rs i : Int) = (rs.getD i (0, 0)).1 := by
  obtain ⟨x, _, t, _, _, h1, _⟩ := rings_nth hR hi
  unfold K1N.nAt at h1 ⊢
  omega
theorem box_judged {K : PySem.W.Frag} {H : Hp} {a : Addr} {xs : List V} {rs : List (Int × Int)} {bs : List (Option Int)} (hR : RingsAt H 60 xs rs) (ha : BoxAt H a bs) (hb : BoxR rs bs) : RowB K (optR K rs) H rs.length (.ref a) true := by
  have hl := hb.length
  have q := RowB.tup (K := K) (R := optR K rs) (bs := List.replicate rs.length true) ha (by rw [List.length_map, hl]) (by rw [List.length_replicate]) fun i x b h1 h2 => by
    obtain ⟨o, ho, rfl⟩ := ov_get h1
    have hi : i < rs.length := by
      have := (List.getElem?_eq_some_iff.mp ho).1
      omega
    have e : b = true := by
      have := (List.getElem?_eq_some_iff.mp h2)
      obtain ⟨_, e⟩ := this
      rw [List.getElem_replicate] at e
      exact e.symm
    subst e
    have n60 := rings_n hR i
    rcases boxR_get hb ho with rfl | ⟨t, rfl, t0, t1⟩
    · exact .non
    · rw [← nAt_eq hR hi] at t1
      exact .btw (by intro z; cases z) (.yes t0 (by omega) (by omega) (by omega))
  rw [show (List.replicate rs.length true).all id = true by simp] at q
  exact q
theorem row_judged {K : PySem.W.Frag} {H : Hp} {a : Addr} {xs : List V} {rs : List (Int × Int)} {ps : List Int} (hR : RingsAt H 60 xs rs) (ha : PlacesT H a ps) (hb : InT rs ps) : RowB K (intR K rs) H rs.length (.ref a) true := by
  have hl := hb.length
  have q := RowB.tup (K := K) (R := intR K rs) (bs := List.replicate rs.length true) ha (by rw [List.length_map, hl]) (by rw [List.length_replicate]) fun i x b h1 h2 => by
    have hi : i < rs.length := by
      have := (List.getElem?_eq_some_iff.mp h1).1
      rw [List.length_map] at this
      omega
    have e : b = true := by
      obtain ⟨_, e⟩ := (List.getElem?_eq_some_iff.mp h2)
      rw [List.getElem_replicate] at e
      exact e.symm
    subst e
    have n60 := rings_n hR i
    rw [List.getElem?_map] at h1
    cases ep : ps[i]? with
    | none =>
      rw [ep] at h1
      cases h1
    | some p =>
      rw [ep] at h1
      obtain rfl := Option.some.inj h1
      have := inT_get hb ep
      rw [← nAt_eq hR hi] at this
      exact .yes this.1 (by omega) (by omega) (by omega)
  rw [show (List.replicate rs.length true).all id = true by simp] at q
  exact q
section
variable {P : Program} {w : World} {K : PySem.W.Frag} {mg : Str → Option Value} {base : Heap}
def spIsBox (K : PySem.W.Frag) : Sp := fun vs H Q _ => ∃ c v xs rs b, vs = [.ref c, v] ∧ H c = some (.tup xs) ∧ RingsAt H 60 xs rs ∧ (1 ≤ xs.length ∧ xs.length ≤ 12) ∧ RowB K (optR K rs) H rs.length v b ∧ ∀ H', Ex H H' → Q (.bl b) H'
/-- a judged value: a row that is told, or none -/
inductive InBoxB (K : PySem.W.Frag) (H : Hp) (rs : List (Int × Int)) (bs : List (Option Int)) : V → Bool → Prop where
  | no {v : V} (h : RowB K (intR K rs) H rs.length v false) : InBoxB K H rs bs v false
  | row {a : Addr} {ps : List Int} (h : PlacesT H a ps) (hp : InT rs ps) : InBoxB K H rs bs (.ref a) (inB bs ps)
theorem InBoxB.ex {K : PySem.W.Frag} {H H' : Hp} {rs : List (Int × Int)} {bs : List (Option Int)} {v : V} {b : Bool} (e : Ex H H') (h : InBoxB K H rs bs v b) : InBoxB K H' rs bs v b := by
  cases h with
  | no h => exact .no (h.int e)
  | row h hp => exact .row (e _ _ h) hp
def spIsInBox (K : PySem.W.Frag) : Sp := fun vs H Q _ => ∃ c a v xs rs bs b, vs = [.ref c, .ref a, v] ∧ H c = some (.tup xs) ∧ RingsAt H 60 xs rs ∧ (1 ≤ xs.length ∧ xs.length ≤ 12) ∧ BoxAt H a bs ∧ BoxR rs bs ∧ InBoxB K H rs bs v b ∧ ∀ H', Ex H H' → Q (.bl b) H'
def spSizeOf (K : PySem.W.Frag) : Sp := fun vs H Q _ => ∃ c a xs rs bs, vs = [.ref c, .ref a] ∧ H c = some (.tup xs) ∧ RingsAt H 60 xs rs ∧ (1 ≤ xs.length ∧ xs.length ≤ 12) ∧ BoxAt H a bs ∧ BoxR rs bs ∧ ∀ H', Ex H H' → Q (.int (sizeB rs bs : Nat)) H'
theorem size_step {rs : List (Int × Int)} {bs : List (Option Int)} {i : Nat} {o : Option Int} (hb : bs.length = rs.length) (h : bs[i]? = some o) : sizeB (rs.drop i) (bs.drop i) = (if o = none then (rs.getD i (0, 0)).1.toNat else 1) * sizeB (rs.drop (i + 1)) (bs.drop (i + 1)) := by
  obtain ⟨h1, h2⟩ := List.getElem?_eq_some_iff.mp h
  have h3 : i < rs.length := by omega
  rw [List.drop_eq_getElem_cons h1, List.drop_eq_getElem_cons h3, h2]
  have e : rs.getD i (0, 0) = rs[i] := by rw [List.getD_eq_getElem?_getD, List.getElem?_eq_getElem h3]; rfl
  rw [e]
  cases o with
  | none => rw [if_pos rfl]; rfl
  | some t => rw [if_neg (by intro z; cases z), Nat.one_mul]; rfl
def spCheckBoxes (K : PySem.W.Frag) : Sp := fun vs H Q _ => ∃ c a b xs rs bs os, vs = [.ref c, .ref a, .ref b] ∧ H c = some (.tup xs) ∧ RingsAt H 60 xs rs ∧ (1 ≤ xs.length ∧ xs.length ≤ 12) ∧ BoxAt H a bs ∧ BoxR rs bs ∧ BoxAt H b os ∧ BoxR rs os ∧ ∀ H', Ex H H' → Q .non H'
theorem ok_check_boxes (T : Txt K mg) {f : Addr} {fd : FuncData} (D : DefAt K mg "check_boxes" sCheckBoxes ["chain", "one", "other"] f fd) : FnOk P w K mg base CX0 6 f fd ["chain", "one", "other"] (spCheckBoxes K) := by
  refine D.F.ok scCheckBoxes (fun vs H Q E h => ?_) (fun cdv A outer s₀ H vs Q E hr h => ?_)
  · obtain ⟨c, a, b, xs, rs, bs, os, rfl, _⟩ := h
    rfl
  · obtain ⟨c, a, b, xs, rs, bs, os, rfl, hc, hR, hl, ha, hbs, hb, hos, q⟩ := h
    obtain ⟨f1, fd1, D1⟩ := T.d_check_box
    obtain ⟨f2, fd2, D2⟩ := T.d_check_chain
    have hr4 : Room 4 _ := hr.mono (by decide)
    have hr5 : Room 5 _ := hr.mono (by decide)
    refine ⟨_, pss_cons (ps_expr (pe_call (ok_check_chain T D2) hr5 (by rfl) D2.g D2.F.kp D2.b .nil pass0 (pa_cons (pv 0) pa_nil)))
      (pss_cons (ps_expr (pe_call (ok_check_box T D1) hr4 (by rfl) D1.g D1.F.kp D1.b .nil pass0 (pa_cons (pv 0) (pa_cons (pv 1) pa_nil))))
      (pss_one (ps_expr (pe_call (ok_check_box T D1) hr4 (by rfl) D1.g D1.F.kp D1.b .nil pass0 (pa_cons (pv 0) (pa_cons (pv 2) pa_nil)))))), ?_⟩
    refine ⟨_, rfl, .ref c, rfl, rings_chain4 hR hc hl.1 hl.2, fun H1 e1 => ?_⟩
    refine ⟨_, rfl, _, rfl, c, .ref a, xs, rs, rfl, e1 _ _ hc, rings_ex4 e1 hR, hl.2, (box_judged hR ha hbs).opt e1, fun H2 e2 => ?_⟩
    have e12 := e1.trans e2
    exact ⟨_, rfl, _, rfl, c, .ref b, xs, rs, rfl, e12 _ _ hc, rings_ex4 e12 hR, hl.2, (box_judged hR hb hos).opt e12, fun H3 e3 => q _ (e12.trans e3)⟩
def spHoldsBox (K : PySem.W.Frag) : Sp := fun vs H Q _ => ∃ c a b xs rs bs os, vs = [.ref c, .ref a, .ref b] ∧ H c = some (.tup xs) ∧ RingsAt H 60 xs rs ∧ (1 ≤ xs.length ∧ xs.length ≤ 12) ∧ BoxAt H a bs ∧ BoxR rs bs ∧ BoxAt H b os ∧ BoxR rs os ∧ ∀ H', Ex H H' → Q (.bl (liB bs os)) H'
theorem ok_holds_box (T : Txt K mg) {f : Addr} {fd : FuncData} (D : DefAt K mg "holds_box" sHoldsBox ["chain", "one", "other"] f fd) : FnOk P w K mg base CX0 7 f fd ["chain", "one", "other"] (spHoldsBox K) := by
  refine D.F.ok scHoldsBox (fun vs H Q E h => ?_) (fun cdv A outer s₀ H vs Q E hr h => ?_)
  · obtain ⟨c, a, b, xs, rs, bs, os, rfl, _⟩ := h
    rfl
  · obtain ⟨c, a, b, xs, rs, bs, os, rfl, hc, hR, hl, ha, hbs, hb, hos, q⟩ := h
    obtain ⟨f1, fd1, D1⟩ := T.d_lies_in
    obtain ⟨f2, fd2, D2⟩ := T.d_check_boxes
    have hr1 : Room 1 _ := hr.mono (by decide)
    have hr6 : Room 6 _ := hr.mono (by decide)
    refine ⟨_, pss_cons (ps_expr (pe_call (ok_check_boxes T D2) hr6 (by rfl) D2.g D2.F.kp D2.b .nil pass0 (pa_cons (pv 0) (pa_cons (pv 1) (pa_cons (pv 2) pa_nil)))))
      (pss_one (ps_ret (pe_call (ok_lies_in T D1) hr1 (by rfl) D1.g D1.F.kp D1.b .nil pass0 (pa_cons (pv 1) (pa_cons (pv 2) pa_nil))))), ?_⟩
    have hlen : xs.length = rs.length := paired_len hR
    have hbl := hbs.length
    have hol := hos.length
    refine ⟨_, rfl, _, rfl, _, rfl, c, a, b, xs, rs, bs, os, rfl, hc, hR, hl, ha, hbs, hb, hos, fun H1 e1 => ?_⟩
    exact ⟨_, rfl, _, rfl, a, b, bs, os, rfl, e1 _ _ ha, e1 _ _ hb, by omega, by omega, fun H2 e2 => q _ (e1.trans e2)⟩
def spMeeting (K : PySem.W.Frag) : Sp := fun vs H Q _ => ∃ c a b xs rs bs os, vs = [.ref c, .ref a, .ref b] ∧ H c = some (.tup xs) ∧ RingsAt H 60 xs rs ∧ (1 ≤ xs.length ∧ xs.length ≤ 12) ∧ BoxAt H a bs ∧ BoxR rs bs ∧ BoxAt H b os ∧ BoxR rs os ∧
  (meetB bs os = none → ∀ H', Ex H H' → Q .non H') ∧ ∀ m, meetB bs os = some m → ∀ p H', Ex H H' → BoxAt H' p m → Q (.ref p) H'
theorem meet_step {bs os : List (Option Int)} {i : Nat} {o u : Option Int} (h1 : bs[i]? = some o) (h2 : os[i]? = some u) : meetB (bs.drop i) (os.drop i) = if o ≠ none ∧ u ≠ none ∧ o ≠ u then none else (meetB (bs.drop (i + 1)) (os.drop (i + 1))).map ((if o = none then u else o) :: ·) := by
  obtain ⟨k1, k2⟩ := List.getElem?_eq_some_iff.mp h1
  obtain ⟨k3, k4⟩ := List.getElem?_eq_some_iff.mp h2
  rw [List.drop_eq_getElem_cons k1, List.drop_eq_getElem_cons k3, k2, k4]
  cases o with
  | none =>
    rw [if_neg (by simp), if_pos rfl]
    rfl
  | some t =>
    cases u with
    | none =>
      rw [if_neg (by simp), if_neg (by simp)]
      rfl
    | some v =>
      show (if t = v then _ else none) = _
      by_cases z : t = v
      · subst z
        rw [if_pos rfl, if_neg (by simp), if_neg (by simp)]
      · rw [if_neg z, if_pos ⟨by simp, by simp, by simpa using z⟩]
end
end K1

namespace K1
open PySem PySem.Spec PyProof.Rows L2 Evl LX ZW ZM TE BX
/-! ### the law's own tuples and boxes -/
theorem allT_succ {rs : List (Int × Int)} {i : Nat} (hi : i < rs.length) : allT (rs.take (i + 1)) = wider (allT (rs.take i)) (rs.getD i (0, 0)).1.toNat := by
  have e : rs.getD i (0, 0) = rs[i] := by rw [List.getD_eq_getElem?_getD, List.getElem?_eq_getElem hi]; rfl
  rw [e, ← allF_eq, ← allF_eq, take_snoc (List.getElem?_eq_getElem hi)]
  unfold allF
  rw [List.foldl_append]
  rfl
theorem wider_snoc (l : List (List Int)) (x : List Int) (n : Nat) : wider (l ++ [x]) n = wider l n ++ (ups n).map fun p => x ++ [p] := by
  unfold wider
  rw [List.flatMap_append]
  simp
theorem wider_len (l : List (List Int)) (n : Nat) : (wider l n).length = l.length * n := by
  unfold wider
  refine len_flatMap _ n l fun a _ => ?_
  rw [List.length_map, len_ups]
theorem ups_succ (n : Nat) : ups (n + 1) = ups n ++ [(n : Int)] := by simp [ups, List.range_succ]
theorem allT_len {H : Hp} {xs : List V} {rs : List (Int × Int)} (hR : RingsAt H 4 xs rs) : ∀ i, i ≤ rs.length → (allT (rs.take i)).length ≤ 4 ^ i
  | 0, _ => by simp [allT]
  | i + 1, h => by
    rw [allT_succ (by omega), wider_len, Nat.pow_succ]
    obtain ⟨x, _, t, _, _, h1, h2, _⟩ := rings_nth hR (show i < rs.length by omega)
    have e := nAt_eq hR (show i < rs.length by omega)
    exact Nat.mul_le_mul (allT_len hR i (by omega)) (by omega)
theorem take_len {α : Type} {l : List α} {i : Nat} (h : i ≤ l.length) : (l.take i).length = i := by rw [List.length_take]; omega
theorem _root_.PySem.Paired.keep {d : Addr} {H H' : Hp} {most : Int} {xs : List V} {rs : List (Int × Int)} (hR : RingsAt H most xs rs) (k : Keep d H H') (hd : Dice H d) : RingsAt H' most xs rs := paired_imp (fun _ _ z => RingAt.keep k hd z) hR
section
variable {P : Program} {w : World} {K : PySem.W.Frag} {mg : Str → Option Value} {base : Heap}
def spAllTuples : Sp := fun vs H Q _ => ∃ c xs rs, vs = [.ref c] ∧ H c = some (.tup xs) ∧ RingsAt H 4 xs rs ∧ xs.length ≤ 4 ∧
  ∀ r ys H', Ex H H' → H' r = some (.lst ys) → Rows H' ys (allT rs) → (allT rs).length ≤ 256 → Q (.ref r) H'
theorem ok_all_tuples (T : Txt K mg) {f : Addr} {fd : FuncData} (D : DefAt K mg "_law_all_tuples" sLAllTuples ["_law_chain_here"] f fd) : FnOk P w K mg base CX0 1 f fd ["_law_chain_here"] spAllTuples := by
  refine D.F.ok scLAllTuples (fun vs H Q E h => ?_) (fun cdv A outer s₀ H vs Q E hr h => ?_)
  · obtain ⟨c, xs, rs, rfl, _⟩ := h
    rfl
  · obtain ⟨c, xs, rs, rfl, hc, hR, hl, k⟩ := h
    have hlen : xs.length = rs.length := paired_len hR
    refine ⟨_, pss_cons (ps_set (i := 1) scLAllTuples.nd rfl (.inl rfl) (pe_lst (pa_cons (pe_tup pa_nil) pa_nil)))
      (pss_cons (ps_for PassesOwn.never rfl (pi_tup (pv 0)) (pg_tup (by rfl) (pgs_cons (pg_name (i := 2) scLAllTuples.nd rfl (.inl rfl)) (pgs_cons (pg_name (i := 3) scLAllTuples.nd rfl (.inl rfl)) pgs_nil)))
        (pss_cons (ps_set (i := 4) scLAllTuples.nd rfl (.inl rfl) (pe_lst pa_nil))
      (pss_cons (ps_for PassesOwn.never rfl (pi_list (pv 1)) (pg_name (i := 5) scLAllTuples.nd rfl (.inr rfl))
        (pss_one (ps_expr (pe_bm PySem.F.plainAttrs_list PySem.F.slot_list_extend PySem.F.type_list_extend mt_extend (pv 4) (pa_cons (pe_lc (own := [("_law_p", 6)]) (g := gName 6) (tt := tYes) rfl scLAllTuples.nd (pi_range1 (by rfl) T.z_range (pa_cons (pv 2) pa_nil))
        (blkOk_by (N := nLAllTuples) (sc := defScope sLAllTuples) (by decide +kernel)) (fun _ _ _ _ _ => (pg_name (i := 6) scLAllTuples.nd rfl (.inl rfl))) (fun _ _ _ _ _ => pts_nil)
        (fun _ _ _ _ _ => (pe_op op_catE (pv 5) (pe_tup (pa_cons (pv 6) pa_nil))))) pa_nil)))))
      (pss_one (ps_set (i := 1) scLAllTuples.nd rfl (.inl rfl) (pv 4))))))
      (pss_one (ps_ret (pv 1)))), ?_⟩
    refine ⟨by show 0 ≤ sizeLine; decide, fun t0 ht0 => ⟨by show 1 ≤ sizeLine; decide, fun l0 hl0 => ?_⟩⟩
    have y1 := Ex.new (o := .tup []) ht0
    have y2 := Ex.new (o := .lst [.ref t0]) hl0
    have g0 : (upd (upd H t0 (.tup [])) l0 (.lst [.ref t0])) l0 = some (.lst [.ref t0]) := upd_same
    have v0 := y2 _ _ (show (upd H t0 (.tup [])) t0 = some (.tup (([] : List Int).map V.int)) from upd_same)
    have y12 := y1.trans y2
    clear y1 y2 hl0
    generalize upd (upd H t0 (.tup [])) l0 (.lst [.ref t0]) = H0 at y12 g0 v0 ⊢
    refine ⟨_, rfl, c, rfl, ⟨_, SqT.of (y12 _ _ hc)⟩, for_tup (K := K) (a := c) (xs := xs) (fun i σ' H' => ∃ (L : Addr) (ys : List V) (z2 z3 z4 z5 : Option V), σ' = [some (.ref c), some (.ref L), z2, z3, z4, z5, none] ∧ H' L = some (.lst ys) ∧ Rows H' ys (allT (rs.take i)) ∧ Ex H H')
      ⟨l0, [.ref t0], none, none, none, none, rfl, g0, .cons ⟨t0, rfl, v0⟩ .nil, y12⟩ (fun i σ' H' _ hW => ?_) (fun i x σ' H' hx hW => ?_) (fun σ' H' hW => ?_)⟩
    · obtain ⟨_, _, _, _, _, _, _, _, _, e⟩ := hW
      exact SqT.of (e _ _ hc)
    · obtain ⟨L, ys, z2, z3, z4, z5, rfl, w1, w2, e⟩ := hW
      have hi := (List.getElem?_eq_some_iff.mp hx).1
      have hn := nAt_eq hR (show i < rs.length by omega)
      have pw := allT_len hR i (by omega)
      have pw2 : 4 ^ i ≤ 4 ^ 3 := Nat.pow_le_pow_right (by decide) (by omega)
      have hsucc := allT_succ (rs := rs) (i := i) (by omega)
      rw [← hn, Int.toNat_natCast] at hsucc
      have hin : ∀ ps ∈ allT (rs.take i), ps.length = i := fun ps hp => by
        rw [(mem_allT.mp hp).length, take_len (by omega)]
      obtain ⟨tt, rfl, htt, n1, n2, n3, n4⟩ := rings_nth4 (rings_ex4 e hR) hx
      generalize K1N.nAt rs i = n at *
      generalize allT (rs.take i) = pss at *
      have yl : ys.length = pss.length := paired_len w2
      refine ⟨tt, _, rfl, SqT.of htt, rfl, .int _, [_], rfl, .int _, [], rfl, rfl, ?_⟩
      refine ⟨by show 0 ≤ sizeLine; decide, fun W hW0 => ?_⟩
      have x1 := Ex.new (o := .lst []) hW0
      have nLW : L ≠ W := fun z => by rw [z, hW0] at w1; cases w1
      have g1 := x1 _ _ w1
      have r1 := w2.ex x1
      have u1 : (upd H' W (.lst [])) W = some (.lst []) := upd_same
      have e5 := e.trans x1
      have HW : H W = none := by
        cases q : H W with
        | none => rfl
        | some o =>
          rw [e _ _ q] at hW0
          cases hW0
      clear x1 w1 w2 htt
      generalize upd H' W (.lst []) = H5 at e5 g1 r1 u1 ⊢
      refine ⟨_, rfl, L, rfl, ⟨_, SqL.of g1⟩, for_list (K := K) (a := L) (xs := ys) (fun j σ' H6 => ∃ (z5 : Option V) (zs : List V), σ' = [some (.ref c), some (.ref L), some (.int (n : Int)), some (.int (K1N.sAt rs i)), some (.ref W), z5, none] ∧ H6 W = some (.lst zs) ∧ Rows H6 zs (wider (pss.take j) n) ∧ Keep W H5 H6)
        ⟨z5, [], rfl, u1, .nil, Keep.refl _ _⟩ (fun j σ' H6 _ hV => ?_) (fun j x σ' H6 hx2 hV => ?_) (fun σ' H6 hV => ?_)⟩
      · obtain ⟨_, _, _, _, _, kk⟩ := hV
        exact SqL.of (kk _ _ nLW g1)
      · obtain ⟨z6, zs, rfl, a1, a2, kk⟩ := hV
        have hj := (List.getElem?_eq_some_iff.mp hx2).1
        obtain ⟨b, ps, rfl, hb, hps⟩ := r1.get hx2
        have hb6 : PlacesT H6 b ps := kk _ _ (ne_of hb u1 (by intro z; cases z)) hb
        have p1 := hin ps (List.mem_of_getElem? hps)
        have zl : zs.length = (wider (pss.take j) n).length := paired_len a2
        have zl2 : (wider (pss.take j) n).length ≤ 64 * 4 := by
          rw [wider_len, List.length_take]
          exact Nat.mul_le_mul (by omega) (by omega)
        refine ⟨_, rfl, .inl ⟨rfl, _, SqL.of a1⟩, _, rfl, n, rfl, by omega, by omega, fun Dl hD => ?_⟩
        have nDW : W ≠ Dl := fun z => by rw [z, hD] at a1; cases a1
        refine lc_range (lo := 0) (n := n) (fun m H7 => ∃ acc, H7 Dl = some (.lst acc) ∧ Rows H7 acc ((ups m).map fun p => ps ++ [p]) ∧ Ex H6 H7) ⟨[], upd_same, .nil, Ex.new hD⟩ (fun m H7 hm hp => ?_) (fun H7 hp => ?_)
        · obtain ⟨acc, b1, b2, b5⟩ := hp
          refine ⟨rfl, ?_⟩
          dsimp only [tYes]
          rw [if_pos rfl]
          refine ⟨_, rfl, _, rfl, by show 1 ≤ sizeLine; decide, fun q1 hq1 => ?_⟩
          have x8 := Ex.new (o := .tup [V.int (0 + (m : Int))]) hq1
          refine ⟨b, q1, _, _, rfl, rfl, x8 _ _ (b5 _ _ hb6), upd_same, by rw [List.length_map, p1]; exact sz_of (by show _ + 1 ≤ _; omega), fun q2 H9 e9 hq2 => ?_⟩
          have x89 := x8.trans e9
          have hD9 := x89 _ _ b1
          have hq2' : PlacesT H9 q2 (ps ++ [(m : Int)]) := by
            show H9 q2 = _
            rw [hq2, List.map_append, Int.zero_add]
            rfl
          have al : acc.length = ((ups m).map fun p => ps ++ [p]).length := paired_len b2
          rw [List.length_map, len_ups] at al
          have rr := paired_snoc (x := V.ref q2) (y := ps ++ [(m : Int)]) (R := fun v ps => ∃ a, v = V.ref a ∧ PlacesT H9 a ps) ⟨q2, rfl, hq2'⟩ (b2.ex x89)
          refine ⟨acc, hD9, small1000 (by omega), acc ++ [V.ref q2], upd_same, ?_, Ex.mut (b5.trans x89) hD⟩
          rw [ups_succ, List.map_append]
          exact Rows.lst hD9 (show Rows H9 (acc ++ [V.ref q2]) _ from rr)
        · obtain ⟨acc, b1, b2, b5⟩ := hp
          have a1' := b5 _ _ a1
          have al : acc.length = ((ups n).map fun p => ps ++ [p]).length := paired_len b2
          rw [List.length_map, len_ups] at al
          refine ⟨W, Dl, zs, acc, rfl, rfl, a1', b1, sz_of (by omega), some (.ref b), zs ++ acc, rfl, upd_same, ?_, ?_⟩
          · rw [take_snoc hps, wider_snoc]
            exact Rows.lst a1' (paired_append (a2.ex b5) b2)
          · exact (kk.trans (Keep.ex b5)).trans Keep.dice
      · obtain ⟨z6, zs, rfl, a1, a2, kk⟩ := hV
        refine ⟨_, rfl, W, zs, _, _, _, _, rfl, a1, ?_, ?_⟩
        · rw [hsucc]
          rw [yl, List.take_length] at a2
          exact a2
        · exact fun b o hb => kk _ _ (fun z => by rw [z, HW] at hb; cases hb) (e5 _ _ hb)
    · obtain ⟨L, ys, z2, z3, z4, z5, rfl, w1, w2, e⟩ := hW
      rw [hlen, List.take_length] at w2
      refine ⟨_, rfl, k L ys _ e w1 w2 ?_⟩
      have h1 := allT_len hR rs.length (Nat.le_refl _)
      rw [List.take_length] at h1
      exact Nat.le_trans h1 (Nat.pow_le_pow_right (by decide) (by omega : rs.length ≤ 4))
theorem none_all (l : List Bool) : decide ((l.filter (!·)).map (fun _ => (1 : Int)) = []) = l.all id := by
  induction l with
  | nil => rfl
  | cons b r ih =>
    cases b with
    | true => simpa using ih
    | false => simp
def spIsIn : Sp := fun vs H Q _ => ∃ a b bs ps, vs = [.ref a, .ref b] ∧ BoxAt H a bs ∧ PlacesT H b ps ∧ bs.length = ps.length ∧ bs.length ≤ 12 ∧ ∀ H', Ex H H' → Q (.bl (inB bs ps)) H'
theorem ok_is_in (T : Txt K mg) {f : Addr} {fd : FuncData} (D : DefAt K mg "_law_is_in" sLIsIn ["_law_box_told", "_law_x"] f fd) : FnOk P w K mg base CX0 1 f fd ["_law_box_told", "_law_x"] spIsIn := by
  refine D.F.ok scLIsIn (fun vs H Q E h => ?_) (fun cdv A outer s₀ H vs Q E hr h => ?_)
  · obtain ⟨a, b, bs, os, rfl, _⟩ := h
    rfl
  · obtain ⟨a, b, bs, ps, rfl, ha, hb, hlen, hl, q⟩ := h
    refine ⟨_, pss_one (ps_ret (pe_cmpR (op_eqD hr.units) (pe_lc (own := [("_law_told", 2), ("_law_place", 3)]) (g := gTup K 2 (gCons (gName 2) (gCons (gName 3) gNil))) rfl scLIsIn.nd (RZ.pi_zipA (by rfl) T.z_zip (pa_cons (pv 0) (pa_cons (pv 1) pa_nil)))
        (blkOk_by (N := nLIsIn) (sc := defScope sLIsIn) (by decide +kernel)) (fun _ _ _ _ _ => (pg_tup (by rfl) (pgs_cons (pg_name (i := 2) scLIsIn.nd rfl (.inl rfl)) (pgs_cons (pg_name (i := 3) scLIsIn.nd rfl (.inl rfl)) pgs_nil)))) (fun _ _ _ _ _ => pts_one (PW.pt (pw_and (pt_cmpR op_notN (pv 2) pe_non (nomark _))
          (pw_and1 (pt_cmpR op_ne (pv 2) (pv 3) (nomark _))))))
        (fun _ _ _ _ _ => pe_int)) (pe_lst pa_nil) (nomark _))), ?_⟩
    refine ⟨_, rfl, _, rfl, a, b, _, _, rfl, .inr ⟨SqT.of ha, SqT.of hb, fun Dl hD => ?_⟩⟩
    refine lc_zipT (K := K) (a := a) (b := b) (xs := bs.map ov) (ys := ps.map V.int) (n := bs.length) (by rw [List.length_map]; omega) (by rw [List.length_map]; omega) (.inl (by rw [List.length_map]; omega)) (fun i H' => H' Dl = some (.lst ((((List.zipWith li1 bs (ps.map some)).take i).filter (!·)).map (fun _ => V.int 1))) ∧ Ex H H') ⟨upd_same, Ex.new hD⟩ (fun i H' hp => ⟨SqT.of (hp.2 _ _ ha), SqT.of (hp.2 _ _ hb)⟩) (fun i x y Tp H' hi hx hy hp nT => ?_) (fun H' hp => ?_)
    · obtain ⟨o1, ho1, rfl⟩ := ov_get hx
      have ey := pl_get hy
      have hp2 : (ps.map some)[i]? = some (some (ps.getD i 0)) := by
        rw [List.getElem?_map, List.getD_eq_getElem?_getD, List.getElem?_eq_getElem (by omega)]
        rfl
      generalize ps.getD i 0 = p at ey hp2
      subst ey
      have eT := Ex.new (o := .tup [ov o1, .int p]) nT
      have hz := zip_get ho1 hp2
      refine ⟨Tp, _, rfl, SqT.of upd_same, rfl, ov o1, [.int p], rfl, .int p, [], rfl, rfl, rfl, ?_⟩
      have hpT := eT _ _ hp.1
      have eU := hp.2.trans eT
      generalize upd H' Tp (.tup [ov o1, .int p]) = H2 at hpT eU ⊢
      have stay : li1 o1 (some p) = true → (H2 Dl = some (.lst ((((List.zipWith li1 bs (ps.map some)).take (i + 1)).filter (!·)).map (fun _ => V.int 1))) ∧ Ex H H2) := fun hb => by
        refine ⟨?_, eU⟩
        rw [take_snoc hz, List.filter_append, hb]
        simpa using hpT
      cases o1 with
      | none =>
        refine ⟨_, rfl, rfl, _, rfl, iteF (iteF ?_)⟩
        exact stay rfl
      | some t =>
        refine ⟨_, rfl, rfl, _, rfl, iteT ⟨_, rfl, _, rfl, rfl, _, rfl, ?_⟩⟩
        by_cases z : t = p
        · subst z
          rw [decide_eq_true (show ov (some t) = V.int t from rfl)]
          exact iteF (stay (decide_eq_true rfl))
        · have e2 : li1 (some t) (some p) = false := decide_eq_false (fun q => z (Option.some.inj q))
          rw [decide_eq_false (show ¬ ov (some t) = V.int p from fun q => z (V.int.inj q))]
          refine iteT ⟨_, hpT, ?_, ?_, Ex.mut eU hD⟩
          · rw [List.length_map]
            refine small1000 (Nat.le_trans (List.length_filter_le _ _) ?_)
            rw [List.length_take]
            omega
          · rw [upd_same, take_snoc hz, List.filter_append, e2]
            simp
    · refine ⟨by show 0 ≤ sizeLine; decide, fun t9 ht9 => ?_⟩
      have x9 := Ex.new (o := .lst []) ht9
      have hd := hp.1
      rw [List.take_of_length_le (by rw [List.length_zipWith]; omega)] at hd
      have hd2 : H' Dl = some (.lst ((((List.zipWith li1 bs (ps.map some)).filter (!·)).map (fun _ => (1 : Int))).map V.int)) := by
        rw [hd, List.map_map]
        rfl
      have e1 := none_all (List.zipWith li1 bs (ps.map some))
      have sh : ∀ ns : List Int, SeqAt.shaped (.list (ns.map PyData.int)) = true := fun ns => by
        induction ns with
        | nil => rfl
        | cons b r ih => exact ih
      refine ⟨.list _, .list [], .lst (SqL.of (x9 _ _ hd2)) (dp_intsB _), .lst (SqL.of upd_same) .nil, sh _, rfl, ?_⟩
      have e2 : PyData.eqv (.list ((((List.zipWith li1 bs (ps.map some)).filter (!·)).map (fun _ => (1 : Int))).map PyData.int)) (.list []) = inB bs ps := by
        rw [inB_li, ← li_all, ← e1, ← eqvAll_ints]
        simp only [PyData.eqv]
        rfl
      rw [e2]
      exact q _ (hp.2.trans x9)
theorem BoxR_snocN {r : Int × Int} : ∀ {rs : List (Int × Int)} {bs : List (Option Int)}, BoxR rs bs → BoxR (rs ++ [r]) (bs ++ [none])
  | _, _, .nil => .open .nil
  | _, _, .open b => .open (BoxR_snocN b)
  | _, _, .told h0 h1 b => .told h0 h1 (BoxR_snocN b)
theorem BoxR_snocT {r : Int × Int} {t : Int} (t0 : 0 ≤ t) (t1 : t < r.1) : ∀ {rs : List (Int × Int)} {bs : List (Option Int)}, BoxR rs bs → BoxR (rs ++ [r]) (bs ++ [some t])
  | _, _, .nil => .told t0 t1 .nil
  | _, _, .open b => .open (BoxR_snocT t0 t1 b)
  | _, _, .told h0 h1 b => .told h0 h1 (BoxR_snocT t0 t1 b)
theorem InT_snoc {r : Int × Int} {t : Int} (t0 : 0 ≤ t) (t1 : t < r.1) : ∀ {rs : List (Int × Int)} {bs : List Int}, InT rs bs → InT (rs ++ [r]) (bs ++ [t])
  | _, _, .nil => .cons t0 t1 .nil
  | _, _, .cons h0 h1 b => .cons h0 h1 (InT_snoc t0 t1 b)
theorem rs_snoc {rs : List (Int × Int)} {i : Nat} (hi : i < rs.length) : rs.take (i + 1) = rs.take i ++ [rs.getD i (0, 0)] := by
  have e : rs.getD i (0, 0) = rs[i] := by rw [List.getD_eq_getElem?_getD, List.getElem?_eq_getElem hi]; rfl
  rw [e, take_snoc (List.getElem?_eq_getElem hi)]
def spDrawnBox : Sp := fun vs H Q _ => ∃ d c xs rs, vs = [.ref d, .ref c] ∧ Dice H d ∧ H c = some (.tup xs) ∧ RingsAt H 60 xs rs ∧ xs.length ≤ 12 ∧ ∀ p bs H', BoxAt H' p bs → BoxR rs bs → Dice H' d → Keep d H H' → Q (.ref p) H'
theorem ok_drawn_box (T : Txt K mg) {f : Addr} {fd : FuncData} (D : DefAt K mg "_law_drawn_box" sLDrawnBox ["_law_dice_here", "_law_chain_here"] f fd) : FnOk P w K mg base CX0 2 f fd ["_law_dice_here", "_law_chain_here"] spDrawnBox := by
  refine D.F.ok scLDrawnBox (fun vs H Q E h => ?_) (fun cdv A outer s₀ H vs Q E hr h => ?_)
  · obtain ⟨d, c, xs, rs, rfl, _⟩ := h
    rfl
  · obtain ⟨d, c, xs, rs, rfl, hd, hc, hR, hl, q⟩ := h
    obtain ⟨f1, fd1, D1⟩ := T.d_l_roll
    have hr1 : Room 1 _ := hr.mono (by decide)
    refine ⟨_, pss_one (ps_ret (pe_callTy call_tuple_of (by rfl) T.z_tuple (by decide +kernel) (pa_cons (pe_lc (own := [("_law_n", 2), ("_law_s", 3)]) (g := gTup K 2 (gCons (gName 2) (gCons (gName 3) gNil))) (tt := tYes) rfl scLDrawnBox.nd (pi_tup (pv 1))
        (blkOk_by (N := nLDrawnBox) (sc := defScope sLDrawnBox) (by decide +kernel)) (fun _ _ _ _ _ => (pg_tup (by rfl) (pgs_cons (pg_name (i := 2) scLDrawnBox.nd rfl (.inl rfl)) (pgs_cons (pg_name (i := 3) scLDrawnBox.nd rfl (.inl rfl)) pgs_nil)))) (fun _ _ _ _ _ => pts_nil)
        (fun _ _ _ _ _ => (pe_ifExp (pt_cmpR op_eq (pe_call (ok_roll T D1) hr1 (by rfl) D1.g D1.F.kp D1.b .nil pass0 (pa_cons (pv 0) (pa_cons pe_int pa_nil))) pe_int (nomark _)) pe_non (pe_call (ok_roll T D1) hr1 (by rfl) D1.g D1.F.kp D1.b .nil pass0 (pa_cons (pv 0) (pa_cons (pv 2) pa_nil)))))) pa_nil))), ?_⟩
    have hlen : xs.length = rs.length := paired_len hR
    have nc := hd.ne_tup hc
    refine ⟨_, rfl, c, rfl, ⟨_, SqT.of hc⟩, fun Dl hD => ?_⟩
    have ndl : d ≠ Dl := hd.ne_new hD
    refine lc_tup (K := K) (a := c) (xs := xs) (fun i H' => ∃ bs, H' Dl = some (.lst (bs.map ov)) ∧ BoxR (rs.take i) bs ∧ Keep d H H' ∧ Dice H' d) ⟨[], upd_same, .nil, Keep.new hD, hd.upd ndl⟩ (fun i H' _ hp => by obtain ⟨_, _, _, k, _⟩ := hp; exact SqT.of (k _ _ nc hc)) (fun i x H' hx hp => ?_) (fun H' hp => ?_)
    · obtain ⟨bs, a1, a2, kk, hd'⟩ := hp
      have hi := (List.getElem?_eq_some_iff.mp hx).1
      have hn := nAt_eq hR (show i < rs.length by omega)
      obtain ⟨tt, rfl, htt, n1, n2, n3, n4⟩ := rings_nth4 (hR.keep kk hd) hx
      have bl : bs.length = i := by rw [a2.length, take_len (by omega)]
      refine ⟨tt, _, rfl, SqT.of htt, rfl, .int _, [_], rfl, .int _, [], rfl, rfl, rfl, ?_⟩
      dsimp only [tYes]
      rw [if_pos rfl]
      refine ⟨_, rfl, d, 2, rfl, hd', by decide, by decide, fun r1 H2 r10 r11 hd2 k2 => ⟨rfl, _, rfl, ite2 (fun c1 => ?_) (fun c1 => ?_)⟩⟩
      · have b1 := k2 _ _ ndl.symm a1
        refine ⟨_, b1, by rw [List.length_map]; exact small1000 (by omega), bs ++ [none], ?_, ?_, (kk.trans k2).mut hD, hd2.upd ndl⟩
        · rw [upd_same, List.map_append]
          rfl
        · rw [rs_snoc (by omega)]
          exact BoxR_snocN a2
      · refine ⟨_, rfl, _, rfl, d, _, rfl, hd2, by omega, by omega, fun r2 H3 r20 r21 hd3 k3 => ?_⟩
        have k23 := k2.trans k3
        have b1 := k23 _ _ ndl.symm a1
        refine ⟨_, b1, by rw [List.length_map]; exact small1000 (by omega), bs ++ [some r2], ?_, ?_, (kk.trans k23).mut hD, hd3.upd ndl⟩
        · rw [upd_same, List.map_append]
          rfl
        · rw [rs_snoc (by omega)]
          exact BoxR_snocT r20 (by omega) a2
    · obtain ⟨bs, a1, a2, kk, hd'⟩ := hp
      rw [hlen, List.take_length] at a2
      refine ⟨Dl, _, rfl, .inl ⟨SqL.of a1, fun p hp => q p bs _ upd_same a2 (hd'.upd (hd'.ne_new hp)) (kk.trans (Keep.new hp))⟩⟩
end
end K1

/-! plain mathematics of heaps: what two have in common, what one holds, heaps turned over -/
namespace HM
theorem nat_ext {a b : Nat} (h : ∀ c, c < a ↔ c < b) : a = b := by
  rcases Nat.lt_trichotomy a b with q | q | q
  · exact absurd ((h a).mpr q) (Nat.lt_irrefl a)
  · exact q
  · exact absurd ((h b).mp q) (Nat.lt_irrefl b)
/-- the open columns whose diagonal is let -/
def gp (p : Int → Bool) (h : List Nat) (c : Nat) : Bool := opn h c && p (dg h c)
theorem gp_opn {p : Int → Bool} {h : List Nat} (c : Nat) (z : gp p h c = true) : opn h c = true := (Bool.and_eq_true_iff.mp z).1
/-! ### what two heaps have in common -/
def meet (a b : List Nat) : List Nat := (List.range (min a.length b.length)).map fun c => min (hAt a c) (hAt b c)
theorem hAt_meet (a b : List Nat) (c : Nat) : hAt (meet a b) c = min (hAt a c) (hAt b c) := by
  by_cases q : c < min a.length b.length
  · unfold hAt meet
    rw [List.getD_eq_getElem?_getD, List.getElem?_map, List.getElem?_range q]
    rfl
  · rw [hAt_ge (show (meet a b).length ≤ c by unfold meet; rw [List.length_map, List.length_range]; omega)]
    by_cases u : c < a.length
    · rw [hAt_ge (show b.length ≤ c by omega), Nat.min_zero]
    · rw [hAt_ge (show a.length ≤ c by omega), Nat.zero_min]
theorem meet_len (a b : List Nat) : (meet a b).length = min a.length b.length := by
  unfold meet
  rw [List.length_map, List.length_range]
theorem meet_heap {a b : List Nat} (A : IsHeap a) (B : IsHeap b) : IsHeap (meet a b) := by
  refine ⟨fun c hc => ?_, fun c => ?_⟩
  · rw [meet_len] at hc
    rw [hAt_meet]
    have := A.pos c (by omega)
    have := B.pos c (by omega)
    omega
  · rw [hAt_meet, hAt_meet]
    have := A.fall c
    have := B.fall c
    omega
theorem opn_iff {h : List Nat} {c : Nat} : opn h c = true ↔ (c = 0 ∨ hAt h c < hAt h (c - 1)) := by
  unfold opn
  rw [Bool.or_eq_true, decide_eq_true_iff, decide_eq_true_iff]
theorem bool_ext {a b : Bool} (h : a = true ↔ b = true) : a = b := by
  cases a <;> cases b <;> simp_all
theorem meet_gp {p : Int → Bool} {a b : List Nat} (B : IsHeap b) {c : Nat} (q : hAt a c < hAt b c) : gp p (meet a b) c = gp p a c := by
  have e : hAt (meet a b) c = hAt a c := by
    rw [hAt_meet]
    omega
  have d : dg (meet a b) c = dg a c := by
    unfold dg
    rw [e]
  have o : opn (meet a b) c = opn a c := bool_ext (by
    rw [opn_iff, opn_iff, e, hAt_meet]
    have := B.le (show c - 1 ≤ c by omega)
    omega)
  unfold gp
  rw [d, o]
theorem meet_comm (a b : List Nat) : meet a b = meet b a := by
  unfold meet
  rw [Nat.min_comm]
  exact List.map_congr_left fun c _ => Nat.min_comm _ _
theorem meet_gp2 {p : Int → Bool} {a b : List Nat} {c : Nat} (q : hAt a c = hAt b c) : gp p (meet a b) c = (gp p a c && gp p b c) := by
  have e : hAt (meet a b) c = hAt a c := by
    rw [hAt_meet]
    omega
  have d : dg (meet a b) c = dg a c := by
    unfold dg
    rw [e]
  have d2 : dg b c = dg a c := by
    unfold dg
    rw [q]
  have o : opn (meet a b) c = (opn a c && opn b c) := bool_ext (by
    rw [Bool.and_eq_true, opn_iff, opn_iff, opn_iff, e, hAt_meet, ← q]
    omega)
  unfold gp
  rw [d, d2, o]
  cases opn a c <;> cases opn b c <;> cases p (dg a c) <;> rfl
theorem meet_grow {p : Int → Bool} {a b : List Nat} (A : IsHeap a) (B : IsHeap b) : grow (meet a b) (gp p (meet a b)) = meet (grow a (gp p a)) (grow b (gp p b)) := by
  refine heap_ext (grow_heap (meet_heap A B) gp_opn) (meet_heap (grow_heap A gp_opn) (grow_heap B gp_opn)) fun c => ?_
  rw [hAt_grow gp_opn, hAt_meet, hAt_meet, hAt_grow gp_opn, hAt_grow gp_opn]
  rcases Nat.lt_trichotomy (hAt a c) (hAt b c) with q | q | q
  · rw [meet_gp B q]
    have := b2n_le (gp p a c)
    omega
  · rw [meet_gp2 q, q]
    cases gp p a c <;> cases gp p b c <;> (unfold b2n; simp) <;> omega
  · rw [meet_comm, meet_gp A q]
    have := b2n_le (gp p b c)
    omega
/-! ### what is held -/
def Sub (f h : List Nat) : Prop := ∀ c, hAt f c ≤ hAt h c
theorem Sub.refl (h : List Nat) : Sub h h := fun _ => Nat.le_refl _
theorem Sub.len {f h : List Nat} (F : IsHeap f) (s : Sub f h) : f.length ≤ h.length := by
  rcases Nat.lt_or_ge h.length f.length with q | q
  · have a := F.pos _ q
    have b := s h.length
    rw [hAt_ge (Nat.le_refl _)] at b
    omega
  · exact q
theorem sub_grow {p : Int → Bool} {f h : List Nat} {g : Nat → Bool} (s : Sub f h) (hg : ∀ c, g c = true → gp p f c = true) : Sub (grow f g) (grow h (gp p h)) := fun c => by
  rw [hAt_grow fun c z => gp_opn c (hg c z), hAt_grow gp_opn]
  have a := s c
  by_cases q : g c = true
  · have z := hg c q
    by_cases e : hAt f c < hAt h c
    · have := b2n_le (g c)
      omega
    · have e2 : hAt f c = hAt h c := by omega
      have : gp p h c = true := by
        unfold gp at z ⊢
        rw [Bool.and_eq_true] at z ⊢
        refine ⟨opn_iff.mpr ?_, ?_⟩
        · have := opn_iff.mp z.1
          have := s (c - 1)
          omega
        · have d : dg h c = dg f c := by
            unfold dg
            rw [e2]
          rw [d]
          exact z.2
      rw [q, this]
      omega
  · have : g c = false := by simpa using q
    rw [this]
    show _ + 0 ≤ _
    omega
theorem sub_more {f h : List Nat} {g : Nat → Bool} (s : Sub f h) (hg : ∀ c, g c = true → opn h c = true) : Sub f (grow h g) := fun c => by
  rw [hAt_grow hg]
  have := s c
  omega
/-! ### turned over -/
def conj (h : List Nat) : List Nat := (List.range (hAt h 0)).map fun r => (h.filter fun x => decide (r < x)).length
theorem IsHeap.pairs {h : List Nat} (H : IsHeap h) : h.Pairwise (fun a b => b ≤ a) := by
  refine List.pairwise_iff_getElem.mpr fun i j hi hj hij => ?_
  have := H.le (Nat.le_of_lt hij)
  have a := hAt_lt hi
  have b := hAt_lt hj
  rw [List.getElem?_eq_getElem hi] at a
  rw [List.getElem?_eq_getElem hj] at b
  rw [Option.some.inj a, Option.some.inj b]
  exact this
theorem cnt_iff : ∀ (l : List Nat), l.Pairwise (fun a b => b ≤ a) → ∀ c r, c < (l.filter fun x => decide (r < x)).length ↔ r < hAt l c
  | [], _, c, r => by
    rw [hAt_ge (Nat.zero_le _)]
    constructor
    · intro z
      exact absurd z (Nat.not_lt_zero c)
    · intro z
      exact absurd z (Nat.not_lt_zero r)
  | x :: l, hp, c, r => by
    obtain ⟨h1, h2⟩ := List.pairwise_cons.mp hp
    by_cases q : r < x
    · rw [List.filter_cons, if_pos (decide_eq_true q), List.length_cons]
      cases c with
      | zero => exact ⟨fun _ => q, fun _ => Nat.zero_lt_succ _⟩
      | succ c =>
        have := cnt_iff l h2 c r
        show c + 1 < _ + 1 ↔ r < hAt l c
        omega
    · have none : ∀ y ∈ x :: l, ¬ r < y := fun y hy => by
        rcases List.mem_cons.mp hy with rfl | hy
        · exact q
        · have := h1 y hy
          omega
      have e : ((x :: l).filter fun y => decide (r < y)) = [] := List.filter_eq_nil_iff.mpr fun y hy => by
        rw [decide_eq_false (none y hy)]
        decide
      rw [e]
      constructor
      · intro z
        exact absurd z (Nat.not_lt_zero c)
      · intro z
        by_cases u : c < (x :: l).length
        · exact absurd z (none _ (List.mem_of_getElem? (hAt_lt u)))
        · rw [hAt_ge (by omega)] at z
          exact absurd z (Nat.not_lt_zero r)
theorem conj_len (h : List Nat) : (conj h).length = hAt h 0 := by
  unfold conj
  rw [List.length_map, List.length_range]
theorem conj_iff {h : List Nat} (H : IsHeap h) (c r : Nat) : c < hAt (conj h) r ↔ r < hAt h c := by
  by_cases q : r < hAt h 0
  · have e : hAt (conj h) r = (h.filter fun x => decide (r < x)).length := by
      unfold hAt conj
      rw [List.getD_eq_getElem?_getD, List.getElem?_map, List.getElem?_range q]
      rfl
    rw [e]
    exact cnt_iff h H.pairs c r
  · rw [hAt_ge (by rw [conj_len]; omega)]
    have := H.le (Nat.zero_le c)
    constructor
    · intro z
      exact absurd z (Nat.not_lt_zero c)
    · intro z
      omega
theorem conj_heap {h : List Nat} (H : IsHeap h) : IsHeap (conj h) := by
  refine ⟨fun r hr => ?_, fun r => ?_⟩
  · rw [conj_len] at hr
    exact (conj_iff H 0 r).mpr hr
  · rcases Nat.lt_or_ge (hAt (conj h) r) (hAt (conj h) (r + 1)) with z | z
    · have a := (conj_iff H _ _).mp z
      exact absurd ((conj_iff H (hAt (conj h) r) r).mpr (by omega)) (Nat.lt_irrefl _)
    · exact z
theorem turn_sq {p p' : Int → Bool} (hp : ∀ z, p z = true → p' (-z) = true) {h k : List Nat} (hk : ∀ c r, c < hAt k r ↔ r < hAt h c) {c : Nat} (g : gp p h c = true) : c = hAt k (hAt h c) ∧ gp p' k (hAt h c) = true := by
  unfold gp at g
  obtain ⟨o, z⟩ := Bool.and_eq_true_iff.mp g
  have o' := opn_iff.mp o
  have e : hAt k (hAt h c) = c := by
    have a : ¬ c < hAt k (hAt h c) := fun z => absurd ((hk _ _).mp z) (Nat.lt_irrefl _)
    rcases Nat.lt_or_ge (hAt k (hAt h c)) c with q | q
    · have b : ¬ (c - 1 < hAt k (hAt h c)) := by omega
      rw [hk] at b
      omega
    · omega
  refine ⟨e.symm, ?_⟩
  unfold gp
  rw [Bool.and_eq_true]
  refine ⟨opn_iff.mpr ?_, ?_⟩
  · by_cases q : hAt h c = 0
    · exact .inl q
    · refine .inr ?_
      rw [e]
      exact (hk _ _).mpr (by omega)
  · have : dg k (hAt h c) = -(dg h c) := by
      unfold dg
      rw [e]
      omega
    rw [this]
    exact hp _ z
theorem conj_grow {p p' : Int → Bool} (hp : ∀ z, p' (-z) = p z) {h : List Nat} (H : IsHeap h) : conj (grow h (gp p h)) = grow (conj h) (gp p' (conj h)) := by
  have G := grow_heap H (gp_opn (p := p) (h := h))
  have C := conj_heap H
  refine heap_ext (conj_heap G) (grow_heap C gp_opn) fun r => nat_ext fun c => ?_
  rw [conj_iff G, hAt_grow gp_opn, hAt_grow gp_opn]
  have k := conj_iff H c r
  by_cases q : r < hAt h c
  · have := k.mpr q
    omega
  · have q2 : ¬ c < hAt (conj h) r := fun z => q (k.mp z)
    constructor
    · intro z
      cases u : gp p h c with
      | false =>
        rw [u] at z
        exact absurd z (by show ¬ r < hAt h c + 0; omega)
      | true =>
        rw [u] at z
        have z' : r < hAt h c + 1 := z
        have e : r = hAt h c := by omega
        obtain ⟨a, b⟩ := turn_sq (p := p) (p' := p') (fun z y => (hp z).trans y) (conj_iff H) u
        subst e
        rw [b]
        show c < _ + 1
        omega
    · intro z
      cases u : gp p' (conj h) r with
      | false =>
        rw [u] at z
        exact absurd z (by show ¬ c < hAt (conj h) r + 0; omega)
      | true =>
        rw [u] at z
        have z' : c < hAt (conj h) r + 1 := z
        have e : c = hAt (conj h) r := by omega
        have back : ∀ y, p' y = true → p (-y) = true := fun y hy => by
          have := hp (-y)
          rw [Int.neg_neg] at this
          rw [← this]
          exact hy
        obtain ⟨a, b⟩ := turn_sq (p := p') (p' := p) back (h := conj h) (k := h) (fun c r => (conj_iff H r c).symm) u
        subst e
        rw [b]
        show r < _ + 1
        omega
end HM

/-! growth over a box: rings whose places are told grow, the others leave the heap -/
namespace HM
open BX
def lt (r : Int × Int) (q z : Int) : Bool := decide ((z * r.2 - q) % r.1 = 0)
def gstep (h : List Nat) (r : Int × Int) : Option Int → List Nat
  | none => h
  | some q => grow h (gp (lt r q) h)
def gF : List Nat → Rg → List (Option Int) → List Nat
  | h, r :: rs, o :: os => gF (gstep h r o) rs os
  | h, _, _ => h
theorem gstep_heap {h : List Nat} (A : IsHeap h) (r : Int × Int) (o : Option Int) : IsHeap (gstep h r o) := by
  cases o with
  | none => exact A
  | some q => exact grow_heap A gp_opn
theorem gF_heap : ∀ {h : List Nat} (rs : Rg) (os : List (Option Int)), IsHeap h → IsHeap (gF h rs os)
  | _, _ :: rs, _ :: os, A => gF_heap rs os (gstep_heap A _ _)
  | _, [], _, A => by cases ‹List (Option Int)› <;> exact A
  | _, _ :: _, [], A => A
theorem gF_nil (h : List Nat) (os : List (Option Int)) : gF h [] os = h := by cases os <;> rfl
theorem gF_snoc (r : Int × Int) (o : Option Int) : ∀ (h : List Nat) (rs : Rg) (os : List (Option Int)), rs.length = os.length → gF h (rs ++ [r]) (os ++ [o]) = gstep (gF h rs os) r o
  | h, [], [], _ => rfl
  | h, r' :: rs, o' :: os, e => gF_snoc r o (gstep h r' o') rs os (by simpa using e)
  | _, [], _ :: _, e => by simp at e
  | _, _ :: _, [], e => by simp at e
theorem gF_len : ∀ (h : List Nat) (rs : Rg) (os : List (Option Int)), (gF h rs os).length ≤ h.length + rs.length ∧ hAt (gF h rs os) 0 ≤ hAt h 0 + rs.length
  | h, r :: rs, o :: os => by
    have i := gF_len (gstep h r o) rs os
    have e : (gstep h r o).length ≤ h.length + 1 ∧ hAt (gstep h r o) 0 ≤ hAt h 0 + 1 := by
      cases o with
      | none => exact ⟨Nat.le_add_right _ _, Nat.le_add_right _ _⟩
      | some q =>
        constructor
        · show (grow h _).length ≤ _
          rw [grow_len]
          exact Nat.add_le_add_left (b2n_le _) _
        · show hAt (grow h _) 0 ≤ _
          rw [hAt_grow gp_opn]
          exact Nat.add_le_add_left (b2n_le _) _
    have z : gF h (r :: rs) (o :: os) = gF (gstep h r o) rs os := rfl
    rw [z, List.length_cons]
    omega
  | h, [], os => by rw [gF_nil]; exact ⟨Nat.le_add_right _ _, Nat.le_add_right _ _⟩
  | h, _ :: _, [] => ⟨Nat.le_add_right _ _, Nat.le_add_right _ _⟩
theorem gstep_meet {a b : List Nat} (A : IsHeap a) (B : IsHeap b) (r : Int × Int) (o : Option Int) : gstep (meet a b) r o = meet (gstep a r o) (gstep b r o) := by
  cases o with
  | none => rfl
  | some q => exact meet_grow A B
theorem gF_meet : ∀ {a b : List Nat} (rs : Rg) (os : List (Option Int)), IsHeap a → IsHeap b → gF (meet a b) rs os = meet (gF a rs os) (gF b rs os)
  | a, b, r :: rs, o :: os, A, B => by
    show gF (gstep (meet a b) r o) rs os = meet (gF (gstep a r o) rs os) (gF (gstep b r o) rs os)
    rw [gstep_meet A B]
    exact gF_meet rs os (gstep_heap A r o) (gstep_heap B r o)
  | _, _, [], os, A, B => by rw [gF_nil, gF_nil, gF_nil]
  | _, _, _ :: _, [], A, B => rfl
theorem gstep_sub {a b : List Nat} (s : Sub a b) (r : Int × Int) (o u : Option Int) (h : o = none ∨ o = u) : Sub (gstep a r o) (gstep b r u) := by
  rcases h with rfl | rfl
  · cases u with
    | none => exact s
    | some q => exact sub_more s gp_opn
  · cases o with
    | none => exact s
    | some q => exact sub_grow s fun c z => z
/-- what is told is kept: at least as much grows -/
theorem gF_more : ∀ {a b : List Nat} (rs : Rg) (os us : List (Option Int)), Sub a b → os.length = us.length → liB os us = true → Sub (gF a rs os) (gF b rs us)
  | a, b, r :: rs, o :: os, u :: us, s, e, l => by
    refine gF_more rs os us (gstep_sub s r o u ?_) (by simpa using e) ?_
    · cases o with
      | none => exact .inl rfl
      | some t =>
        have l : (decide (some t = u) && liB os us) = true := l
        exact .inr (of_decide_eq_true (Bool.and_eq_true_iff.mp l).1)
    · cases o with
      | none => exact l
      | some t =>
        have l : (decide (some t = u) && liB os us) = true := l
        exact (Bool.and_eq_true_iff.mp l).2
  | _, _, [], os, us, s, _, _ => by rw [gF_nil, gF_nil]; exact s
  | _, _, _ :: _, [], [], s, _, _ => s
  | _, _, _ :: _, [], _ :: _, s, e, _ => by simp at e
  | _, _, _ :: _, _ :: _, [], s, e, _ => by simp at e
theorem two_meet {h : List Nat} (A : IsHeap h) {r : Int × Int} (hr : 2 ≤ r.1) : meet (gstep h r (some 0)) (gstep h r (some 1)) = h := by
  refine heap_ext (meet_heap (gstep_heap A r _) (gstep_heap A r _)) A fun c => ?_
  rw [hAt_meet]
  show min (hAt (grow h (gp (lt r 0) h)) c) (hAt (grow h (gp (lt r 1) h)) c) = _
  rw [hAt_grow gp_opn, hAt_grow gp_opn]
  have k : ¬ (gp (lt r 0) h c = true ∧ gp (lt r 1) h c = true) := by
    rintro ⟨h0, h1⟩
    have z0 : (dg h c * r.2 - 0) % r.1 = 0 := of_decide_eq_true (Bool.and_eq_true_iff.mp h0).2
    have z1 : (dg h c * r.2 - 1) % r.1 = 0 := of_decide_eq_true (Bool.and_eq_true_iff.mp h1).2
    have d0 := Int.dvd_of_emod_eq_zero z0
    have d1 := Int.dvd_of_emod_eq_zero z1
    have d := Int.dvd_sub d0 d1
    rw [show dg h c * r.2 - 0 - (dg h c * r.2 - 1) = 1 by omega] at d
    have := Int.le_of_dvd (by decide) d
    omega
  unfold b2n
  by_cases q0 : gp (lt r 0) h c = true
  · rw [if_pos q0, if_neg (fun q1 => k ⟨q0, q1⟩)]
    omega
  · rw [if_neg q0]
    omega
theorem sub_meet {w a b : List Nat} (h1 : Sub w a) (h2 : Sub w b) : Sub w (meet a b) := fun c => by
  rw [hAt_meet]
  have := h1 c
  have := h2 c
  omega
/-- the places 0 and 1 let no diagonal both -/
theorem gF_two {w : List Nat} : ∀ {h : List Nat} (rs : Rg) (os : List (Option Int)) (j : Nat), IsHeap h → (∀ r ∈ rs, 2 ≤ r.1) → os.length = rs.length → os[j]? = some none →
    Sub w (gF h rs (os.set j (some 0))) → Sub w (gF h rs (os.set j (some 1))) → Sub w (gF h rs os)
  | h, r :: rs, o :: os, 0, A, hr, e, ho, h0, h1 => by
    have : o = none := by simpa using ho
    subst this
    have h0 : Sub w (gF (gstep h r (some 0)) rs os) := h0
    have h1 : Sub w (gF (gstep h r (some 1)) rs os) := h1
    have q := sub_meet h0 h1
    rw [← gF_meet rs os (gstep_heap A r _) (gstep_heap A r _), two_meet A (hr r (by simp))] at q
    exact q
  | h, r :: rs, o :: os, j + 1, A, hr, e, ho, h0, h1 => gF_two (h := gstep h r o) rs os j (gstep_heap A r o) (fun r' q => hr r' (by simp [q])) (by simpa using e) (by simpa using ho) h0 h1
  | _, [], [], _, _, _, _, ho, _, _ => by simp at ho
  | _, _ :: _, [], _, _, _, _, ho, _, _ => by simp at ho
  | _, [], _ :: _, _, _, _, e, _, _, _ => by simp at e
def sbB (f h : List Nat) : Bool := (List.range f.length).all fun c => decide (hAt f c ≤ hAt h c)
theorem sbB_iff {f h : List Nat} : sbB f h = true ↔ Sub f h := by
  unfold sbB
  rw [List.all_eq_true]
  constructor
  · intro q c
    by_cases k : c < f.length
    · exact of_decide_eq_true (q c (List.mem_range.mpr k))
    · rw [hAt_ge (by omega)]
      exact Nat.zero_le _
  · intro q c _
    exact decide_eq_true (q c)
/-! ### a tuple of a box that does not -/
/-- told places up to i, as they are made one by one -/
def fillUp (w : List Nat) (rs : Rg) : List (Option Int) → Nat → List (Option Int)
  | bs, 0 => bs
  | bs, i + 1 =>
    let t := fillUp w rs bs i
    if bs.getD i none = none then (if sbB w (gF [] rs (t.set i (some 0))) = true then t.set i (some 1) else t.set i (some 0)) else t
theorem fillUp_len (w : List Nat) (rs : Rg) (bs : List (Option Int)) : ∀ i, (fillUp w rs bs i).length = bs.length
  | 0 => rfl
  | i + 1 => by
    unfold fillUp
    simp only
    split
    · split
      · rw [List.length_set, fillUp_len]
      · rw [List.length_set, fillUp_len]
    · exact fillUp_len w rs bs i
theorem fillUp_get (w : List Nat) (rs : Rg) (bs : List (Option Int)) : ∀ (i : Nat), i ≤ bs.length → ∀ j, j < bs.length → (i ≤ j → (fillUp w rs bs i)[j]? = bs[j]?) ∧ (j < i → ∃ t, (fillUp w rs bs i)[j]? = some (some t) ∧ (bs[j]? = some (some t) ∨ (bs[j]? = some none ∧ (t = 0 ∨ t = 1))))
  | 0, _, j, hj => ⟨fun _ => rfl, fun h => absurd h (Nat.not_lt_zero j)⟩
  | i + 1, hi, j, hj => by
    have ih := fillUp_get w rs bs i (by omega) j hj
    have hl := fillUp_len w rs bs i
    have gd : bs[i]? = some (bs.getD i none) := by rw [List.getD_eq_getElem?_getD, List.getElem?_eq_getElem (by omega)]; rfl
    unfold fillUp
    simp only
    by_cases z : bs.getD i none = none
    · rw [if_pos z]
      rw [z] at gd
      have set_at : ∀ v : Int, ((fillUp w rs bs i).set i (some v))[j]? = if i = j then some (some v) else (fillUp w rs bs i)[j]? := fun v => by
        rw [List.getElem?_set]
        by_cases q : i = j
        · rw [if_pos q, if_pos q, if_pos (by omega)]
        · rw [if_neg q, if_neg q]
      have main : ∀ v : Int, (v = 0 ∨ v = 1) → (i + 1 ≤ j → ((fillUp w rs bs i).set i (some v))[j]? = bs[j]?) ∧ (j < i + 1 → ∃ t, ((fillUp w rs bs i).set i (some v))[j]? = some (some t) ∧ (bs[j]? = some (some t) ∨ (bs[j]? = some none ∧ (t = 0 ∨ t = 1)))) := fun v hv => by
        refine ⟨fun q => ?_, fun q => ?_⟩
        · rw [set_at, if_neg (by omega)]
          exact ih.1 (by omega)
        · rw [set_at]
          by_cases e : i = j
          · subst e
            rw [if_pos rfl]
            exact ⟨v, rfl, .inr ⟨gd, hv⟩⟩
          · rw [if_neg e]
            exact ih.2 (by omega)
      split
      · exact main 1 (.inr rfl)
      · exact main 0 (.inl rfl)
    · rw [if_neg z]
      refine ⟨fun q => ih.1 (by omega), fun q => ?_⟩
      by_cases e : i = j
      · subst e
        rw [ih.1 (Nat.le_refl _), gd]
        cases k : bs.getD i none with
        | none => exact absurd k z
        | some t => exact ⟨t, rfl, .inl rfl⟩
      · exact ih.2 (by omega)
theorem fillUp_not {w : List Nat} {rs : Rg} {bs : List (Option Int)} (hr : ∀ r ∈ rs, 2 ≤ r.1) (hb : bs.length = rs.length) (h : sbB w (gF [] rs bs) = false) : ∀ i, i ≤ bs.length → sbB w (gF [] rs (fillUp w rs bs i)) = false
  | 0, _ => h
  | i + 1, hi => by
    have ih := fillUp_not hr hb h i (by omega)
    have hl := fillUp_len w rs bs i
    unfold fillUp
    simp only
    by_cases z : bs.getD i none = none
    · rw [if_pos z]
      have gd : (fillUp w rs bs i)[i]? = some none := by
        rw [(fillUp_get w rs bs i (by omega) i (by omega)).1 (Nat.le_refl _), ← z, List.getD_eq_getElem?_getD, List.getElem?_eq_getElem (by omega)]
        rfl
      by_cases q : sbB w (gF [] rs ((fillUp w rs bs i).set i (some 0))) = true
      · rw [if_pos q]
        refine Bool.eq_false_iff.mpr fun q1 => ?_
        have := gF_two rs (fillUp w rs bs i) i IsHeap.nil hr (by rw [hl, hb]) gd (sbB_iff.mp q) (sbB_iff.mp q1)
        rw [sbB_iff.mpr this] at ih
        cases ih
      · rw [if_neg q]
        exact Bool.eq_false_iff.mpr q
    · rw [if_neg z]
      exact ih
theorem inT_of : ∀ {rs : Rg} {ps : List Int}, ps.length = rs.length → (∀ j : Nat, j < ps.length → 0 ≤ ps.getD j 0 ∧ ps.getD j 0 < (rs.getD j (0, 0)).1) → InT rs ps
  | [], [], _, _ => .nil
  | r :: rs, p :: ps, e, h => by
    have h0 := h 0 (by simp)
    refine .cons h0.1 h0.2 (inT_of (by simpa using e) fun j hj => ?_)
    have := h (j + 1) (by simpa using hj)
    simpa using this
  | [], _ :: _, e, _ => by simp at e
  | _ :: _, [], e, _ => by simp at e
theorem boxR_at : ∀ {rs : Rg} {bs : List (Option Int)} {j : Nat} {t : Int}, BoxR rs bs → bs[j]? = some (some t) → 0 ≤ t ∧ t < (rs.getD j (0, 0)).1
  | _, _, _, _, .nil, h => by simp at h
  | _, _, 0, _, .open b, h => by simp at h
  | _, _, 0, _, .told h0 h1 b, h => by
    simp at h
    subst h
    exact ⟨h0, h1⟩
  | _, _, j + 1, _, .open b, h => by
    have := boxR_at (j := j) b (by simpa using h)
    simpa using this
  | _, _, j + 1, _, .told h0 h1 b, h => by
    have := boxR_at (j := j) b (by simpa using h)
    simpa using this
theorem inB_of : ∀ {bs : List (Option Int)} {ps : List Int}, bs.length = ps.length → (∀ j : Nat, j < bs.length → ∀ t, bs[j]? = some (some t) → ps.getD j 0 = t) → inB bs ps = true
  | [], [], _, _ => rfl
  | none :: bs, p :: ps, e, h => inB_of (bs := bs) (by simpa using e) fun j hj t ht => by
      have := h (j + 1) (by simpa using hj) t (by simpa using ht)
      simpa using this
  | some t :: bs, p :: ps, e, h => by
    show (decide (t = p) && inB bs ps) = true
    rw [inB_of (bs := bs) (ps := ps) (by simpa using e) fun j hj t ht => by
      have := h (j + 1) (by simpa using hj) t (by simpa using ht)
      simpa using this]
    have := h 0 (by simp) t rfl
    rw [decide_eq_true (by simpa using this.symm)]
    rfl
  | [], _ :: _, e, _ => by simp at e
  | none :: _, [], e, _ => by simp at e
  | some _ :: _, [], e, _ => by simp at e
/-- the tuple that is told at the end -/
theorem fillUp_end {w : List Nat} {rs : Rg} {bs : List (Option Int)} (hr : ∀ r ∈ rs, 2 ≤ r.1) (hb : BoxR rs bs) (h : sbB w (gF [] rs bs) = false) :
    ∃ ps, fillUp w rs bs bs.length = ps.map some ∧ InT rs ps ∧ inB bs ps = true ∧ sbB w (gF [] rs (ps.map some)) = false := by
  have hl := hb.length
  have fl := fillUp_len w rs bs bs.length
  have fg := fillUp_get w rs bs bs.length (Nat.le_refl _)
  let ps := (fillUp w rs bs bs.length).map fun o => o.getD 0
  have e : fillUp w rs bs bs.length = ps.map some := by
    refine List.ext_getElem? fun j => ?_
    rw [List.getElem?_map, List.getElem?_map]
    by_cases hj : j < bs.length
    · obtain ⟨t, h1, _⟩ := (fg j hj).2 hj
      rw [h1]
      rfl
    · rw [List.getElem?_eq_none (by omega)]
      rfl
  have pl : ps.length = bs.length := by rw [List.length_map, fl]
  have pg : ∀ j, j < bs.length → ∃ t, ps.getD j 0 = t ∧ (bs[j]? = some (some t) ∨ (bs[j]? = some none ∧ (t = 0 ∨ t = 1))) := fun j hj => by
    obtain ⟨t, h1, h2⟩ := (fg j hj).2 hj
    refine ⟨t, ?_, h2⟩
    rw [List.getD_eq_getElem?_getD, List.getElem?_map, h1]
    rfl
  refine ⟨ps, e, inT_of (by omega) fun j hj => ?_, inB_of pl.symm fun j hj t ht => ?_, ?_⟩
  · obtain ⟨t, h1, h2⟩ := pg j (by omega)
    rw [h1]
    rcases h2 with h2 | ⟨_, h2⟩
    · exact boxR_at hb h2
    · have hj2 : j < rs.length := by omega
      have := hr (rs.getD j (0, 0)) (by rw [List.getD_eq_getElem?_getD, List.getElem?_eq_getElem hj2]; exact List.getElem_mem hj2)
      omega
  · obtain ⟨t', h1, h2⟩ := pg j hj
    rw [h1]
    rcases h2 with h2 | ⟨h2, _⟩
    · rw [ht] at h2
      exact (Option.some.inj (Option.some.inj h2)).symm
    · rw [ht] at h2
      cases h2
  · rw [← e]
    exact fillUp_not hr hl h _ (Nat.le_refl _)
/-- a box fills exactly if all of its tuples do -/
theorem fills_iff {w : List Nat} {rs : Rg} {bs : List (Option Int)} (hr : ∀ r ∈ rs, 2 ≤ r.1) (hb : BoxR rs bs) :
    decide ((allT rs).filter (fun x => inB bs x && !sbB w (gF [] rs (x.map some))) = []) = sbB w (gF [] rs bs) := by
  cases h : sbB w (gF [] rs bs) with
  | true =>
    refine decide_eq_true (List.filter_eq_nil_iff.mpr fun x hx => ?_)
    have hx := mem_allT.mp hx
    cases q : inB bs x with
    | false => simp
    | true =>
      have li : liB bs (x.map some) = true := by
        clear h hr
        have hl := hb.length
        have xl := hx.length
        clear hx hb
        have gen : ∀ (bs : List (Option Int)) (x : List Int), inB bs x = true → liB bs (x.map some) = true := by
          intro bs
          induction bs with
          | nil => intro x _; cases x <;> rfl
          | cons b bs ih =>
            intro x q
            cases x with
            | nil => cases b <;> rfl
            | cons p ps =>
              cases b with
              | none => exact ih ps q
              | some t =>
                have q : (decide (t = p) && inB bs ps) = true := q
                obtain ⟨q1, q2⟩ := Bool.and_eq_true_iff.mp q
                show (decide (some t = some p) && liB bs (ps.map some)) = true
                rw [ih ps q2, decide_eq_true (by rw [of_decide_eq_true q1])]
                rfl
        exact gen bs x q
      have := gF_more (a := []) (b := []) rs bs (x.map some) (Sub.refl _) (by rw [List.length_map, hb.length, hx.length]) li
      have : Sub w (gF [] rs (x.map some)) := fun c => Nat.le_trans (sbB_iff.mp h c) (this c)
      rw [sbB_iff.mpr this]
      decide
  | false =>
    refine decide_eq_false fun z => ?_
    obtain ⟨ps, _, h1, h2, h3⟩ := fillUp_end hr hb h
    have := List.filter_eq_nil_iff.mp z ps (mem_allT.mpr h1)
    rw [h2, h3] at this
    exact this rfl
end HM

/-! own walk: zip of a tuple and a list or a tuple -/
namespace ZN
open PySem PySem.Spec PyProof.Rows L2
/-- a tuple and a list, their items in new pairs -/
def ItN (K : PySem.W.Frag) (a b : Addr) : It :=
  ⟨fun i H => ∃ (xs ys : List V) (x y : V), SqT K H a xs ∧ SqL K H b ys ∧ xs[i]? = some x ∧ ys[i]? = some y,
    fun i H v H' => ∃ T x y, v = .ref T ∧ H T = none ∧ H' = upd H T (.tup [x, y]) ∧ (∀ xs, SqT K H a xs → xs[i]? = some x) ∧ ∀ ys, SqL K H b ys → ys[i]? = some y,
    fun i H => ∃ xs ys : List V, SqT K H a xs ∧ SqL K H b ys ∧ xs.length = i ∧ ys.length = i⟩
theorem turnN {P : Program} {w : World} {K : PySem.W.Frag} {elts : List Expr} {kk : Nat} {tpos : Pos} {a b z TI TO i1 i2 : Addr} (S : ZipSep2 z TI TO i1 i2 [i1, a] [i2, b]) (na : a ≠ i1) (nb : b ≠ i2) (w1 : z ≠ i1 ∧ z ≠ i2) :
    Turn P w K (.Tuple elts kk tpos) (ItN K a b) [z, TI, TO, i1, i2] z (fun i h => IsZip h z TI TO .none ∧ IsTupOf2 h TI (.ref i1) (.ref i2) ∧ (∃ x y, IsTupOf2 h TO x y) ∧ h.IsTupleIter i1 a i ∧ h.IsListIter i2 b i) where
  mem := by simp
  obj := fun i h st t ht => by
    obtain ⟨hz, hTI, ⟨x, y, hTO⟩, ⟨o1, e1, _, d1⟩, ⟨o2, e2, _, d2⟩⟩ := st
    rcases (show t = z ∨ t = TI ∨ t = TO ∨ t = i1 ∨ t = i2 by simpa using ht) with q | q | q | q | q
    · rw [q]
      exact ⟨_, hz, fun v q => nomatch q⟩
    · rw [q]
      exact ⟨_, hTI, fun v q => nomatch q⟩
    · rw [q]
      exact ⟨_, hTO, fun v q => nomatch q⟩
    · exact ⟨o1, q ▸ e1, fun v q => by rw [d1] at q; cases q⟩
    · exact ⟨o2, q ▸ e2, fun v q => by rw [d2] at q; cases q⟩
  keep := fun i h h' st k => by
    obtain ⟨hz, hTI, ⟨x, y, hTO⟩, h1, h2⟩ := st
    exact ⟨k z (by simp) _ hz, k TI (by simp) _ hTI, ⟨x, y, k TO (by simp) _ hTO⟩, h1.at fun o q => k i1 (by simp) o q, h2.at fun o q => k i2 (by simp) o q⟩
  item := by
    intro X eP eW eK hc i pins s σ H E I hf st hg
    subst eP eW eK
    obtain ⟨hz, hTI, ⟨x0, y0, hTO⟩, h1, h2⟩ := st
    obtain ⟨xs, ys, x, y, qx, qy, gx, gy⟩ := hg
    obtain ⟨t1, r1, p1, _⟩ := I.tuple qx
    obtain ⟨t2, r2, p2, _⟩ := I.list qy
    obtain ⟨v1, m1, rv1⟩ := r1.get gx
    obtain ⟨v2, m2, rv2⟩ := r2.get gy
    have l1 : i < t1.toArray.size := by simpa using (List.getElem?_eq_some_iff.mp m1).1
    have l2 : i < t2.toArray.size := by simpa using (List.getElem?_eq_some_iff.mp m2).1
    have hzl : z < s.heap.objs.size := Heap.lt_size hz
    have hh : X.A.in1.handled = none := I.ok.hd hc
    refine wpAny_pyNext_zipD2_item S (Draws.tuple hh i1 a na t1.toArray) (Draws.list hh i2 b nb t2.toArray) hz hTI hTO ⟨h1, p1⟩ ⟨h2, p2.isList⟩ l1 l2 fun w1' w2' h' tk g1 g2 zz tt s1 s2 hT hsz hk => ?_
    have a1 : w1' = v1 := Option.some.inj (g1.symm.trans (by simpa using m1))
    have a2 : w2' = v2 := Option.some.inj (g2.symm.trans (by simpa using m2))
    subst a1 a2
    refine ⟨_, rfl, wpAny_letOwnedTupleGo_zip (s := { s with heap := h', toks := tk }) zz fun h2' z2 sb => ?_⟩
    have hT2 : h2'.get? s.heap.objs.size = some { cls := .type "tuple", data := .seq #[w1', w2'] } := (sb.2 _ (Nat.ne_of_gt hzl)).trans hT
    have made : ObjOk X.prog X.w (upd H s.heap.objs.size (.tup [x, y])) h2' s.heap.objs.size (.tup [x, y]) :=
      ⟨by show 2 ≤ sizeLine; decide, [w1', w2'], .cons rv1 (.cons rv2 .nil), ⟨_, hT2, rfl, _, rfl⟩⟩
    have I2 : Inv X pins σ (upd H s.heap.objs.size (.tup [x, y])) { s with heap := h2', toks := tk } :=
      I.turnedNew (ch := [z, TI, TO, i1, i2]) (fun t o ht q => (sb.2 t (fun e => ht (by simp [e]))).trans (hk t o (fun e => ht (by simp [e])) (fun e => ht (by simp [e])) (fun e => ht (by simp [e])) (fun e => ht (by simp [e])) q)) hf (Nat.le_refl _) made
    refine ⟨.ref s.heap.objs.size, _, I2, rfl, ⟨_, x, y, rfl, I.hok.fresh (Nat.le_refl _), rfl, fun l hl => by rw [I.tuple_inj hl qx]; exact gx, fun l hl => by rw [I.list_inj hl qy]; exact gy⟩,
      ⟨z2, (sb.2 _ S.TIz).trans (hk _ _ S.TIz S.TITO S.TIi1 S.TIi2 hTI), ⟨w1', w2', (sb.2 _ S.TOz).trans tt⟩, s1.1.at fun o q => (sb.2 _ w1.1.symm).trans q, s2.1.at fun o q => (sb.2 _ w1.2.symm).trans q⟩, fun t ht => ?_⟩
    have lt : t < s.heap.objs.size := by
      rcases (show t = z ∨ t = TI ∨ t = TO ∨ t = i1 ∨ t = i2 by simpa using ht) with q | q | q | q | q
      · exact q ▸ hzl
      · exact q ▸ Heap.lt_size hTI
      · exact q ▸ Heap.lt_size hTO
      · obtain ⟨_, e, _⟩ := h1
        exact q ▸ Heap.lt_size e
      · obtain ⟨_, e, _⟩ := h2
        exact q ▸ Heap.lt_size e
    rw [upd_ne (Nat.ne_of_lt lt)]
    exact (hf t ht).1
  done := by
    intro X eP eW eK hc i pins s σ H E I hf st hg
    subst eP eW eK
    obtain ⟨hz, hTI, ⟨x0, y0, hTO⟩, h1, h2⟩ := st
    obtain ⟨xs, ys, qx, qy, gx, gy⟩ := hg
    obtain ⟨t1, r1, p1, _⟩ := I.tuple qx
    obtain ⟨t2, r2, p2, _⟩ := I.list qy
    have k1 := r1.length
    have k2 := r2.length
    have hh : X.A.in1.handled = none := I.ok.hd hc
    exact wpAny_pyNext_zipD2_end S (Draws.tuple hh i1 a na t1.toArray) (Draws.list hh i2 b nb t2.toArray) hz hTI hTO ⟨h1, p1⟩ ⟨h2, p2.isList⟩ (by rw [List.size_toArray]; omega) (by rw [List.size_toArray]; omega) (.inl (by rw [List.size_toArray]; omega))
      fun h' tk hk => ⟨rfl, I.turnedL (ch := [z, TI, TO, i1, i2]) (fun t o ht q => hk t o (fun e => ht (by simp [e])) (fun e => ht (by simp [e])) (fun e => ht (by simp [e])) (fun e => ht (by simp [e])) q) hf⟩
  self := fun A i s Q E st h => wpAny_pyIter_zip st.1 h
def iZipN (K : PySem.W.Frag) (ta : TA) : TI := fun σ H R => ta σ H fun vs H1 => ∃ a b xs ys, vs = [.ref a, .ref b] ∧ SqT K H1 a xs ∧ ((SqT K H1 b ys ∧ R (RZ.ItzT K a b) H1) ∨ (SqL K H1 b ys ∧ R (ItN K a b) H1))
theorem pi_zipN {X : Cx} {e e2 : Expr} {ta : TA} {p pos tpos : Pos} {elts : List Expr} {kk : Nat} (hg : Gl X "zip") (hm : X.mg "zip" = none) (ha : PA X [e, e2] ta)
    (hs : starEach [e, e2] X.env = (false, eval e X.env) :: starEach [e2] X.env := by rfl) (hpl : (backTo pos (starEach [e2] X.env)).any (·.1) = false := by rfl) :
    PI X (.Tuple elts kk tpos) (.Call (.Name "zip" p) [e, e2] [] pos) (iZipN X.K ta) := by
  refine ⟨fun pins s σ H R I h => ?_⟩
  refine Call_ (ld_blt I hg hm PyProof.Rows.boot_zip (PyProof.Rows.callWith_type1 (thn (ha.run pos pins s σ H _ I h) fun vs' s1 ⟨vs, H1, I1, r1, q1⟩ => ?_) hs hpl))
  obtain ⟨a, b, xs, ys, ex, qx, q1⟩ := q1
  subst ex
  cases r1 with
  | cons ra rr =>
    cases rr with
    | cons rb rr =>
      cases rr
      cases ra
      cases rb
      have fresh5 : ∀ c, c ∈ [s1.heap.objs.size + 4, s1.heap.objs.size + 2, s1.heap.objs.size + 3, s1.heap.objs.size, s1.heap.objs.size + 1] → FpOk X pins H1 c := fun t ht => by
        have le : s1.heap.objs.size ≤ t := by
          rcases (show t = s1.heap.objs.size + 4 ∨ t = s1.heap.objs.size + 2 ∨ t = s1.heap.objs.size + 3 ∨ t = s1.heap.objs.size ∨ t = s1.heap.objs.size + 1 by simpa using ht) with q | q | q | q | q
          · exact q ▸ Nat.le_add_right _ _
          · exact q ▸ Nat.le_add_right _ _
          · exact q ▸ Nat.le_add_right _ _
          · exact q ▸ Nat.le_refl _
          · exact q ▸ Nat.le_add_right _ _
        exact I1.fpOk le (I1.hok.fresh le)
      rcases q1 with ⟨qy, q⟩ | ⟨qy, q⟩
      · obtain ⟨its, rv, p1, _⟩ := I1.tuple qx
        obtain ⟨its2, rv2, p2, _⟩ := I1.tuple qy
        obtain ⟨o1, ho1, _⟩ := id p1
        obtain ⟨o2, ho2, _⟩ := id p2
        refine RZ.call_zipT (show s1.heap.IsTuple a its.toArray from p1) (show s1.heap.IsTuple b its2.toArray from p2) fun h' hz hTI hTO h1 h2 hsz hk => wpAny_pyIter_zip hz ?_
        have I2 : Inv X pins σ H1 { s1 with heap := h' } := I1.kept (t' := s1.toks) hk
        exact ⟨s1.heap.objs.size + 4, [s1.heap.objs.size + 4, s1.heap.objs.size + 2, s1.heap.objs.size + 3, s1.heap.objs.size, s1.heap.objs.size + 1], _, _, H1, rfl, I2, RZ.turn_zipT (PySem.W.ktu_apart s1.heap.objs.size a b (Heap.lt_size ho1) (Heap.lt_size ho2)), ⟨hz, hTI, ⟨_, _, hTO⟩, h1, h2⟩, fresh5, q⟩
      · obtain ⟨t1, r1', p1, _⟩ := I1.tuple qx
        obtain ⟨t2, r2', p2, _⟩ := I1.list qy
        have la : a < s1.heap.objs.size := by
          obtain ⟨_, e, _⟩ := p1
          exact Heap.lt_size e
        have lb : b < s1.heap.objs.size := by
          obtain ⟨_, e, _⟩ := p2.isList
          exact Heap.lt_size e
        refine zip_begins2 (begins_tuple a t1.toArray) (begins_list b t2.toArray) p1 p2.isList fun h' hz hTI hTO g1 g2 _ hk => wpAny_pyIter_zip hz ?_
        have I2 : Inv X pins σ H1 { s1 with heap := h' } := I1.kept (t' := s1.toks) hk
        have S : ZipSep2 (s1.heap.objs.size + 4) (s1.heap.objs.size + 2) (s1.heap.objs.size + 3) s1.heap.objs.size (s1.heap.objs.size + 1) [s1.heap.objs.size, a] [s1.heap.objs.size + 1, b] :=
          zip_sep2 (fun t ht => by rw [List.mem_singleton.mp ht]; exact la) (fun t ht => by rw [List.mem_singleton.mp ht]; exact lb)
        have add : ∀ {m k : Nat}, m ≠ k → s1.heap.objs.size + m ≠ s1.heap.objs.size + k := fun n e => n (Nat.add_left_cancel e)
        exact ⟨s1.heap.objs.size + 4, [s1.heap.objs.size + 4, s1.heap.objs.size + 2, s1.heap.objs.size + 3, s1.heap.objs.size, s1.heap.objs.size + 1], _, _, H1, rfl, I2,
          turnN S (Nat.ne_of_lt la) (Nat.ne_of_lt (Nat.lt_succ_of_lt lb)) ⟨add (m := 4) (k := 0) (by decide), add (by decide)⟩,
          ⟨hz, hTI, ⟨_, _, hTO⟩, ⟨_, g1, rfl, rfl⟩, ⟨_, g2, rfl, rfl⟩⟩, fresh5, q⟩
/-- a loop over such a zip: what is known of the second one is told by q2 -/
theorem for_zipN {K : PySem.W.Frag} {a b : Addr} {xs ys : List V} {n : Nat} {g : TG} {tb : TS} {D : Ends} {σ : L2.St} {H : Hp} (hx : xs.length = n) (hy : ys.length = n)
    (Pv : Nat → L2.St → Hp → Prop) (h0 : Pv 0 σ H) (hq : ∀ i σ H, Pv i σ H → SqT K H a xs ∧ SqL K H b ys)
    (hs : ∀ i x y T σ H, i < n → xs[i]? = some x → ys[i]? = some y → Pv i σ H → H T = none → g (.ref T) σ (upd H T (.tup [x, y])) fun σ2 H2 => tb { D with nx := Pv (i + 1), ct := Pv (i + 1), bk := D.nx } σ2 H2) (hd : ∀ σ H, Pv n σ H → D.nx σ H) :
    ∃ W : Nat → Nat → L2.St → Hp → Prop, (∃ m, W 0 m σ H) ∧ ∀ i m σ H, W i m σ H →
      ((ItN K a b).stop i H ∧ D.nx σ H) ∨ ((ItN K a b).go i H ∧ ∃ N : L2.St → Hp → Prop, (∀ σ' H', N σ' H' → ∃ m', m' < m ∧ W (i + 1) m' σ' H') ∧ ∀ v H', (ItN K a b).yld i H v H' → g v σ H' fun σ2 H2 => tb { D with nx := N, ct := N, bk := D.nx } σ2 H2) := by
  refine ⟨fun i m σ H => m = n - i ∧ i ≤ n ∧ Pv i σ H, ⟨n, (Nat.sub_zero n).symm, Nat.zero_le _, h0⟩, ?_⟩
  rintro i m σ H ⟨rfl, hi, p⟩
  obtain ⟨qa, qb⟩ := hq i σ H p
  by_cases hlt : i < n
  · have e1 : xs[i]? = some (xs[i]'(by omega)) := List.getElem?_eq_getElem _
    have e2 : ys[i]? = some (ys[i]'(by omega)) := List.getElem?_eq_getElem _
    refine .inr ⟨⟨xs, ys, _, _, qa, qb, e1, e2⟩, Pv (i + 1), fun σ' H' p' => ⟨n - (i + 1), by omega, rfl, hlt, p'⟩, fun v H' hy' => ?_⟩
    obtain ⟨T, x, y, rfl, nT, rfl, fx, fy⟩ := hy'
    exact hs i x y T σ H hlt (fx _ qa) (fy _ qb) p nT
  · have e : i = n := by omega
    subst e
    exact .inl ⟨⟨xs, ys, qa, qb, hx, hy⟩, hd σ H p⟩
end ZN

/-! own rule: sum of a tuple of ints -/
namespace ST
open PySem PySem.Spec PyProof.Rows L2
section
variable {prog : Program} {w : World} {A : Around} {E : Value → Shared → Prop} {s : Shared} {l : Addr}
theorem sum_tup {xs : Array (Int × Tok)} {Q : Value → Shared → Prop} (hh : A.handled = none) (hl : s.heap.IsTuple l (intItems xs))
    (h : ∀ h' tk t', (∀ b o, s.heap.get? b = some o → h'.get? b = some o) → Q (.int (preSum (numAt xs) xs.size) t') { s with heap := h', toks := tk }) :
    wpAny (model prog w) A (call (.builtin "sum") [.ref l]) Q E s := by
  have hlt : l < s.heap.objs.size := by
    obtain ⟨_, e, _⟩ := hl
    exact Heap.lt_size e
  refine call_sum_walkG (wpAny_pyIter_tuple hl ?_)
  refine ⟨_, _, _, _, _, _, numAt xs, rfl, Walks.tuple (A := A.in1) hh s.heap.objs.size l (Nat.ne_of_lt hlt) (intItems xs), ⟨⟨_, Heap.get?_push_size _ rfl, rfl, rfl⟩, hl.push _⟩, fun b hb => ?_, (fun _ _ => intItems_at), fun h' tk t' hk => ?_⟩
  · show b < (s.heap.push _).objs.size
    rw [Heap.size_push]
    rcases List.mem_cons.mp hb with rfl | hb
    · exact Nat.lt_succ_self _
    · rcases List.mem_cons.mp hb with rfl | hb
      · exact Nat.lt_succ_of_lt hlt
      · cases hb
  · have := h h' tk t' fun b o e => by
      refine hk b o (fun hm => ?_) (Heap.get?_push_of_some _ e)
      rcases List.mem_cons.mp hm with e1 | hm
      · exact absurd (e1 ▸ Heap.lt_size e) (Nat.lt_irrefl _)
      · cases hm
    simpa [intItems] using this
theorem sum_tupR {its : List Value} {ns : List Int} {Q : Value → Shared → Prop} (hh : A.handled = none) (hl : s.heap.IsTuple l its.toArray) (hi : IntsAre its ns)
    (h : ∀ h' tk t', (∀ b o, s.heap.get? b = some o → h'.get? b = some o) → Q (.int ns.sum t') { s with heap := h', toks := tk }) : wpAny (model prog w) A (call (.builtin "sum") [.ref l]) Q E s := by
  obtain ⟨xs, e⟩ := hi.allInts.items
  have hn : numsOf (intItems xs).toList = ns := by rw [← e]; exact hi.numsOf
  rw [nums_intItems] at hn
  rw [e] at hl
  refine sum_tup hh hl fun h' tk t' hk => ?_
  have := h h' tk t' hk
  rw [preSum_eq, List.take_of_length_le (by simp), hn]
  exact this
end
section
variable {X : Cx}
def rSumT (K : PySem.W.Frag) : List V → Hp → VK → Prop := fun vs H Q => ∃ (a : Addr) (ns : List Int), vs = [V.ref a] ∧ SqT K H a (ns.map V.int) ∧ Q (.int ns.sum) H
theorem cr_sumT (hc : X.calm = true) : CallR X (.builtin "sum") (rSumT X.K) := by
  intro pins s σ H vs us Q I r h
  obtain ⟨a, ns, rfl, hs, q⟩ := h
  obtain ⟨its, rv, hl, _⟩ := I.tuple hs
  rw [Vals.ref1 r]
  exact sum_tupR (I.ok.hd hc) hl rv.ints fun h' tk t' hk => ⟨.int _, H, I.kept hk, ⟨_, rfl⟩, q⟩
end
end ST

namespace K1
open PySem PySem.Spec PyProof.Rows L2 Evl HM LX ZW ZM TE BX ST
/-! ### boxes that fill a heap -/
theorem rings_two {H : Hp} {most : Int} {xs : List V} {rs : List (Int × Int)} (h : RingsAt H most xs rs) : ∀ r ∈ rs, 2 ≤ r.1 := by
  induction h with
  | nil => intro r hr; cases hr
  | cons a _ ih =>
    intro r hr
    rcases List.mem_cons.mp hr with rfl | hr
    · obtain ⟨_, _, _, h, _⟩ := a
      exact h
    · exact ih r hr
theorem FW.ex {p : List Int → Bool} {Dl : Addr} {H0 H' : Hp} {pss : List (List Int)} {i : Nat} (W : FW p Dl H0 pss i H') : Ex H0 H' := by
  obtain ⟨_, _, _, e⟩ := W
  exact e
theorem FW.done {p : List Int → Bool} {Dl : Addr} {H0 H' : Hp} {pss : List (List Int)} {ys : List V} (W : FW p Dl H0 pss ys.length H') (h : ys.length = pss.length) : ∃ acc, H' Dl = some (.lst acc) ∧ Rows H' acc (pss.filter p) ∧ Ex H0 H' := by
  obtain ⟨acc, a1, a2, a3⟩ := W
  rw [h, List.take_length] at a2
  exact ⟨acc, a1, a2, a3⟩
theorem hv_map (h : List Nat) : hv h = (h.map fun (n : Nat) => (n : Int)).map V.int := by
  unfold hv
  rw [List.map_map]
  rfl
theorem sum_le4 : ∀ h : List Nat, (∀ x ∈ h, x ≤ 4) → (h.map fun (n : Nat) => (n : Int)).sum ≤ 4 * (h.length : Int)
  | [], _ => by simp
  | x :: r, k => by
    have i := sum_le4 r fun y hy => k y (List.mem_cons_of_mem _ hy)
    have := k x (List.mem_cons_self ..)
    simp only [List.map_cons, List.sum_cons, List.length_cons]
    omega
/-- heaps of few squares -/
structure Few (h : List Nat) : Prop where
  heap : IsHeap h
  len : h.length ≤ 4
  top : hAt h 0 ≤ 4
theorem Few.good {h : List Nat} (F : Few h) : Good h := ⟨F.heap, by have := F.len; omega, by have := F.top; omega⟩
theorem Few.sum {h : List Nat} (F : Few h) : (h.map fun (n : Nat) => (n : Int)).sum ≤ 42 := by
  have := sum_le4 h fun x hx => by
    obtain ⟨i, hi, rfl⟩ := List.getElem_of_mem hx
    have e : hAt h i = h[i] := by
      unfold hAt
      rw [List.getD_eq_getElem?_getD, List.getElem?_eq_getElem hi]
      rfl
    rw [← e]
    exact Nat.le_trans (F.heap.le (Nat.zero_le i)) F.top
  have := F.len
  omega
theorem nil_at {H : Hp} {p : Addr} (h : H p = some (.tup [])) : HeapAt H p [] := h
section
variable {P : Program} {w : World} {K : PySem.W.Frag} {mg : Str → Option Value} {base : Heap}
def spHolds : Sp := fun vs H Q _ => ∃ p q h f, vs = [.ref p, .ref q] ∧ HeapAt H p h ∧ HeapAt H q f ∧ f.length ≤ 100 ∧ ∀ H', Ex H H' → Q (.bl (sbB f h)) H'
theorem ok_holds (T : Txt K mg) {f : Addr} {fd : FuncData} (D : DefAt K mg "holds" sHolds ["heap", "other"] f fd) : FnOk P w K mg base CX0 2 f fd ["heap", "other"] spHolds := by
  refine D.F.ok scHolds (fun vs H Q E h => ?_) (fun cdv A outer s₀ H vs Q E hr h => ?_)
  · obtain ⟨p, q, h, f', rfl, _⟩ := h
    rfl
  · obtain ⟨p, q, h, f', rfl, hp, hq, fl, k⟩ := h
    obtain ⟨f1, fd1, D1⟩ := T.d_height_at
    have hr1 : Room 1 _ := hr.mono (by decide)
    refine ⟨_, pss_one (ps_ret (pe_callB (cr_all rfl) (by rfl) T.z_all (by decide +kernel) (pa_cons (pe_lc (own := [("column", 2), ("height", 3)]) (g := gTup K 2 (gCons (gName 2) (gCons (gName 3) gNil))) (tt := tYes) rfl scHolds.nd (EnT.pi_enumT (by rfl) T.z_enumerate (pa_cons (pv 1) pa_nil))
        (blkOk_by (N := nHolds) (sc := defScope sHolds) (by decide +kernel)) (fun _ _ _ _ _ => (pg_tup (by rfl) (pgs_cons (pg_name (i := 2) scHolds.nd rfl (.inl rfl)) (pgs_cons (pg_name (i := 3) scHolds.nd rfl (.inl rfl)) pgs_nil)))) (fun _ _ _ _ _ => pts_nil)
        (fun _ _ _ _ _ => (pe_cmpR op_ge (pe_call (ok_height_at T D1) hr1 (by rfl) D1.g D1.F.kp D1.b .nil pass0 (pa_cons (pv 0) (pa_cons (pv 2) pa_nil))) (pv 3) (nomark _)))) pa_nil))), ?_⟩
    refine ⟨_, rfl, q, _, rfl, SqT.of hq, fun Dl hD => ?_⟩
    refine lc_enumT (K := K) (a := q) (xs := hv f') (fun i H' => H' Dl = some (.lst (((List.range i).map fun c => decide (hAt f' c ≤ hAt h c)).map V.bl)) ∧ Ex H H') ⟨upd_same, Ex.new hD⟩ (fun i H' hp2 => SqT.of (hp2.2 _ _ hq)) (fun i x Tp H' hx hp2 nT => ?_) (fun H' hp2 => ?_)
    · obtain ⟨w1, w2⟩ := hp2
      have hi : i < f'.length := by
        have := (List.getElem?_eq_some_iff.mp hx).1
        rw [hv_len] at this
        exact this
      rw [hv_get hi] at hx
      obtain rfl := Option.some.inj hx
      have eT := Ex.new (o := .tup [.int (i : Nat), .int (hAt f' i : Int)]) nT
      refine ⟨Tp, _, rfl, SqT.of upd_same, rfl, .int (i : Nat), [_], rfl, _, [], rfl, rfl, rfl, ?_⟩
      dsimp only [tYes]
      rw [if_pos rfl]
      refine ⟨_, rfl, _, rfl, p, h, i, rfl, (w2.trans eT) _ _ hp, fun H3 e3 => ⟨_, rfl, _, _, rfl, rfl, ?_⟩⟩
      refine ⟨_, e3 _ _ (eT _ _ w1), ?_, ?_, Ex.mut ((w2.trans eT).trans e3) hD⟩
      · rw [List.length_map, List.length_map, List.length_range]
        exact small1000 (by omega)
      · rw [upd_same, List.range_succ, List.map_append, List.map_append]
        have : decide ((hAt h i : Int) ≥ (hAt f' i : Int)) = decide (hAt f' i ≤ hAt h i) := decide_eq_decide.mpr ⟨fun z => by omega, fun z => by omega⟩
        show some (HO.lst (_ ++ [V.bl (decide ((hAt h i : Int) ≥ (hAt f' i : Int)))])) = _
        rw [this]
        rfl
    · refine ⟨Dl, (List.range f'.length).map fun c => decide (hAt f' c ≤ hAt h c), rfl, ?_, ?_⟩
      · have := hp2.1
        rw [hv_len] at this
        exact SqL.of this
      · have e : ((List.range f'.length).map fun c => decide (hAt f' c ≤ hAt h c)).all id = sbB f' h := by
          unfold sbB
          rw [List.all_map]
          rfl
        rw [e]
        exact k _ hp2.2
def spCheckFilled (K : PySem.W.Frag) : Sp := fun vs H Q _ => ∃ c p xs rs h, vs = [.ref c, .ref p] ∧ H c = some (.tup xs) ∧ RingsAt H 60 xs rs ∧ (1 ≤ xs.length ∧ xs.length ≤ 12) ∧ HeapAt H p h ∧ Few h ∧ ∀ H', Ex H H' → Q .non H'
theorem ok_check_filled (T : Txt K mg) {f : Addr} {fd : FuncData} (D : DefAt K mg "check_filled" sCheckFilled ["chain", "heap"] f fd) : FnOk P w K mg base CX0 6 f fd ["chain", "heap"] (spCheckFilled K) := by
  refine D.F.ok scCheckFilled (fun vs H Q E h => ?_) (fun cdv A outer s₀ H vs Q E hr h => ?_)
  · obtain ⟨c, p, xs, rs, h, rfl, _⟩ := h
    rfl
  · obtain ⟨c, p, xs, rs, h, rfl, hc, hR, hl, hp, F, k⟩ := h
    obtain ⟨tM, vM⟩ := T.v_SQ
    obtain ⟨f1, fd1, D1⟩ := T.d_check_heap
    obtain ⟨f2, fd2, D2⟩ := T.d_check_chain
    have hr4 : Room 4 _ := hr.mono (by decide)
    have hr5 : Room 5 _ := hr.mono (by decide)
    refine ⟨_, pss_cons (ps_expr (pe_call (ok_check_chain T D2) hr5 (by rfl) D2.g D2.F.kp D2.b .nil pass0 (pa_cons (pv 0) pa_nil)))
      (pss_cons (ps_expr (pe_call (ok_check_heap T D1) hr4 (by rfl) D1.g D1.F.kp D1.b .nil pass0 (pa_cons (pv 1) pa_nil)))
      (pss_one (ps_if (pt_cmpR op_gt (pe_callB (cr_sumT rfl) (by rfl) T.z_sum (by decide +kernel) (pa_cons (pv 1) pa_nil)) (pe_glob (v := .int 42) rfl vM ⟨_, rfl⟩) (nomark _)) pss_never pss_nil))), ?_⟩
    refine ⟨_, rfl, .ref c, rfl, rings_chain4 hR hc hl.1 hl.2, fun H1 e1 => ?_⟩
    refine ⟨_, rfl, p, h, rfl, e1 _ _ hp, F.good, fun H2 e2 => ?_⟩
    have hp2 : H2 p = some (.tup ((h.map fun (n : Nat) => (n : Int)).map V.int)) := by
      rw [← hv_map]
      exact (e1.trans e2) _ _ hp
    refine ⟨_, rfl, p, _, rfl, SqT.of hp2, _, _, rfl, rfl, _, rfl, ?_⟩
    rw [decide_eq_false (show ¬ (h.map fun (n : Nat) => (n : Int)).sum > 42 by have := F.sum; omega)]
    exact iteF (k _ (e1.trans e2))
theorem gF_next {H : Hp} {most : Int} {xs : List V} {rs : List (Int × Int)} {os : List (Option Int)} (hR : RingsAt H most xs rs) (hl : os.length = rs.length) {i : Nat} (hi : i < rs.length) {o : Option Int} (ho : os[i]? = some o) :
    gF [] (rs.take (i + 1)) (os.take (i + 1)) = (match o with
      | none => gF [] (rs.take i) (os.take i)
      | some q => grow (gF [] (rs.take i) (os.take i)) (gl (gF [] (rs.take i) (os.take i)) (K1N.nAt rs i) (K1N.sAt rs i) q)) := by
  rw [rs_snoc hi, take_snoc ho, gF_snoc _ _ _ _ _ (by rw [List.length_take, List.length_take]; omega)]
  cases o with
  | none => rfl
  | some q =>
    have e := nAt_eq hR hi
    rw [e]
    rfl
def BoxE (H : Hp) (v : Addr) (os : List (Option Int)) : Prop := BoxAt H v os ∨ H v = some (.lst (os.map ov))
theorem BoxE.ex {H H' : Hp} {v : Addr} {os : List (Option Int)} (e : Ex H H') (h : BoxE H v os) : BoxE H' v os := h.imp (e _ _) (e _ _)
def spGrowsOver : Sp := fun vs H Q _ => ∃ c p v xs rs h os, vs = [.ref c, .ref p, .ref v] ∧ H c = some (.tup xs) ∧ RingsAt H 60 xs rs ∧ xs.length ≤ 12 ∧ HeapAt H p h ∧ h.length ≤ 100 ∧ BoxE H v os ∧ os.length = rs.length ∧ ∀ H', Ex H H' → Q (.bl (sbB h (gF [] rs os))) H'
theorem ok_grows_over (T : Txt K mg) {f : Addr} {fd : FuncData} (D : DefAt K mg "grows_over" sGrowsOver ["chain", "heap", "box"] f fd) : FnOk P w K mg base CX0 4 f fd ["chain", "heap", "box"] spGrowsOver := by
  refine D.F.ok scGrowsOver (fun vs H Q E h => ?_) (fun cdv A outer s₀ H vs Q E hr h => ?_)
  · obtain ⟨c, p, v, xs, rs, h, os, rfl, _⟩ := h
    rfl
  · obtain ⟨c, p, v, xs, rs, h, os, rfl, hc, hR, hl, hp, hh, hv, ol, k⟩ := h
    obtain ⟨f1, fd1, D1⟩ := T.d_holds
    obtain ⟨f2, fd2, D2⟩ := T.d_grown_by
    have hr2 : Room 2 _ := hr.mono (by decide)
    have hr3 : Room 3 _ := hr.mono (by decide)
    refine ⟨_, pss_cons (ps_set (i := 3) scGrowsOver.nd rfl (.inl rfl) (pe_tup pa_nil))
      (pss_cons (ps_for PassesOwn.never rfl (ZN.pi_zipN (by rfl) T.z_zip (pa_cons (pv 0) (pa_cons (pv 2) pa_nil))) (pg_tup (by rfl) (pgs_cons (pg_name (i := 4) scGrowsOver.nd rfl (.inl rfl)) (pgs_cons (pg_name (i := 5) scGrowsOver.nd rfl (.inl rfl)) pgs_nil)))
        (pss_one (ps_if (pt_cmpR op_notN (pv 5) pe_non (nomark _)) (pss_one (ps_set (i := 3) scGrowsOver.nd rfl (.inl rfl) (pe_call (ok_grown_by T D2) hr3 (by rfl) D2.g D2.F.kp D2.b .nil pass0 (pa_cons (pv 3) (pa_cons (pv 4) (pa_cons (pv 5) pa_nil)))))) pss_nil)))
      (pss_one (ps_ret (pe_call (ok_holds T D1) hr2 (by rfl) D1.g D1.F.kp D1.b .nil pass0 (pa_cons (pv 3) (pa_cons (pv 1) pa_nil)))))), ?_⟩
    have hlen : xs.length = rs.length := paired_len hR
    refine ⟨by show 0 ≤ sizeLine; decide, fun t0 ht0 => ?_⟩
    have x0 := Ex.new (o := .tup []) ht0
    have g0 : HeapAt (upd H t0 (.tup [])) t0 [] := nil_at upd_same
    rcases hv with hv | hv
    · refine ⟨_, rfl, _, rfl, c, v, _, _, rfl, SqT.of (x0 _ _ hc), .inl ⟨SqT.of (x0 _ _ hv), ?_⟩⟩
      refine for_zipT (K := K) (a := c) (b := v) (xs := xs) (ys := os.map ov) (n := xs.length) (Nat.le_refl _) (by rw [List.length_map]; omega) (.inl (Nat.le_refl _)) (fun i σ' H' => ∃ (g : Addr) (z4 z5 : Option V), σ' = [some (.ref c), some (.ref p), some (.ref v), some (.ref g), z4, z5] ∧ HeapAt H' g (gF [] (rs.take i) (os.take i)) ∧ Ex H H') ⟨t0, none, none, rfl, g0, x0⟩ (fun i σ' H' hq => ?_) (fun i x y Tp σ' H' hi hx hy hq nT => ?_) (fun σ' H' hq => ?_)
      · obtain ⟨_, _, _, _, _, e⟩ := hq
        exact ⟨SqT.of (e _ _ hc), SqT.of (e _ _ hv)⟩
      · obtain ⟨g, z4, z5, rfl, hg, e⟩ := hq
        obtain ⟨o, ho, rfl⟩ := ov_get hy
        have eT := Ex.new (o := .tup [x, ov o]) nT
        have hst := gF_next hR ol (show i < rs.length by omega) ho
        have gl0 := gF_len [] (rs.take i) (os.take i)
        have tl : (rs.take i).length ≤ 12 := by rw [List.length_take]; omega
        have hr4 := rings_nth4 (rings_ex4 (e.trans eT) hR) hx
        refine ⟨Tp, _, rfl, SqT.of upd_same, rfl, x, [ov o], rfl, ov o, [], rfl, rfl, ?_⟩
        refine ⟨_, rfl, rfl, _, rfl, ?_⟩
        cases o with
        | none => exact iteF ⟨g, _, _, rfl, by rw [hst]; exact eT _ _ hg, e.trans eT⟩
        | some q =>
          refine iteT ⟨_, rfl, _, rfl, _, rfl, g, _, x, _, _, q, rfl, eT _ _ hg, gF_heap _ _ IsHeap.nil, by simp at gl0; omega, hr4, fun r H3 e3 h3 => ?_⟩
          exact ⟨r, _, _, rfl, by rw [hst]; exact h3, (e.trans eT).trans e3⟩
      · obtain ⟨g, z4, z5, rfl, hg, e⟩ := hq
        rw [hlen, List.take_length, ← ol, List.take_length] at hg
        exact ⟨_, rfl, _, rfl, g, p, _, h, rfl, hg, e _ _ hp, hh, fun H2 e2 => k _ (e.trans e2)⟩
    · refine ⟨_, rfl, _, rfl, c, v, _, _, rfl, SqT.of (x0 _ _ hc), .inr ⟨SqL.of (x0 _ _ hv), ?_⟩⟩
      refine ZN.for_zipN (K := K) (a := c) (b := v) (xs := xs) (ys := os.map ov) (n := xs.length) rfl (by rw [List.length_map]; omega) (fun i σ' H' => ∃ (g : Addr) (z4 z5 : Option V), σ' = [some (.ref c), some (.ref p), some (.ref v), some (.ref g), z4, z5] ∧ HeapAt H' g (gF [] (rs.take i) (os.take i)) ∧ Ex H H') ⟨t0, none, none, rfl, g0, x0⟩ (fun i σ' H' hq => ?_) (fun i x y Tp σ' H' hi hx hy hq nT => ?_) (fun σ' H' hq => ?_)
      · obtain ⟨_, _, _, _, _, e⟩ := hq
        exact ⟨SqT.of (e _ _ hc), SqL.of (e _ _ hv)⟩
      · obtain ⟨g, z4, z5, rfl, hg, e⟩ := hq
        obtain ⟨o, ho, rfl⟩ := ov_get hy
        have eT := Ex.new (o := .tup [x, ov o]) nT
        have hst := gF_next hR ol (show i < rs.length by omega) ho
        have gl0 := gF_len [] (rs.take i) (os.take i)
        have tl : (rs.take i).length ≤ 12 := by rw [List.length_take]; omega
        have hr4 := rings_nth4 (rings_ex4 (e.trans eT) hR) hx
        refine ⟨Tp, _, rfl, SqT.of upd_same, rfl, x, [ov o], rfl, ov o, [], rfl, rfl, ?_⟩
        refine ⟨_, rfl, rfl, _, rfl, ?_⟩
        cases o with
        | none => exact iteF ⟨g, _, _, rfl, by rw [hst]; exact eT _ _ hg, e.trans eT⟩
        | some q =>
          refine iteT ⟨_, rfl, _, rfl, _, rfl, g, _, x, _, _, q, rfl, eT _ _ hg, gF_heap _ _ IsHeap.nil, by simp at gl0; omega, hr4, fun r H3 e3 h3 => ?_⟩
          exact ⟨r, _, _, rfl, by rw [hst]; exact h3, (e.trans eT).trans e3⟩
      · obtain ⟨g, z4, z5, rfl, hg, e⟩ := hq
        rw [hlen, List.take_length, ← ol, List.take_length] at hg
        exact ⟨_, rfl, _, rfl, g, p, _, h, rfl, hg, e _ _ hp, hh, fun H2 e2 => k _ (e.trans e2)⟩
def spCheckFiller (K : PySem.W.Frag) : Sp := fun vs H Q _ => ∃ c p v xs rs h os, vs = [.ref c, .ref p, .ref v] ∧ H c = some (.tup xs) ∧ RingsAt H 60 xs rs ∧ (1 ≤ xs.length ∧ xs.length ≤ 12) ∧ HeapAt H p h ∧ Few h ∧ BoxAt H v os ∧ BoxR rs os ∧ ∀ H', Ex H H' → Q .non H'
theorem ok_check_filler (T : Txt K mg) {f : Addr} {fd : FuncData} (D : DefAt K mg "check_filler" sCheckFiller ["chain", "heap", "box"] f fd) : FnOk P w K mg base CX0 7 f fd ["chain", "heap", "box"] (spCheckFiller K) := by
  refine D.F.ok scCheckFiller (fun vs H Q E h => ?_) (fun cdv A outer s₀ H vs Q E hr h => ?_)
  · obtain ⟨c, p, v, xs, rs, h, os, rfl, _⟩ := h
    rfl
  · obtain ⟨c, p, v, xs, rs, h, os, rfl, hc, hR, hl, hp, F, hv, ho, k⟩ := h
    obtain ⟨f1, fd1, D1⟩ := T.d_check_box
    obtain ⟨f2, fd2, D2⟩ := T.d_check_filled
    have hr6 : Room 6 _ := hr.mono (by decide)
    have hr4 : Room 4 _ := hr.mono (by decide)
    refine ⟨_, pss_cons (ps_expr (pe_call (ok_check_filled T D2) hr6 (by rfl) D2.g D2.F.kp D2.b .nil pass0 (pa_cons (pv 0) (pa_cons (pv 1) pa_nil))))
      (pss_one (ps_expr (pe_call (ok_check_box T D1) hr4 (by rfl) D1.g D1.F.kp D1.b .nil pass0 (pa_cons (pv 0) (pa_cons (pv 2) pa_nil))))), ?_⟩
    refine ⟨_, rfl, _, rfl, c, p, xs, rs, h, rfl, hc, hR, hl, hp, F, fun H1 e1 => ?_⟩
    exact ⟨_, rfl, _, rfl, c, .ref v, xs, rs, rfl, e1 _ _ hc, rings_ex4 e1 hR, hl.2, (box_judged hR hv ho).opt e1, fun H2 e2 => k _ (e1.trans e2)⟩
def spDoesFill (K : PySem.W.Frag) : Sp := fun vs H Q _ => ∃ c p v xs rs h os, vs = [.ref c, .ref p, .ref v] ∧ H c = some (.tup xs) ∧ RingsAt H 60 xs rs ∧ (1 ≤ xs.length ∧ xs.length ≤ 12) ∧ HeapAt H p h ∧ Few h ∧ BoxAt H v os ∧ BoxR rs os ∧ ∀ H', Ex H H' → Q (.bl (sbB h (gF [] rs os))) H'
theorem ok_does_fill (T : Txt K mg) {f : Addr} {fd : FuncData} (D : DefAt K mg "does_fill" sDoesFill ["chain", "heap", "box"] f fd) : FnOk P w K mg base CX0 8 f fd ["chain", "heap", "box"] (spDoesFill K) := by
  refine D.F.ok scDoesFill (fun vs H Q E h => ?_) (fun cdv A outer s₀ H vs Q E hr h => ?_)
  · obtain ⟨c, p, v, xs, rs, h, os, rfl, _⟩ := h
    rfl
  · obtain ⟨c, p, v, xs, rs, h, os, rfl, hc, hR, hl, hp, F, hv, ho, k⟩ := h
    obtain ⟨f1, fd1, D1⟩ := T.d_grows_over
    obtain ⟨f2, fd2, D2⟩ := T.d_check_filler
    have hr7 : Room 7 _ := hr.mono (by decide)
    have hr4 : Room 4 _ := hr.mono (by decide)
    refine ⟨_, pss_cons (ps_expr (pe_call (ok_check_filler T D2) hr7 (by rfl) D2.g D2.F.kp D2.b .nil pass0 (pa_cons (pv 0) (pa_cons (pv 1) (pa_cons (pv 2) pa_nil)))))
      (pss_one (ps_ret (pe_call (ok_grows_over T D1) hr4 (by rfl) D1.g D1.F.kp D1.b .nil pass0 (pa_cons (pv 0) (pa_cons (pv 1) (pa_cons (pv 2) pa_nil)))))), ?_⟩
    refine ⟨_, rfl, _, rfl, _, rfl, c, p, v, xs, rs, h, os, rfl, hc, hR, hl, hp, F, hv, ho, fun H1 e1 => ?_⟩
    exact ⟨_, rfl, _, rfl, _, rfl, c, p, v, xs, rs, h, os, rfl, e1 _ _ hc, rings_ex4 e1 hR, hl.2, e1 _ _ hp, by have := F.len; omega, .inl (e1 _ _ hv), ho.length, fun H2 e2 => k _ (e1.trans e2)⟩
def spLeftOut (K : PySem.W.Frag) : Sp := fun vs H Q _ => ∃ c p v xs rs h os, vs = [.ref c, .ref p, .ref v] ∧ H c = some (.tup xs) ∧ RingsAt H 60 xs rs ∧ (1 ≤ xs.length ∧ xs.length ≤ 12) ∧ HeapAt H p h ∧ Few h ∧ BoxAt H v os ∧ BoxR rs os ∧
  (sbB h (gF [] rs os) = true → ∀ H', Ex H H' → Q .non H') ∧ (sbB h (gF [] rs os) = false → ∀ r ps H', Ex H H' → PlacesT H' r ps → InT rs ps → inB os ps = true → sbB h (gF [] rs (ps.map some)) = false → Q (.ref r) H')
theorem ok_left_out (T : Txt K mg) {f : Addr} {fd : FuncData} (D : DefAt K mg "left_out" sLeftOut ["chain", "heap", "box"] f fd) : FnOk P w K mg base CX0 8 f fd ["chain", "heap", "box"] (spLeftOut K) := by
  refine D.F.ok scLeftOut (fun vs H Q E h => ?_) (fun cdv A outer s₀ H vs Q E hr h => ?_)
  · obtain ⟨c, p, v, xs, rs, h, os, rfl, _⟩ := h
    rfl
  · obtain ⟨c, p, v, xs, rs, h, os, rfl, hc, hR, hl, hp, F, hv, ho, k1, k2⟩ := h
    obtain ⟨f1, fd1, D1⟩ := T.d_grows_over
    obtain ⟨f2, fd2, D2⟩ := T.d_check_filler
    have hr7 : Room 7 _ := hr.mono (by decide)
    have hr4 : Room 4 _ := hr.mono (by decide)
    refine ⟨_, pss_cons (ps_expr (pe_call (ok_check_filler T D2) hr7 (by rfl) D2.g D2.F.kp D2.b .nil pass0 (pa_cons (pv 0) (pa_cons (pv 1) (pa_cons (pv 2) pa_nil)))))
      (pss_cons (ps_if (pt_val (pe_call (ok_grows_over T D1) hr4 (by rfl) D1.g D1.F.kp D1.b .nil pass0 (pa_cons (pv 0) (pa_cons (pv 1) (pa_cons (pv 2) pa_nil))))) (pss_one (ps_ret pe_non)) pss_nil)
      (pss_cons (ps_set (i := 3) scLeftOut.nd rfl (.inl rfl) (pe_callTy call_list_of (by rfl) T.z_list (by decide +kernel) (pa_cons (pv 2) pa_nil)))
      (pss_cons (ps_for PassesOwn.never rfl (EnT.pi_enumT (by rfl) T.z_enumerate (pa_cons (pv 2) pa_nil)) (pg_tup (by rfl) (pgs_cons (pg_name (i := 4) scLeftOut.nd rfl (.inl rfl)) (pgs_cons (pg_name (i := 5) scLeftOut.nd rfl (.inl rfl)) pgs_nil)))
        (pss_one (ps_if (pt_cmpR op_isN (pv 5) pe_non (nomark _)) (pss_cons (ps_asg pe_int (pg_sub (pv 3) (pv 4) set_list))
      (pss_one (ps_if (pt_val (pe_call (ok_grows_over T D1) hr4 (by rfl) D1.g D1.F.kp D1.b .nil pass0 (pa_cons (pv 0) (pa_cons (pv 1) (pa_cons (pv 3) pa_nil))))) (pss_one (ps_asg pe_int (pg_sub (pv 3) (pv 4) set_list))) pss_nil))) pss_nil)))
      (pss_one (ps_ret (pe_callTy call_tuple_of (by rfl) T.z_tuple (by decide +kernel) (pa_cons (pv 3) pa_nil))))))), ?_⟩
    have hlen : xs.length = rs.length := paired_len hR
    have ol := ho.length
    refine ⟨_, rfl, _, rfl, _, rfl, c, p, v, xs, rs, h, os, rfl, hc, hR, hl, hp, F, hv, ho, fun H1 e1 => ?_⟩
    refine ⟨_, rfl, _, rfl, _, rfl, c, p, v, xs, rs, h, os, rfl, e1 _ _ hc, rings_ex4 e1 hR, hl.2, e1 _ _ hp, by have := F.len; omega, .inl (e1 _ _ hv), ol, fun H2 e2 => ⟨_, rfl, ite2 (fun cc => ?_) (fun cc => ?_)⟩⟩
    · exact k1 cc _ (e1.trans e2)
    · have no : sbB h (gF [] rs os) = false := Bool.eq_false_iff.mpr cc
      have e12 := e1.trans e2
      refine ⟨_, rfl, v, _, rfl, .inr (SqT.of (e12 _ _ hv)), fun l hl0 => ?_⟩
      have HL : H l = none := by
        cases q : H l with
        | none => rfl
        | some o =>
          rw [e12 _ _ q] at hl0
          cases hl0
      have x3 := Ex.new (o := .lst (os.map ov)) hl0
      refine ⟨_, rfl, v, _, rfl, SqT.of ((e12.trans x3) _ _ hv), for_enumT (K := K) (a := v) (xs := os.map ov) (fun i σ' H' => ∃ (z4 z5 : Option V), σ' = [some (.ref c), some (.ref p), some (.ref v), some (.ref l), z4, z5] ∧ H' l = some (.lst ((fillUp h rs os i).map ov)) ∧ Ex H H') ⟨none, none, rfl, upd_same, e12.trans x3⟩ (fun i σ' H' hq => ?_) (fun i x Tp σ' H' hx hq nT => ?_) (fun σ' H' hq => ?_)⟩
      · obtain ⟨_, _, _, _, e⟩ := hq
        exact SqT.of (e _ _ hv)
      · obtain ⟨z4, z5, rfl, h1, e⟩ := hq
        obtain ⟨o, hoi, rfl⟩ := ov_get hx
        have hi : i < os.length := (List.getElem?_eq_some_iff.mp hoi).1
        have eT := Ex.new (o := .tup [.int (i : Nat), ov o]) nT
        have hlT := eT _ _ h1
        have eU := e.trans eT
        have fl := fillUp_len h rs os i
        refine ⟨Tp, _, rfl, SqT.of upd_same, rfl, .int (i : Nat), [_], rfl, _, [], rfl, rfl, ?_⟩
        generalize upd H' Tp (.tup [.int (i : Nat), ov o]) = H3 at hlT eU ⊢
        have gd : os.getD i none = o := by
          rw [List.getD_eq_getElem?_getD, hoi]
          rfl
        refine ⟨_, rfl, rfl, _, rfl, ?_⟩
        cases o with
        | some q =>
          refine iteF ⟨_, _, rfl, ?_, eU⟩
          have : fillUp h rs os (i + 1) = fillUp h rs os i := by
            conv => lhs; unfold fillUp
            simp only
            rw [gd, if_neg (by intro z; cases z)]
          rw [this]
          exact hlT
        | none =>
          refine iteT ⟨_, rfl, _, rfl, l, _, (i : Int), i, rfl, rfl, hlT, ixN_nat (by rw [List.length_map, fl]; exact hi), ?_⟩
          have e4 := Ex.mut (o := .lst (((fillUp h rs os i).map ov).set i (.int 0))) eU HL
          have l4 : (upd H3 l (.lst (((fillUp h rs os i).map ov).set i (.int 0)))) l = some (.lst (((fillUp h rs os i).set i (some 0)).map ov)) := by
            rw [upd_same, List.map_set]
            rfl
          generalize upd H3 l (.lst (((fillUp h rs os i).map ov).set i (.int 0))) = H4 at e4 l4 ⊢
          refine ⟨_, rfl, _, rfl, _, rfl, c, p, l, xs, rs, h, _, rfl, e4 _ _ hc, rings_ex4 e4 hR, hl.2, e4 _ _ hp, by have := F.len; omega, .inr l4, by rw [List.length_set, fl, ol], fun H5 e5 => ⟨_, rfl, ite2 (fun c2 => ?_) (fun c2 => ?_)⟩⟩
          · refine ⟨_, rfl, _, rfl, l, _, (i : Int), i, rfl, rfl, e5 _ _ l4, ixN_nat (by rw [List.length_map, List.length_set, fl]; exact hi), ?_⟩
            refine ⟨_, _, rfl, ?_, Ex.mut (e4.trans e5) HL⟩
            have : fillUp h rs os (i + 1) = (fillUp h rs os i).set i (some 1) := by
              conv => lhs; unfold fillUp
              simp only
              rw [gd, if_pos rfl, if_pos c2]
            rw [this, upd_same, List.map_set, List.set_set, List.map_set]
            rfl
          · refine ⟨_, _, rfl, ?_, e4.trans e5⟩
            have : fillUp h rs os (i + 1) = (fillUp h rs os i).set i (some 0) := by
              conv => lhs; unfold fillUp
              simp only
              rw [gd, if_pos rfl, if_neg c2]
            rw [this]
            exact e5 _ _ l4
      · obtain ⟨z4, z5, rfl, h1, e⟩ := hq
        obtain ⟨ps, p1, p2, p3, p4⟩ := fillUp_end (rings_two hR) ho no
        rw [List.length_map, p1] at h1
        have h2 : H' l = some (.lst (ps.map V.int)) := by
          rw [h1, List.map_map]
          rfl
        exact ⟨_, rfl, l, _, rfl, .inl ⟨SqL.of h2, fun r hr0 => k2 no r ps _ (e.trans (Ex.new hr0)) upd_same p2 p3 p4⟩⟩
end
end K1

namespace K1
open PySem PySem.Spec PyProof.Rows L2 Evl HM LX ZW ZM TE BX ST
/-! ### the law's own heaps -/
theorem hseq_gF {H : Hp} {most : Int} {xs : List V} {rs : List (Int × Int)} {ps : List Int} (hR : RingsAt H most xs rs) (hl : ps.length = rs.length) : ∀ i, i ≤ rs.length → hseq rs ps i = gF [] (rs.take i) ((ps.map some).take i)
  | 0, _ => rfl
  | i + 1, h => by
    have ho : (ps.map some)[i]? = some (some (ps.getD i 0)) := by
      rw [List.getElem?_map, List.getD_eq_getElem?_getD, List.getElem?_eq_getElem (by omega)]
      rfl
    rw [gF_next hR (by rw [List.length_map, hl]) (by omega) ho, ← hseq_gF hR hl i (by omega)]
    rfl
theorem hseq_all {H : Hp} {most : Int} {xs : List V} {rs : List (Int × Int)} {ps : List Int} (hR : RingsAt H most xs rs) (hl : ps.length = rs.length) : hseq rs ps xs.length = gF [] rs (ps.map some) := by
  have e : xs.length = rs.length := paired_len hR
  rw [e, hseq_gF hR hl rs.length (Nat.le_refl _), List.take_length, ← hl, ← List.length_map (f := some) (as := ps), List.take_length]
theorem hAt_snoc_lt {h : List Nat} {x c : Nat} (hc : c < h.length) : hAt (h ++ [x]) c = hAt h c := by
  unfold hAt
  rw [List.getD_eq_getElem?_getD, List.getD_eq_getElem?_getD, List.getElem?_append_left hc]
theorem hAt_snoc_eq {h : List Nat} {x : Nat} : hAt (h ++ [x]) h.length = x := by
  unfold hAt
  rw [List.getD_eq_getElem?_getD, List.getElem?_append_right (Nat.le_refl _), Nat.sub_self]
  rfl
theorem heap_snoc {h : List Nat} (A : IsHeap h) {x : Nat} (h0 : 0 < x) (h1 : h = [] ∨ x ≤ hAt h (h.length - 1)) : IsHeap (h ++ [x]) := by
  refine ⟨fun c hc => ?_, fun c => ?_⟩
  · rw [List.length_append] at hc
    have hc : c < h.length + 1 := hc
    by_cases z : c < h.length
    · rw [hAt_snoc_lt z]
      exact A.pos c z
    · rw [show c = h.length by omega, hAt_snoc_eq]
      exact h0
  · by_cases z : c + 1 < h.length
    · rw [hAt_snoc_lt z, hAt_snoc_lt (by omega)]
      exact A.fall c
    · by_cases z2 : c + 1 = h.length
      · rw [z2, hAt_snoc_eq, hAt_snoc_lt (by omega)]
        rcases h1 with h1 | h1
        · rw [h1] at z2
          cases z2
        · rw [← z2] at h1
          exact h1
      · rw [hAt_ge (show (h ++ [x]).length ≤ c + 1 by rw [List.length_append]; show h.length + 1 ≤ _; omega)]
        exact Nat.zero_le _
theorem heap_filter : ∀ (h : List Nat), h.Pairwise (fun a b => b ≤ a) → IsHeap (h.filter fun x => decide (0 < x)) := by
  intro h p
  have p2 := p.filter (fun x => decide (0 < x))
  have pos : ∀ x ∈ h.filter (fun x => decide (0 < x)), 0 < x := fun x hx => of_decide_eq_true (List.mem_filter.mp hx).2
  generalize h.filter (fun x => decide (0 < x)) = k at p2 pos
  have get : ∀ c, c < k.length → hAt k c ∈ k := fun c hc => by
    have e := hAt_lt hc
    exact List.mem_of_getElem? e
  refine ⟨fun c hc => pos _ (get c hc), fun c => ?_⟩
  by_cases z : c + 1 < k.length
  · rw [List.pairwise_iff_getElem] at p2
    have := p2 c (c + 1) (by omega) z (by omega)
    have e1 := hAt_lt (h := k) (c := c) (by omega)
    have e2 := hAt_lt z
    rw [List.getElem?_eq_getElem (by omega)] at e1
    rw [List.getElem?_eq_getElem z] at e2
    rw [← Option.some.inj e1, ← Option.some.inj e2]
    exact this
  · rw [hAt_ge (by omega)]
    exact Nat.zero_le _
theorem cut_last {xs : List V} : cutV xs (some (-1)) none = xs.drop (xs.length - 1) := by
  have e := HT.clip_eq (-1) xs.length 0
  unfold cutV
  rw [HT.sIx_none]
  rw [if_pos (by decide)] at e
  have : HT.sIx xs.length 0 (some (-1)) = xs.length - 1 := by omega
  rw [this]
  exact List.take_of_length_le (by rw [List.length_drop]; exact Nat.le_refl _)
section
variable {P : Program} {w : World} {K : PySem.W.Frag} {mg : Str → Option Value} {base : Heap}
def spLHolds : Sp := fun vs H Q _ => ∃ p q h f, vs = [.ref p, .ref q] ∧ HeapAt H p h ∧ HeapAt H q f ∧ h.length ≤ 100 ∧ f.length ≤ 100 ∧ IsHeap f ∧ ∀ H', Ex H H' → Q (.bl (sbB f h)) H'
theorem ok_lholds (T : Txt K mg) {f : Addr} {fd : FuncData} (D : DefAt K mg "_law_holds" sLHolds ["_law_heap_here", "_law_other"] f fd) : FnOk P w K mg base CX0 1 f fd ["_law_heap_here", "_law_other"] spLHolds := by
  refine D.F.ok scLHolds (fun vs H Q E h => ?_) (fun cdv A outer s₀ H vs Q E hr h => ?_)
  · obtain ⟨p, q, h, f', rfl, _⟩ := h
    rfl
  · obtain ⟨p, q, h, f', rfl, hp, hq, hl, fl, F, k⟩ := h
    refine ⟨_, pss_one (ps_ret (pe_and (pe_cmpR op_ge (pe_callB call_len_seq (by rfl) T.z_len PySem.boot_len (pa_cons (pv 0) pa_nil)) (pe_callB call_len_seq (by rfl) T.z_len PySem.boot_len (pa_cons (pv 1) pa_nil)) (nomark _)) (pe_one (pe_cmpR (op_eqD hr.units) (pe_lc (own := [("_law_left", 2), ("_law_right", 3)]) (g := gTup K 2 (gCons (gName 2) (gCons (gName 3) gNil))) rfl scLHolds.nd (RZ.pi_zipA (by rfl) T.z_zip (pa_cons (pv 0) (pa_cons (pv 1) pa_nil)))
        (blkOk_by (N := nLHolds) (sc := defScope sLHolds) (by decide +kernel)) (fun _ _ _ _ _ => (pg_tup (by rfl) (pgs_cons (pg_name (i := 2) scLHolds.nd rfl (.inl rfl)) (pgs_cons (pg_name (i := 3) scLHolds.nd rfl (.inl rfl)) pgs_nil)))) (fun _ _ _ _ _ => pts_one (pt_cmpR op_lt (pv 2) (pv 3) (nomark _)))
        (fun _ _ _ _ _ => pe_int)) (pe_lst pa_nil) (nomark _))))), ?_⟩
    refine ⟨_, rfl, p, _, rfl, .inr (SqT.of hp), _, rfl, q, _, rfl, .inr (SqT.of hq), _, _, rfl, rfl, ?_⟩
    rw [hv_len, hv_len]
    by_cases c : f'.length ≤ h.length
    · refine ⟨true, congrArg V.bl (decide_eq_true (show (f'.length : Int) ≤ (h.length : Int) by omega)), iteT ?_⟩
      refine ⟨_, rfl, _, rfl, p, q, _, _, rfl, .inr ⟨SqT.of hp, SqT.of hq, fun Dl hD => ?_⟩⟩
      refine lc_zipT (K := K) (a := p) (b := q) (xs := hv h) (ys := hv f') (n := f'.length) (by rw [hv_len]; exact c) (by rw [hv_len]; exact Nat.le_refl _) (.inr (by rw [hv_len]; exact Nat.le_refl _)) (fun i H' => H' Dl = some (.lst (((List.range i).filter fun c => decide (hAt h c < hAt f' c)).map (fun _ => V.int 1))) ∧ Ex H H') ⟨upd_same, Ex.new hD⟩ (fun i H' hp2 => ⟨SqT.of (hp2.2 _ _ hp), SqT.of (hp2.2 _ _ hq)⟩) (fun i x y Tp H' hi hx hy hp2 nT => ?_) (fun H' hp2 => ?_)
      · rw [hv_get (by omega)] at hx
        rw [hv_get hi] at hy
        obtain rfl := Option.some.inj hx
        obtain rfl := Option.some.inj hy
        have eT := Ex.new (o := .tup [.int (hAt h i : Int), .int (hAt f' i : Int)]) nT
        have w1 := eT _ _ hp2.1
        have w2 := hp2.2.trans eT
        refine ⟨Tp, _, rfl, SqT.of upd_same, rfl, _, [_], rfl, _, [], rfl, rfl, rfl, ?_⟩
        generalize upd H' Tp (.tup [.int (hAt h i : Int), .int (hAt f' i : Int)]) = H2 at w1 w2 ⊢
        refine ⟨_, rfl, _, rfl, _, _, rfl, rfl, _, rfl, ite2 (fun cc => ?_) (fun cc => ?_)⟩
        · have cc : (hAt h i : Int) < (hAt f' i : Int) := of_decide_eq_true cc
          refine ⟨_, w1, ?_, ?_, Ex.mut w2 hD⟩
          · rw [List.length_map]
            refine small1000 (Nat.le_trans (List.length_filter_le _ _) ?_)
            rw [List.length_range]
            omega
          · rw [upd_same, List.range_succ, List.filter_append, List.map_append]
            have : [i].filter (fun c => decide (hAt h c < hAt f' c)) = [i] := by
              rw [List.filter_cons_of_pos (by simpa using (show hAt h i < hAt f' i by omega)), List.filter_nil]
            rw [this]
            rfl
        · have cc : ¬ (hAt h i : Int) < (hAt f' i : Int) := fun z => cc (decide_eq_true z)
          refine ⟨?_, w2⟩
          rw [List.range_succ, List.filter_append]
          have : [i].filter (fun c => decide (hAt h c < hAt f' c)) = [] := by
            rw [List.filter_cons_of_neg (by simpa using (show hAt f' i ≤ hAt h i by omega)), List.filter_nil]
          rw [this, List.append_nil]
          exact w1
      · obtain ⟨w1, w2⟩ := hp2
        refine ⟨by show 0 ≤ sizeLine; decide, fun t9 ht9 => ?_⟩
        have x9 := Ex.new (o := .lst []) ht9
        have w3 : (upd H' t9 (.lst [])) Dl = some (.lst ((((List.range f'.length).filter fun c => decide (hAt h c < hAt f' c)).map (fun _ => (1 : Int))).map V.int)) := by
          rw [x9 _ _ w1, List.map_map]
          rfl
        refine ⟨.list _, .list [], .lst (SqL.of w3) (dp_ints _), .lst (SqL.of upd_same) .nil, shaped_intsL _, rfl, ?_⟩
        have e2 : PyData.eqv (.list ((((List.range f'.length).filter fun c => decide (hAt h c < hAt f' c)).map (fun _ => (1 : Int))).map PyData.int)) (.list []) = sbB f' h := by
          have e1 := eqvAll_ints (((List.range f'.length).filter fun c => decide (hAt h c < hAt f' c)).map (fun _ => (1 : Int))) []
          have e3 : PyData.eqv (.list ((((List.range f'.length).filter fun c => decide (hAt h c < hAt f' c)).map (fun _ => (1 : Int))).map PyData.int)) (.list []) = PyData.eqvAll ((((List.range f'.length).filter fun c => decide (hAt h c < hAt f' c)).map (fun _ => (1 : Int))).map PyData.int) [] := by
            simp only [PyData.eqv]
          rw [e3]
          refine e1.trans ?_
          cases q : sbB f' h with
          | true =>
            have s := sbB_iff.mp q
            rw [show (List.range f'.length).filter (fun c => decide (hAt h c < hAt f' c)) = [] from List.filter_eq_nil_iff.mpr fun c _ => by
              have := s c
              simp
              exact this]
            rfl
          | false =>
            refine decide_eq_false fun z => ?_
            have z := List.map_eq_nil_iff.mp z
            have : sbB f' h = true := sbB_iff.mpr fun c => by
              by_cases hc : c < f'.length
              · have := List.filter_eq_nil_iff.mp z c (List.mem_range.mpr hc)
                simp at this
                exact this
              · rw [hAt_ge (by omega)]
                exact Nat.zero_le _
            rw [this] at q
            cases q
        rw [e2]
        exact k _ (w2.trans x9)
    · have : sbB f' h = false := by
        refine Bool.eq_false_iff.mpr fun z => ?_
        have := sbB_iff.mp z h.length
        rw [hAt_ge (Nat.le_refl _)] at this
        have := F.pos h.length (by omega)
        omega
      rw [this] at k
      exact ⟨false, congrArg V.bl (decide_eq_false (show ¬ (f'.length : Int) ≤ (h.length : Int) by omega)), iteF (k _ (Ex.refl _))⟩
def spSmallHeap : Sp := fun vs H Q _ => ∃ d, vs = [.ref d, .int 4] ∧ Dice H d ∧ ∀ p h H', HeapAt H' p h → Few h → Dice H' d → Keep d H H' → Q (.ref p) H'
theorem ok_small_heap (T : Txt K mg) {f : Addr} {fd : FuncData} (D : DefAt K mg "_law_small_heap" sLSmallHeap ["_law_dice_here", "_law_squares_most"] f fd) : FnOk P w K mg base CX0 2 f fd ["_law_dice_here", "_law_squares_most"] spSmallHeap := by
  refine D.F.ok scLSmallHeap (fun vs H Q E h => ?_) (fun cdv A outer s₀ H vs Q E hr h => ?_)
  · obtain ⟨d, rfl, _⟩ := h
    rfl
  · obtain ⟨d, rfl, hd, q⟩ := h
    obtain ⟨f1, fd1, D1⟩ := T.d_l_roll
    have hr1 : Room 1 _ := hr.mono (by decide)
    refine ⟨_, pss_cons (ps_par (i := 2) (j := 3) (by rfl) scLSmallHeap.nd rfl rfl (by decide) rfl rfl (pa_cons (pe_lst pa_nil) (pa_cons (pe_op op_add pe_int (pe_call (ok_roll T D1) hr1 (by rfl) D1.g D1.F.kp D1.b .nil pass0 (pa_cons (pv 0) (pa_cons (pv 1) pa_nil)))) pa_nil)) (by rfl))
      (pss_cons (ps_while PassesOwn.never (pt_cmpR op_gt (pv 3) pe_int (nomark _)) (pss_cons (ps_set (i := 4) scLSmallHeap.nd rfl (.inl rfl) (pe_op op_add pe_int (pe_call (ok_roll T D1) hr1 (by rfl) D1.g D1.F.kp D1.b .nil pass0 (pa_cons (pv 0) (pa_cons (pe_callB (cr_min rfl) (by rfl) T.z_min (by decide +kernel) (pa_cons (pe_op op_cat (pe_lst (pa_cons (pv 3) pa_nil)) (pe_slice sl_list (pv 2) (po_some (pe_un un_neg pe_int)) po_none)) pa_nil)) pa_nil)))))
      (pss_cons (ps_expr (pe_bm PySem.F.plainAttrs_list PySem.F.slot_list_append PySem.F.type_list_append mt_append (pv 2) (pa_cons (pv 4) pa_nil)))
      (pss_one (ps_set (i := 3) scLSmallHeap.nd rfl (.inl rfl) (pe_op op_sub (pv 3) (pv 4)))))))
      (pss_one (ps_ret (pe_callTy call_tuple_of (by rfl) T.z_tuple (by decide +kernel) (pa_cons (pv 2) pa_nil))))), ?_⟩
    refine ⟨by show 0 ≤ sizeLine; decide, fun l hl0 => ?_⟩
    have ndl : d ≠ l := hd.ne_new hl0
    have hd0 : Dice (upd H l (.lst [])) d := hd.upd ndl
    refine ⟨_, rfl, _, rfl, d, 4, rfl, hd0, by decide, by decide, fun r H1 r0 r1 hd1 k1 => ⟨1, r, rfl, rfl, _, _, rfl, ?_⟩⟩
    have k01 : Keep d H H1 := (Keep.new hl0).trans k1
    have l1 : H1 l = some (.lst []) := k1 _ _ ndl.symm upd_same
    refine ⟨fun m σ' H' => ∃ (h : List Nat) (y4 : Option V), σ' = [some (.ref d), some (.int 4), some (.ref l), some (.int (m : Int)), y4] ∧ H' l = some (.lst (hv h)) ∧ IsHeap h ∧ h.length + m ≤ 4 ∧ (hAt h 0 ≤ 4) ∧ Dice H' d ∧ Keep d H H', ⟨(1 + r).toNat, [], none, ?_, l1, IsHeap.nil, by show 0 + _ ≤ 4; omega, by show 0 ≤ 4; decide, hd1, k01⟩, fun m σ' H' hW => ?_⟩
    · show [some (V.ref d), some (V.int 4), some (V.ref l), some (V.int (1 + r)), none] = _
      rw [show (((1 + r).toNat : Nat) : Int) = 1 + r by omega]
    · obtain ⟨h, y4, rfl, w1, w2, w3, w4, w5, w6⟩ := hW
      refine ⟨_, rfl, _, _, rfl, rfl, _, rfl, ite2 (fun cc => ?_) (fun cc => ?_)⟩
      · have cc : (m : Int) > 0 := of_decide_eq_true cc
        refine ⟨fun σ2 H3 => ∃ (h : List Nat) (y4 : Option V) (m' : Nat), m' < m ∧ σ2 = [some (.ref d), some (.int 4), some (.ref l), some (.int (m' : Int)), y4] ∧ H3 l = some (.lst (hv h)) ∧ IsHeap h ∧ h.length + m' ≤ 4 ∧ (hAt h 0 ≤ 4) ∧ Dice H3 d ∧ Keep d H H3, fun σ2 H3 hN => ?_, ?_⟩
        · obtain ⟨h', y', m', h1, h2⟩ := hN
          exact ⟨m', h1, h', y', h2⟩
        · refine ⟨_, rfl, _, rfl, by show 1 ≤ sizeLine; decide, fun a1 ha1 => ?_⟩
          have x1 := Ex.new (o := .lst [.int (m : Int)]) ha1
          refine ⟨_, rfl, _, rfl, _, rfl, l, _, rfl, SqL.of (x1 _ _ w1), fun a2 ha2 => ?_⟩
          have x2 := Ex.new (o := .lst (cutV (hv h) (some (-1)) none)) ha2
          have hcut : cutV (hv h) (some (-1)) none = ((h.drop (h.length - 1)).map fun (n : Nat) => (n : Int)).map V.int := by
            rw [cut_last, hv_len, hv_map, ← List.map_drop, ← List.map_drop]
          refine ⟨a1, a2, _, _, rfl, rfl, x2 _ _ upd_same, upd_same, ?_, fun a3 ha3 => ?_⟩
          · rw [hcut]
            simp only [List.length_map, List.length_drop, List.length_cons, List.length_nil]
            exact sz_of (by omega)
          have e3 := (x1.trans x2).trans (Ex.new (o := .lst ([.int (m : Int)] ++ cutV (hv h) (some (-1)) none)) ha3)
          refine ⟨a3, (m : Int) :: (h.drop (h.length - 1)).map fun (n : Nat) => (n : Int), rfl, ?_, by simp, fun mn hm1 hm2 => ?_⟩
          · refine SqL.of ?_
            rw [upd_same]
            show some (HO.lst ([V.int (m : Int)] ++ cutV (hv h) (some (-1)) none)) = _
            rw [hcut]
            rfl
          have mpos : 1 ≤ mn ∧ mn ≤ (m : Int) ∧ (h = [] ∨ mn ≤ (hAt h (h.length - 1) : Int)) := by
            refine ⟨?_, hm2 _ (List.mem_cons_self ..), ?_⟩
            · rcases List.mem_cons.mp hm1 with rfl | hm1
              · omega
              · obtain ⟨x, hx, rfl⟩ := List.mem_map.mp hm1
                have hx := List.mem_of_mem_drop hx
                obtain ⟨i, hi, rfl⟩ := List.getElem_of_mem hx
                have := w2.pos i hi
                unfold hAt at this
                rw [List.getD_eq_getElem?_getD, List.getElem?_eq_getElem hi] at this
                have : 0 < h[i] := this
                omega
            · by_cases z : h = []
              · exact .inl z
              · right
                have hpos : 0 < h.length := List.length_pos_iff.mpr z
                refine hm2 _ (List.mem_cons_of_mem _ (List.mem_map.mpr ⟨hAt h (h.length - 1), ?_, rfl⟩))
                have e := hAt_lt (h := h) (c := h.length - 1) (by omega)
                refine List.mem_of_getElem? (i := 0) ?_
                rw [List.getElem?_drop]
                exact e
          obtain ⟨m1, m2, m3⟩ := mpos
          have w1' := e3 _ _ w1
          have w5' := w5.ex e3
          have w6' := w6.trans (Keep.ex e3)
          refine ⟨d, mn, rfl, w5', m1, by omega, fun r' H5 r0' r1' hd5 k5 => ⟨1, r', rfl, rfl, ?_⟩⟩
          have l5 := k5 _ _ ndl.symm w1'
          have k6 := w6'.trans k5
          refine ⟨_, rfl, .inl ⟨rfl, _, SqL.of l5⟩, _, rfl, l, _, _, rfl, rfl, l5, by rw [hv_len]; exact small1000 (by omega), ?_⟩
          refine ⟨_, rfl, _, rfl, _, _, rfl, rfl, ?_⟩
          obtain ⟨x, hx⟩ : ∃ x : Nat, 1 + r' = (x : Int) := ⟨(1 + r').toNat, by omega⟩
          rw [hx]
          have mx : x ≤ m := by omega
          refine ⟨h ++ [x], some (.int (1 + r')), m - x, by omega, ?_, ?_, heap_snoc w2 (by omega) (m3.imp id fun z => by omega), ?_, ?_, hd5.upd ndl, k6.mut hl0⟩
          · show [some (V.ref d), some (V.int 4), some (V.ref l), some (V.int ((m : Int) - (x : Int))), some (V.int (1 + r'))] = _
            rw [show (((m - x : Nat)) : Int) = (m : Int) - (x : Int) by omega]
          · rw [upd_same]
            show some (HO.lst (hv h ++ [V.int (1 + r')])) = _
            rw [hx]
            unfold hv
            rw [List.map_append]
            rfl
          · rw [List.length_append]
            show h.length + 1 + (m - x) ≤ 4
            omega
          · by_cases z : h.length = 0
            · have : h = [] := List.eq_nil_of_length_eq_zero z
              subst this
              show x ≤ 4
              omega
            · rw [hAt_snoc_lt (by omega)]
              exact w4
      · refine ⟨_, rfl, l, _, rfl, .inl ⟨SqL.of w1, fun p hp => q p h _ upd_same ⟨w2, by omega, w4⟩ (w5.upd (w5.ne_new hp)) (w6.trans (Keep.new hp))⟩⟩
def spCutHeap : Sp := fun vs H Q _ => ∃ d p h, vs = [.ref d, .ref p] ∧ Dice H d ∧ HeapAt H p h ∧ Few h ∧ ∀ r h' H', HeapAt H' r h' → Few h' → Dice H' d → Keep d H H' → Q (.ref r) H'
theorem ok_cut_heap (T : Txt K mg) {f : Addr} {fd : FuncData} (D : DefAt K mg "_law_cut_heap" sLCutHeap ["_law_dice_here", "_law_heap_here"] f fd) : FnOk P w K mg base CX0 2 f fd ["_law_dice_here", "_law_heap_here"] spCutHeap := by
  refine D.F.ok scLCutHeap (fun vs H Q E h => ?_) (fun cdv A outer s₀ H vs Q E hr h => ?_)
  · obtain ⟨d, p, h, rfl, _⟩ := h
    rfl
  · obtain ⟨d, p, h, rfl, hd, hp, F, q⟩ := h
    obtain ⟨f1, fd1, D1⟩ := T.d_l_roll
    have hr1 : Room 1 _ := hr.mono (by decide)
    refine ⟨_, pss_cons (ps_par (i := 2) (j := 3) (by rfl) scLCutHeap.nd rfl rfl (by decide) rfl rfl (pa_cons (pe_lst pa_nil) (pa_cons pe_int pa_nil)) (by rfl))
      (pss_cons (ps_for PassesOwn.never rfl (pi_tup (pv 1)) (pg_name (i := 4) scLCutHeap.nd rfl (.inl rfl))
        (pss_cons (ps_set (i := 3) scLCutHeap.nd rfl (.inl rfl) (pe_callB (call_min2 rfl) (by rfl) T.z_min (by decide +kernel) (pa_cons (pv 3) (pa_cons (pe_ifExp (pt_cmpR op_eq (pe_call (ok_roll T D1) hr1 (by rfl) D1.g D1.F.kp D1.b .nil pass0 (pa_cons (pv 0) (pa_cons pe_int pa_nil))) pe_int (nomark _)) (pe_call (ok_roll T D1) hr1 (by rfl) D1.g D1.F.kp D1.b .nil pass0 (pa_cons (pv 0) (pa_cons (pe_op op_add (pv 4) pe_int) pa_nil))) (pv 4)) pa_nil))))
      (pss_one (ps_expr (pe_bm PySem.F.plainAttrs_list PySem.F.slot_list_append PySem.F.type_list_append mt_append (pv 2) (pa_cons (pv 3) pa_nil))))))
      (pss_one (ps_ret (pe_callTy call_tuple_of (by rfl) T.z_tuple (by decide +kernel) (pa_cons (pe_lc (own := [("_law_height", 4)]) (g := gName 4) rfl scLCutHeap.nd (pi_list (pv 2))
        (blkOk_by (N := nLCutHeap) (sc := defScope sLCutHeap) (by decide +kernel)) (fun _ _ _ _ _ => (pg_name (i := 4) scLCutHeap.nd rfl (.inl rfl))) (fun _ _ _ _ _ => pts_one (pt_cmpR op_gt (pv 4) pe_int (nomark _)))
        (fun _ _ _ _ _ => (pv 4))) pa_nil))))), ?_⟩
    refine ⟨by show 0 ≤ sizeLine; decide, fun l hl0 => ⟨_, _, rfl, ?_⟩⟩
    have ndl : d ≠ l := hd.ne_new hl0
    have npd := hd.ne_tup hp
    have fl := F.len
    have x0 := Ex.new (o := .lst []) hl0
    refine ⟨_, rfl, p, rfl, ⟨_, SqT.of (x0 _ _ hp)⟩, for_tup (K := K) (a := p) (xs := hv h) (fun i σ' H' => ∃ (ns : List Nat) (t : Nat) (y4 : Option V), σ' = [some (.ref d), some (.ref p), some (.ref l), some (.int (t : Int)), y4] ∧ H' l = some (.lst (hv ns)) ∧ ns.length = i ∧ ns.Pairwise (fun a b => b ≤ a) ∧ (∀ x ∈ ns, t ≤ x ∧ x ≤ 4) ∧ Dice H' d ∧ Keep d H H')
      ⟨[], 99, none, rfl, upd_same, rfl, .nil, fun x hx => absurd hx (by simp), hd.upd ndl, Keep.new hl0⟩ (fun i σ' H' _ hq => ?_) (fun i x σ' H' hx hq => ?_) (fun σ' H' hq => ?_)⟩
    · obtain ⟨_, _, _, _, _, _, _, _, _, kk⟩ := hq
      exact SqT.of (kk _ _ npd hp)
    · obtain ⟨ns, t, y4, rfl, w1, w2, w3, w4, w5, w6⟩ := hq
      have hi : i < h.length := by
        have := (List.getElem?_eq_some_iff.mp hx).1
        rw [hv_len] at this
        exact this
      rw [hv_get hi] at hx
      obtain rfl := Option.some.inj hx
      have h4 : hAt h i ≤ 4 := Nat.le_trans (F.heap.le (Nat.zero_le i)) F.top
      have fin : ∀ (v : Int) (G : Hp), 0 ≤ v → v ≤ (hAt h i : Int) → Dice G d → Keep d H' G → ∃ (ns' : List Nat) (t' : Nat) (y4 : Option V), [some (V.ref d), some (.ref p), some (.ref l), some (.int (if v < (t : Int) then v else t)), some (.int (hAt h i : Int))] = [some (.ref d), some (.ref p), some (.ref l), some (.int (t' : Int)), y4] ∧ (upd G l (.lst (hv ns ++ [.int (if v < (t : Int) then v else t)]))) l = some (.lst (hv ns')) ∧ ns'.length = i + 1 ∧ ns'.Pairwise (fun a b => b ≤ a) ∧ (∀ x ∈ ns', t' ≤ x ∧ x ≤ 4) ∧ Dice (upd G l (.lst (hv ns ++ [.int (if v < (t : Int) then v else t)]))) d ∧ Keep d H (upd G l (.lst (hv ns ++ [.int (if v < (t : Int) then v else t)]))) := fun v G v0 v1 dG kG => by
        obtain ⟨z, hz⟩ : ∃ z : Nat, (if v < (t : Int) then v else (t : Int)) = (z : Int) := ⟨(if v < (t : Int) then v else (t : Int)).toNat, by split <;> omega⟩
        have z1 : z ≤ t := by split at hz <;> omega
        have z2 : z ≤ 4 := by split at hz <;> omega
        rw [hz]
        refine ⟨ns ++ [z], z, _, rfl, ?_, by rw [List.length_append, w2]; rfl, ?_, ?_, dG.upd ndl, (w6.trans kG).mut hl0⟩
        · rw [upd_same]
          unfold hv
          rw [List.map_append]
          rfl
        · rw [List.pairwise_append]
          refine ⟨w3, List.pairwise_singleton _ _, fun a ha b hb => ?_⟩
          rw [List.mem_singleton.mp hb]
          have := (w4 a ha).1
          omega
        · intro x hx
          rcases List.mem_append.mp hx with hx | hx
          · have := w4 x hx
            omega
          · rw [List.mem_singleton.mp hx]
            omega
      have szl : (hv ns).length < sizeLine := by
        rw [hv_len]
        exact small1000 (by omega)
      refine ⟨_, rfl, _, rfl, d, 3, rfl, w5, by decide, by decide, fun r1 H2 r10 r11 hd2 k2 => ⟨rfl, _, rfl, ite2 (fun cc => ?_) (fun cc => ?_)⟩⟩
      · refine ⟨_, rfl, _, rfl, _, _, rfl, rfl, d, _, rfl, hd2, by omega, by omega, fun r2 H3 r20 r21 hd3 k3 => ?_⟩
        have k23 := k2.trans k3
        have l3 := k23 _ _ ndl.symm w1
        refine ⟨_, _, rfl, ?_⟩
        refine ⟨_, rfl, .inl ⟨rfl, _, SqL.of l3⟩, _, rfl, l, _, _, rfl, rfl, l3, szl, ?_⟩
        exact fin r2 H3 r20 (by omega) hd3 k23
      · refine ⟨_, rfl, _, _, rfl, ?_⟩
        have l2 := k2 _ _ ndl.symm w1
        refine ⟨_, rfl, .inl ⟨rfl, _, SqL.of l2⟩, _, rfl, l, _, _, rfl, rfl, l2, szl, ?_⟩
        exact fin _ H2 (by omega) (Int.le_refl _) hd2 k2
    · obtain ⟨ns, t, y4, rfl, w1, w2, w3, w4, w5, w6⟩ := hq
      rw [hv_len] at w2
      refine ⟨_, rfl, l, rfl, ⟨_, SqL.of w1⟩, fun Dl hD => ?_⟩
      have ndd : d ≠ Dl := w5.ne_new hD
      have nlD : l ≠ Dl := fun z => by rw [z, hD] at w1; cases w1
      refine lc_list (K := K) (a := l) (xs := hv ns) (fun i H2 => H2 Dl = some (.lst (hv ((ns.take i).filter fun x => decide (0 < x)))) ∧ Ex H' H2) ⟨upd_same, Ex.new hD⟩ (fun i H2 _ hp2 => SqL.of (hp2.2 _ _ w1)) (fun i x H2 hx hp2 => ?_) (fun H2 hp2 => ?_)
      · have hi : i < ns.length := by
          have := (List.getElem?_eq_some_iff.mp hx).1
          rw [hv_len] at this
          exact this
        rw [hv_get hi] at hx
        obtain rfl := Option.some.inj hx
        have ht := hAt_lt hi
        refine ⟨rfl, _, rfl, _, _, rfl, rfl, _, rfl, ite2 (fun cc => ?_) (fun cc => ?_)⟩
        · have cc : (hAt ns i : Int) > 0 := of_decide_eq_true cc
          refine ⟨_, rfl, _, hp2.1, ?_, ?_, Ex.mut hp2.2 hD⟩
          · rw [hv_len]
            refine small1000 (Nat.le_trans (List.length_filter_le _ _) ?_)
            rw [List.length_take]
            omega
          · rw [upd_same, take_snoc ht, List.filter_append, List.filter_cons_of_pos (by simpa using (show 0 < hAt ns i by omega)), List.filter_nil]
            unfold hv
            rw [List.map_append]
            rfl
        · have cc : ¬ (hAt ns i : Int) > 0 := fun z => cc (decide_eq_true z)
          refine ⟨?_, hp2.2⟩
          rw [take_snoc ht, List.filter_append, List.filter_cons_of_neg (by simpa using (show hAt ns i = 0 by omega)), List.filter_nil, List.append_nil]
          exact hp2.1
      · have hD2 := hp2.1
        rw [hv_len, List.take_length] at hD2
        have hh := heap_filter ns w3
        have e2 := hp2.2
        have hlen : (ns.filter fun x => decide (0 < x)).length ≤ 4 := by
          have := List.length_filter_le (fun x => decide (0 < x)) ns
          omega
        have htop : hAt (ns.filter fun x => decide (0 < x)) 0 ≤ 4 := by
          cases e : ns.filter fun x => decide (0 < x) with
          | nil => exact Nat.zero_le _
          | cons a r =>
            have : a ∈ ns.filter fun x => decide (0 < x) := by rw [e]; exact List.mem_cons_self ..
            exact (w4 a (List.mem_filter.mp this).1).2
        refine ⟨Dl, _, rfl, .inl ⟨SqL.of hD2, fun r hr0 => q r _ _ upd_same ⟨hh, hlen, htop⟩ ((w5.ex e2).upd ((w5.ex e2).ne_new hr0)) ((w6.trans (Keep.ex e2)).trans (Keep.new hr0))⟩⟩
def spSomeHeap : Sp := fun vs H Q _ => ∃ d c L xs rs ys pss, vs = [.ref d, .ref c, .ref L] ∧ Dice H d ∧ H c = some (.tup xs) ∧ RingsAt H 60 xs rs ∧ xs.length ≤ 4 ∧ H L = some (.lst ys) ∧ L ≠ d ∧ Rows H ys pss ∧ 1 ≤ ys.length ∧ ys.length ≤ 1000 ∧ (∀ ps ∈ pss, InT rs ps) ∧
  ∀ r h' H', HeapAt H' r h' → Few h' → Dice H' d → Keep d H H' → Q (.ref r) H'
theorem ok_some_heap (T : Txt K mg) {f : Addr} {fd : FuncData} (D : DefAt K mg "_law_some_heap" sLSomeHeap ["_law_dice_here", "_law_chain_here", "_law_rows"] f fd) : FnOk P w K mg base CX0 3 f fd ["_law_dice_here", "_law_chain_here", "_law_rows"] spSomeHeap := by
  refine D.F.ok scLSomeHeap (fun vs H Q E h => ?_) (fun cdv A outer s₀ H vs Q E hr h => ?_)
  · obtain ⟨d, c, L, xs, rs, ys, pss, rfl, _⟩ := h
    rfl
  · obtain ⟨d, c, L, xs, rs, ys, pss, rfl, hd, hc, hR, hl, hL, nL, hrow, y1, y2, hin, q⟩ := h
    obtain ⟨f1, fd1, D1⟩ := T.d_l_cut_heap
    obtain ⟨f2, fd2, D2⟩ := T.d_l_heap
    obtain ⟨f3, fd3, D3⟩ := T.d_l_one_of
    obtain ⟨f4, fd4, D4⟩ := T.d_l_small_heap
    obtain ⟨f5, fd5, D5⟩ := T.d_l_roll
    have hr1 : Room 1 _ := hr.mono (by decide)
    have hr2 : Room 2 _ := hr.mono (by decide)
    refine ⟨_, pss_cons (ps_set (i := 3) scLSomeHeap.nd rfl (.inl rfl) (pe_call (ok_roll T D5) hr1 (by rfl) D5.g D5.F.kp D5.b .nil pass0 (pa_cons (pv 0) (pa_cons pe_int pa_nil))))
      (pss_cons (ps_if (pt_cmpR op_eq (pv 3) pe_int (nomark _)) (pss_one (ps_ret (pe_call (ok_small_heap T D4) hr2 (by rfl) D4.g D4.F.kp D4.b .nil pass0 (pa_cons (pv 0) (pa_cons pe_int pa_nil))))) pss_nil)
      (pss_cons (ps_set (i := 4) scLSomeHeap.nd rfl (.inl rfl) (pe_call (ok_lheap T D2) hr2 (by rfl) D2.g D2.F.kp D2.b .nil pass0 (pa_cons (pv 1) (pa_cons (pe_call (ok_one_of T D3) hr2 (by rfl) D3.g D3.F.kp D3.b .nil pass0 (pa_cons (pv 0) (pa_cons (pv 2) pa_nil))) pa_nil))))
      (pss_one (ps_ret (pe_ifExp (pt_cmpR op_eq (pv 3) pe_int (nomark _)) (pv 4) (pe_call (ok_cut_heap T D1) hr2 (by rfl) D1.g D1.F.kp D1.b .nil pass0 (pa_cons (pv 0) (pa_cons (pv 4) pa_nil)))))))), ?_⟩
    have hlen : xs.length = rs.length := paired_len hR
    refine ⟨_, rfl, d, _, rfl, hd, by decide, by decide, fun r H1 r0 r1 hd1 k1 => ?_⟩
    refine ⟨_, rfl, rfl, _, rfl, ite2 (fun cc => ?_) (fun cc => ?_)⟩
    · exact ⟨_, rfl, d, rfl, hd1, fun p h H2 hp F hd2 k2 => q p h H2 hp F hd2 (k1.trans k2)⟩
    · refine ⟨_, rfl, _, rfl, _, rfl, d, L, ys, rfl, hd1, k1 _ _ nL hL, nL, y1, y2, fun x H2 hx hd2 k2 => ?_⟩
      obtain ⟨i, hi, rfl⟩ := List.getElem_of_mem hx
      obtain ⟨a, ps, e, ha, hps⟩ := hrow.get (List.getElem?_eq_getElem hi)
      rw [e]
      have k12 := k1.trans k2
      have hc2 := k12.tup hd hc
      have hR2 := hR.keep k12 hd
      have ha2 : PlacesT H2 a ps := k12.tup hd ha
      have hT := hin ps (List.mem_of_getElem? hps)
      have pl := hT.length
      refine ⟨c, a, xs, rs, ps, rfl, hc2, hR2, by omega, ha2, by omega, fun b H3 e3 hb => ?_⟩
      have F : Few (hseq rs ps xs.length) := by
        obtain ⟨h1, h2, h3⟩ := hseq_ok rs ps xs.length
        exact ⟨h1, by omega, by omega⟩
      have hd3 := hd2.ex e3
      have k13 := k12.trans (Keep.ex e3)
      refine ⟨_, rfl, rfl, _, rfl, ite2 (fun c2 => ?_) (fun c2 => ?_)⟩
      · exact ⟨_, rfl, q b _ H3 hb F hd3 k13⟩
      · exact ⟨_, rfl, _, rfl, d, b, _, rfl, hd3, hb, F, fun r2 h' H4 hr4 F4 hd4 k4 => q r2 h' H4 hr4 F4 hd4 (k13.trans k4)⟩
end
end K1

namespace K1
open PySem PySem.Spec PyProof.Rows L2 Evl HM LX ZW ZM TE BX ST
theorem boxR_cut {rs : List (Int × Int)} {i : Nat} {bs acc : List (Option Int)} {o : Option Int} (hb : BoxR rs bs) (ho : bs[i]? = some o) (ha : BoxR (rs.take i) acc) : BoxR (rs.take (i + 1)) (acc ++ [o]) ∧ BoxR (rs.take (i + 1)) (acc ++ [none]) := by
  have hi : i < rs.length := by
    have := (List.getElem?_eq_some_iff.mp ho).1
    rw [hb.length] at this
    exact this
  rw [rs_snoc hi]
  refine ⟨?_, BoxR_snocN ha⟩
  rcases boxR_get hb ho with rfl | ⟨t, rfl, t0, t1⟩
  · exact BoxR_snocN ha
  · exact BoxR_snocT t0 t1 ha
theorem row_cut {rs : List (Int × Int)} {i : Nat} {ps : List Int} {acc : List (Option Int)} {t : Int} (hb : InT rs ps) (ho : ps[i]? = some t) (ha : BoxR (rs.take i) acc) : BoxR (rs.take (i + 1)) (acc ++ [some t]) ∧ BoxR (rs.take (i + 1)) (acc ++ [none]) := by
  have hi : i < rs.length := by
    have := (List.getElem?_eq_some_iff.mp ho).1
    rw [hb.length] at this
    exact this
  rw [rs_snoc hi]
  have := inT_get hb ho
  exact ⟨BoxR_snocT this.1 this.2 ha, BoxR_snocN ha⟩
theorem boxR_openK : ∀ rs : List (Int × Int), BoxR rs (List.replicate rs.length none)
  | [] => .nil
  | _ :: rs => .open (boxR_openK rs)
theorem liB_snoc {o u : Option Int} : ∀ {bs os : List (Option Int)}, bs.length = os.length → liB (bs ++ [o]) (os ++ [u]) = (liB bs os && li1 o u)
  | [], [], _ => by
    cases o with
    | none => rfl
    | some t =>
      show (decide (some t = u) && true) = _
      rw [Bool.and_true]
      rfl
  | some t :: bs, q :: os, h => by
    show (decide (some t = q) && liB (bs ++ [o]) (os ++ [u])) = ((decide (some t = q) && liB bs os) && _)
    rw [liB_snoc (by simpa using h), Bool.and_assoc]
  | none :: bs, q :: os, h => by
    show liB (bs ++ [o]) (os ++ [u]) = _
    rw [liB_snoc (by simpa using h)]
    rfl
  | [], _ :: _, h => by simp at h
  | _ :: _, [], h => by simp at h
section
variable {P : Program} {w : World} {K : PySem.W.Frag} {mg : Str → Option Value} {base : Heap}
theorem sql_keep {H H1 H2 : Hp} {p a : Addr} {xs : List V} (h0 : H p = none) (e : Ex H H1) (k : Keep p H1 H2) (h : SqL K H a xs) : SqL K H2 a xs := by
  rcases h with (h | ⟨o, h⟩) | h
  · exact .inl (.inl (k _ _ (ne_of_none h h0) (e _ _ h)))
  · exact .inl (.inr ⟨o, k _ _ (ne_of_none h h0) (e _ _ h)⟩)
  · exact .inr h
def spBoxRight : Sp := fun vs H Q _ => ∃ c p v L xs rs h os ys, vs = [.ref c, .ref p, .ref v, .ref L] ∧ H c = some (.tup xs) ∧ RingsAt H 60 xs rs ∧ (1 ≤ xs.length ∧ xs.length ≤ 4) ∧ HeapAt H p h ∧ Few h ∧ BoxAt H v os ∧ BoxR rs os ∧
  H L = some (.lst ys) ∧ Rows H ys (allT rs) ∧ (allT rs).length ≤ 256 ∧ ∀ H', Ex H H' → Q (.bl true) H'
theorem ok_box_right (T : Txt K mg) {f : Addr} {fd : FuncData} (D : DefAt K mg "_law_box_right" sLBoxRight ["_law_chain_here", "_law_heap_here", "_law_box_told", "_law_rows"] f fd) : FnOk P w K mg base CX0 9 f fd ["_law_chain_here", "_law_heap_here", "_law_box_told", "_law_rows"] spBoxRight := by
  refine D.F.ok scLBoxRight (fun vs H Q E h => ?_) (fun cdv A outer s₀ H vs Q E hr h => ?_)
  · obtain ⟨c, p, v, L, xs, rs, h, os, ys, rfl, _⟩ := h
    rfl
  · obtain ⟨c, p, v, L, xs, rs, h, os, ys, rfl, hc, hR, hl, hp, F, hv, ho, hL, hrow, hsz, k⟩ := h
    obtain ⟨f1, fd1, D1⟩ := T.d_left_out
    obtain ⟨f2, fd2, D2⟩ := T.d_does_fill
    obtain ⟨f3, fd3, D3⟩ := T.d_l_holds
    obtain ⟨f4, fd4, D4⟩ := T.d_l_heap
    obtain ⟨f5, fd5, D5⟩ := T.d_l_is_in
    have hr1 : Room 1 _ := hr.mono (by decide)
    have hr2 : Room 2 _ := hr.mono (by decide)
    have hr8 : Room 8 _ := hr.mono (by decide)
    refine ⟨_, pss_cons (ps_setLc (i := 4) (own := [("_law_x", 6)]) (g := gName 6) (by rfl) scLBoxRight.nd rfl rfl (sw_true rfl rfl rfl (by decide +kernel)) (pi_list (pv 3))
        (blkOk_by (N := nLBoxRight) (sc := defScope sLBoxRight) (by decide +kernel)) (fun _ _ _ _ _ => (pg_name (i := 6) scLBoxRight.nd rfl (.inl rfl))) (fun _ _ _ _ _ => pts_one (PW.pt (pw_and (pt_val (pe_call (ok_is_in T D5) hr1 (by rfl) D5.g D5.F.kp D5.b .nil pass0 (pa_cons (pv 2) (pa_cons (pv 6) pa_nil))))
          (pw_and1 (pt_not (pt_val (pe_call (ok_lholds T D3) hr1 (by rfl) D3.g D3.F.kp D3.b .nil pass0 (pa_cons (pe_call (ok_lheap T D4) hr2 (by rfl) D4.g D4.F.kp D4.b .nil pass0 (pa_cons (pv 0) (pa_cons (pv 6) pa_nil))) (pa_cons (pv 1) pa_nil)))))))))
        (fun _ _ _ _ _ => (pv 6)))
      (pss_cons (ps_if (pt_cmpR op_ne (pe_call (ok_does_fill T D2) hr8 (by rfl) D2.g D2.F.kp D2.b .nil pass0 (pa_cons (pv 0) (pa_cons (pv 1) (pa_cons (pv 2) pa_nil)))) (pe_cmpR (op_eqD hr.units) (pv 4) (pe_lst pa_nil) (nomark _)) (nomark _)) (pss_one (ps_ret pe_bl)) pss_nil)
      (pss_cons (ps_set (i := 5) scLBoxRight.nd rfl (.inl rfl) (pe_call (ok_left_out T D1) hr8 (by rfl) D1.g D1.F.kp D1.b .nil pass0 (pa_cons (pv 0) (pa_cons (pv 1) (pa_cons (pv 2) pa_nil)))))
      (pss_one (ps_ret (pe_or (pe_and (pe_cmpR op_isN (pv 5) pe_non (nomark _)) (pe_one (pe_cmpR (op_eqD hr.units) (pv 4) (pe_lst pa_nil) (nomark _)))) (pe_one (pe_cmpR (op_inD hr.units65) (pv 5) (pv 4) (by rfl)))))))), ?_⟩
    have hlen : xs.length = rs.length := paired_len hR
    have hl12 : 1 ≤ xs.length ∧ xs.length ≤ 12 := by omega
    have ol := ho.length
    have two := rings_two hR
    have yl : ys.length = (allT rs).length := paired_len hrow
    have inT : ∀ {i ps}, (allT rs)[i]? = some ps → InT rs ps := fun {i ps} h => mem_allT.mp (List.mem_of_getElem? h)
    have Fl := F.len
    refine ⟨_, rfl, L, rfl, ⟨_, SqL.of hL⟩, fun D1 hD1 => ?_⟩
    refine lc_list (K := K) (a := L) (xs := ys) (fun i H' => FW (fun x => inB os x && !sbB h (gF [] rs (x.map some))) D1 H (allT rs) i H') (FW.start hD1) (fun i H' _ hp => SqL.of (hp.ex _ _ hL)) (fun i x H' hx hq => ?_) (fun H1 hq => ?_)
    · obtain ⟨xa, ps, rfl, hxa, hps⟩ := hrow.get hx
      have pT := inT hps
      have pl := pT.length
      have e' := hq.ex
      have hxa' : PlacesT H' xa ps := e' _ _ hxa
      refine ⟨rfl, ?_⟩
      refine ⟨_, rfl, _, rfl, v, xa, os, ps, rfl, e' _ _ hv, hxa', by omega, by omega, fun H2 e2 => ⟨_, rfl, ite2 (fun cc => ?_) (fun cc => ?_)⟩⟩
      · have e02 := e'.trans e2
        refine ⟨_, rfl, _, rfl, c, xa, xs, rs, ps, rfl, e02 _ _ hc, rings_ex4 e02 hR, by omega, e2 _ _ hxa', by omega, fun b H3 e3 hb => ?_⟩
        rw [hseq_all hR pl] at hb
        have e03 := e02.trans e3
        have gl0 := gF_len [] rs (ps.map some)
        refine ⟨_, rfl, b, p, _, h, rfl, hb, e03 _ _ hp, by simp at gl0; omega, by omega, F.heap, fun H4 e4 => ⟨_, rfl, ite2 (fun c2 => ?_) (fun c2 => ?_)⟩⟩
        · have e24 := (e2.trans e3).trans e4
          exact ⟨_, rfl, hq.put hD1 e24 hps (by rw [cc, c2]; rfl) (e24 _ _ hxa') (by omega)⟩
        · exact hq.skip ((e2.trans e3).trans e4) hps (by rw [Bool.eq_false_iff.mpr c2, Bool.and_false])
      · exact iteF (hq.skip e2 hps (by rw [Bool.eq_false_iff.mpr cc, Bool.false_and]))
    obtain ⟨acc1, a1, r1, e1⟩ := hq.done yl
    clear hq
    refine ⟨_, rfl, _, rfl, _, rfl, c, p, v, xs, rs, h, os, rfl, e1 _ _ hc, rings_ex4 e1 hR, hl12, e1 _ _ hp, F, e1 _ _ hv, ho, fun H2 e2 => ?_⟩
    refine ⟨_, rfl, by show 0 ≤ sizeLine; decide, fun t3 ht3 => ?_⟩
    have x3 := Ex.new (o := .lst []) ht3
    have e23 := e2.trans x3
    refine eq_rows (e23 _ _ a1) (r1.ex e23) upd_same .nil ?_
    rw [fills_iff two ho]
    refine ⟨rfl, _, rfl, ?_⟩
    rw [decide_eq_true (rfl : V.bl (sbB h (gF [] rs os)) = V.bl (sbB h (gF [] rs os)))]
    refine iteF ?_
    have e3 := e1.trans e23
    have a3 := e23 _ _ a1
    have r3 := r1.ex e23
    clear a1 r1 e1 e2 x3 e23 hD1 ht3
    generalize upd H2 t3 (.lst []) = H3 at e3 a3 r3 ⊢
    have hf := fills_iff (w := h) two ho
    refine ⟨_, rfl, _, rfl, _, rfl, c, p, v, xs, rs, h, os, rfl, e3 _ _ hc, rings_ex4 e3 hR, hl12, e3 _ _ hp, F, e3 _ _ hv, ho, fun yes H4 e4 => ?_, fun no r ps H4 e4 hr4 p1 p2 p3 => ?_⟩
    · refine ⟨_, rfl, rfl, true, rfl, iteT ?_⟩
      refine ⟨_, rfl, by show 0 ≤ sizeLine; decide, fun t5 ht5 => ?_⟩
      have x5 := Ex.new (o := .lst []) ht5
      have e45 := e4.trans x5
      refine eq_rows (e45 _ _ a3) (r3.ex e45) upd_same .nil ?_
      rw [hf, yes]
      exact ⟨true, rfl, iteT (k _ (e3.trans e45))⟩
    · refine ⟨_, rfl, rfl, false, rfl, iteF ⟨false, rfl, iteF ?_⟩⟩
      refine ⟨_, rfl, _, rfl, in_rows hr4 (e4 _ _ a3) (r3.ex e4) ?_⟩
      have hm : ps ∈ (allT rs).filter (fun x => inB os x && !sbB h (gF [] rs (x.map some))) := List.mem_filter.mpr ⟨mem_allT.mpr p1, by rw [p2, p3]; rfl⟩
      rw [decide_eq_true hm]
      exact k _ (e3.trans e4)
def spLaw (K : PySem.W.Frag) : Sp := fun vs H Q _ => ∃ (a : Addr) (ns : List Int), vs = [.ref a] ∧ SqL K H a (ns.map V.int) ∧ ns.length ≤ 63 ∧ ∀ H', Q (.bl true) H'
theorem ok_law (T : Txt K mg) {f : Addr} {fd : FuncData} (F : Fun K "law" "law" sLaw f fd) : FnOk P w K mg base CX0 10 f fd ["_law_script"] (spLaw K) := by
  refine F.ok scLaw (fun vs H Q E h => ?_) (fun cdv A outer s₀ H vs Q E hr h => ?_)
  · obtain ⟨a, ns, rfl, _⟩ := h
    rfl
  · obtain ⟨a, ns, rfl, hS, hlen, q⟩ := h
    obtain ⟨f1, fd1, D1⟩ := T.d_does_fill
    obtain ⟨f2, fd2, D2⟩ := T.d_holds_box
    obtain ⟨f3, fd3, D3⟩ := T.d_l_roll
    obtain ⟨f4, fd4, D4⟩ := T.d_l_box_right
    obtain ⟨f5, fd5, D5⟩ := T.d_l_one_of
    obtain ⟨f6, fd6, D6⟩ := T.d_l_drawn_box
    obtain ⟨f7, fd7, D7⟩ := T.d_l_holds
    obtain ⟨f8, fd8, D8⟩ := T.d_l_heap
    obtain ⟨f9, fd9, D9⟩ := T.d_l_some_heap
    obtain ⟨f10, fd10, D10⟩ := T.d_l_all_tuples
    obtain ⟨f11, fd11, D11⟩ := T.d_l_chain
    obtain ⟨f12, fd12, D12⟩ := T.d_l_dice
    have hr1 : Room 1 _ := hr.mono (by decide)
    have hr2 : Room 2 _ := hr.mono (by decide)
    have hr3 : Room 3 _ := hr.mono (by decide)
    have hr4 : Room 4 _ := hr.mono (by decide)
    have hr7 : Room 7 _ := hr.mono (by decide)
    have hr8 : Room 8 _ := hr.mono (by decide)
    have hr9 : Room 9 _ := hr.mono (by decide)
    refine ⟨_, pss_cons (ps_for PassesOwn.never rfl (pi_range1 (by rfl) T.z_range (pa_cons (pe_callB (call_max2 rfl) (by rfl) T.z_max (by decide +kernel) (pa_cons pe_int (pa_cons (pe_callB (call_min2 rfl) (by rfl) T.z_min (by decide +kernel) (pa_cons pe_int (pa_cons (pe_callB call_len_seq (by rfl) T.z_len PySem.boot_len (pa_cons (pv 0) pa_nil)) pa_nil))) pa_nil))) pa_nil)) (pg_name (i := 1) scLaw.nd rfl (.inl rfl))
        (pss_cons (ps_set (i := 2) scLaw.nd rfl (.inr rfl) (pe_call (ok_dice T D12) hr1 (by rfl) D12.g D12.F.kp D12.b .nil pass0 (pa_cons (pv 0) (pa_cons (pv 1) pa_nil))))
      (pss_cons (ps_set (i := 3) scLaw.nd rfl (.inr rfl) (pe_call (ok_chain T D11) hr4 (by rfl) D11.g D11.F.kp D11.b .nil pass0 (pa_cons (pv 2) (pa_cons (pe_op op_add pe_int (pe_call (ok_roll T D3) hr1 (by rfl) D3.g D3.F.kp D3.b .nil pass0 (pa_cons (pv 2) (pa_cons pe_int pa_nil)))) (pa_cons pe_int pa_nil)))))
      (pss_cons (ps_set (i := 4) scLaw.nd rfl (.inl rfl) (pe_call (ok_all_tuples T D10) hr1 (by rfl) D10.g D10.F.kp D10.b .nil pass0 (pa_cons (pv 3) pa_nil)))
      (pss_one (ps_for PassesOwn.never rfl (pi_range1 (by rfl) T.z_range (pa_cons pe_int pa_nil)) (pg_name (i := 5) scLaw.nd rfl (.inl rfl))
        (pss_cons (ps_set (i := 6) scLaw.nd rfl (.inr rfl) (pe_call (ok_some_heap T D9) hr3 (by rfl) D9.g D9.F.kp D9.b .nil pass0 (pa_cons (pv 2) (pa_cons (pv 3) (pa_cons (pv 4) pa_nil)))))
      (pss_cons (ps_setLc (i := 7) (own := [("_law_x", 10)]) (g := gName 10) (by rfl) scLaw.nd rfl rfl (sw_true rfl rfl rfl (by decide +kernel)) (pi_list (pv 4))
        (blkOk_by (N := nLaw) (sc := defScope sLaw) (by decide +kernel)) (fun _ _ _ _ _ => (pg_name (i := 10) scLaw.nd rfl (.inl rfl))) (fun _ _ _ _ _ => pts_one (pt_val (pe_call (ok_lholds T D7) hr1 (by rfl) D7.g D7.F.kp D7.b .nil pass0 (pa_cons (pe_call (ok_lheap T D8) hr2 (by rfl) D8.g D8.F.kp D8.b .nil pass0 (pa_cons (pv 3) (pa_cons (pv 10) pa_nil))) (pa_cons (pv 6) pa_nil)))))
        (fun _ _ _ _ _ => (pv 10)))
      (pss_cons (ps_set (i := 8) scLaw.nd rfl (.inl rfl) (pe_call (ok_drawn_box T D6) hr2 (by rfl) D6.g D6.F.kp D6.b .nil pass0 (pa_cons (pv 2) (pa_cons (pv 3) pa_nil))))
      (pss_cut (ps_if (PW.pt (pw_and (pt_cmpR (op_neD hr.units) (pv 7) (pe_lst pa_nil) (nomark _))
          (pw_and1 (pt_cmpR op_gt (pe_call (ok_roll T D3) hr1 (by rfl) D3.g D3.F.kp D3.b .nil pass0 (pa_cons (pv 2) (pa_cons pe_int pa_nil))) pe_int (nomark _))))) (pss_one (ps_set (i := 8) scLaw.nd rfl (.inl rfl) (pe_callTy call_tuple_of (by rfl) T.z_tuple (by decide +kernel) (pa_cons (pe_lc (own := [("_law_place", 11)]) (g := gName 11) (tt := tYes) rfl scLaw.nd (pi_tup (pe_call (ok_one_of T D5) hr2 (by rfl) D5.g D5.F.kp D5.b .nil pass0 (pa_cons (pv 2) (pa_cons (pv 7) pa_nil))))
        (blkOk_by (N := nLaw) (sc := defScope sLaw) (by decide +kernel)) (fun _ _ _ _ _ => (pg_name (i := 11) scLaw.nd rfl (.inl rfl))) (fun _ _ _ _ _ => pts_nil)
        (fun _ _ _ _ _ => (pe_ifExp (pt_cmpR op_gt (pe_call (ok_roll T D3) hr1 (by rfl) D3.g D3.F.kp D3.b .nil pass0 (pa_cons (pv 2) (pa_cons pe_int pa_nil))) pe_int (nomark _)) (pv 11) pe_non))) pa_nil)))) pss_nil)
      (pss_cons (ps_if (pt_not (pt_val (pe_call (ok_box_right T D4) hr9 (by rfl) D4.g D4.F.kp D4.b .nil pass0 (pa_cons (pv 3) (pa_cons (pv 6) (pa_cons (pv 8) (pa_cons (pv 4) pa_nil))))))) (pss_one (ps_ret pe_bl)) pss_nil)
      (pss_cons (ps_set (i := 9) scLaw.nd rfl (.inl rfl) (pe_callTy call_tuple_of (by rfl) T.z_tuple (by decide +kernel) (pa_cons (pe_lc (own := [("_law_told", 12), ("_law_n", 13), ("_law_s", 14)]) (g := gTup K 2 (gCons (gName 12) (gCons (gTup K 2 (gCons (gName 13) (gCons (gName 14) gNil))) gNil))) (tt := tYes) rfl scLaw.nd (RZ.pi_zipA (by rfl) T.z_zip (pa_cons (pv 8) (pa_cons (pv 3) pa_nil)))
        (blkOk_by (N := nLaw) (sc := defScope sLaw) (by decide +kernel)) (fun _ _ _ _ _ => (pg_tup (by rfl) (pgs_cons (pg_name (i := 12) scLaw.nd rfl (.inl rfl)) (pgs_cons (pg_tup (by rfl) (pgs_cons (pg_name (i := 13) scLaw.nd rfl (.inl rfl)) (pgs_cons (pg_name (i := 14) scLaw.nd rfl (.inl rfl)) pgs_nil))) pgs_nil)))) (fun _ _ _ _ _ => pts_nil)
        (fun _ _ _ _ _ => (pe_ifExp (PW.pt (pw_and (pt_cmpR op_isN (pv 12) pe_non (nomark _))
          (pw_and1 (pt_cmpR op_eq (pe_call (ok_roll T D3) hr1 (by rfl) D3.g D3.F.kp D3.b .nil pass0 (pa_cons (pv 2) (pa_cons pe_int pa_nil))) pe_int (nomark _))))) (pe_call (ok_roll T D3) hr1 (by rfl) D3.g D3.F.kp D3.b .nil pass0 (pa_cons (pv 2) (pa_cons (pv 13) pa_nil))) (pv 12)))) pa_nil)))
      (pss_one (ps_if (PW.pt (pw_or (pt_not (pt_val (pe_call (ok_holds_box T D2) hr7 (by rfl) D2.g D2.F.kp D2.b .nil pass0 (pa_cons (pv 3) (pa_cons (pv 8) (pa_cons (pv 9) pa_nil))))))
          (pw_or1 (PW.pt (pw_and (pt_val (pe_call (ok_does_fill T D1) hr8 (by rfl) D1.g D1.F.kp D1.b .nil pass0 (pa_cons (pv 3) (pa_cons (pv 6) (pa_cons (pv 8) pa_nil)))))
          (pw_and1 (pt_not (pt_val (pe_call (ok_does_fill T D1) hr8 (by rfl) D1.g D1.F.kp D1.b .nil pass0 (pa_cons (pv 3) (pa_cons (pv 6) (pa_cons (pv 9) pa_nil)))))))))))) (pss_one (ps_ret pe_bl)) pss_nil))))))))))))))
      (pss_one (ps_ret pe_bl)), ?_⟩
    refine ⟨_, rfl, a, _, rfl, .inl hS, 3, _, rfl, 1, _, rfl, _, rfl, ?_, ?_, for_range (lo := 0) (n := Int.toNat _) (fun i σ' H' => ∃ y1 y2 y3 y4 y5 y6 y7 y8 y9 y10 y11 y12 y13 y14, σ' = [some (.ref a), y1, y2, y3, y4, y5, y6, y7, y8, y9, y10, y11, y12, y13, y14] ∧ SqL K H' a (ns.map V.int)) ⟨none, none, none, none, none, none, none, none, none, none, none, none, none, none, rfl, hS⟩ (fun i σ' H' _ hp => ?_) (fun σ' H' hp => ?_)⟩
    · split <;> split <;> omega
    · rw [List.length_map]
      split <;> split <;> omega
    · obtain ⟨y1, y2, y3, y4, y5, y6, y7, y8, y9, y10, y11, y12, y13, y14, rfl, hS'⟩ := hp
      refine ⟨_, rfl, _, rfl, a, ns, i, ?_, hS', fun p H1 hp0 e1 hd1 => ?_⟩
      · rw [Int.zero_add]
        rfl
      refine ⟨_, rfl, _, rfl, p, 4, rfl, hd1, by decide, by decide, fun r H2 r0 r1 hd2 k2 => ⟨1, r, rfl, rfl, p, 1 + r, 4, rfl, hd2, by omega, by omega, by decide, by decide, fun c xs rs H3 hc3 hR3 hg hd3 k3' => ?_⟩⟩
      have k3 := k2.trans k3'
      have hl : 1 ≤ xs.length ∧ xs.length ≤ 4 := by omega
      have hl12 : 1 ≤ xs.length ∧ xs.length ≤ 12 := by omega
      have l2 : xs.length = rs.length := paired_len hR3
      refine ⟨_, rfl, c, xs, rs, rfl, hc3, hR3, hl.2, fun L ys H4 e4 hL4 hrow4 hsz => ?_⟩
      have hR4 : RingsAt H4 60 xs rs := paired_imp (fun _ _ z => RingAt.most (by decide) z) (rings_ex4 e4 hR3)
      have hc4 := e4 _ _ hc3
      have hd4 := hd3.ex e4
      have k4 := k3.trans (Keep.ex e4)
      have two := rings_two hR4
      clear hc3 hR3 hd3 k3' k3 e4 k2 hd2
      have nL : L ≠ p := by
        obtain ⟨z1, z2, z3, z⟩ := hd4
        intro e
        rw [e, z] at hL4
        have h0 : [V.int z1, V.int z2, V.int z3] = ys := by
          injection hL4 with h
          injection h
        rw [← h0] at hrow4
        generalize allT rs = pss at hrow4
        cases hrow4 with
        | cons q _ =>
          obtain ⟨_, q, _⟩ := q
          cases q
      have nc := hd4.ne_tup hc4
      have yl : ys.length = (allT rs).length := paired_len hrow4
      have y1' : 1 ≤ ys.length := by
        rw [yl]
        have := List.length_pos_of_mem (mem_allT.mpr (pick_in two (boxR_openK rs)).1)
        omega
      have inT : ∀ ps ∈ allT rs, InT rs ps := fun ps h => mem_allT.mp h
      refine ⟨2, rfl, by decide, by decide, for_range (lo := 0) (n := 2) (fun j σ' H' => ∃ x5 x6 x7 x8 x9 x10 x11 x12 x13 x14, σ' = [some (.ref a), some (.int (0 + (i : Int))), some (.ref p), some (.ref c), some (.ref L), x5, x6, x7, x8, x9, x10, x11, x12, x13, x14] ∧ Dice H' p ∧ Keep p H4 H') ⟨_, _, _, _, _, _, _, _, _, _, rfl, hd4, Keep.refl _ _⟩ (fun j σ' H5 _ hq => ?_) (fun σ' H' hq => ?_)⟩
      · obtain ⟨x5, x6, x7, x8, x9, x10, x11, x12, x13, x14, rfl, hd5, k5⟩ := hq
        have hc5 := k5 _ _ nc hc4
        have hR5 := hR4.keep k5 hd4
        have hL5 := k5 _ _ nL hL4
        have hrow5 : Rows H5 ys (allT rs) := hrow4.keep fun b xs z => k5.tup hd4 z
        refine ⟨_, rfl, _, rfl, _, rfl, p, c, L, xs, rs, ys, allT rs, rfl, hd5, hc5, hR5, hl.2, hL5, nL, hrow5, y1', by omega, inT, fun hp6 h H6 hh6 Fh hd6 k6' => ?_⟩
        have k6 := k5.trans k6'
        have hc6 := k6 _ _ nc hc4
        have hR6 := hR4.keep k6 hd4
        have hL6 := k6 _ _ nL hL4
        have hrow6 : Rows H6 ys (allT rs) := hrow4.keep fun b xs z => k6.tup hd4 z
        have nh6 := hd6.ne_tup hh6
        have Fl := Fh.len
        -- good
        refine ⟨_, rfl, L, rfl, ⟨_, SqL.of hL6⟩, fun D7 hD7 => ?_⟩
        refine lc_list (K := K) (a := L) (xs := ys) (fun i H' => FW (fun x => sbB h (gF [] rs (x.map some))) D7 H6 (allT rs) i H') (FW.start hD7) (fun i H' _ hp => SqL.of (hp.ex _ _ hL6)) (fun i x H' hx hq => ?_) (fun H7 hq => ?_)
        · obtain ⟨xa, ps, rfl, hxa, hps⟩ := hrow6.get hx
          have pT := inT ps (List.mem_of_getElem? hps)
          have pl := pT.length
          have e' := hq.ex
          have hxa' : PlacesT H' xa ps := e' _ _ hxa
          refine ⟨rfl, ?_⟩
          refine ⟨_, rfl, _, rfl, c, xa, xs, rs, ps, rfl, e' _ _ hc6, rings_ex4 e' hR6, by omega, hxa', by omega, fun b H3 e3 hb => ?_⟩
          rw [hseq_all hR6 pl] at hb
          have gl0 := gF_len [] rs (ps.map some)
          refine ⟨_, rfl, b, hp6, _, h, rfl, hb, (e'.trans e3) _ _ hh6, by simp at gl0; omega, by omega, Fh.heap, fun H4 e4 => ⟨_, rfl, ite2 (fun c2 => ?_) (fun c2 => ?_)⟩⟩
          · exact ⟨_, rfl, hq.put hD7 (e3.trans e4) hps c2 ((e3.trans e4) _ _ hxa') (by omega)⟩
          · exact hq.skip (e3.trans e4) hps (Bool.eq_false_iff.mpr c2)
        obtain ⟨acc7, a7, r7, e7⟩ := hq.done yl
        clear hq
        have hd7 := hd6.ex e7
        have k7 := k6.trans (Keep.ex e7)
        have hh7 : HeapAt H7 hp6 h := e7 _ _ hh6
        have n7 : D7 ≠ p := fun z => by
          rw [z] at hD7
          obtain ⟨_, _, _, z2⟩ := hd6
          rw [hD7] at z2
          cases z2
        have gin : ∀ ps ∈ (allT rs).filter (fun x => sbB h (gF [] rs (x.map some))), InT rs ps := fun ps hp => inT ps (List.mem_filter.mp hp).1
        have glen : ((allT rs).filter (fun x => sbB h (gF [] rs (x.map some)))).length ≤ 256 := Nat.le_trans (List.length_filter_le _ _) hsz
        have gl7 : acc7.length = _ := paired_len r7
        generalize (allT rs).filter (fun x => sbB h (gF [] rs (x.map some))) = good at r7 gin glen gl7
        clear k6' hd6 hD7 hc6 hR6 hL6 hrow6 hh6 hc5 hR5 hL5 hrow5 e7
        have hc7 := k7 _ _ nc hc4
        have hR7 := hR4.keep k7 hd4
        -- a drawn box
        refine ⟨_, rfl, _, rfl, p, c, xs, rs, rfl, hd7, hc7, hR7, hl12.2, fun b8 bs8 H8 hb8 hbs8 hd8 k8 => ?_⟩
        have k78 := k7.trans k8
        have a8 := k8 _ _ n7 a7
        have r8 : Rows H8 acc7 good := r7.keep fun b xs z => k8.tup hd7 z
        have hh8 : HeapAt H8 hp6 h := k8.tup hd7 hh7
        refine ⟨fun σ' H' => ∃ b9 bs x10 x11, σ' = [some (.ref a), some (.int (0 + (i : Int))), some (.ref p), some (.ref c), some (.ref L), some (.int (0 + (j : Int))), some (.ref hp6), some (.ref D7), some (.ref b9), x9, x10, x11, x12, x13, x14] ∧ BoxAt H' b9 bs ∧ BoxR rs bs ∧ HeapAt H' hp6 h ∧ Dice H' p ∧ Keep p H4 H', ?_, ?_⟩
        · refine ⟨_, rfl, by show 0 ≤ sizeLine; decide, fun t9 ht9 => ?_⟩
          have x9' := Ex.new (o := .lst []) ht9
          refine ne_rows (x9' _ _ a8) (r8.ex x9') upd_same .nil ⟨_, rfl, ?_⟩
          have hd9 := hd8.ex x9'
          have k79 := k78.trans (Keep.ex x9')
          have hb9 : BoxAt (upd H8 t9 (.lst [])) b8 bs8 := x9' _ _ hb8
          have hh9 : HeapAt (upd H8 t9 (.lst [])) hp6 h := x9' _ _ hh8
          have a9 := x9' _ _ a8
          have r9 := r8.ex x9'
          generalize upd H8 t9 (.lst []) = H9 at hd9 k79 hb9 hh9 a9 r9 ⊢
          by_cases z : good = []
          · rw [decide_eq_true z]
            exact iteF (iteF ⟨b8, bs8, _, _, rfl, hb9, hbs8, hh9, hd9, k79⟩)
          · rw [decide_eq_false z]
            refine iteT ⟨_, rfl, p, 3, rfl, hd9, by decide, by decide, fun r10 H10 r100 r101 hd10 k10 => ⟨_, _, rfl, rfl, _, rfl, ite2 (fun cc => ?_) (fun cc => ?_)⟩⟩
            · refine ⟨_, rfl, _, rfl, p, D7, acc7, rfl, hd10, k10 _ _ n7 a9, n7, ?_, by omega, fun x H11 hx hd11 k11 => ?_⟩
              · rw [gl7]
                exact List.length_pos_iff.mpr z
              · obtain ⟨m, hm, rfl⟩ := List.getElem_of_mem hx
                obtain ⟨xa, ps, e, hxa, hps⟩ := r9.get (List.getElem?_eq_getElem hm)
                rw [e]
                have k911 := k10.trans k11
                have hxa11 : PlacesT H11 xa ps := k911.tup hd9 hxa
                have pT := gin ps (List.mem_of_getElem? hps)
                have pl := pT.length
                have nx := hd11.ne_tup hxa11
                refine ⟨xa, rfl, ⟨_, SqT.of hxa11⟩, fun D12 hD12 => ?_⟩
                have nd12 : p ≠ D12 := hd11.ne_new hD12
                refine lc_tup (K := K) (a := xa) (xs := ps.map V.int) (fun i H' => ∃ acc, H' D12 = some (.lst (acc.map ov)) ∧ BoxR (rs.take i) acc ∧ Keep p H11 H' ∧ Dice H' p) ⟨[], upd_same, .nil, Keep.new hD12, hd11.upd nd12⟩ (fun i H' _ hp => by obtain ⟨_, _, _, kk, _⟩ := hp; exact SqT.of (kk _ _ nx hxa11)) (fun i x H' hx hp => ?_) (fun H12 hp => ?_)
                · obtain ⟨acc, b1, b2, kk, hd'⟩ := hp
                  have ex := pl_get hx
                  have hi : i < ps.length := by
                    have := (List.getElem?_eq_some_iff.mp hx).1
                    rw [List.length_map] at this
                    exact this
                  have hpi : ps[i]? = some (ps.getD i 0) := by
                    rw [List.getD_eq_getElem?_getD, List.getElem?_eq_getElem hi]
                    rfl
                  obtain ⟨c1, c2⟩ := row_cut pT hpi b2
                  subst ex
                  generalize ps.getD i 0 = v at c1
                  have al : acc.length ≤ 12 := by
                    rw [b2.length, List.length_take]
                    omega
                  have put : ∀ (z : Option Int) G, Dice G p → Keep p H' G → BoxR (rs.take (i + 1)) (acc ++ [z]) → ∃ ac, G D12 = some (.lst ac) ∧ ac.length < sizeLine ∧ (∃ acc, (upd G D12 (.lst (ac ++ [ov z]))) D12 = some (.lst (acc.map ov)) ∧ BoxR (rs.take (i + 1)) acc ∧ Keep p H11 (upd G D12 (.lst (ac ++ [ov z]))) ∧ Dice (upd G D12 (.lst (ac ++ [ov z]))) p) := fun z G dG kG bz => by
                    refine ⟨_, kG _ _ nd12.symm b1, by rw [List.length_map]; exact small1000 (by omega), acc ++ [z], ?_, bz, (kk.trans kG).mut hD12, dG.upd nd12⟩
                    rw [upd_same, List.map_append]
                    rfl
                  refine ⟨rfl, ?_⟩
                  dsimp only [tYes]
                  rw [if_pos rfl]
                  refine ⟨_, rfl, p, 4, rfl, hd', by decide, by decide, fun r7 G7 r70 r71 hd7 k7 => ⟨_, _, rfl, rfl, _, rfl, ite2 (fun cc => ?_) (fun cc => ?_)⟩⟩
                  · exact ⟨_, rfl, put (some v) G7 hd7 k7 c1⟩
                  · exact put none G7 hd7 k7 c2
                · obtain ⟨acc, b1, b2, kk, hd12⟩ := hp
                  rw [List.length_map, pl, List.take_length] at b2
                  have k912 := k911.trans kk
                  refine ⟨D12, _, rfl, .inl ⟨SqL.of b1, fun p13 hp13 => ?_⟩⟩
                  have x13 := Ex.new (o := .tup (acc.map ov)) hp13
                  exact ⟨p13, acc, _, _, rfl, upd_same, b2, x13 _ _ (k912.tup hd9 hh9), hd12.ex x13, (k79.trans k912).trans (Keep.ex x13)⟩
            · exact ⟨b8, bs8, _, _, rfl, k10.tup hd9 hb9, hbs8, k10.tup hd9 hh9, hd10, k79.trans k10⟩
        · rintro σ' H9 ⟨b9, bs, x10, x11, rfl, hb9, hbs, hh9, hd9, k9⟩
          have hc9 := k9 _ _ nc hc4
          have hR9 := hR4.keep k9 hd4
          have hL9 := k9 _ _ nL hL4
          have hrow9 : Rows H9 ys (allT rs) := hrow4.keep fun b xs z => k9.tup hd4 z
          have hbl := hbs.length
          clear a7 r7 a8 r8 hh7 hh8 hc7 hR7 k7 k8 k78 hd7 hd8 hb8 hbs8 gin glen gl7
          refine ⟨_, rfl, _, rfl, _, rfl, _, rfl, c, hp6, b9, L, xs, rs, h, bs, ys, rfl, hc9, hR9, hl, hh9, Fh, hb9, hbs, hL9, hrow9, hsz, fun H10 e10 => ⟨true, rfl, iteF ?_⟩⟩
          have hc10 := e10 _ _ hc9
          have hR10 := rings_ex4 e10 hR9
          have hb10 : BoxAt H10 b9 bs := e10 _ _ hb9
          have hh10 : HeapAt H10 hp6 h := e10 _ _ hh9
          have hd10 := hd9.ex e10
          have k10 := k9.trans (Keep.ex e10)
          clear hc9 hR9 hL9 hrow9 hb9 hh9 hd9 k9 e10
          have nb := hd10.ne_tup hb10
          have nc10 := hd10.ne_tup hc10
          -- less
          refine ⟨_, rfl, _, rfl, b9, c, _, _, rfl, .inr ⟨SqT.of hb10, SqT.of hc10, fun D11 hD11 => ?_⟩⟩
          have nd11 : p ≠ D11 := hd10.ne_new hD11
          refine lc_zipT (K := K) (a := b9) (b := c) (xs := bs.map ov) (ys := xs) (n := rs.length) (by rw [List.length_map]; omega) (by omega) (.inl (by rw [List.length_map]; omega)) (fun i H' => ∃ acc, H' D11 = some (.lst (acc.map ov)) ∧ BoxR (rs.take i) acc ∧ liB (bs.take i) acc = true ∧ Keep p H10 H' ∧ Dice H' p) ⟨[], upd_same, .nil, rfl, Keep.new hD11, hd10.upd nd11⟩ (fun i H' hp => by obtain ⟨_, _, _, _, kk, _⟩ := hp; exact ⟨SqT.of (kk _ _ nb hb10), SqT.of (kk _ _ nc10 hc10)⟩) (fun i x y Tp H' hi hx hy hp nT => ?_) (fun H11 hp => ?_)
          · obtain ⟨acc, p1, p2, p3, kk, hd'⟩ := hp
            obtain ⟨o, ho, rfl⟩ := ov_get hx
            have hn := nAt_eq hR10 hi
            have eT := Ex.new (o := .tup [ov o, y]) nT
            have hy1 := rings_nth4 (rings_ex4 eT (hR10.keep kk hd10)) hy
            obtain ⟨t, rfl, ht, b1, b2, b3, b4⟩ := hy1
            have pl : acc.length = i := by rw [p2.length, take_len (by omega)]
            have hT : (upd H' Tp (.tup [ov o, .ref t])) Tp = some (.tup [ov o, .ref t]) := upd_same
            have p1' := eT _ _ p1
            have hdT := hd'.ex eT
            have kT := kk.trans (Keep.ex eT)
            clear eT p1 hd' kk
            generalize upd H' Tp (.tup [ov o, .ref t]) = G at ht hT p1' hdT kT ⊢
            have fin : ∀ (z : Option Int) G2, BoxR (rs.take (i + 1)) (acc ++ [z]) → li1 o z = true → Keep p G G2 → Dice G2 p → ∃ ac, G2 D11 = some (.lst ac) ∧ ac.length < sizeLine ∧ (∃ acc, (upd G2 D11 (.lst (ac ++ [ov z]))) D11 = some (.lst (acc.map ov)) ∧ BoxR (rs.take (i + 1)) acc ∧ liB (bs.take (i + 1)) acc = true ∧ Keep p H10 (upd G2 D11 (.lst (ac ++ [ov z]))) ∧ Dice (upd G2 D11 (.lst (ac ++ [ov z]))) p) := fun z G2 h0 h2 k2 d2 => by
              refine ⟨_, k2 _ _ nd11.symm p1', ?_, acc ++ [z], ?_, h0, ?_, (kT.trans k2).mut hD11, d2.upd nd11⟩
              · rw [List.length_map]
                exact small1000 (by omega)
              · rw [upd_same, List.map_append]
                rfl
              · rw [take_snoc ho, liB_snoc (by rw [pl, take_len (by omega)]), p3, h2]
                rfl
            obtain ⟨bc1, bc2⟩ := boxR_cut hbs ho p2
            refine ⟨Tp, _, rfl, SqT.of hT, rfl, ov o, [.ref t], rfl, .ref t, [], rfl, ⟨t, _, rfl, SqT.of ht, rfl, .int _, [_], rfl, .int _, [], rfl, rfl, rfl, rfl, ?_⟩⟩
            dsimp only [tYes]
            rw [if_pos rfl]
            refine ⟨_, rfl, rfl, _, rfl, ?_⟩
            cases o with
            | none =>
              refine iteT ⟨_, rfl, p, 2, rfl, hdT, by decide, by decide, fun r2 G2 r20 r21 d2 k2 => ⟨rfl, _, rfl, ite2 (fun cc => ?_) (fun cc => ?_)⟩⟩
              · refine ⟨_, rfl, _, rfl, p, _, rfl, d2, by omega, by omega, fun r3 G3 r30 r31 d3 k3 => ?_⟩
                refine fin (some r3) G3 ?_ rfl (k2.trans k3) d3
                rw [rs_snoc hi]
                exact BoxR_snocT r30 (by omega) p2
              · exact ⟨_, rfl, fin none G2 bc2 rfl k2 d2⟩
            | some u => exact iteF (iteF ⟨_, rfl, fin (some u) G bc1 (decide_eq_true rfl) (Keep.refl _ _) hdT⟩)
          obtain ⟨acc, p1, p2, p3, kk, hd11⟩ := hp
          rw [List.take_length] at p2
          rw [List.take_of_length_le (by omega)] at p3
          have pl := p2.length
          refine ⟨D11, _, rfl, .inl ⟨SqL.of p1, fun t12 ht12 => ?_⟩⟩
          have x12 := Ex.new (o := .tup (acc.map ov)) ht12
          have hl12' : BoxAt (upd H11 t12 (.tup (acc.map ov))) t12 acc := upd_same
          have hb12 : BoxAt (upd H11 t12 (.tup (acc.map ov))) b9 bs := x12 _ _ (kk _ _ nb hb10)
          have hc12 := x12 _ _ (kk _ _ nc10 hc10)
          have hh12 : HeapAt (upd H11 t12 (.tup (acc.map ov))) hp6 h := x12 _ _ (kk.tup hd10 hh10)
          have hR12 := rings_ex4 x12 (hR10.keep kk hd10)
          have hd12 := hd11.ex x12
          have k12 := (k10.trans kk).trans (Keep.ex x12)
          clear x12 ht12 p1 kk hd11 hc10 hR10 hb10 hh10 hd10 k10 hD11
          generalize upd H11 t12 (.tup (acc.map ov)) = H12 at hl12' hb12 hc12 hh12 hR12 hd12 k12 ⊢
          refine ⟨_, rfl, _, rfl, _, rfl, c, b9, t12, xs, rs, bs, acc, rfl, hc12, hR12, hl12, hb12, hbs, hl12', p2, fun H13 e13 => ⟨true, by rw [p3], iteF ?_⟩⟩
          refine ⟨_, rfl, _, rfl, _, rfl, c, hp6, b9, xs, rs, h, bs, rfl, e13 _ _ hc12, rings_ex4 e13 hR12, hl12, e13 _ _ hh12, Fh, e13 _ _ hb12, hbs, fun H14 e14 => ⟨_, rfl, ite2 (fun cc => ?_) (fun cc => ?_)⟩⟩
          · have e1214 := e13.trans e14
            have more := gF_more (a := []) (b := []) rs bs acc (Sub.refl _) (by omega) p3
            have yes : sbB h (gF [] rs acc) = true := sbB_iff.mpr fun c => Nat.le_trans (sbB_iff.mp cc c) (more c)
            refine ⟨_, rfl, _, rfl, _, rfl, c, hp6, t12, xs, rs, h, acc, rfl, e1214 _ _ hc12, rings_ex4 e1214 hR12, hl12, e1214 _ _ hh12, Fh, e1214 _ _ hl12', p2, fun H15 e15 => ⟨true, by rw [yes], iteF ?_⟩⟩
            exact ⟨_, _, _, _, _, _, _, _, _, _, rfl, hd12.ex (e1214.trans e15), k12.trans (Keep.ex (e1214.trans e15))⟩
          · exact iteF ⟨_, _, _, _, _, _, _, _, _, _, rfl, hd12.ex (e13.trans e14), k12.trans (Keep.ex (e13.trans e14))⟩
      · obtain ⟨x5, x6, x7, x8, x9, x10, x11, x12, x13, x14, rfl, hd5, k5⟩ := hq
        exact ⟨_, _, _, _, _, _, _, _, _, _, _, _, _, _, rfl, sql_keep hp0 e1 (k4.trans k5) hS'⟩
    · exact q _
end
end K1

namespace K1
open PySem PySem.Spec PyProof.Rows L2
/-- what a def of the text leaves -/
theorem mk_def {K : PySem.W.Frag} {h : Heap} {mg : Str → Option Value} {x : Str} {st : Stmt} {ps : List Str} {f : Addr} {oc : Value} {od an : Option Addr} {osl : Array (Option Value)} {kV doc pm cdv ct : Value} (X : K.In h) (G : h.Ns mainGlobals mg)
    (a : PySem.W.nsIn K mainGlobals x = some (some (.ref f))) (l : K.lookup f = some ⟨oc, od, .func (PySem.W.fnOf x x (defArgs st) (defBody st) (defScope st) .none kV doc pm an cdv ct), osl⟩) (c : PySem.W.codeIn K cdv x = true) (k : PySem.W.keepIn K (.ref f) = true)
    (b : ∀ (kV doc pm : Value) (an : Option Addr) (cdv ct : Value) (us : List Value), us.length = ps.length → bindArgs (PySem.W.fnOf x x (defArgs st) (defBody st) (defScope st) .none kV doc pm an cdv ct) ⟨us, []⟩ = pure (ps.zip us)) :
    ∃ f fd, DefAt K mg x st ps f fd := ⟨f, _, ⟨fun_mk (st := st) l c k, PySem.W.mg_of X G a, (fun_mk (st := st) l c k).binds b⟩⟩
theorem all_mk {P : Program} {w : World} {K : PySem.W.Frag} {h : Heap} {mg : Str → Option Value} {fa : Addr} (X : K.In h) (G : h.Ns mainGlobals mg) (hfa : mg "law" = some (.ref fa)) (vBOUND : ∃ t, mg "BOUND" = some (.int (10 ^ 60) t))
    {tRINGS tPLACES tSIDE tSQ : Tok} (gRINGS : PySem.W.nsIn K mainGlobals "MOST_RINGS" = some (some (.int 12 tRINGS))) (gPLACES : PySem.W.nsIn K mainGlobals "MOST_PLACES" = some (some (.int 60 tPLACES))) (gSIDE : PySem.W.nsIn K mainGlobals "MOST_SIDE" = some (some (.int 60 tSIDE))) (gSQ : PySem.W.nsIn K mainGlobals "MAX_SQUARES" = some (some (.int 42 tSQ)))
    (z_isinstance : PySem.W.nsIn K mainGlobals "isinstance" = some none) (z_len : PySem.W.nsIn K mainGlobals "len" = some none) (z_int : PySem.W.nsIn K mainGlobals "int" = some none) (z_bool : PySem.W.nsIn K mainGlobals "bool" = some none) (z_tuple : PySem.W.nsIn K mainGlobals "tuple" = some none) (z_all : PySem.W.nsIn K mainGlobals "all" = some none) (z_range : PySem.W.nsIn K mainGlobals "range" = some none) (z_abs : PySem.W.nsIn K mainGlobals "abs" = some none) (z_min : PySem.W.nsIn K mainGlobals "min" = some none) (z_max : PySem.W.nsIn K mainGlobals "max" = some none) (z_list : PySem.W.nsIn K mainGlobals "list" = some none) (z_zip : PySem.W.nsIn K mainGlobals "zip" = some none) (z_enumerate : PySem.W.nsIn K mainGlobals "enumerate" = some none) (z_sum : PySem.W.nsIn K mainGlobals "sum" = some none)
    {f0 : Addr} {oc0 : Value} {od0 an0 : Option Addr} {sl0 : Array (Option Value)} {kV0 dc0 pm0 cd0 ct0 : Value}
    (a0 : PySem.W.nsIn K mainGlobals "is_integer" = some (some (.ref f0))) (l0 : K.lookup f0 = some ⟨oc0, od0, .func (PySem.W.fnOf "is_integer" "is_integer" (defArgs sIsInteger) (defBody sIsInteger) (defScope sIsInteger) .none kV0 dc0 pm0 an0 cd0 ct0), sl0⟩) (c0 : PySem.W.codeIn K cd0 "is_integer" = true) (k0 : PySem.W.keepIn K (.ref f0) = true)
    {f1 : Addr} {oc1 : Value} {od1 an1 : Option Addr} {sl1 : Array (Option Value)} {kV1 dc1 pm1 cd1 ct1 : Value}
    (a1 : PySem.W.nsIn K mainGlobals "is_between" = some (some (.ref f1))) (l1 : K.lookup f1 = some ⟨oc1, od1, .func (PySem.W.fnOf "is_between" "is_between" (defArgs sIsBetween) (defBody sIsBetween) (defScope sIsBetween) .none kV1 dc1 pm1 an1 cd1 ct1), sl1⟩) (c1 : PySem.W.codeIn K cd1 "is_between" = true) (k1 : PySem.W.keepIn K (.ref f1) = true)
    {f2 : Addr} {oc2 : Value} {od2 an2 : Option Addr} {sl2 : Array (Option Value)} {kV2 dc2 pm2 cd2 ct2 : Value}
    (a2 : PySem.W.nsIn K mainGlobals "is_pair" = some (some (.ref f2))) (l2 : K.lookup f2 = some ⟨oc2, od2, .func (PySem.W.fnOf "is_pair" "is_pair" (defArgs sIsPair) (defBody sIsPair) (defScope sIsPair) .none kV2 dc2 pm2 an2 cd2 ct2), sl2⟩) (c2 : PySem.W.codeIn K cd2 "is_pair" = true) (k2 : PySem.W.keepIn K (.ref f2) = true)
    {f3 : Addr} {oc3 : Value} {od3 an3 : Option Addr} {sl3 : Array (Option Value)} {kV3 dc3 pm3 cd3 ct3 : Value}
    (a3 : PySem.W.nsIn K mainGlobals "is_ring" = some (some (.ref f3))) (l3 : K.lookup f3 = some ⟨oc3, od3, .func (PySem.W.fnOf "is_ring" "is_ring" (defArgs sIsRing) (defBody sIsRing) (defScope sIsRing) .none kV3 dc3 pm3 an3 cd3 ct3), sl3⟩) (c3 : PySem.W.codeIn K cd3 "is_ring" = true) (k3 : PySem.W.keepIn K (.ref f3) = true)
    {f4 : Addr} {oc4 : Value} {od4 an4 : Option Addr} {sl4 : Array (Option Value)} {kV4 dc4 pm4 cd4 ct4 : Value}
    (a4 : PySem.W.nsIn K mainGlobals "is_chain" = some (some (.ref f4))) (l4 : K.lookup f4 = some ⟨oc4, od4, .func (PySem.W.fnOf "is_chain" "is_chain" (defArgs sIsChain) (defBody sIsChain) (defScope sIsChain) .none kV4 dc4 pm4 an4 cd4 ct4), sl4⟩) (c4 : PySem.W.codeIn K cd4 "is_chain" = true) (k4 : PySem.W.keepIn K (.ref f4) = true)
    {f5 : Addr} {oc5 : Value} {od5 an5 : Option Addr} {sl5 : Array (Option Value)} {kV5 dc5 pm5 cd5 ct5 : Value}
    (a5 : PySem.W.nsIn K mainGlobals "check_chain" = some (some (.ref f5))) (l5 : K.lookup f5 = some ⟨oc5, od5, .func (PySem.W.fnOf "check_chain" "check_chain" (defArgs sCheckChain) (defBody sCheckChain) (defScope sCheckChain) .none kV5 dc5 pm5 an5 cd5 ct5), sl5⟩) (c5 : PySem.W.codeIn K cd5 "check_chain" = true) (k5 : PySem.W.keepIn K (.ref f5) = true)
    {f6 : Addr} {oc6 : Value} {od6 an6 : Option Addr} {sl6 : Array (Option Value)} {kV6 dc6 pm6 cd6 ct6 : Value}
    (a6 : PySem.W.nsIn K mainGlobals "lets" = some (some (.ref f6))) (l6 : K.lookup f6 = some ⟨oc6, od6, .func (PySem.W.fnOf "lets" "lets" (defArgs sLets) (defBody sLets) (defScope sLets) .none kV6 dc6 pm6 an6 cd6 ct6), sl6⟩) (c6 : PySem.W.codeIn K cd6 "lets" = true) (k6 : PySem.W.keepIn K (.ref f6) = true)
    {f7 : Addr} {oc7 : Value} {od7 an7 : Option Addr} {sl7 : Array (Option Value)} {kV7 dc7 pm7 cd7 ct7 : Value}
    (a7 : PySem.W.nsIn K mainGlobals "is_heap" = some (some (.ref f7))) (l7 : K.lookup f7 = some ⟨oc7, od7, .func (PySem.W.fnOf "is_heap" "is_heap" (defArgs sIsHeap) (defBody sIsHeap) (defScope sIsHeap) .none kV7 dc7 pm7 an7 cd7 ct7), sl7⟩) (c7 : PySem.W.codeIn K cd7 "is_heap" = true) (k7 : PySem.W.keepIn K (.ref f7) = true)
    {f8 : Addr} {oc8 : Value} {od8 an8 : Option Addr} {sl8 : Array (Option Value)} {kV8 dc8 pm8 cd8 ct8 : Value}
    (a8 : PySem.W.nsIn K mainGlobals "check_heap" = some (some (.ref f8))) (l8 : K.lookup f8 = some ⟨oc8, od8, .func (PySem.W.fnOf "check_heap" "check_heap" (defArgs sCheckHeap) (defBody sCheckHeap) (defScope sCheckHeap) .none kV8 dc8 pm8 an8 cd8 ct8), sl8⟩) (c8 : PySem.W.codeIn K cd8 "check_heap" = true) (k8 : PySem.W.keepIn K (.ref f8) = true)
    {f9 : Addr} {oc9 : Value} {od9 an9 : Option Addr} {sl9 : Array (Option Value)} {kV9 dc9 pm9 cd9 ct9 : Value}
    (a9 : PySem.W.nsIn K mainGlobals "height_at" = some (some (.ref f9))) (l9 : K.lookup f9 = some ⟨oc9, od9, .func (PySem.W.fnOf "height_at" "height_at" (defArgs sHeightAt) (defBody sHeightAt) (defScope sHeightAt) .none kV9 dc9 pm9 an9 cd9 ct9), sl9⟩) (c9 : PySem.W.codeIn K cd9 "height_at" = true) (k9 : PySem.W.keepIn K (.ref f9) = true)
    {f10 : Addr} {oc10 : Value} {od10 an10 : Option Addr} {sl10 : Array (Option Value)} {kV10 dc10 pm10 cd10 ct10 : Value}
    (a10 : PySem.W.nsIn K mainGlobals "holds" = some (some (.ref f10))) (l10 : K.lookup f10 = some ⟨oc10, od10, .func (PySem.W.fnOf "holds" "holds" (defArgs sHolds) (defBody sHolds) (defScope sHolds) .none kV10 dc10 pm10 an10 cd10 ct10), sl10⟩) (c10 : PySem.W.codeIn K cd10 "holds" = true) (k10 : PySem.W.keepIn K (.ref f10) = true)
    {f11 : Addr} {oc11 : Value} {od11 an11 : Option Addr} {sl11 : Array (Option Value)} {kV11 dc11 pm11 cd11 ct11 : Value}
    (a11 : PySem.W.nsIn K mainGlobals "open_columns" = some (some (.ref f11))) (l11 : K.lookup f11 = some ⟨oc11, od11, .func (PySem.W.fnOf "open_columns" "open_columns" (defArgs sOpenColumns) (defBody sOpenColumns) (defScope sOpenColumns) .none kV11 dc11 pm11 an11 cd11 ct11), sl11⟩) (c11 : PySem.W.codeIn K cd11 "open_columns" = true) (k11 : PySem.W.keepIn K (.ref f11) = true)
    {f12 : Addr} {oc12 : Value} {od12 an12 : Option Addr} {sl12 : Array (Option Value)} {kV12 dc12 pm12 cd12 ct12 : Value}
    (a12 : PySem.W.nsIn K mainGlobals "heaped" = some (some (.ref f12))) (l12 : K.lookup f12 = some ⟨oc12, od12, .func (PySem.W.fnOf "heaped" "heaped" (defArgs sHeaped) (defBody sHeaped) (defScope sHeaped) .none kV12 dc12 pm12 an12 cd12 ct12), sl12⟩) (c12 : PySem.W.codeIn K cd12 "heaped" = true) (k12 : PySem.W.keepIn K (.ref f12) = true)
    {f13 : Addr} {oc13 : Value} {od13 an13 : Option Addr} {sl13 : Array (Option Value)} {kV13 dc13 pm13 cd13 ct13 : Value}
    (a13 : PySem.W.nsIn K mainGlobals "grown_by" = some (some (.ref f13))) (l13 : K.lookup f13 = some ⟨oc13, od13, .func (PySem.W.fnOf "grown_by" "grown_by" (defArgs sGrownBy) (defBody sGrownBy) (defScope sGrownBy) .none kV13 dc13 pm13 an13 cd13 ct13), sl13⟩) (c13 : PySem.W.codeIn K cd13 "grown_by" = true) (k13 : PySem.W.keepIn K (.ref f13) = true)
    {f14 : Addr} {oc14 : Value} {od14 an14 : Option Addr} {sl14 : Array (Option Value)} {kV14 dc14 pm14 cd14 ct14 : Value}
    (a14 : PySem.W.nsIn K mainGlobals "check_filled" = some (some (.ref f14))) (l14 : K.lookup f14 = some ⟨oc14, od14, .func (PySem.W.fnOf "check_filled" "check_filled" (defArgs sCheckFilled) (defBody sCheckFilled) (defScope sCheckFilled) .none kV14 dc14 pm14 an14 cd14 ct14), sl14⟩) (c14 : PySem.W.codeIn K cd14 "check_filled" = true) (k14 : PySem.W.keepIn K (.ref f14) = true)
    {f15 : Addr} {oc15 : Value} {od15 an15 : Option Addr} {sl15 : Array (Option Value)} {kV15 dc15 pm15 cd15 ct15 : Value}
    (a15 : PySem.W.nsIn K mainGlobals "lies_boxed" = some (some (.ref f15))) (l15 : K.lookup f15 = some ⟨oc15, od15, .func (PySem.W.fnOf "lies_boxed" "lies_boxed" (defArgs sLiesBoxed) (defBody sLiesBoxed) (defScope sLiesBoxed) .none kV15 dc15 pm15 an15 cd15 ct15), sl15⟩) (c15 : PySem.W.codeIn K cd15 "lies_boxed" = true) (k15 : PySem.W.keepIn K (.ref f15) = true)
    {f16 : Addr} {oc16 : Value} {od16 an16 : Option Addr} {sl16 : Array (Option Value)} {kV16 dc16 pm16 cd16 ct16 : Value}
    (a16 : PySem.W.nsIn K mainGlobals "check_box" = some (some (.ref f16))) (l16 : K.lookup f16 = some ⟨oc16, od16, .func (PySem.W.fnOf "check_box" "check_box" (defArgs sCheckBox) (defBody sCheckBox) (defScope sCheckBox) .none kV16 dc16 pm16 an16 cd16 ct16), sl16⟩) (c16 : PySem.W.codeIn K cd16 "check_box" = true) (k16 : PySem.W.keepIn K (.ref f16) = true)
    {f17 : Addr} {oc17 : Value} {od17 an17 : Option Addr} {sl17 : Array (Option Value)} {kV17 dc17 pm17 cd17 ct17 : Value}
    (a17 : PySem.W.nsIn K mainGlobals "lies_in" = some (some (.ref f17))) (l17 : K.lookup f17 = some ⟨oc17, od17, .func (PySem.W.fnOf "lies_in" "lies_in" (defArgs sLiesIn) (defBody sLiesIn) (defScope sLiesIn) .none kV17 dc17 pm17 an17 cd17 ct17), sl17⟩) (c17 : PySem.W.codeIn K cd17 "lies_in" = true) (k17 : PySem.W.keepIn K (.ref f17) = true)
    {f18 : Addr} {oc18 : Value} {od18 an18 : Option Addr} {sl18 : Array (Option Value)} {kV18 dc18 pm18 cd18 ct18 : Value}
    (a18 : PySem.W.nsIn K mainGlobals "check_boxes" = some (some (.ref f18))) (l18 : K.lookup f18 = some ⟨oc18, od18, .func (PySem.W.fnOf "check_boxes" "check_boxes" (defArgs sCheckBoxes) (defBody sCheckBoxes) (defScope sCheckBoxes) .none kV18 dc18 pm18 an18 cd18 ct18), sl18⟩) (c18 : PySem.W.codeIn K cd18 "check_boxes" = true) (k18 : PySem.W.keepIn K (.ref f18) = true)
    {f19 : Addr} {oc19 : Value} {od19 an19 : Option Addr} {sl19 : Array (Option Value)} {kV19 dc19 pm19 cd19 ct19 : Value}
    (a19 : PySem.W.nsIn K mainGlobals "holds_box" = some (some (.ref f19))) (l19 : K.lookup f19 = some ⟨oc19, od19, .func (PySem.W.fnOf "holds_box" "holds_box" (defArgs sHoldsBox) (defBody sHoldsBox) (defScope sHoldsBox) .none kV19 dc19 pm19 an19 cd19 ct19), sl19⟩) (c19 : PySem.W.codeIn K cd19 "holds_box" = true) (k19 : PySem.W.keepIn K (.ref f19) = true)
    {f20 : Addr} {oc20 : Value} {od20 an20 : Option Addr} {sl20 : Array (Option Value)} {kV20 dc20 pm20 cd20 ct20 : Value}
    (a20 : PySem.W.nsIn K mainGlobals "grows_over" = some (some (.ref f20))) (l20 : K.lookup f20 = some ⟨oc20, od20, .func (PySem.W.fnOf "grows_over" "grows_over" (defArgs sGrowsOver) (defBody sGrowsOver) (defScope sGrowsOver) .none kV20 dc20 pm20 an20 cd20 ct20), sl20⟩) (c20 : PySem.W.codeIn K cd20 "grows_over" = true) (k20 : PySem.W.keepIn K (.ref f20) = true)
    {f21 : Addr} {oc21 : Value} {od21 an21 : Option Addr} {sl21 : Array (Option Value)} {kV21 dc21 pm21 cd21 ct21 : Value}
    (a21 : PySem.W.nsIn K mainGlobals "check_filler" = some (some (.ref f21))) (l21 : K.lookup f21 = some ⟨oc21, od21, .func (PySem.W.fnOf "check_filler" "check_filler" (defArgs sCheckFiller) (defBody sCheckFiller) (defScope sCheckFiller) .none kV21 dc21 pm21 an21 cd21 ct21), sl21⟩) (c21 : PySem.W.codeIn K cd21 "check_filler" = true) (k21 : PySem.W.keepIn K (.ref f21) = true)
    {f22 : Addr} {oc22 : Value} {od22 an22 : Option Addr} {sl22 : Array (Option Value)} {kV22 dc22 pm22 cd22 ct22 : Value}
    (a22 : PySem.W.nsIn K mainGlobals "does_fill" = some (some (.ref f22))) (l22 : K.lookup f22 = some ⟨oc22, od22, .func (PySem.W.fnOf "does_fill" "does_fill" (defArgs sDoesFill) (defBody sDoesFill) (defScope sDoesFill) .none kV22 dc22 pm22 an22 cd22 ct22), sl22⟩) (c22 : PySem.W.codeIn K cd22 "does_fill" = true) (k22 : PySem.W.keepIn K (.ref f22) = true)
    {f23 : Addr} {oc23 : Value} {od23 an23 : Option Addr} {sl23 : Array (Option Value)} {kV23 dc23 pm23 cd23 ct23 : Value}
    (a23 : PySem.W.nsIn K mainGlobals "left_out" = some (some (.ref f23))) (l23 : K.lookup f23 = some ⟨oc23, od23, .func (PySem.W.fnOf "left_out" "left_out" (defArgs sLeftOut) (defBody sLeftOut) (defScope sLeftOut) .none kV23 dc23 pm23 an23 cd23 ct23), sl23⟩) (c23 : PySem.W.codeIn K cd23 "left_out" = true) (k23 : PySem.W.keepIn K (.ref f23) = true)
    {f24 : Addr} {oc24 : Value} {od24 an24 : Option Addr} {sl24 : Array (Option Value)} {kV24 dc24 pm24 cd24 ct24 : Value}
    (a24 : PySem.W.nsIn K mainGlobals "_law_dice" = some (some (.ref f24))) (l24 : K.lookup f24 = some ⟨oc24, od24, .func (PySem.W.fnOf "_law_dice" "_law_dice" (defArgs sLDice) (defBody sLDice) (defScope sLDice) .none kV24 dc24 pm24 an24 cd24 ct24), sl24⟩) (c24 : PySem.W.codeIn K cd24 "_law_dice" = true) (k24 : PySem.W.keepIn K (.ref f24) = true)
    {f25 : Addr} {oc25 : Value} {od25 an25 : Option Addr} {sl25 : Array (Option Value)} {kV25 dc25 pm25 cd25 ct25 : Value}
    (a25 : PySem.W.nsIn K mainGlobals "_law_roll" = some (some (.ref f25))) (l25 : K.lookup f25 = some ⟨oc25, od25, .func (PySem.W.fnOf "_law_roll" "_law_roll" (defArgs sLRoll) (defBody sLRoll) (defScope sLRoll) .none kV25 dc25 pm25 an25 cd25 ct25), sl25⟩) (c25 : PySem.W.codeIn K cd25 "_law_roll" = true) (k25 : PySem.W.keepIn K (.ref f25) = true)
    {f26 : Addr} {oc26 : Value} {od26 an26 : Option Addr} {sl26 : Array (Option Value)} {kV26 dc26 pm26 cd26 ct26 : Value}
    (a26 : PySem.W.nsIn K mainGlobals "_law_one_of" = some (some (.ref f26))) (l26 : K.lookup f26 = some ⟨oc26, od26, .func (PySem.W.fnOf "_law_one_of" "_law_one_of" (defArgs sLOneOf) (defBody sLOneOf) (defScope sLOneOf) .none kV26 dc26 pm26 an26 cd26 ct26), sl26⟩) (c26 : PySem.W.codeIn K cd26 "_law_one_of" = true) (k26 : PySem.W.keepIn K (.ref f26) = true)
    {f27 : Addr} {oc27 : Value} {od27 an27 : Option Addr} {sl27 : Array (Option Value)} {kV27 dc27 pm27 cd27 ct27 : Value}
    (a27 : PySem.W.nsIn K mainGlobals "_law_common" = some (some (.ref f27))) (l27 : K.lookup f27 = some ⟨oc27, od27, .func (PySem.W.fnOf "_law_common" "_law_common" (defArgs sLCommon) (defBody sLCommon) (defScope sLCommon) .none kV27 dc27 pm27 an27 cd27 ct27), sl27⟩) (c27 : PySem.W.codeIn K cd27 "_law_common" = true) (k27 : PySem.W.keepIn K (.ref f27) = true)
    {f28 : Addr} {oc28 : Value} {od28 an28 : Option Addr} {sl28 : Array (Option Value)} {kV28 dc28 pm28 cd28 ct28 : Value}
    (a28 : PySem.W.nsIn K mainGlobals "_law_ring" = some (some (.ref f28))) (l28 : K.lookup f28 = some ⟨oc28, od28, .func (PySem.W.fnOf "_law_ring" "_law_ring" (defArgs sLRing) (defBody sLRing) (defScope sLRing) .none kV28 dc28 pm28 an28 cd28 ct28), sl28⟩) (c28 : PySem.W.codeIn K cd28 "_law_ring" = true) (k28 : PySem.W.keepIn K (.ref f28) = true)
    {f29 : Addr} {oc29 : Value} {od29 an29 : Option Addr} {sl29 : Array (Option Value)} {kV29 dc29 pm29 cd29 ct29 : Value}
    (a29 : PySem.W.nsIn K mainGlobals "_law_ring_of" = some (some (.ref f29))) (l29 : K.lookup f29 = some ⟨oc29, od29, .func (PySem.W.fnOf "_law_ring_of" "_law_ring_of" (defArgs sLRingOf) (defBody sLRingOf) (defScope sLRingOf) .none kV29 dc29 pm29 an29 cd29 ct29), sl29⟩) (c29 : PySem.W.codeIn K cd29 "_law_ring_of" = true) (k29 : PySem.W.keepIn K (.ref f29) = true)
    {f30 : Addr} {oc30 : Value} {od30 an30 : Option Addr} {sl30 : Array (Option Value)} {kV30 dc30 pm30 cd30 ct30 : Value}
    (a30 : PySem.W.nsIn K mainGlobals "_law_chain" = some (some (.ref f30))) (l30 : K.lookup f30 = some ⟨oc30, od30, .func (PySem.W.fnOf "_law_chain" "_law_chain" (defArgs sLChain) (defBody sLChain) (defScope sLChain) .none kV30 dc30 pm30 an30 cd30 ct30), sl30⟩) (c30 : PySem.W.codeIn K cd30 "_law_chain" = true) (k30 : PySem.W.keepIn K (.ref f30) = true)
    {f31 : Addr} {oc31 : Value} {od31 an31 : Option Addr} {sl31 : Array (Option Value)} {kV31 dc31 pm31 cd31 ct31 : Value}
    (a31 : PySem.W.nsIn K mainGlobals "_law_grown" = some (some (.ref f31))) (l31 : K.lookup f31 = some ⟨oc31, od31, .func (PySem.W.fnOf "_law_grown" "_law_grown" (defArgs sLGrown) (defBody sLGrown) (defScope sLGrown) .none kV31 dc31 pm31 an31 cd31 ct31), sl31⟩) (c31 : PySem.W.codeIn K cd31 "_law_grown" = true) (k31 : PySem.W.keepIn K (.ref f31) = true)
    {f32 : Addr} {oc32 : Value} {od32 an32 : Option Addr} {sl32 : Array (Option Value)} {kV32 dc32 pm32 cd32 ct32 : Value}
    (a32 : PySem.W.nsIn K mainGlobals "_law_heap" = some (some (.ref f32))) (l32 : K.lookup f32 = some ⟨oc32, od32, .func (PySem.W.fnOf "_law_heap" "_law_heap" (defArgs sLHeap) (defBody sLHeap) (defScope sLHeap) .none kV32 dc32 pm32 an32 cd32 ct32), sl32⟩) (c32 : PySem.W.codeIn K cd32 "_law_heap" = true) (k32 : PySem.W.keepIn K (.ref f32) = true)
    {f33 : Addr} {oc33 : Value} {od33 an33 : Option Addr} {sl33 : Array (Option Value)} {kV33 dc33 pm33 cd33 ct33 : Value}
    (a33 : PySem.W.nsIn K mainGlobals "_law_all_tuples" = some (some (.ref f33))) (l33 : K.lookup f33 = some ⟨oc33, od33, .func (PySem.W.fnOf "_law_all_tuples" "_law_all_tuples" (defArgs sLAllTuples) (defBody sLAllTuples) (defScope sLAllTuples) .none kV33 dc33 pm33 an33 cd33 ct33), sl33⟩) (c33 : PySem.W.codeIn K cd33 "_law_all_tuples" = true) (k33 : PySem.W.keepIn K (.ref f33) = true)
    {f34 : Addr} {oc34 : Value} {od34 an34 : Option Addr} {sl34 : Array (Option Value)} {kV34 dc34 pm34 cd34 ct34 : Value}
    (a34 : PySem.W.nsIn K mainGlobals "_law_holds" = some (some (.ref f34))) (l34 : K.lookup f34 = some ⟨oc34, od34, .func (PySem.W.fnOf "_law_holds" "_law_holds" (defArgs sLHolds) (defBody sLHolds) (defScope sLHolds) .none kV34 dc34 pm34 an34 cd34 ct34), sl34⟩) (c34 : PySem.W.codeIn K cd34 "_law_holds" = true) (k34 : PySem.W.keepIn K (.ref f34) = true)
    {f35 : Addr} {oc35 : Value} {od35 an35 : Option Addr} {sl35 : Array (Option Value)} {kV35 dc35 pm35 cd35 ct35 : Value}
    (a35 : PySem.W.nsIn K mainGlobals "_law_is_in" = some (some (.ref f35))) (l35 : K.lookup f35 = some ⟨oc35, od35, .func (PySem.W.fnOf "_law_is_in" "_law_is_in" (defArgs sLIsIn) (defBody sLIsIn) (defScope sLIsIn) .none kV35 dc35 pm35 an35 cd35 ct35), sl35⟩) (c35 : PySem.W.codeIn K cd35 "_law_is_in" = true) (k35 : PySem.W.keepIn K (.ref f35) = true)
    {f36 : Addr} {oc36 : Value} {od36 an36 : Option Addr} {sl36 : Array (Option Value)} {kV36 dc36 pm36 cd36 ct36 : Value}
    (a36 : PySem.W.nsIn K mainGlobals "_law_drawn_box" = some (some (.ref f36))) (l36 : K.lookup f36 = some ⟨oc36, od36, .func (PySem.W.fnOf "_law_drawn_box" "_law_drawn_box" (defArgs sLDrawnBox) (defBody sLDrawnBox) (defScope sLDrawnBox) .none kV36 dc36 pm36 an36 cd36 ct36), sl36⟩) (c36 : PySem.W.codeIn K cd36 "_law_drawn_box" = true) (k36 : PySem.W.keepIn K (.ref f36) = true)
    {f37 : Addr} {oc37 : Value} {od37 an37 : Option Addr} {sl37 : Array (Option Value)} {kV37 dc37 pm37 cd37 ct37 : Value}
    (a37 : PySem.W.nsIn K mainGlobals "_law_small_heap" = some (some (.ref f37))) (l37 : K.lookup f37 = some ⟨oc37, od37, .func (PySem.W.fnOf "_law_small_heap" "_law_small_heap" (defArgs sLSmallHeap) (defBody sLSmallHeap) (defScope sLSmallHeap) .none kV37 dc37 pm37 an37 cd37 ct37), sl37⟩) (c37 : PySem.W.codeIn K cd37 "_law_small_heap" = true) (k37 : PySem.W.keepIn K (.ref f37) = true)
    {f38 : Addr} {oc38 : Value} {od38 an38 : Option Addr} {sl38 : Array (Option Value)} {kV38 dc38 pm38 cd38 ct38 : Value}
    (a38 : PySem.W.nsIn K mainGlobals "_law_cut_heap" = some (some (.ref f38))) (l38 : K.lookup f38 = some ⟨oc38, od38, .func (PySem.W.fnOf "_law_cut_heap" "_law_cut_heap" (defArgs sLCutHeap) (defBody sLCutHeap) (defScope sLCutHeap) .none kV38 dc38 pm38 an38 cd38 ct38), sl38⟩) (c38 : PySem.W.codeIn K cd38 "_law_cut_heap" = true) (k38 : PySem.W.keepIn K (.ref f38) = true)
    {f39 : Addr} {oc39 : Value} {od39 an39 : Option Addr} {sl39 : Array (Option Value)} {kV39 dc39 pm39 cd39 ct39 : Value}
    (a39 : PySem.W.nsIn K mainGlobals "_law_some_heap" = some (some (.ref f39))) (l39 : K.lookup f39 = some ⟨oc39, od39, .func (PySem.W.fnOf "_law_some_heap" "_law_some_heap" (defArgs sLSomeHeap) (defBody sLSomeHeap) (defScope sLSomeHeap) .none kV39 dc39 pm39 an39 cd39 ct39), sl39⟩) (c39 : PySem.W.codeIn K cd39 "_law_some_heap" = true) (k39 : PySem.W.keepIn K (.ref f39) = true)
    {f40 : Addr} {oc40 : Value} {od40 an40 : Option Addr} {sl40 : Array (Option Value)} {kV40 dc40 pm40 cd40 ct40 : Value}
    (a40 : PySem.W.nsIn K mainGlobals "_law_box_right" = some (some (.ref f40))) (l40 : K.lookup f40 = some ⟨oc40, od40, .func (PySem.W.fnOf "_law_box_right" "_law_box_right" (defArgs sLBoxRight) (defBody sLBoxRight) (defScope sLBoxRight) .none kV40 dc40 pm40 an40 cd40 ct40), sl40⟩) (c40 : PySem.W.codeIn K cd40 "_law_box_right" = true) (k40 : PySem.W.keepIn K (.ref f40) = true)
    {f41 : Addr} {oc41 : Value} {od41 an41 : Option Addr} {sl41 : Array (Option Value)} {kV41 dc41 pm41 cd41 ct41 : Value}
    (a41 : PySem.W.nsIn K mainGlobals "law" = some (some (.ref f41))) (l41 : K.lookup f41 = some ⟨oc41, od41, .func (PySem.W.fnOf "law" "law" (defArgs sLaw) (defBody sLaw) (defScope sLaw) .none kV41 dc41 pm41 an41 cd41 ct41), sl41⟩) (c41 : PySem.W.codeIn K cd41 "law" = true) (k41 : PySem.W.keepIn K (.ref f41) = true) :
    ∃ fd : FuncData, (∀ (s : Shared) (v : Value), BindsTo s fd ⟨[v], []⟩ [("_law_script", v)]) ∧ ∀ base : Heap, K.In base → base.Ns mainGlobals mg → FnOk P w K mg base CX0 10 fa fd ["_law_script"] (spLaw K) := by
  have e := hfa.symm.trans (PySem.W.mg_of X G a41)
  cases e
  have T : Txt K mg :=
    { z_isinstance := PySem.W.mg_none_of X G z_isinstance, z_len := PySem.W.mg_none_of X G z_len, z_int := PySem.W.mg_none_of X G z_int, z_bool := PySem.W.mg_none_of X G z_bool, z_tuple := PySem.W.mg_none_of X G z_tuple, z_all := PySem.W.mg_none_of X G z_all, z_range := PySem.W.mg_none_of X G z_range, z_abs := PySem.W.mg_none_of X G z_abs, z_min := PySem.W.mg_none_of X G z_min, z_max := PySem.W.mg_none_of X G z_max, z_list := PySem.W.mg_none_of X G z_list, z_zip := PySem.W.mg_none_of X G z_zip, z_enumerate := PySem.W.mg_none_of X G z_enumerate, z_sum := PySem.W.mg_none_of X G z_sum, v_BOUND := vBOUND, v_RINGS := ⟨tRINGS, PySem.W.mg_of X G gRINGS⟩, v_PLACES := ⟨tPLACES, PySem.W.mg_of X G gPLACES⟩, v_SIDE := ⟨tSIDE, PySem.W.mg_of X G gSIDE⟩, v_SQ := ⟨tSQ, PySem.W.mg_of X G gSQ⟩,
      d_is_integer := mk_def (ps := ["value"]) X G a0 l0 c0 k0 fun _ _ _ _ _ _ us hl => match us, hl with | [_], _ => rfl,
      d_is_between := mk_def (ps := ["value", "low", "high"]) X G a1 l1 c1 k1 fun _ _ _ _ _ _ us hl => match us, hl with | [_, _, _], _ => rfl,
      d_is_pair := mk_def (ps := ["value"]) X G a2 l2 c2 k2 fun _ _ _ _ _ _ us hl => match us, hl with | [_], _ => rfl,
      d_is_ring := mk_def (ps := ["value"]) X G a3 l3 c3 k3 fun _ _ _ _ _ _ us hl => match us, hl with | [_], _ => rfl,
      d_is_chain := mk_def (ps := ["value"]) X G a4 l4 c4 k4 fun _ _ _ _ _ _ us hl => match us, hl with | [_], _ => rfl,
      d_check_chain := mk_def (ps := ["chain"]) X G a5 l5 c5 k5 fun _ _ _ _ _ _ us hl => match us, hl with | [_], _ => rfl,
      d_lets := mk_def (ps := ["ring", "place", "diagonal"]) X G a6 l6 c6 k6 fun _ _ _ _ _ _ us hl => match us, hl with | [_, _, _], _ => rfl,
      d_is_heap := mk_def (ps := ["value"]) X G a7 l7 c7 k7 fun _ _ _ _ _ _ us hl => match us, hl with | [_], _ => rfl,
      d_check_heap := mk_def (ps := ["heap"]) X G a8 l8 c8 k8 fun _ _ _ _ _ _ us hl => match us, hl with | [_], _ => rfl,
      d_height_at := mk_def (ps := ["heap", "column"]) X G a9 l9 c9 k9 fun _ _ _ _ _ _ us hl => match us, hl with | [_, _], _ => rfl,
      d_holds := mk_def (ps := ["heap", "other"]) X G a10 l10 c10 k10 fun _ _ _ _ _ _ us hl => match us, hl with | [_, _], _ => rfl,
      d_open_columns := mk_def (ps := ["heap"]) X G a11 l11 c11 k11 fun _ _ _ _ _ _ us hl => match us, hl with | [_], _ => rfl,
      d_heaped := mk_def (ps := ["heap", "columns"]) X G a12 l12 c12 k12 fun _ _ _ _ _ _ us hl => match us, hl with | [_, _], _ => rfl,
      d_grown_by := mk_def (ps := ["heap", "ring", "place"]) X G a13 l13 c13 k13 fun _ _ _ _ _ _ us hl => match us, hl with | [_, _, _], _ => rfl,
      d_check_filled := mk_def (ps := ["chain", "heap"]) X G a14 l14 c14 k14 fun _ _ _ _ _ _ us hl => match us, hl with | [_, _], _ => rfl,
      d_lies_boxed := mk_def (ps := ["chain", "value"]) X G a15 l15 c15 k15 fun _ _ _ _ _ _ us hl => match us, hl with | [_, _], _ => rfl,
      d_check_box := mk_def (ps := ["chain", "box"]) X G a16 l16 c16 k16 fun _ _ _ _ _ _ us hl => match us, hl with | [_, _], _ => rfl,
      d_lies_in := mk_def (ps := ["box", "places"]) X G a17 l17 c17 k17 fun _ _ _ _ _ _ us hl => match us, hl with | [_, _], _ => rfl,
      d_check_boxes := mk_def (ps := ["chain", "one", "other"]) X G a18 l18 c18 k18 fun _ _ _ _ _ _ us hl => match us, hl with | [_, _, _], _ => rfl,
      d_holds_box := mk_def (ps := ["chain", "one", "other"]) X G a19 l19 c19 k19 fun _ _ _ _ _ _ us hl => match us, hl with | [_, _, _], _ => rfl,
      d_grows_over := mk_def (ps := ["chain", "heap", "box"]) X G a20 l20 c20 k20 fun _ _ _ _ _ _ us hl => match us, hl with | [_, _, _], _ => rfl,
      d_check_filler := mk_def (ps := ["chain", "heap", "box"]) X G a21 l21 c21 k21 fun _ _ _ _ _ _ us hl => match us, hl with | [_, _, _], _ => rfl,
      d_does_fill := mk_def (ps := ["chain", "heap", "box"]) X G a22 l22 c22 k22 fun _ _ _ _ _ _ us hl => match us, hl with | [_, _, _], _ => rfl,
      d_left_out := mk_def (ps := ["chain", "heap", "box"]) X G a23 l23 c23 k23 fun _ _ _ _ _ _ us hl => match us, hl with | [_, _, _], _ => rfl,
      d_l_dice := mk_def (ps := ["_law_script", "_law_at"]) X G a24 l24 c24 k24 fun _ _ _ _ _ _ us hl => match us, hl with | [_, _], _ => rfl,
      d_l_roll := mk_def (ps := ["_law_dice_here", "_law_total"]) X G a25 l25 c25 k25 fun _ _ _ _ _ _ us hl => match us, hl with | [_, _], _ => rfl,
      d_l_one_of := mk_def (ps := ["_law_dice_here", "_law_items"]) X G a26 l26 c26 k26 fun _ _ _ _ _ _ us hl => match us, hl with | [_, _], _ => rfl,
      d_l_common := mk_def (ps := ["_law_one", "_law_other"]) X G a27 l27 c27 k27 fun _ _ _ _ _ _ us hl => match us, hl with | [_, _], _ => rfl,
      d_l_ring := mk_def (ps := ["_law_dice_here", "_law_most"]) X G a28 l28 c28 k28 fun _ _ _ _ _ _ us hl => match us, hl with | [_, _], _ => rfl,
      d_l_ring_of := mk_def (ps := ["_law_dice_here", "_law_k", "_law_times"]) X G a29 l29 c29 k29 fun _ _ _ _ _ _ us hl => match us, hl with | [_, _, _], _ => rfl,
      d_l_chain := mk_def (ps := ["_law_dice_here", "_law_rings", "_law_most"]) X G a30 l30 c30 k30 fun _ _ _ _ _ _ us hl => match us, hl with | [_, _, _], _ => rfl,
      d_l_grown := mk_def (ps := ["_law_heap_here", "_law_ring_here", "_law_x"]) X G a31 l31 c31 k31 fun _ _ _ _ _ _ us hl => match us, hl with | [_, _, _], _ => rfl,
      d_l_heap := mk_def (ps := ["_law_chain_here", "_law_x"]) X G a32 l32 c32 k32 fun _ _ _ _ _ _ us hl => match us, hl with | [_, _], _ => rfl,
      d_l_all_tuples := mk_def (ps := ["_law_chain_here"]) X G a33 l33 c33 k33 fun _ _ _ _ _ _ us hl => match us, hl with | [_], _ => rfl,
      d_l_holds := mk_def (ps := ["_law_heap_here", "_law_other"]) X G a34 l34 c34 k34 fun _ _ _ _ _ _ us hl => match us, hl with | [_, _], _ => rfl,
      d_l_is_in := mk_def (ps := ["_law_box_told", "_law_x"]) X G a35 l35 c35 k35 fun _ _ _ _ _ _ us hl => match us, hl with | [_, _], _ => rfl,
      d_l_drawn_box := mk_def (ps := ["_law_dice_here", "_law_chain_here"]) X G a36 l36 c36 k36 fun _ _ _ _ _ _ us hl => match us, hl with | [_, _], _ => rfl,
      d_l_small_heap := mk_def (ps := ["_law_dice_here", "_law_squares_most"]) X G a37 l37 c37 k37 fun _ _ _ _ _ _ us hl => match us, hl with | [_, _], _ => rfl,
      d_l_cut_heap := mk_def (ps := ["_law_dice_here", "_law_heap_here"]) X G a38 l38 c38 k38 fun _ _ _ _ _ _ us hl => match us, hl with | [_, _], _ => rfl,
      d_l_some_heap := mk_def (ps := ["_law_dice_here", "_law_chain_here", "_law_rows"]) X G a39 l39 c39 k39 fun _ _ _ _ _ _ us hl => match us, hl with | [_, _, _], _ => rfl,
      d_l_box_right := mk_def (ps := ["_law_chain_here", "_law_heap_here", "_law_box_told", "_law_rows"]) X G a40 l40 c40 k40 fun _ _ _ _ _ _ us hl => match us, hl with | [_, _, _, _], _ => rfl }
  have F := fun_mk (st := sLaw) l41 c41 k41
  exact ⟨PySem.W.fnOf "law" "law" (defArgs sLaw) (defBody sLaw) (defScope sLaw) .none kV41 dc41 pm41 an41 cd41 ct41, fun s v => .of_eq rfl, fun base _ _ => ok_law T F⟩
/-- the end of the law's row, what the loose names hold told -/
theorem walk_x {l : PySem.W.OpenLaw} {k : Nat} {q : Program} {loose : List Str} {lv : List (Str × PySem.W.WData)} {YP : World → Heap → Prop} {d : DefRec} {K : Params → PySem.W.Frag}
    (hn : l.most = some 63) (hdf : d.params.defaults = []) (hr : Room k callerA) (hY : ∀ (w : World) (h : Heap), YP w h → (K w.params).In h)
    (F : ∀ (w : World) (mg : Str → Option Value) (fa : Addr) (h : Heap), (K w.params).In h → h.Ns mainGlobals mg → PySem.W.XL q lv mg h → mg d.name = some (.ref fa) →
      ∃ fd : FuncData, (∀ (s : Shared) (u : Value), BindsTo s fd ⟨[u], []⟩ [("_law_script", u)]) ∧
        ∀ base : Heap, (K w.params).In base → base.Ns mainGlobals mg → FnOk l.prog w (K w.params) mg base CX0 k fa fd ["_law_script"] (spLaw (K w.params))) :
    PySem.W.WalkO q loose (PySem.W.XL q lv) YP l.row.toRowW d [] (fun f vs => PySem.call f vs) := by
  refine Att.attach_call hn hdf fun w s₀ s₁ mg mb fa o pm cd doc a vs ns G Y ho hd hcd hmg hobj hints hlen hg => ?_
  obtain ⟨fd, hb, hF⟩ := F w mg fa _ (hY w _ Y) G.T.g G.X hmg
  exact law_call (hY w _ Y) G.T.g G.T.b G.T.builtins G.T.nolimit hg hobj hints (Nat.le_trans hlen (by decide)) hr hF hb (fun H _ hS => ⟨a, ns, rfl, hS, hlen, fun _ => rfl⟩) fun H e s' z => z
end K1

open PySem PySem.W PyProof.Rows
set_option maxHeartbeats 0 in
theorem PySem.Challenge.cw_ringstairs_k51_whole_boxes_that_fill_a_h_holds : PySem.Challenge.rw_ringstairs_k51_whole_boxes_that_fill_a_h.Holds := by
  w_on; o_law; k_head; (case hw => w_witness2)
  k_fill
  refine K1.walk_x (k := 10) rfl rfl ⟨rfl, by decide, by decide⟩ (fun w h Y => PySem.W.kIn_of Y) ?F
  case F =>
    intro w mg fa h KX G XF hmg
    have vBOUND : ∃ t, mg "BOUND" = some (.int (10 ^ 60) t) := by
      obtain ⟨v, e1, e2⟩ := XF.2.val _ (List.mem_cons_self ..)
      cases e2
      exact ⟨_, e1⟩
    refine' K1.all_mk KX G hmg vBOUND ?gRINGS ?gPLACES ?gSIDE ?gSQ ?z_isinstance ?z_len ?z_int ?z_bool ?z_tuple ?z_all ?z_range ?z_abs ?z_min ?z_max ?z_list ?z_zip ?z_enumerate ?z_sum ?a0 ?l0 ?c0 ?k0 ?a1 ?l1 ?c1 ?k1 ?a2 ?l2 ?c2 ?k2 ?a3 ?l3 ?c3 ?k3 ?a4 ?l4 ?c4 ?k4 ?a5 ?l5 ?c5 ?k5 ?a6 ?l6 ?c6 ?k6 ?a7 ?l7 ?c7 ?k7 ?a8 ?l8 ?c8 ?k8 ?a9 ?l9 ?c9 ?k9 ?a10 ?l10 ?c10 ?k10 ?a11 ?l11 ?c11 ?k11 ?a12 ?l12 ?c12 ?k12 ?a13 ?l13 ?c13 ?k13 ?a14 ?l14 ?c14 ?k14 ?a15 ?l15 ?c15 ?k15 ?a16 ?l16 ?c16 ?k16 ?a17 ?l17 ?c17 ?k17 ?a18 ?l18 ?c18 ?k18 ?a19 ?l19 ?c19 ?k19 ?a20 ?l20 ?c20 ?k20 ?a21 ?l21 ?c21 ?k21 ?a22 ?l22 ?c22 ?k22 ?a23 ?l23 ?c23 ?k23 ?a24 ?l24 ?c24 ?k24 ?a25 ?l25 ?c25 ?k25 ?a26 ?l26 ?c26 ?k26 ?a27 ?l27 ?c27 ?k27 ?a28 ?l28 ?c28 ?k28 ?a29 ?l29 ?c29 ?k29 ?a30 ?l30 ?c30 ?k30 ?a31 ?l31 ?c31 ?k31 ?a32 ?l32 ?c32 ?k32 ?a33 ?l33 ?c33 ?k33 ?a34 ?l34 ?c34 ?k34 ?a35 ?l35 ?c35 ?k35 ?a36 ?l36 ?c36 ?k36 ?a37 ?l37 ?c37 ?k37 ?a38 ?l38 ?c38 ?k38 ?a39 ?l39 ?c39 ?k39 ?a40 ?l40 ?c40 ?k40 ?a41 ?l41 ?c41 ?k41
    (case gRINGS => k_is); (case gPLACES => k_is); (case gSIDE => k_is); (case gSQ => k_is); (case z_isinstance => k_is); (case z_len => k_is); (case z_int => k_is); (case z_bool => k_is)
    (case z_tuple => k_is); (case z_all => k_is); (case z_range => k_is); (case z_abs => k_is); (case z_min => k_is); (case z_max => k_is); (case z_list => k_is); (case z_zip => k_is)
    (case z_enumerate => k_is); (case z_sum => k_is); (case a0 => k_is); (case l0 => k_is); (case c0 => k_is); (case k0 => k_is); (case a1 => k_is); (case l1 => k_is)
    (case c1 => k_is); (case k1 => k_is); (case a2 => k_is); (case l2 => k_is); (case c2 => k_is); (case k2 => k_is); (case a3 => k_is); (case l3 => k_is)
    (case c3 => k_is); (case k3 => k_is); (case a4 => k_is); (case l4 => k_is); (case c4 => k_is); (case k4 => k_is); (case a5 => k_is); (case l5 => k_is)
    (case c5 => k_is); (case k5 => k_is); (case a6 => k_is); (case l6 => k_is); (case c6 => k_is); (case k6 => k_is); (case a7 => k_is); (case l7 => k_is)
    (case c7 => k_is); (case k7 => k_is); (case a8 => k_is); (case l8 => k_is); (case c8 => k_is); (case k8 => k_is); (case a9 => k_is); (case l9 => k_is)
    (case c9 => k_is); (case k9 => k_is); (case a10 => k_is); (case l10 => k_is); (case c10 => k_is); (case k10 => k_is); (case a11 => k_is); (case l11 => k_is)
    (case c11 => k_is); (case k11 => k_is); (case a12 => k_is); (case l12 => k_is); (case c12 => k_is); (case k12 => k_is); (case a13 => k_is); (case l13 => k_is)
    (case c13 => k_is); (case k13 => k_is); (case a14 => k_is); (case l14 => k_is); (case c14 => k_is); (case k14 => k_is); (case a15 => k_is); (case l15 => k_is)
    (case c15 => k_is); (case k15 => k_is); (case a16 => k_is); (case l16 => k_is); (case c16 => k_is); (case k16 => k_is); (case a17 => k_is); (case l17 => k_is)
    (case c17 => k_is); (case k17 => k_is); (case a18 => k_is); (case l18 => k_is); (case c18 => k_is); (case k18 => k_is); (case a19 => k_is); (case l19 => k_is)
    (case c19 => k_is); (case k19 => k_is); (case a20 => k_is); (case l20 => k_is); (case c20 => k_is); (case k20 => k_is); (case a21 => k_is); (case l21 => k_is)
    (case c21 => k_is); (case k21 => k_is); (case a22 => k_is); (case l22 => k_is); (case c22 => k_is); (case k22 => k_is); (case a23 => k_is); (case l23 => k_is)
    (case c23 => k_is); (case k23 => k_is); (case a24 => k_is); (case l24 => k_is); (case c24 => k_is); (case k24 => k_is); (case a25 => k_is); (case l25 => k_is)
    (case c25 => k_is); (case k25 => k_is); (case a26 => k_is); (case l26 => k_is); (case c26 => k_is); (case k26 => k_is); (case a27 => k_is); (case l27 => k_is)
    (case c27 => k_is); (case k27 => k_is); (case a28 => k_is); (case l28 => k_is); (case c28 => k_is); (case k28 => k_is); (case a29 => k_is); (case l29 => k_is)
    (case c29 => k_is); (case k29 => k_is); (case a30 => k_is); (case l30 => k_is); (case c30 => k_is); (case k30 => k_is); (case a31 => k_is); (case l31 => k_is)
    (case c31 => k_is); (case k31 => k_is); (case a32 => k_is); (case l32 => k_is); (case c32 => k_is); (case k32 => k_is); (case a33 => k_is); (case l33 => k_is)
    (case c33 => k_is); (case k33 => k_is); (case a34 => k_is); (case l34 => k_is); (case c34 => k_is); (case k34 => k_is); (case a35 => k_is); (case l35 => k_is)
    (case c35 => k_is); (case k35 => k_is); (case a36 => k_is); (case l36 => k_is); (case c36 => k_is); (case k36 => k_is); (case a37 => k_is); (case l37 => k_is)
    (case c37 => k_is); (case k37 => k_is); (case a38 => k_is); (case l38 => k_is); (case c38 => k_is); (case k38 => k_is); (case a39 => k_is); (case l39 => k_is)
    (case c39 => k_is); (case k39 => k_is); (case a40 => k_is); (case l40 => k_is); (case c40 => k_is); (case k40 => k_is); (case a41 => k_is); (case l41 => k_is)
    (case c41 => k_is); (case k41 => k_is)

