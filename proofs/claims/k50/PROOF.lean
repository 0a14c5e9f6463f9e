import PyProof.Rows.All
import Wide.All
import OpenK.AllK
import Wide.FinOn
import HandS.ForMost
import KE.GoesEnum
import PySem.Challenge.RW_ringstairs_k50_whole_boxes_by_their_tupl
import HandS.ForExc
import HandS.Wide
import HandS.SortInts
import HandS.Zip
import HandS.Style
import HandS.Rev
import HandS.TupMul
import HandS.IsInst
import HandS.Evl
import HandS.Walk
import HandS.TupAny
import HandS.Deep
set_option Elab.async false
set_option linter.all false
set_option maxRecDepth 100000
set_option maxHeartbeats 4000000
/-! plain mathematics for the orders and the diagonals -/
namespace K1M
/-- the step: the i-th place on the way from the right door by the left door -/
theorem dvd_iff {n s i : Nat} (hn : 0 < n) : (i * s) % n = 0 ↔ (n / Nat.gcd n s) ∣ i := by
  have hg : 0 < Nat.gcd n s := Nat.gcd_pos_of_pos_left _ hn
  have hc : Nat.Coprime (n / Nat.gcd n s) (s / Nat.gcd n s) := Nat.coprime_div_gcd_div_gcd hg
  have hn' : n = Nat.gcd n s * (n / Nat.gcd n s) := (Nat.mul_div_cancel' (Nat.gcd_dvd_left n s)).symm
  have hs' : s = Nat.gcd n s * (s / Nat.gcd n s) := (Nat.mul_div_cancel' (Nat.gcd_dvd_right n s)).symm
  constructor
  · intro h
    have d : n ∣ i * s := Nat.dvd_of_mod_eq_zero h
    have d2 : Nat.gcd n s * (n / Nat.gcd n s) ∣ Nat.gcd n s * (i * (s / Nat.gcd n s)) := by
      rw [← hn']
      have e : Nat.gcd n s * (i * (s / Nat.gcd n s)) = i * s := by
        rw [Nat.mul_left_comm, ← hs']
      rw [e]
      exact d
    have d3 := Nat.dvd_of_mul_dvd_mul_left hg d2
    exact hc.dvd_of_dvd_mul_right d3
  · rintro ⟨c, rfl⟩
    apply Nat.mod_eq_zero_of_dvd
    refine ⟨c * (s / Nat.gcd n s), ?_⟩
    have e : n / Nat.gcd n s * c * s = n / Nat.gcd n s * c * (Nat.gcd n s * (s / Nat.gcd n s)) := by rw [← hs']
    rw [e]
    have e2 : n * (c * (s / Nat.gcd n s)) = Nat.gcd n s * (n / Nat.gcd n s) * (c * (s / Nat.gcd n s)) := by rw [← hn']
    rw [e2]
    simp only [Nat.mul_assoc, Nat.mul_left_comm, Nat.mul_comm]
def ord (n s : Nat) : Nat := n / Nat.gcd n s
theorem ord_pos {n s : Nat} (hn : 0 < n) : 0 < ord n s := Nat.div_pos (Nat.gcd_le_left s hn) (Nat.gcd_pos_of_pos_left _ hn)
theorem ord_le {n s : Nat} : ord n s ≤ n := Nat.div_le_self _ _
theorem ord_ge2 {n s : Nat} (h1 : 1 ≤ s) (h2 : s < n) : 2 ≤ ord n s := by
  have hn : 0 < n := by omega
  have hg : 0 < Nat.gcd n s := Nat.gcd_pos_of_pos_left _ hn
  have hle : Nat.gcd n s ≤ s := Nat.le_of_dvd h1 (Nat.gcd_dvd_right n s)
  have hn' : n = Nat.gcd n s * ord n s := (Nat.mul_div_cancel' (Nat.gcd_dvd_left n s)).symm
  rcases Nat.lt_or_ge (ord n s) 2 with h | h
  · exfalso
    have hp := ord_pos (s := s) hn
    have e1 : ord n s = 1 := by omega
    rw [e1, Nat.mul_one] at hn'
    omega
  · exact h
/-- the way: while the next is not 0 and there are fewer than n -/
def stp (n s i : Nat) : Nat := (i * s) % n
theorem stp_zero_iff {n s i : Nat} (hn : 0 < n) : stp n s i = 0 ↔ ord n s ∣ i := dvd_iff hn
theorem stp_mod {n s i : Nat} (hn : 0 < n) : stp n s (i % ord n s) = stp n s i := by
  have h0 : (ord n s * s) % n = 0 := (stp_zero_iff (i := ord n s) hn).mpr (Nat.dvd_refl _)
  have e : i = ord n s * (i / ord n s) + i % ord n s := (Nat.div_add_mod i (ord n s)).symm
  have e2 : i * s = (i / ord n s) * (ord n s * s) + (i % ord n s) * s := by
    have : (ord n s * (i / ord n s) + i % ord n s) * s = (i / ord n s) * (ord n s * s) + (i % ord n s) * s := by
      rw [Nat.add_mul]
      congr 1
      simp only [Nat.mul_assoc, Nat.mul_left_comm, Nat.mul_comm]
    rw [← this, ← e]
  obtain ⟨q, hq⟩ := Nat.dvd_of_mod_eq_zero h0
  unfold stp
  rw [e2, hq, Nat.mul_left_comm, Nat.add_comm, Nat.add_mul_mod_self_left]
/-- the same for integers: the diagonal's place -/
theorem istp {n s : Nat} (hn : 0 < n) (c : Int) : (c * (s : Int)) % (n : Int) = ((stp n s (c % (ord n s : Int)).toNat : Nat) : Int) := by
  have hm : 0 < ord n s := ord_pos hn
  have hm' : (0 : Int) < (ord n s : Int) := by exact_mod_cast hm
  have hr0 : 0 ≤ c % (ord n s : Int) := Int.emod_nonneg _ (by omega)
  have h0 : ((ord n s : Int) * (s : Int)) % (n : Int) = 0 := by
    have h0 : (ord n s * s) % n = 0 := (stp_zero_iff (i := ord n s) hn).mpr (Nat.dvd_refl _)
    have := congrArg (fun x : Nat => (x : Int)) h0
    simpa using this
  have e : c = (ord n s : Int) * (c / (ord n s : Int)) + c % (ord n s : Int) := (Int.mul_ediv_add_emod c (ord n s : Int)).symm
  have e2 : c * (s : Int) = (c / (ord n s : Int)) * ((ord n s : Int) * (s : Int)) + (c % (ord n s : Int)) * (s : Int) := by
    have : ((ord n s : Int) * (c / (ord n s : Int)) + c % (ord n s : Int)) * (s : Int) = (c / (ord n s : Int)) * ((ord n s : Int) * (s : Int)) + (c % (ord n s : Int)) * (s : Int) := by
      rw [Int.add_mul]
      congr 1
      rw [Int.mul_assoc, Int.mul_left_comm]
    rw [← this, ← e]
  rw [e2, Int.add_emod, Int.mul_emod, h0, Int.mul_zero, Int.zero_emod, Int.zero_add, Int.emod_emod]
  unfold stp
  have e3 : c % (ord n s : Int) = (((c % (ord n s : Int)).toNat : Nat) : Int) := (Int.toNat_of_nonneg hr0).symm
  conv => lhs; rw [e3]
  simp
/-- does_let tells just the place -/
theorem lets_iff {n : Nat} {x p : Int} (hn : 0 < n) (h0 : 0 ≤ p) (h1 : p < n) : (x - p) % (n : Int) = 0 ↔ x % (n : Int) = p := by
  have hn' : (0 : Int) < n := by exact_mod_cast hn
  constructor
  · intro h
    have e := Int.emod_emod_of_dvd x (Int.dvd_refl (n : Int))
    have h2 : x = (n : Int) * ((x - p) / n) + p := by
      have := Int.mul_ediv_add_emod (x - p) n
      omega
    rw [h2, Int.add_comm, Int.add_mul_emod_self_left]
    exact Int.emod_eq_of_lt h0 h1
  · intro h
    have h2 := Int.mul_ediv_add_emod x n
    have h3 : x - p = (n : Int) * (x / n) := by omega
    rw [h3, Int.mul_emod_right]
/-- the stop of the loop is the order -/
theorem stop_is {n s k : Nat} (hn : 0 < n) (hk : 1 ≤ k) (hkn : k ≤ n) (hlow : ∀ i, 0 < i → i < k → stp n s i ≠ 0) (hstop : stp n s k = 0 ∨ k = n) : k = ord n s := by
  have hm := ord_pos (s := s) hn
  have hmn : ord n s ≤ n := ord_le
  have h1 : k ≤ ord n s := by
    rcases Nat.lt_or_ge (ord n s) k with h | h
    · exact absurd ((stp_zero_iff hn).mpr (Nat.dvd_refl _)) (hlow _ hm h)
    · exact h
  rcases hstop with h | h
  · have d := (stp_zero_iff hn).mp h
    have := Nat.le_of_dvd hk d
    omega
  · omega
end K1M

/-! plain mathematics for the written names -/
namespace K1N
def nAt (rs : List (Int × Int)) (j : Nat) : Nat := (rs.getD j (0, 0)).1.toNat
def sAt (rs : List (Int × Int)) (j : Nat) : Int := (rs.getD j (0, 0)).2
def row (j n : Nat) : List (Int × Int) := (List.range n).map fun (q : Nat) => ((j : Int), (q : Int))
def pre (rs : List (Int × Int)) : Nat → List (Int × Int)
  | 0 => []
  | i + 1 => pre rs i ++ row i (nAt rs i)
/-- a place that is its own written name -/
def own (rs : List (Int × Int)) (p : Int × Int) : Bool := !(decide (0 < p.1) && decide (p.2 = sAt rs p.1.toNat))
def names (rs : List (Int × Int)) : List (Int × Int) := (pre rs rs.length).filter (own rs)
def sumTo (rs : List (Int × Int)) : Nat → Nat
  | 0 => 0
  | i + 1 => sumTo rs i + nAt rs i
theorem row_succ (j n : Nat) : row j (n + 1) = row j n ++ [((j : Int), (n : Int))] := by
  unfold row
  rw [List.range_succ, List.map_append]
  rfl
theorem row_len (j n : Nat) : (row j n).length = n := by
  unfold row
  rw [List.length_map, List.length_range]
theorem pre_len {rs : List (Int × Int)} (h : ∀ j, nAt rs j ≤ 60) : ∀ i, (pre rs i).length ≤ 60 * i
  | 0 => Nat.le_refl _
  | i + 1 => by
    show (pre rs i ++ row i (nAt rs i)).length ≤ 60 * (i + 1)
    rw [List.length_append, row_len]
    have := pre_len h i
    have := h i
    omega
theorem row0 (rs : List (Int × Int)) : ∀ n, ((row 0 n).filter (own rs)).length = n
  | 0 => rfl
  | n + 1 => by
    rw [row_succ, List.filter_append, List.length_append, row0 rs n]
    have : own rs (((0 : Nat) : Int), (n : Int)) = true := rfl
    rw [List.filter_cons, if_pos this]
    rfl
theorem rowS (rs : List (Int × Int)) (j : Nat) (s : Nat) (hs : sAt rs (j + 1) = (s : Int)) : ∀ n, ((row (j + 1) n).filter (own rs)).length = if s < n then n - 1 else n
  | 0 => rfl
  | n + 1 => by
    rw [row_succ, List.filter_append, List.length_append, rowS rs j s hs n]
    by_cases c : n = s
    · have e : own rs (((j + 1 : Nat) : Int), (n : Int)) = false := by
        unfold own
        rw [show (((j + 1 : Nat) : Int)).toNat = j + 1 by omega, hs, decide_eq_true (show (0 : Int) < ((j + 1 : Nat) : Int) by omega), decide_eq_true (show (n : Int) = (s : Int) by omega)]
        rfl
      have e2 : [(((j + 1 : Nat) : Int), (n : Int))].filter (own rs) = [] := by
        rw [List.filter_cons, if_neg (show ¬ own rs (((j + 1 : Nat) : Int), (n : Int)) = true by rw [e]; decide)]
        rfl
      rw [e2, if_neg (show ¬ s < n by omega), if_pos (show s < n + 1 by omega)]
      show n + 0 = n + 1 - 1
      omega
    · have e : own rs (((j + 1 : Nat) : Int), (n : Int)) = true := by
        unfold own
        rw [show (((j + 1 : Nat) : Int)).toNat = j + 1 by omega, hs, decide_eq_false (show ¬ (n : Int) = (s : Int) by omega), Bool.and_false]
        rfl
      rw [List.filter_cons, if_pos e]
      show (if s < n then n - 1 else n) + 1 = _
      by_cases c2 : s < n
      · rw [if_pos c2, if_pos (by omega)]
        omega
      · rw [if_neg c2, if_neg (by omega)]
/-- how many written names -/
theorem count_to {rs : List (Int × Int)} (h : ∀ j, j < rs.length → 1 ≤ sAt rs j ∧ sAt rs j < (nAt rs j : Int)) : ∀ i, 1 ≤ i → i ≤ rs.length → ((pre rs i).filter (own rs)).length + i = sumTo rs i + 1
  | 0, z, _ => absurd z (by decide)
  | 1, _, h1 => by
    show (([] ++ row 0 (nAt rs 0)).filter (own rs)).length + 1 = 0 + nAt rs 0 + 1
    rw [List.nil_append, row0]
    omega
  | i + 2, _, h1 => by
    have ih := count_to h (i + 1) (by omega) (by omega)
    have hs := h (i + 1) (by omega)
    have hr := rowS rs i (sAt rs (i + 1)).toNat (by omega) (nAt rs (i + 1))
    rw [if_pos (by omega)] at hr
    show ((pre rs (i + 1) ++ row (i + 1) (nAt rs (i + 1))).filter (own rs)).length + (i + 2) = sumTo rs (i + 1) + nAt rs (i + 1) + 1
    rw [List.filter_append, List.length_append, hr]
    omega
theorem nAt_left {a b : List (Int × Int)} {j : Nat} (h : j < a.length) : nAt (a ++ b) j = nAt a j := by
  unfold nAt
  rw [List.getD_eq_getElem?_getD, List.getD_eq_getElem?_getD, List.getElem?_append_left h]
theorem nAt_right {a b : List (Int × Int)} {j : Nat} : nAt (a ++ b) (a.length + j) = nAt b j := by
  unfold nAt
  rw [List.getD_eq_getElem?_getD, List.getD_eq_getElem?_getD, List.getElem?_append_right (by omega), Nat.add_sub_cancel_left]
theorem sum_left {a b : List (Int × Int)} : ∀ i, i ≤ a.length → sumTo (a ++ b) i = sumTo a i
  | 0, _ => rfl
  | i + 1, h => by
    show sumTo (a ++ b) i + nAt (a ++ b) i = sumTo a i + nAt a i
    rw [sum_left i (by omega), nAt_left (by omega)]
theorem sum_right {a b : List (Int × Int)} : ∀ i, sumTo (a ++ b) (a.length + i) = sumTo a a.length + sumTo b i
  | 0 => by
    rw [Nat.add_zero, sum_left _ (Nat.le_refl _)]
    rfl
  | i + 1 => by
    show sumTo (a ++ b) (a.length + i) + nAt (a ++ b) (a.length + i) = sumTo a a.length + (sumTo b i + nAt b i)
    rw [sum_right i, nAt_right, Nat.add_assoc]
theorem names_joined {a b : List (Int × Int)} (ha : 1 ≤ a.length) (hb : 1 ≤ b.length) (h1 : ∀ j, j < a.length → 1 ≤ sAt a j ∧ sAt a j < (nAt a j : Int)) (h2 : ∀ j, j < b.length → 1 ≤ sAt b j ∧ sAt b j < (nAt b j : Int))
    (h3 : ∀ j, j < (a ++ b).length → 1 ≤ sAt (a ++ b) j ∧ sAt (a ++ b) j < (nAt (a ++ b) j : Int)) : (names (a ++ b)).length + 1 = (names a).length + (names b).length := by
  unfold names
  have e1 := count_to h1 a.length ha (Nat.le_refl _)
  have e2 := count_to h2 b.length hb (Nat.le_refl _)
  have e3 := count_to h3 (a ++ b).length (by rw [List.length_append]; omega) (Nat.le_refl _)
  have e4 := sum_right (a := a) (b := b) b.length
  rw [List.length_append] at e3 ⊢
  omega
end K1N

/-! enumerate over a tuple, one argument -/
namespace EnT
open PySem PySem.Spec PyProof.Rows L2
theorem made {v : Value} {o : Obj} {Hy : Heap → Prop} (B : Begins v o Hy) : Meets (Builtin.«enumerate.__new__» ⟨[.type "enumerate", v], []⟩) (fun _ R s => Hy s.heap ∧
      R (.ok (.ret (.ref (s.heap.push o).objs.size))) { s with heap := (s.heap.push o).push { cls := .type "enumerate", data := .fields #[.none, .bool false, .ref s.heap.objs.size, rawInt 0, .none, .none] } }) :=
  .of_wp fun prog w A R s z => by
    obtain ⟨hp, gs, dr, tk, os⟩ := s
    obtain ⟨z1, z2⟩ := z
    have sb := sub_enumerate
    have it1 : ∀ {A2 : Around} {E2 : Value → Shared → Prop} {Q2 : Value → Shared → Prop}, Q2 (.ref hp.objs.size) ⟨hp.push o, gs, dr, tk, os⟩ → wpAny (model prog w) A2 (pyIter v) Q2 E2 ⟨hp, gs, dr, tk, os⟩ :=
      fun y => B.iter prog w _ _ ⟨hp, gs, dr, tk, os⟩ _ z1 y
    wp_walk using it1
    refine wpAny_stack_any fun _ => wpAny_pure ?_
    split
    · rename_i c _ _ _ _ _
      cases (c == Value.type "enumerate")
      · wp_walk using it1
        exact ⟨_, rfl, z2⟩
      · wp_walk using it1
        exact ⟨_, rfl, z2⟩
    · wp_walk using it1
      exact ⟨_, rfl, z2⟩
section
variable {prog : Program} {w : World} {A : Around} {E : Value → Shared → Prop} {s : Shared}
theorem call_made {v : Value} {o : Obj} {Hy : Heap → Prop} {Q : Value → Shared → Prop} (B : Begins v o Hy) (h1 : Hy s.heap)
    (k : ∀ h2, IsEnum h2 (s.heap.objs.size + 1) s.heap.objs.size 0 .none → h2.get? s.heap.objs.size = some o → (∀ b u, s.heap.get? b = some u → h2.get? b = some u) → Q (.ref (s.heap.objs.size + 1)) { s with heap := h2 }) :
    wpAny (model prog w) A (call (.type "enumerate") [v]) Q E s := by
  refine callType_new F.called_enumerate (by decide) (F.typeCall_enumerate_1 _) (F.newCall_enumerate_1 _) (fun obj => F.args_object_init_2 obj _) F.entry_enumerate_new (made B) ⟨h1, ?_⟩
  have sz : (s.heap.push o).objs.size = s.heap.objs.size + 1 := by rw [Heap.size_push]
  show _ ∧ _
  rw [sz]
  have en := Heap.get?_push_size (s.heap.push o) (o := { cls := .type "enumerate", data := .fields #[.none, .bool false, .ref s.heap.objs.size, rawInt 0, .none, .none] }) rfl
  rw [sz] at en
  exact ⟨⟨_, en, rfl⟩, k _ en (Heap.get?_push_of_some _ (Heap.get?_push_size _ B.free)) fun b u y => Heap.get?_push_of_some _ (Heap.get?_push_of_some _ y)⟩
end
/-- the tuple at a, each item in a new pair with its number -/
def IteT (K : PySem.W.Frag) (a : Addr) : It :=
  ⟨fun i H => ∃ (ts : List V) (x : V), SqT K H a ts ∧ ts[i]? = some x, fun i H v H' => ∃ T x, v = .ref T ∧ H T = none ∧ H' = upd H T (.tup [.int (i : Nat), x]) ∧ ∀ ts, SqT K H a ts → ts[i]? = some x, fun i H => ∃ ts : List V, SqT K H a ts ∧ ts.length = i⟩
theorem tup_inj {X : Cx} {pins : List (Addr × Obj)} {σ : L2.St} {H : Hp} {s : Shared} {a : Addr} {xs ys : List V} (I : Inv X pins σ H s) (h1 : SqT X.K H a xs) (h2 : SqT X.K H a ys) : xs = ys := by
  obtain ⟨i1, r1, ⟨o1, g1, c1, n1, d1⟩, _⟩ := I.tuple h1
  obtain ⟨i2, r2, ⟨o2, g2, c2, n2, d2⟩, _⟩ := I.tuple h2
  rw [g1] at g2
  have e := Option.some.inj g2
  subst e
  rw [d1] at d2
  injection d2 with e1 _
  have e3 : i1 = i2 := by simpa using e1
  subst e3
  exact Vals.inj r1 r2
theorem turn {P : Program} {w : World} {K : PySem.W.Frag} {elts : List Expr} {kk : Nat} {tpos : Pos} (a e it : Addr) :
    Turn P w K (.Tuple elts kk tpos) (IteT K a) [e, it] e (fun i h => (∃ old, IsEnum h e it ((i : Nat) : Int) old) ∧ h.IsTupleIter it a i ∧ e ≠ it ∧ a ≠ e ∧ a ≠ it) where
  mem := by simp
  obj := fun i h st b hb => by
    obtain ⟨⟨old, he⟩, ⟨o, ho, hc, hd⟩, _⟩ := st
    rcases (show b = e ∨ b = it by simpa using hb) with z | z
    · rw [z]
      exact ⟨_, he, fun v q => nomatch q⟩
    · rw [z]
      exact ⟨o, ho, fun v q => by rw [hd] at q; cases q⟩
  keep := fun i h h' st k => by
    obtain ⟨⟨old, he⟩, ⟨o, ho, hc, hd⟩, n1, n2, n3⟩ := st
    exact ⟨⟨old, k e (by simp) _ he⟩, ⟨o, k it (by simp) _ ho, hc, hd⟩, n1, n2, n3⟩
  item := by
    intro X hP hw hK hc i pins s σ H E I hf st hg
    subst hP hw hK
    obtain ⟨⟨old, he⟩, hit, n1, n2, n3⟩ := st
    obtain ⟨xs, x, hq, hx⟩ := hg
    obtain ⟨its, rv, p, _⟩ := I.tuple hq
    obtain ⟨u, hu, ru⟩ := rv.get hx
    have hel : e < s.heap.objs.size := Heap.lt_size he
    have hil : it < s.heap.objs.size := by
      obtain ⟨_, q, _⟩ := hit
      exact Heap.lt_size q
    have hlt : i < its.toArray.size := by
      have := (List.getElem?_eq_some_iff.mp hu).1
      simpa using this
    have hh : X.A.in1.handled = none := I.ok.hd hc
    have DT := Draws.tuple (prog := X.prog) (w := X.w) hh it a n3 its.toArray
    refine wpAny_pyNext_enum_itemD DT he ⟨hit, p⟩ hlt n1 (by simp [n1, Ne.symm n2]) fun y h1 tk hy ho hst hT hsz hk => ?_
    have ey : y = u := by
      have q : its.toArray[i]? = some u := by simpa using hu
      exact Option.some.inj (hy.symm.trans q)
    subst ey
    refine ⟨_, rfl, wpAny_letOwnedTupleGo_enum (s := { s with heap := h1, toks := tk + 1 }) ho fun h2 he2 sb => ?_⟩
    have hT2 : h2.get? s.heap.objs.size = some { cls := .type "tuple", data := .seq #[.int i tk, y] } := (sb.2 _ (Nat.ne_of_gt hel)).trans hT
    have new : ObjOk X.prog X.w (upd H s.heap.objs.size (.tup [.int (i : Nat), x])) h2 s.heap.objs.size (.tup [.int (i : Nat), x]) :=
      ⟨show 2 ≤ sizeLine by decide, [.int i tk, y], .cons ⟨_, rfl⟩ (.cons ru .nil), ⟨_, hT2, rfl, _, rfl⟩⟩
    have I1 : Inv X pins σ (upd H s.heap.objs.size (.tup [.int (i : Nat), x])) { s with heap := h2, toks := tk + 1 } :=
      I.turnedNew (ch := [e, it]) (fun b ob hb q => (sb.2 b (fun z => hb (by simp [z]))).trans (hk b ob (fun z => hb (by simp [z])) (fun z => hb (by simp [z])) q)) hf (Nat.le_refl _) new
    obtain ⟨oi, g1, g2, g3⟩ := hst.1
    refine ⟨.ref s.heap.objs.size, _, I1, rfl, ⟨_, x, rfl, I.hok.fresh (Nat.le_refl _), rfl, fun ys hys => by rw [tup_inj I hys hq]; exact hx⟩, ⟨⟨y, ?_⟩, ⟨oi, (sb.2 it (Ne.symm n1)).trans g1, g2, g3⟩, n1, n2, n3⟩, fun b hb => ?_⟩
    · rw [show ((i + 1 : Nat) : Int) = (i : Int) + 1 by omega]
      exact he2
    · have hb2 : b < s.heap.objs.size := by
        rcases (show b = e ∨ b = it by simpa using hb) with z | z
        · rw [z]
          exact hel
        · rw [z]
          exact hil
      rw [upd_ne (Nat.ne_of_lt hb2)]
      exact (hf b hb).1
  done := by
    intro X hP hw hK hc i pins s σ H E I hf st hg
    subst hP hw hK
    obtain ⟨⟨old, he⟩, hit, n1, n2, n3⟩ := st
    obtain ⟨xs, hq, hx⟩ := hg
    obtain ⟨its, rv, p, _⟩ := I.tuple hq
    obtain ⟨f0, f1, f2, f3, f4, f5⟩ := hf it (by simp)
    have hl := rv.length
    have hn : its.toArray.size = i := by
      rw [List.size_toArray]
      omega
    have hh : X.A.in1.handled = none := I.ok.hd hc
    have DT := Draws.tuple (prog := X.prog) (w := X.w) hh it a n3 its.toArray
    refine wpAny_pyNext_enum_endD DT he ⟨?_, p⟩ fun h1 eb => ⟨rfl, I.turned (t' := s.toks) (fun b o hb q => eb b o hb q) f0 f1 f3 f4 f5⟩
    rw [hn]
    exact hit
  self := fun A i s Q E st h => by
    obtain ⟨⟨_, he⟩, _⟩ := st
    exact wpAny_pyIter_enum he h
def iEnumT (K : PySem.W.Frag) (ta : TA) : TI := fun σ H R => ta σ H fun vs H1 => ∃ a xs, vs = [.ref a] ∧ SqT K H1 a xs ∧ R (IteT K a) H1
theorem pi_enumT {X : Cx} {e : Expr} {ta : TA} {p pos tpos : Pos} {elts : List Expr} {kk : Nat} (hg : Gl X "enumerate") (hm : X.mg "enumerate" = none) (ha : PA X [e] ta) (hs : starEach [e] X.env = [(false, eval e X.env)] := by rfl) :
    PI X (.Tuple elts kk tpos) (.Call (.Name "enumerate" p) [e] [] pos) (iEnumT X.K ta) := by
  refine ⟨fun pins s σ H R I h => ?_⟩
  refine Call_ (ld_blt I hg hm boot_enumerate (PyProof.Rows.callWith_type1 (thn (ha.run pos pins s σ H _ I h) fun us s1 ⟨vs, H1, I1, r1, y1⟩ => ?_) hs rfl))
  obtain ⟨a, xs, ex, hq, q⟩ := y1
  subst ex
  cases r1 with
  | cons r rr =>
    cases rr
    cases r
    obtain ⟨its, rv, p2, _⟩ := I1.tuple hq
    have hal : a < s1.heap.objs.size := by
      obtain ⟨o, g, _⟩ := p2
      exact Heap.lt_size g
    refine call_made (begins_tuple a its.toArray) p2 fun h2 he hit hk => wpAny_pyIter_enum he ?_
    have I2 : Inv X pins σ H1 { s1 with heap := h2 } := I1.kept (t' := s1.toks) hk
    refine ⟨s1.heap.objs.size + 1, [s1.heap.objs.size + 1, s1.heap.objs.size], _, _, H1, rfl, I2, turn a (s1.heap.objs.size + 1) s1.heap.objs.size, ⟨⟨.none, he⟩, ⟨_, hit, rfl, rfl⟩, Nat.succ_ne_self _, Nat.ne_of_lt (Nat.lt_succ_of_lt hal), Nat.ne_of_lt hal⟩, fun b hb => ?_, q⟩
    have hle : s1.heap.objs.size ≤ b := by
      rcases (show b = s1.heap.objs.size + 1 ∨ b = s1.heap.objs.size by simpa using hb) with z | z
      · rw [z]
        exact Nat.le_add_right _ _
      · rw [z]
        exact Nat.le_refl _
    exact I1.fpOk hle (I1.hok.fresh hle)
end EnT

namespace K1
open PySem PySem.Spec PyProof.Rows L2 Evl
def topS (i : Nat) : Stmt := PySem.Challenge.pw_ringstairs_k50_whole_boxes_by_their_tupl.main.body.getD i (.Pass ⟨0, 0, 0, 0⟩)
abbrev sIsInteger : Stmt := topS 6
abbrev nIsInteger : List Str := ["value"]
theorem scIsInteger : FnScope nIsInteger ["value"] (defScope sIsInteger) := ⟨rfl, rfl, rfl, by decide +kernel, rfl, by decide +kernel, by decide +kernel⟩
abbrev sIsBetween : Stmt := topS 7
abbrev nIsBetween : List Str := ["value", "low", "high"]
theorem scIsBetween : FnScope nIsBetween ["value", "low", "high"] (defScope sIsBetween) := ⟨rfl, rfl, rfl, by decide +kernel, rfl, by decide +kernel, by decide +kernel⟩
abbrev sIsPair : Stmt := topS 8
abbrev nIsPair : List Str := ["value"]
theorem scIsPair : FnScope nIsPair ["value"] (defScope sIsPair) := ⟨rfl, rfl, rfl, by decide +kernel, rfl, by decide +kernel, by decide +kernel⟩
abbrev sIsRing : Stmt := topS 12
abbrev nIsRing : List Str := ["value", "places", "door"]
theorem scIsRing : FnScope nIsRing ["value"] (defScope sIsRing) := ⟨rfl, rfl, rfl, by decide +kernel, rfl, by decide +kernel, by decide +kernel⟩
abbrev sIsChain : Stmt := topS 13
abbrev nIsChain : List Str := ["value", "ring"]
theorem scIsChain : FnScope nIsChain ["value"] (defScope sIsChain) := ⟨rfl, rfl, rfl, by decide +kernel, rfl, by decide +kernel, by decide +kernel⟩
abbrev sCheckChain : Stmt := topS 14
abbrev nCheckChain : List Str := ["chain"]
theorem scCheckChain : FnScope nCheckChain ["chain"] (defScope sCheckChain) := ⟨rfl, rfl, rfl, by decide +kernel, rfl, by decide +kernel, by decide +kernel⟩
abbrev sLiesTold : Stmt := topS 16
abbrev nLiesTold : List Str := ["chain", "value", "place", "ring"]
theorem scLiesTold : FnScope nLiesTold ["chain", "value"] (defScope sLiesTold) := ⟨rfl, rfl, rfl, by decide +kernel, rfl, by decide +kernel, by decide +kernel⟩
abbrev sLiesBoxed : Stmt := topS 18
abbrev nLiesBoxed : List Str := ["chain", "value", "place", "ring"]
theorem scLiesBoxed : FnScope nLiesBoxed ["chain", "value"] (defScope sLiesBoxed) := ⟨rfl, rfl, rfl, by decide +kernel, rfl, by decide +kernel, by decide +kernel⟩
abbrev sCheckBox : Stmt := topS 19
abbrev nCheckBox : List Str := ["chain", "box"]
theorem scCheckBox : FnScope nCheckBox ["chain", "box"] (defScope sCheckBox) := ⟨rfl, rfl, rfl, by decide +kernel, rfl, by decide +kernel, by decide +kernel⟩
abbrev sIsBox : Stmt := topS 20
abbrev nIsBox : List Str := ["chain", "value"]
theorem scIsBox : FnScope nIsBox ["chain", "value"] (defScope sIsBox) := ⟨rfl, rfl, rfl, by decide +kernel, rfl, by decide +kernel, by decide +kernel⟩
abbrev sLiesIn : Stmt := topS 21
abbrev nLiesIn : List Str := ["box", "places", "told", "place"]
theorem scLiesIn : FnScope nLiesIn ["box", "places"] (defScope sLiesIn) := ⟨rfl, rfl, rfl, by decide +kernel, rfl, by decide +kernel, by decide +kernel⟩
abbrev sIsInBox : Stmt := topS 22
abbrev nIsInBox : List Str := ["chain", "box", "value"]
theorem scIsInBox : FnScope nIsInBox ["chain", "box", "value"] (defScope sIsInBox) := ⟨rfl, rfl, rfl, by decide +kernel, rfl, by decide +kernel, by decide +kernel⟩
abbrev sSizeOf : Stmt := topS 23
abbrev nSizeOf : List Str := ["chain", "box", "many", "place", "ring"]
theorem scSizeOf : FnScope nSizeOf ["chain", "box"] (defScope sSizeOf) := ⟨rfl, rfl, rfl, by decide +kernel, rfl, by decide +kernel, by decide +kernel⟩
abbrev sCheckBoxes : Stmt := topS 24
abbrev nCheckBoxes : List Str := ["chain", "one", "other"]
theorem scCheckBoxes : FnScope nCheckBoxes ["chain", "one", "other"] (defScope sCheckBoxes) := ⟨rfl, rfl, rfl, by decide +kernel, rfl, by decide +kernel, by decide +kernel⟩
abbrev sHoldsBox : Stmt := topS 25
abbrev nHoldsBox : List Str := ["chain", "one", "other"]
theorem scHoldsBox : FnScope nHoldsBox ["chain", "one", "other"] (defScope sHoldsBox) := ⟨rfl, rfl, rfl, by decide +kernel, rfl, by decide +kernel, by decide +kernel⟩
abbrev sMeeting : Stmt := topS 26
abbrev nMeeting : List Str := ["chain", "one", "other", "both", "place", "met"]
theorem scMeeting : FnScope nMeeting ["chain", "one", "other"] (defScope sMeeting) := ⟨rfl, rfl, rfl, by decide +kernel, rfl, by decide +kernel, by decide +kernel⟩
abbrev sLDice : Stmt := topS 28
abbrev nLDice : List Str := ["_law_script", "_law_at", "_law_cell", "_law_great", "_law_left", "_law_mixed"]
theorem scLDice : FnScope nLDice ["_law_script", "_law_at"] (defScope sLDice) := ⟨rfl, rfl, rfl, by decide +kernel, rfl, by decide +kernel, by decide +kernel⟩
abbrev sLRoll : Stmt := topS 29
abbrev nLRoll : List Str := ["_law_dice_here", "_law_total", "_law_size", "_law_drawn", "_law_one", "_law_two"]
theorem scLRoll : FnScope nLRoll ["_law_dice_here", "_law_total"] (defScope sLRoll) := ⟨rfl, rfl, rfl, by decide +kernel, rfl, by decide +kernel, by decide +kernel⟩
abbrev sLOneOf : Stmt := topS 30
abbrev nLOneOf : List Str := ["_law_dice_here", "_law_items"]
theorem scLOneOf : FnScope nLOneOf ["_law_dice_here", "_law_items"] (defScope sLOneOf) := ⟨rfl, rfl, rfl, by decide +kernel, rfl, by decide +kernel, by decide +kernel⟩
abbrev sLCommon : Stmt := topS 31
abbrev nLCommon : List Str := ["_law_one", "_law_other"]
theorem scLCommon : FnScope nLCommon ["_law_one", "_law_other"] (defScope sLCommon) := ⟨rfl, rfl, rfl, by decide +kernel, rfl, by decide +kernel, by decide +kernel⟩
abbrev sLRing : Stmt := topS 32
abbrev nLRing : List Str := ["_law_dice_here", "_law_most", "_law_n"]
theorem scLRing : FnScope nLRing ["_law_dice_here", "_law_most"] (defScope sLRing) := ⟨rfl, rfl, rfl, by decide +kernel, rfl, by decide +kernel, by decide +kernel⟩
abbrev sLRingOf : Stmt := topS 33
abbrev nLRingOf : List Str := ["_law_dice_here", "_law_k", "_law_times", "_law_more", "_law_steps", "_law_one"]
theorem scLRingOf : FnScope nLRingOf ["_law_dice_here", "_law_k", "_law_times"] (defScope sLRingOf) := ⟨rfl, rfl, rfl, by decide +kernel, rfl, by decide +kernel, by decide +kernel⟩
abbrev sLChain : Stmt := topS 34
abbrev nLChain : List Str := ["_law_dice_here", "_law_rings", "_law_most", "_law_k", "_law_turn"]
theorem scLChain : FnScope nLChain ["_law_dice_here", "_law_rings", "_law_most"] (defScope sLChain) := ⟨rfl, rfl, rfl, by decide +kernel, rfl, by decide +kernel, by decide +kernel⟩
abbrev sLAllTuples : Stmt := topS 35
abbrev nLAllTuples : List Str := ["_law_chain_here", "_law_found", "_law_n", "_law_s", "_law_wider", "_law_one", "_law_p"]
theorem scLAllTuples : FnScope nLAllTuples ["_law_chain_here"] (defScope sLAllTuples) := ⟨rfl, rfl, rfl, by decide +kernel, rfl, by decide +kernel, by decide +kernel⟩
abbrev sLIsIn : Stmt := topS 36
abbrev nLIsIn : List Str := ["_law_box_told", "_law_x", "_law_told", "_law_place"]
theorem scLIsIn : FnScope nLIsIn ["_law_box_told", "_law_x"] (defScope sLIsIn) := ⟨rfl, rfl, rfl, by decide +kernel, rfl, by decide +kernel, by decide +kernel⟩
abbrev sLDrawnBox : Stmt := topS 37
abbrev nLDrawnBox : List Str := ["_law_dice_here", "_law_chain_here", "_law_n", "_law_s"]
theorem scLDrawnBox : FnScope nLDrawnBox ["_law_dice_here", "_law_chain_here"] (defScope sLDrawnBox) := ⟨rfl, rfl, rfl, by decide +kernel, rfl, by decide +kernel, by decide +kernel⟩
abbrev sLTwoRight : Stmt := topS 38
abbrev nLTwoRight : List Str := ["_law_dice_here", "_law_chain_here", "_law_one", "_law_other", "_law_rows", "_law_first", "_law_second", "_law_both", "_law_told", "_law_x"]
theorem scLTwoRight : FnScope nLTwoRight ["_law_dice_here", "_law_chain_here", "_law_one", "_law_other", "_law_rows"] (defScope sLTwoRight) := ⟨rfl, rfl, rfl, by decide +kernel, rfl, by decide +kernel, by decide +kernel⟩
abbrev sLJudgedRight : Stmt := topS 39
abbrev nLJudgedRight : List Str := ["_law_dice_here", "_law_chain_here", "_law_one", "_law_j", "_law_wrong", "_law_x", "_law_value", "_law_told", "_law_n", "_law_s"]
theorem scLJudgedRight : FnScope nLJudgedRight ["_law_dice_here", "_law_chain_here", "_law_one"] (defScope sLJudgedRight) := ⟨rfl, rfl, rfl, by decide +kernel, rfl, by decide +kernel, by decide +kernel⟩
abbrev sLaw : Stmt := topS 40
abbrev nLaw : List Str := ["_law_script", "_law_at", "_law_dice_here", "_law_chain_here", "_law_rows", "_law_one", "_law_told", "_law_other", "_law_long", "_law_wide", "_law_size", "_law_n", "_law_s"]
theorem scLaw : FnScope nLaw ["_law_script"] (defScope sLaw) := ⟨rfl, rfl, rfl, by decide +kernel, rfl, by decide +kernel, by decide +kernel⟩
/-- a def of the text at its place, and how its arguments bind -/
structure DefAt (K : PySem.W.Frag) (mg : Str → Option Value) (x : Str) (st : Stmt) (ps : List Str) (f : Addr) (fd : FuncData) : Prop where
  F : Fun K x x st f fd
  g : mg x = some (.ref f)
  b : Binds K fd ps []
/-- what the top has written -/
structure Txt (K : PySem.W.Frag) (mg : Str → Option Value) : Prop where
  z_isinstance : mg "isinstance" = none
  z_len : mg "len" = none
  z_int : mg "int" = none
  z_bool : mg "bool" = none
  z_tuple : mg "tuple" = none
  z_all : mg "all" = none
  z_range : mg "range" = none
  z_abs : mg "abs" = none
  z_min : mg "min" = none
  z_max : mg "max" = none
  z_list : mg "list" = none
  z_zip : mg "zip" = none
  v_BOUND : ∃ t, mg "BOUND" = some (.int (10 ^ 60) t)
  v_RINGS : ∃ t, mg "MOST_RINGS" = some (.int 12 t)
  v_PLACES : ∃ t, mg "MOST_PLACES" = some (.int 60 t)
  d_is_integer : ∃ f fd, DefAt K mg "is_integer" sIsInteger ["value"] f fd
  d_is_between : ∃ f fd, DefAt K mg "is_between" sIsBetween ["value", "low", "high"] f fd
  d_is_pair : ∃ f fd, DefAt K mg "is_pair" sIsPair ["value"] f fd
  d_is_ring : ∃ f fd, DefAt K mg "is_ring" sIsRing ["value"] f fd
  d_is_chain : ∃ f fd, DefAt K mg "is_chain" sIsChain ["value"] f fd
  d_check_chain : ∃ f fd, DefAt K mg "check_chain" sCheckChain ["chain"] f fd
  d_lies_told : ∃ f fd, DefAt K mg "lies_told" sLiesTold ["chain", "value"] f fd
  d_lies_boxed : ∃ f fd, DefAt K mg "lies_boxed" sLiesBoxed ["chain", "value"] f fd
  d_check_box : ∃ f fd, DefAt K mg "check_box" sCheckBox ["chain", "box"] f fd
  d_is_box : ∃ f fd, DefAt K mg "is_box" sIsBox ["chain", "value"] f fd
  d_lies_in : ∃ f fd, DefAt K mg "lies_in" sLiesIn ["box", "places"] f fd
  d_is_in_box : ∃ f fd, DefAt K mg "is_in_box" sIsInBox ["chain", "box", "value"] f fd
  d_size_of : ∃ f fd, DefAt K mg "size_of" sSizeOf ["chain", "box"] f fd
  d_check_boxes : ∃ f fd, DefAt K mg "check_boxes" sCheckBoxes ["chain", "one", "other"] f fd
  d_holds_box : ∃ f fd, DefAt K mg "holds_box" sHoldsBox ["chain", "one", "other"] f fd
  d_meeting : ∃ f fd, DefAt K mg "meeting" sMeeting ["chain", "one", "other"] f fd
  d_l_dice : ∃ f fd, DefAt K mg "_law_dice" sLDice ["_law_script", "_law_at"] f fd
  d_l_roll : ∃ f fd, DefAt K mg "_law_roll" sLRoll ["_law_dice_here", "_law_total"] f fd
  d_l_one_of : ∃ f fd, DefAt K mg "_law_one_of" sLOneOf ["_law_dice_here", "_law_items"] f fd
  d_l_common : ∃ f fd, DefAt K mg "_law_common" sLCommon ["_law_one", "_law_other"] f fd
  d_l_ring : ∃ f fd, DefAt K mg "_law_ring" sLRing ["_law_dice_here", "_law_most"] f fd
  d_l_ring_of : ∃ f fd, DefAt K mg "_law_ring_of" sLRingOf ["_law_dice_here", "_law_k", "_law_times"] f fd
  d_l_chain : ∃ f fd, DefAt K mg "_law_chain" sLChain ["_law_dice_here", "_law_rings", "_law_most"] f fd
  d_l_all_tuples : ∃ f fd, DefAt K mg "_law_all_tuples" sLAllTuples ["_law_chain_here"] f fd
  d_l_is_in : ∃ f fd, DefAt K mg "_law_is_in" sLIsIn ["_law_box_told", "_law_x"] f fd
  d_l_drawn_box : ∃ f fd, DefAt K mg "_law_drawn_box" sLDrawnBox ["_law_dice_here", "_law_chain_here"] f fd
  d_l_two_right : ∃ f fd, DefAt K mg "_law_two_right" sLTwoRight ["_law_dice_here", "_law_chain_here", "_law_one", "_law_other", "_law_rows"] f fd
  d_l_judged_right : ∃ f fd, DefAt K mg "_law_judged_right" sLJudgedRight ["_law_dice_here", "_law_chain_here", "_law_one"] f fd
end K1

namespace K1
open PySem PySem.Spec PyProof.Rows L2 Evl
/-! ### great powers -/
def CPowW (i j : Int) : Prop := 0 ≤ j ∧ (Builtin.Int.intBits i : Int) * j ≤ 2 ^ 27
theorem op_powW {X : Cx} : OpR X (binaryOp .Pow) (rI CPowW fun i j => .int (i ^ j.toNat)) := opI fun _ _ _ _ _ _ _ hc q => pow_int hc.1 hc.2 q
/-! ### values that are looked at -/
/-- no int -/
inductive NotInt (K : PySem.W.Frag) (H : Hp) : V → Prop where
  | bl (b : Bool) : NotInt K H (.bl b)
  | non : NotInt K H .non
  | str (x : Str) : NotInt K H (.str x)
  | lst {a : Addr} {xs : List V} (e : H a = some (.lst xs)) : NotInt K H (.ref a)
  | tup {a : Addr} {xs : List V} (e : H a = some (.tup xs)) : NotInt K H (.ref a)
  | dK {a : Addr} {kvs : List (Key × V)} (e : H a = some (.dK kvs)) : NotInt K H (.ref a)
inductive IntB (K : PySem.W.Frag) (H : Hp) : V → Bool → Prop where
  | int (i : Int) : IntB K H (.int i) (decide (-(10 ^ 60) < i) && decide (i < 10 ^ 60))
  | no {x : V} (h : NotInt K H x) : IntB K H x false
/-- between two ints -/
inductive BtwB (K : PySem.W.Frag) (H : Hp) (lo hi : Int) : V → Bool → Prop where
  | int (i : Int) : BtwB K H lo hi (.int i) ((decide (-(10 ^ 60) < i) && decide (i < 10 ^ 60)) && (decide (lo ≤ i) && decide (i ≤ hi)))
  | no {x : V} (h : NotInt K H x) : BtwB K H lo hi x false
theorem NotInt.ty {K : PySem.W.Frag} {H : Hp} {x : V} (h : NotInt K H x) : ∃ t : Value, TyX K H x t ∧ ((PySem.W.kitOne K t (.type "int") = some false) ∨ (t = .type "bool")) := by
  cases h with
  | bl b => exact ⟨_, .base (.bl b), .inr rfl⟩
  | non => exact ⟨_, .base .non, .inl (kit_ty (by decide +kernel))⟩
  | str x => exact ⟨_, .base (.str x), .inl (kit_ty (by decide +kernel))⟩
  | lst e => exact ⟨_, .base (.lst e), .inl (kit_ty (by decide +kernel))⟩
  | tup e => exact ⟨_, .base (.tup e), .inl (kit_ty (by decide +kernel))⟩
  | dK e => exact ⟨_, .base (.dK e), .inl (kit_ty (by decide +kernel))⟩
theorem NotInt.mono {K : PySem.W.Frag} {H H' : Hp} {x : V} (e : Ex H H') (h : NotInt K H x) : NotInt K H' x := by
  cases h with
  | bl b => exact .bl b
  | non => exact .non
  | str x => exact .str x
  | lst q => exact .lst (e _ _ q)
  | tup q => exact .tup (e _ _ q)
  | dK q => exact .dK (e _ _ q)
section
variable {P : Program} {w : World} {K : PySem.W.Frag} {mg : Str → Option Value} {base : Heap}
def spIsInteger (K : PySem.W.Frag) : Sp := fun vs H Q _ => ∃ x b, vs = [x] ∧ IntB K H x b ∧ ∀ H', Ex H H' → Q (.bl b) H'
theorem ok_is_integer (T : Txt K mg) {f : Addr} {fd : FuncData} (D : DefAt K mg "is_integer" sIsInteger ["value"] f fd) : FnOk P w K mg base CX0 1 f fd ["value"] (spIsInteger K) := by
  refine D.F.ok scIsInteger (fun vs H Q E h => ?_) (fun cdv A outer s H vs Q E hr h => ?_)
  · obtain ⟨x, b, rfl, _⟩ := h
    rfl
  · obtain ⟨x, b, rfl, hb, q⟩ := h
    obtain ⟨tB, vB⟩ := T.v_BOUND
    refine ⟨_, pss_one (ps_ret (pe_and (pe_callB call_isi (by rfl) T.z_isinstance (by decide +kernel) (pa_cons (pv 0) (pa_cons (pe_bltn (v := .ty "int") (by rfl) T.z_int (by decide +kernel) rfl) pa_nil)))
      (pe_and (pe_not (pe_callB call_isi (by rfl) T.z_isinstance (by decide +kernel) (pa_cons (pv 0) (pa_cons (pe_bltn (v := .ty "bool") (by rfl) T.z_bool (by decide +kernel) rfl) pa_nil))))
      (pe_one (pe_chain op_lt op_lt (pe_un un_neg (pe_glob (v := .int (10 ^ 60)) rfl vB ⟨_, rfl⟩)) (pv 0) (pe_glob (v := .int (10 ^ 60)) rfl vB ⟨_, rfl⟩)))))), ?_⟩
    cases hb with
    | int i =>
      refine ⟨.int i, rfl, .int i, .ty "int", .type "int", .type "int", true, rfl, .ty _, .base (.int i), kit_ty (by decide +kernel), true, rfl, iteT ?_⟩
      refine ⟨.int i, rfl, .int i, .ty "bool", .type "int", .type "bool", false, rfl, .ty _, .base (.int i), kit_ty (by decide +kernel), false, rfl, true, rfl, iteT ?_⟩
      refine ⟨_, rfl, .int i, rfl, _, _, rfl, rfl, _, rfl, ite2 (fun c => ?_) (fun c => ?_)⟩
      · refine ⟨_, _, rfl, rfl, ?_⟩
        have e : decide (-(10 ^ 60) < i) = true := c
        rw [e, Bool.true_and] at q
        exact q _ (Ex.refl _)
      · have e : decide (-(10 ^ 60) < i) = false := Bool.eq_false_iff.mpr c
        rw [e, Bool.false_and] at q
        exact q _ (Ex.refl _)
    | no hn =>
      obtain ⟨t, ty, h | rfl⟩ := hn.ty
      · exact ⟨x, rfl, x, .ty "int", t, .type "int", false, rfl, .ty _, ty, h, false, rfl, iteF (q _ (Ex.refl _))⟩
      · refine ⟨x, rfl, x, .ty "int", .type "bool", .type "int", true, rfl, .ty _, ty, kit_ty (by decide +kernel), true, rfl, iteT ?_⟩
        exact ⟨x, rfl, x, .ty "bool", .type "bool", .type "bool", true, rfl, .ty _, ty, kit_ty (by decide +kernel), true, rfl, false, rfl, iteF (q _ (Ex.refl _))⟩
def spIsBetween (K : PySem.W.Frag) : Sp := fun vs H Q _ => ∃ x lo hi b, vs = [x, .int lo, .int hi] ∧ BtwB K H lo hi x b ∧ ∀ H', Ex H H' → Q (.bl b) H'
theorem ok_is_between (T : Txt K mg) {f : Addr} {fd : FuncData} (D : DefAt K mg "is_between" sIsBetween ["value", "low", "high"] f fd) : FnOk P w K mg base CX0 2 f fd ["value", "low", "high"] (spIsBetween K) := by
  refine D.F.ok scIsBetween (fun vs H Q E h => ?_) (fun cdv A outer s H vs Q E hr h => ?_)
  · obtain ⟨x, lo, hi, b, rfl, _⟩ := h
    rfl
  · obtain ⟨x, lo, hi, b, rfl, hb, q⟩ := h
    obtain ⟨f1, fd1, D1⟩ := T.d_is_integer
    refine ⟨_, pss_one (ps_ret (pe_and (pe_call (ok_is_integer T D1) hr (by rfl) D1.g D1.F.kp D1.b .nil pass0 (pa_cons (pv 0) pa_nil)) (pe_one (pe_chain op_le op_le (pv 1) (pv 0) (pv 2))))), ?_⟩
    cases hb with
    | int i =>
      refine ⟨.int i, rfl, .int i, _, rfl, .int i, fun H1 e1 => ⟨_, rfl, ite2 (fun c => ?_) (fun c => ?_)⟩⟩
      · refine ⟨.int lo, rfl, .int i, rfl, _, _, rfl, rfl, _, rfl, ?_⟩
        rw [c, Bool.true_and] at q
        refine ite2 (fun c2 => ⟨.int hi, rfl, _, _, rfl, rfl, ?_⟩) (fun c2 => ?_)
        · have e : decide (lo ≤ i) = true := c2
          rw [e, Bool.true_and] at q
          exact q _ e1
        · have e : decide (lo ≤ i) = false := Bool.eq_false_iff.mpr c2
          rw [e, Bool.false_and] at q
          exact q _ e1
      · rw [Bool.eq_false_iff.mpr c, Bool.false_and] at q
        exact q _ e1
    | no hn => exact ⟨x, rfl, x, false, rfl, .no hn, fun H1 e1 => ⟨false, rfl, iteF (q _ e1)⟩⟩
end
end K1

namespace K1
open PySem PySem.Spec PyProof.Rows L2 Evl
/-! ### the dice -/
def Dice (H : Hp) (d : Addr) : Prop := ∃ l m c : Int, H d = some (.lst [.int l, .int m, .int c])
/-- all but the dice is as it was -/
def Keep (d : Addr) (H H' : Hp) : Prop := ∀ b o, b ≠ d → H b = some o → H' b = some o
theorem Keep.refl (d : Addr) (H : Hp) : Keep d H H := fun _ _ _ h => h
theorem Keep.trans {d : Addr} {H H1 H2 : Hp} (a : Keep d H H1) (b : Keep d H1 H2) : Keep d H H2 := fun x o n h => b x o n (a x o n h)
theorem Keep.ex {d : Addr} {H H' : Hp} (e : Ex H H') : Keep d H H' := fun b o _ h => e b o h
theorem Keep.dice {d : Addr} {H : Hp} {o : HO} : Keep d H (upd H d o) := fun b u n h => by
  rw [upd_ne n]
  exact h
theorem Keep.new {d p : Addr} {H : Hp} {o : HO} (h : H p = none) : Keep d H (upd H p o) := .ex (.new h)
/-- a thing that H did not know may change -/
theorem Keep.mut {d p : Addr} {H H' : Hp} {o : HO} (e : Keep d H H') (h : H p = none) : Keep d H (upd H' p o) := fun b u n q => by
  rw [upd_ne (ne_of_none q h)]
  exact e b u n q
theorem Keep.free {d p : Addr} {H H' : Hp} (e : Keep d H H') (n : p ≠ d) (h : H' p = none) : H p = none := by
  cases q : H p with
  | none => rfl
  | some o =>
    rw [e p o n q] at h
    cases h
theorem Dice.ex {d : Addr} {H H' : Hp} (e : Ex H H') (h : Dice H d) : Dice H' d := by
  obtain ⟨l, m, c, q⟩ := h
  exact ⟨l, m, c, e _ _ q⟩
theorem Dice.upd {d p : Addr} {H : Hp} {o : HO} (n : d ≠ p) (h : Dice H d) : Dice (L2.upd H p o) d := by
  obtain ⟨l, m, c, q⟩ := h
  exact ⟨l, m, c, by rw [upd_ne n]; exact q⟩
theorem Dice.ne_new {d p : Addr} {H : Hp} (h : Dice H d) (n : H p = none) : d ≠ p := by
  obtain ⟨l, m, c, q⟩ := h
  exact ne_of_none q n
theorem Dice.ne_tup {d p : Addr} {H : Hp} {xs : List V} (h : Dice H d) (n : H p = some (.tup xs)) : p ≠ d := by
  obtain ⟨l, m, c, q⟩ := h
  exact ne_of n q (by intro z; cases z)
theorem Keep.tup {d p : Addr} {H H' : Hp} {xs : List V} (e : Keep d H H') (h : Dice H d) (n : H p = some (.tup xs)) : H' p = some (.tup xs) := e _ _ (h.ne_tup n) n
theorem wide_n {n : Int} (h : 1 ≤ n) (h2 : n ≤ 10 ^ 50) {i : Int} : CDivW i n := wide_div (b := 200) (by omega) (by omega) (by decide) (by decide)
section
variable {P : Program} {w : World} {K : PySem.W.Frag} {mg : Str → Option Value} {base : Heap}
def spRoll : Sp := fun vs H Q _ => ∃ (d : Addr) (n : Int), vs = [.ref d, .int n] ∧ Dice H d ∧ 1 ≤ n ∧ n ≤ 10 ^ 50 ∧ ∀ (r : Int) H', 0 ≤ r → r < n → Dice H' d → Keep d H H' → Q (.int r) H'
theorem ok_roll (T : Txt K mg) {f : Addr} {fd : FuncData} (D : DefAt K mg "_law_roll" sLRoll ["_law_dice_here", "_law_total"] f fd) : FnOk P w K mg base CX0 1 f fd ["_law_dice_here", "_law_total"] spRoll := by
  refine D.F.ok scLRoll (fun vs H Q E h => ?_) (fun cdv A outer s H vs Q E hr h => ?_)
  · obtain ⟨d, n, rfl, _⟩ := h
    rfl
  · obtain ⟨d, n, rfl, ⟨l, m, c, hd⟩, h1, h2, q⟩ := h
    refine ⟨_, pss_cons (ps_set (i := 2) scLRoll.nd rfl (.inl rfl) (pe_callTy call_int1 (by rfl) T.z_int (by decide +kernel) (pa_cons (pv 1) pa_nil)))
      (pss_cons (ps_if (pt_cmpR op_gt (pe_ix ix_list (pv 0) pe_int (fun _ _ => rfl)) pe_int (nomark _))
        (pss_cons (ps_set (i := 3) scLRoll.nd rfl (.inl rfl) (pe_op op_mod (pe_ix ix_list (pv 0) pe_int (fun _ _ => rfl)) (pv 2)))
        (pss_cons (ps_asg (pe_op op_fdivW (pe_ix ix_list (pv 0) pe_int (fun _ _ => rfl)) (pv 2)) (pg_sub (pv 0) pe_int set_list))
        (pss_one (ps_ret (pe_callTy call_int1 (by rfl) T.z_int (by decide +kernel) (pa_cons (pv 3) pa_nil)))))) pss_nil)
      (pss_cons (ps_asg (pe_op op_add (pe_ix ix_list (pv 0) pe_int (fun _ _ => rfl)) pe_int) (pg_sub (pv 0) pe_int set_list))
      (pss_cons (ps_set (i := 4) scLRoll.nd rfl (.inl rfl) (pe_op op_mod (pe_op op_add (pe_ix ix_list (pv 0) pe_int (fun _ _ => rfl)) (pe_op op_mul pe_int (pe_ix ix_list (pv 0) pe_int (fun _ _ => rfl)))) pe_int))
      (pss_cons (ps_set (i := 5) scLRoll.nd rfl (.inl rfl) (pe_op op_add (pe_op op_mul (pe_op op_mod (pe_op op_mul (pv 4) (pv 4)) pe_int) (pv 4)) (pe_op op_mul pe_int (pe_ix ix_list (pv 0) pe_int (fun _ _ => rfl)))))
      (pss_cons (ps_set (i := 5) scLRoll.nd rfl (.inl rfl) (pe_op op_mod (pv 5) pe_int))
      (pss_one (ps_ret (pe_callTy call_int1 (by rfl) T.z_int (by decide +kernel) (pa_cons (pe_op op_mod (pe_op op_fdiv (pv 5) pe_int) (pv 2)) pa_nil))))))))), ?_⟩
    refine ⟨.int n, rfl, .inl ⟨n, rfl, ?_⟩⟩
    have S0 : SqL K H d [.int l, .int m, .int c] := SqL.of hd
    refine ⟨.ref d, rfl, d, _, 0, .int l, rfl, rfl, S0, rfl, l, 0, rfl, rfl, _, rfl, ite2 (fun cc => ?_) (fun cc => ?_)⟩
    · refine ⟨.ref d, rfl, d, _, 0, .int l, rfl, rfl, S0, rfl, .int n, rfl, l, n, rfl, rfl, by omega, ?_⟩
      refine ⟨.ref d, rfl, d, _, 0, .int l, rfl, rfl, S0, rfl, .int n, rfl, l, n, rfl, rfl, wide_n h1 h2, .ref d, rfl, d, _, 0, 0, rfl, rfl, hd, rfl, ?_⟩
      refine ⟨_, rfl, .inl ⟨l % n, rfl, ?_⟩⟩
      exact q _ _ (Int.emod_nonneg _ (by omega)) (Int.emod_lt_of_pos _ (by omega)) ⟨_, _, _, upd_same⟩ Keep.dice
    · refine ⟨.ref d, rfl, d, _, 2, .int c, rfl, rfl, S0, rfl, c, 1, rfl, rfl, .ref d, rfl, d, _, 2, 2, rfl, rfl, hd, rfl, ?_⟩
      generalize hH1 : upd H d _ = H1
      have hd1 : H1 d = some (.lst [.int l, .int m, .int (c + 1)]) := by
        rw [← hH1]
        exact upd_same
      have k1 : Keep d H H1 := by
        rw [← hH1]
        exact Keep.dice
      have S1 : SqL K H1 d [.int l, .int m, .int (c + 1)] := SqL.of hd1
      refine ⟨.ref d, rfl, d, _, 1, .int m, rfl, rfl, S1, rfl, .ref d, rfl, d, _, 2, .int (c + 1), rfl, rfl, S1, rfl, _, _, rfl, rfl, .inl (by decide), _, _, rfl, rfl, _, _, rfl, rfl, by show (0 : Int) < _; decide, ?_⟩
      refine ⟨_, rfl, _, rfl, (m + 1000409 * (c + 1)) % 2305843009213693951, (m + 1000409 * (c + 1)) % 2305843009213693951, rfl, rfl, .inl (by constructor <;> omega), _, _, rfl, rfl, by show (0 : Int) < _; decide, _, rfl, _, (m + 1000409 * (c + 1)) % 2305843009213693951, rfl, rfl, .inr (by constructor <;> omega), ?_⟩
      refine ⟨.ref d, rfl, d, _, 2, .int (c + 1), rfl, rfl, S1, rfl, _, _, rfl, rfl, .inl (by decide), _, _, rfl, rfl, ?_⟩
      refine ⟨_, rfl, _, _, rfl, rfl, by show (0 : Int) < _; decide, ?_⟩
      refine ⟨_, rfl, _, _, rfl, rfl, ⟨by decide, by decide⟩, .int n, rfl, _, n, rfl, rfl, by omega, .inl ⟨_, rfl, ?_⟩⟩
      exact q _ _ (Int.emod_nonneg _ (by omega)) (Int.emod_lt_of_pos _ (by omega)) ⟨_, _, _, hd1⟩ k1
def spOneOf (K : PySem.W.Frag) : Sp := fun vs H Q _ => ∃ (d a : Addr) (xs : List V), vs = [.ref d, .ref a] ∧ Dice H d ∧ H a = some (.lst xs) ∧ a ≠ d ∧ 1 ≤ xs.length ∧ xs.length ≤ 1000 ∧ ∀ x H', x ∈ xs → Dice H' d → Keep d H H' → Q x H'
theorem ok_one_of (T : Txt K mg) {f : Addr} {fd : FuncData} (D : DefAt K mg "_law_one_of" sLOneOf ["_law_dice_here", "_law_items"] f fd) : FnOk P w K mg base CX0 2 f fd ["_law_dice_here", "_law_items"] (spOneOf K) := by
  refine D.F.ok scLOneOf (fun vs H Q E h => ?_) (fun cdv A outer s H vs Q E hr h => ?_)
  · obtain ⟨d, a, xs, rfl, _⟩ := h
    rfl
  · obtain ⟨d, a, xs, rfl, hd, ha, nad, h1, h2, q⟩ := h
    obtain ⟨f1, fd1, D1⟩ := T.d_l_roll
    refine ⟨_, pss_one (ps_ret (pe_ix ix_list (pv 1) (pe_call (ok_roll T D1) hr (by rfl) D1.g D1.F.kp D1.b .nil pass0 (pa_cons (pv 0) (pa_cons (pe_callB call_len_seq (by rfl) T.z_len PySem.boot_len (pa_cons (pv 1) pa_nil)) pa_nil))) (fun _ _ => rfl))), ?_⟩
    refine ⟨.ref a, rfl, .ref d, rfl, .ref a, rfl, a, xs, rfl, .inl (SqL.of ha), d, _, rfl, hd, by omega, by omega, fun r H1 r0 r1 hd1 k1 => ?_⟩
    have hx : xs[r.toNat]? = some (xs[r.toNat]'(by omega)) := List.getElem?_eq_getElem _
    refine ⟨a, xs, r, _, rfl, rfl, SqL.of (k1 _ _ nad ha), ?_, q (xs[r.toNat]'(by omega)) H1 (List.getElem_mem _) hd1 k1⟩
    exact at_of (show r = ((r.toNat : Nat) : Int) by omega) hx
/-- a drawn ring -/
def RingAt (H : Hp) (most : Int) (x : V) (n s : Int) : Prop := ∃ t, x = .ref t ∧ H t = some (.tup [.int n, .int s]) ∧ 2 ≤ n ∧ n ≤ most ∧ 1 ≤ s ∧ s < n
def spRing : Sp := fun vs H Q _ => ∃ (d : Addr) (most : Int), vs = [.ref d, .int most] ∧ Dice H d ∧ 2 ≤ most ∧ most ≤ 1000 ∧ ∀ x n s H', RingAt H' most x n s → Dice H' d → Keep d H H' → Q x H'
theorem ok_ring (T : Txt K mg) {f : Addr} {fd : FuncData} (D : DefAt K mg "_law_ring" sLRing ["_law_dice_here", "_law_most"] f fd) : FnOk P w K mg base CX0 2 f fd ["_law_dice_here", "_law_most"] spRing := by
  refine D.F.ok scLRing (fun vs H Q E h => ?_) (fun cdv A outer s H vs Q E hr h => ?_)
  · obtain ⟨d, a, rfl, _⟩ := h
    rfl
  · obtain ⟨d, most, rfl, hd, h1, h2, q⟩ := h
    obtain ⟨f1, fd1, D1⟩ := T.d_l_roll
    refine ⟨_, pss_cons (ps_set (i := 2) scLRing.nd rfl (.inl rfl) (pe_op op_add pe_int (pe_call (ok_roll T D1) hr (by rfl) D1.g D1.F.kp D1.b .nil pass0 (pa_cons (pv 0) (pa_cons (pe_op op_sub (pv 1) pe_int) pa_nil)))))
      (pss_one (ps_ret (pe_tup (pa_cons (pv 2) (pa_cons (pe_op op_add pe_int (pe_call (ok_roll T D1) hr (by rfl) D1.g D1.F.kp D1.b .nil pass0 (pa_cons (pv 0) (pa_cons (pe_op op_sub (pv 2) pe_int) pa_nil)))) pa_nil))))), ?_⟩
    refine ⟨.ref d, rfl, .int most, rfl, _, _, rfl, rfl, d, _, rfl, hd, by omega, by omega, fun r H1 r0 r1 hd1 k1 => ?_⟩
    refine ⟨2, r, rfl, rfl, _, rfl, .ref d, rfl, .int (2 + r), rfl, _, _, rfl, rfl, d, _, rfl, hd1, by omega, by omega, fun r' H2 r0' r1' hd2 k2 => ?_⟩
    refine ⟨1, r', rfl, rfl, by show 2 ≤ sizeLine; decide, fun t ht => ?_⟩
    exact q _ (2 + r) (1 + r') _ ⟨t, rfl, upd_same, by omega, by omega, by omega, by omega⟩ (hd2.upd (hd2.ne_new ht)) ((k1.trans k2).trans (Keep.new ht))
end
end K1

namespace K1
open PySem PySem.Spec PyProof.Rows L2 Evl
section
variable {P : Program} {w : World} {K : PySem.W.Frag} {mg : Str → Option Value} {base : Heap}
def spDice (K : PySem.W.Frag) : Sp := fun vs H Q _ => ∃ (a : Addr) (ns : List Int) (i : Nat), vs = [.ref a, .int i] ∧ SqL K H a (ns.map V.int) ∧ ∀ p H', H p = none → Ex H H' → Dice H' p → Q (.ref p) H'
theorem ok_dice (T : Txt K mg) {f : Addr} {fd : FuncData} (D : DefAt K mg "_law_dice" sLDice ["_law_script", "_law_at"] f fd) : FnOk P w K mg base CX0 1 f fd ["_law_script", "_law_at"] (spDice K) := by
  refine D.F.ok scLDice (fun vs H Q E h => ?_) (fun cdv A outer s H vs Q E hr h => ?_)
  · obtain ⟨d, n, i, rfl, _⟩ := h
    rfl
  · obtain ⟨a, ns, i, rfl, hS, q⟩ := h
    refine ⟨_, pss_cons (ps_set (i := 2) scLDice.nd rfl (.inl rfl) (pe_op op_add (pe_op op_mul pe_int (pv 1)) pe_int))
      (pss_cut (ps_if (pt_cmpR op_lt (pv 1) (pe_callB call_len_seq (by rfl) T.z_len PySem.boot_len (pa_cons (pv 0) pa_nil)) (nomark _))
        (pss_one (ps_set (i := 2) scLDice.nd rfl (.inl rfl) (pe_ix ix_list (pv 0) (pv 1) (fun _ _ => rfl)))) pss_nil)
      (pss_cons (ps_set (i := 3) scLDice.nd rfl (.inl rfl) (pe_op op_mod (pe_callTy call_int1 (by rfl) T.z_int (by decide +kernel) (pa_cons (pe_callB call_abs (by rfl) T.z_abs (by decide +kernel) (pa_cons (pv 2) pa_nil)) pa_nil)) (pe_op op_powW (pe_op op_pow pe_int pe_int) pe_int)))
      (pss_cons (ps_set (i := 4) scLDice.nd rfl (.inl rfl) (pe_op op_fdivW (pv 3) (pe_op op_pow pe_int pe_int)))
      (pss_cons (ps_set (i := 5) scLDice.nd rfl (.inl rfl) (pe_op op_add (pe_op op_add (pe_op op_add (pe_op op_mul (pe_op op_mod (pv 3) pe_int) pe_int) (pe_op op_mul pe_int (pv 1))) (pe_op op_mul pe_int (pe_callTy call_int1 (by rfl) T.z_int (by decide +kernel) (pa_cons (pe_cmpR op_lt (pv 2) pe_int (nomark _)) pa_nil)))) pe_int))
      (pss_one (ps_ret (pe_lst (pa_cons (pv 4) (pa_cons (pe_op op_mod (pv 5) pe_int) (pa_cons pe_int pa_nil))))))))) ), ?_⟩
    refine ⟨_, rfl, _, _, rfl, rfl, .inl (by decide), _, _, rfl, rfl, ?_⟩
    refine ⟨fun σ' H' => ∃ cell : Int, σ' = [some (.ref a), some (.int i), some (.int cell), none, none, none] ∧ H' = H, ?_, ?_⟩
    · refine ⟨_, rfl, .ref a, rfl, a, _, rfl, .inl hS, _, _, rfl, rfl, _, rfl, ite2 (fun c => ?_) (fun c => ⟨_, rfl, rfl⟩)⟩
      have c' : (i : Int) < ((ns.map V.int).length : Int) := of_decide_eq_true c
      rw [List.length_map] at c'
      have hx : (ns.map V.int)[i]? = some (.int (ns[i]'(by omega))) := by
        rw [List.getElem?_map, List.getElem?_eq_getElem (by omega)]
        rfl
      exact ⟨.ref a, rfl, _, rfl, a, _, _, _, rfl, rfl, hS, atI_nat hx, _, rfl, rfl⟩
    · rintro σ' H' ⟨cell, rfl, rfl⟩
      refine ⟨_, rfl, _, rfl, .inl ⟨_, rfl, _, _, rfl, rfl, ⟨by decide, by decide, by decide⟩, _, _, rfl, rfl, ⟨by decide, by decide +kernel⟩, _, _, rfl, rfl, by show (0 : Int) < (10 ^ Int.toNat 60) ^ Int.toNat 10; decide +kernel, ?_⟩⟩
      refine ⟨_, rfl, _, _, rfl, rfl, ⟨by decide, by decide, by decide⟩, _, _, rfl, rfl, wide_div (b := 60) (by decide +kernel) (by decide +kernel) (by decide) (by decide), ?_⟩
      refine ⟨_, rfl, _, _, rfl, rfl, by show (0 : Int) < _; decide, _, _, rfl, rfl, .inr (by decide), _, rfl, _, _, rfl, rfl, .inl (by decide), _, _, rfl, rfl, _, rfl, _, _, rfl, rfl, .inr ⟨_, rfl, _, _, rfl, rfl, .inl (by decide), _, _, rfl, rfl, _, _, rfl, rfl, ?_⟩⟩
      refine ⟨_, rfl, _, rfl, _, _, rfl, rfl, by show (0 : Int) < _; decide, by show 3 ≤ sizeLine; decide, fun p hp => ?_⟩
      exact q p _ hp (Ex.new hp) ⟨_, _, _, upd_same⟩
/-- the greatest common divisor -/
def spCommon : Sp := fun vs H Q _ => ∃ (a b : Nat), vs = [.int a, .int b] ∧ ∀ H', Ex H H' → Q (.int (Nat.gcd a b : Nat)) H'
theorem ok_common (T : Txt K mg) {f : Addr} {fd : FuncData} (D : DefAt K mg "_law_common" sLCommon ["_law_one", "_law_other"] f fd) : FnOk P w K mg base CX0 1 f fd ["_law_one", "_law_other"] spCommon := by
  refine D.F.ok scLCommon (fun vs H Q E h => ?_) (fun cdv A outer s H vs Q E hr h => ?_)
  · obtain ⟨d, n, rfl, _⟩ := h
    rfl
  · obtain ⟨a, b, rfl, q⟩ := h
    refine ⟨_, pss_cons (ps_while PassesOwn.never (pt_cmpR op_ne (pv 1) pe_int (nomark _))
        (pss_one (ps_par (i := 0) (j := 1) (by rfl) scLCommon.nd rfl rfl (by decide) rfl rfl (pa_cons (pv 1) (pa_cons (pe_op op_mod (pv 0) (pv 1)) pa_nil)) (by rfl))))
      (pss_one (ps_ret (pv 0))), ?_⟩
    refine q_while (fun m σ' H' => ∃ x y : Nat, σ' = [some (.int x), some (.int y)] ∧ m = y ∧ Nat.gcd x y = Nat.gcd a b ∧ Ex H H') b ⟨a, b, rfl, rfl, rfl, Ex.refl _⟩ (fun m σ' H' hW => ?_)
    obtain ⟨x, y, rfl, rfl, hg, e1⟩ := hW
    refine ⟨_, et_test (ev_op (ev_var (v := .int (m : Int)) rfl) ev_c (rv_ne rfl)), fun hb H1 e2 => ?_, fun hb H1 e2 => ?_⟩
    · have hy : m ≠ 0 := fun z => by
        subst z
        exact absurd hb (by decide)
      have hm : (x : Int) % (m : Int) = ((x % m : Nat) : Int) := by simp
      refine ⟨fun σ2 H2 => σ2 = [some (.int m), some (.int ((x % m : Nat) : Int))] ∧ H2 = H1, fun σ2 H2 hN => ?_, ?_⟩
      · obtain ⟨rfl, rfl⟩ := hN
        refine ⟨x % m, Nat.mod_lt _ (by omega), m, x % m, rfl, rfl, ?_, e1.trans e2⟩
        rw [← hg, Nat.gcd_comm m (x % m), ← Nat.gcd_rec, Nat.gcd_comm]
      · refine ⟨_, rfl, _, rfl, _, rfl, (x : Int), (m : Int), rfl, rfl, by omega, _, _, rfl, ?_⟩
        refine ⟨?_, rfl⟩
        show [some (V.int (m : Int)), some (V.int ((x : Int) % (m : Int)))] = _
        rw [hm]
    · have hy : m = 0 := by
        by_cases z : m = 0
        · exact z
        · exfalso
          have : (!decide (V.int (m : Int) = V.int 0)) = true := by
            rw [decide_eq_false (fun q => z (by have := V.int.inj q; omega))]
            rfl
          rw [this] at hb
          cases hb
      subst hy
      refine ⟨_, rfl, ?_⟩
      rw [Nat.gcd_zero_right] at hg
      rw [hg]
      exact q _ (e1.trans e2)
/-- a drawn ring of one order -/
def spRingOf : Sp := fun vs H Q _ => ∃ (d : Addr) (k t : Int), vs = [.ref d, .int k, .int t] ∧ Dice H d ∧ 2 ≤ k ∧ k ≤ 100 ∧ 1 ≤ t ∧ t ≤ 1000 ∧ ∀ x n s H', RingAt H' (k * t) x n s → Dice H' d → Keep d H H' → Q x H'
theorem ok_ring_of (T : Txt K mg) {f : Addr} {fd : FuncData} (D : DefAt K mg "_law_ring_of" sLRingOf ["_law_dice_here", "_law_k", "_law_times"] f fd) : FnOk P w K mg base CX0 3 f fd ["_law_dice_here", "_law_k", "_law_times"] spRingOf := by
  refine D.F.ok scLRingOf (fun vs H Q E h => ?_) (fun cdv A outer s H vs Q E hr h => ?_)
  · obtain ⟨d, n, t, rfl, _⟩ := h
    rfl
  · obtain ⟨d, k, t, rfl, hd, h1, h2, h3, h4, q⟩ := h
    obtain ⟨f1, fd1, D1⟩ := T.d_l_roll
    obtain ⟨f2, fd2, D2⟩ := T.d_l_common
    obtain ⟨f3, fd3, D3⟩ := T.d_l_one_of
    have hr1 : Room 1 _ := hr.mono (by decide)
    refine ⟨_, pss_cons (ps_set (i := 3) scLRingOf.nd rfl (.inl rfl) (pe_op op_add pe_int (pe_call (ok_roll T D1) hr1 (by rfl) D1.g D1.F.kp D1.b .nil pass0 (pa_cons (pv 0) (pa_cons (pv 2) pa_nil)))))
      (pss_cons (ps_setLc (i := 4) (own := [("_law_one", 5)]) (g := gName 5) (by rfl) scLRingOf.nd rfl rfl (sw_true rfl rfl rfl (by decide +kernel)) (pi_range2 (by rfl) T.z_range (pa_cons pe_int (pa_cons (pv 1) pa_nil)))
        (blkOk_by (N := nLRingOf) (sc := defScope sLRingOf) (by decide +kernel)) (fun _ _ _ _ _ => pg_name (i := 5) scLRingOf.nd rfl (Or.inl rfl))
        (fun _ _ _ _ _ => pts_one (pt_cmpR op_eq (pe_call (ok_common T D2) hr1 (by rfl) D2.g D2.F.kp D2.b .nil pass0 (pa_cons (pv 1) (pa_cons (pv 5) pa_nil))) pe_int (nomark _))) (fun _ _ _ _ _ => pv 5))
      (pss_one (ps_ret (pe_tup (pa_cons (pe_op op_mul (pv 1) (pv 3)) (pa_cons (pe_op op_mul (pv 3) (pe_call (ok_one_of T D3) hr (by rfl) D3.g D3.F.kp D3.b .nil pass0 (pa_cons (pv 0) (pa_cons (pv 4) pa_nil)))) pa_nil)))))), ?_⟩
    refine ⟨.ref d, rfl, .int t, rfl, d, _, rfl, hd, by omega, by omega, fun r H1 r0 r1 hd1 k1 => ?_⟩
    refine ⟨1, r, rfl, rfl, .int k, rfl, 1, k, rfl, by omega, fun Dl hD => ?_⟩
    have ndl : d ≠ Dl := hd1.ne_new hD
    have hD0 : H Dl = none := k1.free ndl.symm hD
    refine lc_range (lo := 1) (n := (k - 1).toNat) (fun i H' => ∃ js : List Int, H' Dl = some (.lst (js.map V.int)) ∧ js.length ≤ i ∧ (∀ j ∈ js, 1 ≤ j ∧ j < k) ∧ (1 ≤ i → 1 ≤ js.length) ∧ Keep d H H' ∧ Dice H' d)
      ⟨[], upd_same, Nat.le_refl _, by simp, by omega, k1.trans (Keep.new hD), hd1.upd (hd1.ne_new hD)⟩ (fun i H' hi hp => ?_) (fun H' hp => ?_)
    · obtain ⟨js, a1, a2, a3, a4, a5, a6⟩ := hp
      refine ⟨rfl, .int k, rfl, .int (1 + (i : Int)), rfl, k.toNat, 1 + i, ?_, fun H2 e2 => ?_⟩
      · show [V.int k, V.int (1 + (i : Int))] = [V.int ((k.toNat : Nat) : Int), V.int (((1 + i : Nat)) : Int)]
        rw [show ((k.toNat : Nat) : Int) = k by omega, show (((1 + i : Nat)) : Int) = 1 + (i : Int) by omega]
      · refine ⟨rfl, _, rfl, ite2 (fun c => ?_) (fun c => ?_)⟩
        · refine ⟨_, rfl, js.map V.int, e2 _ _ a1, ?_, js ++ [1 + (i : Int)], ?_, ?_, ?_, ?_, ?_, ?_⟩
          · rw [List.length_map]
            exact small1000 (by omega)
          · rw [List.map_append]
            exact upd_same
          · rw [List.length_append]
            exact Nat.add_le_add_right a2 1
          · intro j hj
            rcases List.mem_append.mp hj with hj | hj
            · exact a3 j hj
            · have := List.mem_singleton.mp hj
              omega
          · intro _
            rw [List.length_append]
            exact Nat.le_add_left _ _
          · exact (a5.trans (Keep.ex e2)).mut hD0
          · exact (a6.ex e2).upd ndl
        · refine ⟨js, e2 _ _ a1, by omega, a3, fun _ => ?_, a5.trans (Keep.ex e2), a6.ex e2⟩
          by_cases z : i = 0
          · subst z
            refine absurd ?_ c
            rw [show k.toNat.gcd (1 + 0) = 1 from Nat.gcd_one_right k.toNat]
            rfl
          · exact a4 (by omega)
    · obtain ⟨js, a1, a2, a3, a4, a5, a6⟩ := hp
      have hl : 1 ≤ js.length := a4 (by omega)
      have hb : 1 ≤ 1 + r ∧ 1 + r ≤ t := by omega
      have hkm : k * (1 + r) ≤ k * t := Int.mul_le_mul_of_nonneg_left hb.2 (by omega)
      have hk2 : 2 ≤ k * (1 + r) := by
        have := Int.mul_le_mul_of_nonneg_left hb.1 (show (0 : Int) ≤ k by omega)
        omega
      refine ⟨.int k, rfl, .int (1 + r), rfl, k, 1 + r, rfl, rfl, .inl (by constructor <;> omega), .int (1 + r), rfl, .ref d, rfl, .ref Dl, rfl, d, Dl, _, rfl, a6, a1, ndl.symm, by rw [List.length_map]; exact hl, by rw [List.length_map]; omega, fun x H2 hx hd2 k2 => ?_⟩
      obtain ⟨j, hj, rfl⟩ := List.mem_map.mp hx
      obtain ⟨j1, j2⟩ := a3 j hj
      refine ⟨1 + r, j, rfl, rfl, .inl (by constructor <;> omega), by show 2 ≤ sizeLine; decide, fun p hp => ?_⟩
      have c1 : 1 ≤ (1 + r) * j := by
        have := Int.mul_le_mul_of_nonneg_left j1 (show (0 : Int) ≤ 1 + r by omega)
        omega
      have c2 : (1 + r) * j < k * (1 + r) := by
        rw [Int.mul_comm k (1 + r)]
        exact Int.mul_lt_mul_of_pos_left j2 (by omega)
      exact q _ _ _ _ ⟨p, rfl, upd_same, hk2, hkm, c1, c2⟩ (hd2.upd (hd2.ne_new hp)) ((a5.trans k2).trans (Keep.new hp))
end
end K1

namespace K1
open PySem PySem.Spec PyProof.Rows L2 Evl
/-! ### chains -/
theorem RingAt.keep {d : Addr} {H H' : Hp} {most n s : Int} {x : V} (e : Keep d H H') (h : Dice H d) (r : RingAt H most x n s) : RingAt H' most x n s := by
  obtain ⟨t, rfl, ht, q⟩ := r
  exact ⟨t, rfl, e.tup h ht, q⟩
theorem RingAt.ex {H H' : Hp} {most n s : Int} {x : V} (e : Ex H H') (r : RingAt H most x n s) : RingAt H' most x n s := by
  obtain ⟨t, rfl, ht, q⟩ := r
  exact ⟨t, rfl, e _ _ ht, q⟩
theorem RingAt.upd {H : Hp} {most n s : Int} {x : V} {p : Addr} {o : HO} (h : ∀ t, x = .ref t → t ≠ p) (r : RingAt H most x n s) : RingAt (upd H p o) most x n s := by
  obtain ⟨t, rfl, ht, q⟩ := r
  exact ⟨t, rfl, by rw [upd_ne (h t rfl)]; exact ht, q⟩
theorem RingAt.most {H : Hp} {m m' n s : Int} {x : V} (h : m ≤ m') (r : RingAt H m x n s) : RingAt H m' x n s := by
  obtain ⟨t, rfl, ht, q1, q2, q3, q4⟩ := r
  exact ⟨t, rfl, ht, q1, by omega, q3, q4⟩
/-- rings at values, one by one -/
abbrev RingsAt (H : Hp) (most : Int) (xs : List V) (rs : List (Int × Int)) : Prop := Paired (fun x (r : Int × Int) => RingAt H most x r.1 r.2) xs rs
theorem paired_snoc {α β : Type} {R : α → β → Prop} {x : α} {y : β} (h : R x y) : ∀ {xs : List α} {ys : List β}, Paired R xs ys → Paired R (xs ++ [x]) (ys ++ [y])
  | _, _, .nil => .cons h .nil
  | _, _, .cons r t => .cons r (paired_snoc h t)
theorem paired_imp {α β : Type} {R S : α → β → Prop} (h : ∀ x y, R x y → S x y) : ∀ {xs : List α} {ys : List β}, Paired R xs ys → Paired S xs ys
  | _, _, .nil => .nil
  | _, _, .cons r t => .cons (h _ _ r) (paired_imp h t)
theorem paired_append {α β : Type} {R : α → β → Prop} : ∀ {xs xs' : List α} {ys ys' : List β}, Paired R xs ys → Paired R xs' ys' → Paired R (xs ++ xs') (ys ++ ys')
  | _, _, _, _, .nil, s => s
  | _, _, _, _, .cons r t, s => .cons r (paired_append t s)
theorem paired_get {α β : Type} {R : α → β → Prop} : ∀ {xs : List α} {ys : List β} {i : Nat} {x : α}, Paired R xs ys → xs[i]? = some x → ∃ y, ys[i]? = some y ∧ R x y
  | _, _, _, _, .nil, e => by simp at e
  | _, _, 0, _, .cons r _, e => by simp at e; subst e; exact ⟨_, rfl, r⟩
  | _, _, i + 1, x, .cons _ t, e => by
    obtain ⟨u, h1, h2⟩ := paired_get (i := i) (x := x) t (by simpa using e)
    exact ⟨u, by simpa using h1, h2⟩
theorem paired_len {α β : Type} {R : α → β → Prop} {xs : List α} {ys : List β} (h : Paired R xs ys) : xs.length = ys.length := Paired.length h
section
variable {P : Program} {w : World} {K : PySem.W.Frag} {mg : Str → Option Value} {base : Heap}
def spChain : Sp := fun vs H Q _ => ∃ (d : Addr) (g most : Int), vs = [.ref d, .int g, .int most] ∧ Dice H d ∧ 1 ≤ g ∧ g ≤ 100 ∧ 2 ≤ most ∧ most ≤ 60 ∧
  ∀ p xs rs H', H' p = some (.tup xs) → RingsAt H' most xs rs → (xs.length : Int) = g → Dice H' d → Keep d H H' → Q (.ref p) H'
/-- what stands behind i rings of the list at D -/
def ChW (d Dl : Addr) (H : Hp) (most : Int) (i : Nat) (H' : Hp) : Prop := ∃ xs rs, H' Dl = some (.lst xs) ∧ RingsAt H' most xs rs ∧ xs.length = i ∧ Keep d H H' ∧ Dice H' d
theorem ChW.turn {d Dl : Addr} {H H' H2 : Hp} {most n s : Int} {x : V} {i : Nat} (W : ChW d Dl H most i H') (ndl : d ≠ Dl) (hD0 : H Dl = none) (k : Keep d H' H2) (hd : Dice H2 d) (r : RingAt H2 most x n s) (hi : i < 1000) :
    ∃ acc, H2 Dl = some (.lst acc) ∧ acc.length < sizeLine ∧ ChW d Dl H most (i + 1) (upd H2 Dl (.lst (acc ++ [x]))) := by
  obtain ⟨xs, rs, a1, a2, a3, a4, a5⟩ := W
  have e1 : H2 Dl = some (.lst xs) := k _ _ ndl.symm a1
  have nt : ∀ {y : V} {n s : Int}, RingAt H2 most y n s → RingAt (upd H2 Dl (.lst (xs ++ [x]))) most y n s := fun {y n s} q => q.upd fun t ht => by
    obtain ⟨t', rfl, ht', _⟩ := q
    cases ht
    exact ne_of ht' e1 (by intro z; cases z)
  refine ⟨xs, e1, small1000 (by omega), xs ++ [x], rs ++ [(n, s)], upd_same, paired_snoc (R := fun x (r : Int × Int) => RingAt (upd H2 Dl (.lst (xs ++ [_]))) most x r.1 r.2) (y := (n, s)) (nt r) (paired_imp (R := fun x (r : Int × Int) => RingAt H' most x r.1 r.2) (fun y r' q => nt (q.keep k a5)) a2), ?_, (a4.trans k).mut hD0, hd.upd ndl⟩
  rw [List.length_append, a3]
  rfl
theorem ok_chain (T : Txt K mg) {f : Addr} {fd : FuncData} (D : DefAt K mg "_law_chain" sLChain ["_law_dice_here", "_law_rings", "_law_most"] f fd) : FnOk P w K mg base CX0 4 f fd ["_law_dice_here", "_law_rings", "_law_most"] spChain := by
  refine D.F.ok scLChain (fun vs H Q E h => ?_) (fun cdv A outer s H vs Q E hr h => ?_)
  · obtain ⟨d, n, t, rfl, _⟩ := h
    rfl
  · obtain ⟨d, g, most, rfl, hd, h1, h2, h3, h4, q⟩ := h
    obtain ⟨f1, fd1, D1⟩ := T.d_l_roll
    obtain ⟨f2, fd2, D2⟩ := T.d_l_ring_of
    obtain ⟨f3, fd3, D3⟩ := T.d_l_ring
    have hr1 : Room 1 _ := hr.mono (by decide)
    have hr2 : Room 2 _ := hr.mono (by decide)
    refine ⟨_, pss_cons (ps_if (pt_cmpR op_eq (pe_call (ok_roll T D1) hr1 (by rfl) D1.g D1.F.kp D1.b .nil pass0 (pa_cons (pv 0) (pa_cons pe_int pa_nil))) pe_int (nomark _))
        (pss_cons (ps_set (i := 3) scLChain.nd rfl (.inr rfl) (pe_op op_add pe_int (pe_call (ok_roll T D1) hr1 (by rfl) D1.g D1.F.kp D1.b .nil pass0 (pa_cons (pv 0) (pa_cons (pe_callB (call_min2 rfl) (by rfl) T.z_min (by decide +kernel) (pa_cons pe_int (pa_cons (pe_op op_sub (pv 2) pe_int) pa_nil))) pa_nil)))))
        (pss_one (ps_ret (pe_callTy call_tuple_of (by rfl) T.z_tuple (by decide +kernel) (pa_cons (pe_lc (own := [("_law_turn", 4)]) (g := gName 4) (tt := tYes) rfl scLChain.nd (pi_range1 (by rfl) T.z_range (pa_cons (pv 1) pa_nil))
          (blkOk_by (N := nLChain) (sc := defScope sLChain) (by decide +kernel)) (fun _ _ _ _ _ => pg_name (i := 4) scLChain.nd rfl (Or.inl rfl)) (fun _ _ _ _ _ => pts_nil)
          (fun _ _ _ _ _ => pe_call (ok_ring_of T D2) hr (by rfl) D2.g D2.F.kp D2.b .nil pass0 (pa_cons (pv 0) (pa_cons (pv 3) (pa_cons (pe_op op_fdiv (pv 2) (pv 3)) pa_nil))))) pa_nil))))) pss_nil)
      (pss_one (ps_ret (pe_callTy call_tuple_of (by rfl) T.z_tuple (by decide +kernel) (pa_cons (pe_lc (own := [("_law_turn", 4)]) (g := gName 4) (tt := tYes) rfl scLChain.nd (pi_range1 (by rfl) T.z_range (pa_cons (pv 1) pa_nil))
          (blkOk_by (N := nLChain) (sc := defScope sLChain) (by decide +kernel)) (fun _ _ _ _ _ => pg_name (i := 4) scLChain.nd rfl (Or.inl rfl)) (fun _ _ _ _ _ => pts_nil)
          (fun _ _ _ _ _ => pe_call (ok_ring T D3) hr2 (by rfl) D3.g D3.F.kp D3.b .nil pass0 (pa_cons (pv 0) (pa_cons (pv 2) pa_nil)))) pa_nil)))), ?_⟩
    refine ⟨.ref d, rfl, d, 3, rfl, hd, by omega, by omega, fun r H1 r0 r1 hd1 k1 => ?_⟩
    refine ⟨rfl, _, rfl, ite2 (fun c => ?_) (fun c => ?_)⟩
    · refine ⟨.ref d, rfl, .int most, rfl, most, 1, rfl, rfl, 3, most - 1, rfl, d, _, rfl, hd1, ?_, ?_, fun r' H2 r0' r1' hd2 k2 => ?_⟩
      · split <;> omega
      · split <;> omega
      have hk : 2 + r' ≤ most ∧ 2 + r' ≤ 4 := by
        split at r1' <;> omega
      refine ⟨2, r', rfl, rfl, .int g, rfl, g, rfl, by omega, by omega, fun Dl hD => ?_⟩
      have ndl : d ≠ Dl := hd2.ne_new hD
      have k12 := k1.trans k2
      have hD0 : H Dl = none := k12.free ndl.symm hD
      refine lc_range (lo := 0) (n := g.toNat) (ChW d Dl H most) ⟨[], [], upd_same, .nil, rfl, k12.trans (Keep.new hD), hd2.upd ndl⟩ (fun i H' hi W => ?_) (fun H' W => ?_)
      · have hd' := W.choose_spec.choose_spec.2.2.2.2
        have hq : 1 ≤ most / (2 + r') := Int.le_ediv_of_mul_le (by omega) (by omega)
        have hq2 : most / (2 + r') ≤ most := Int.ediv_le_self _ (by omega)
        have hq3 : (2 + r') * (most / (2 + r')) ≤ most := Int.mul_ediv_self_le (by omega)
        refine ⟨rfl, ?_⟩
        dsimp only [tYes]
        rw [if_pos rfl]
        refine ⟨.ref d, rfl, .int (2 + r'), rfl, .int most, rfl, .int (2 + r'), rfl, most, 2 + r', rfl, rfl, ⟨by omega, by omega⟩, d, 2 + r', most / (2 + r'), rfl, hd', by omega, by omega, hq, by omega, fun x n s H3 hx hd3 k3 => ?_⟩
        exact W.turn ndl hD0 k3 hd3 (hx.most hq3) (by omega)
      · obtain ⟨xs, rs, a1, a2, a3, a4, a5⟩ := W
        refine ⟨Dl, xs, rfl, .inl ⟨SqL.of a1, fun p hp => q p xs rs _ upd_same (paired_imp (fun y r' z => RingAt.ex (.new hp) z) a2) (by omega) (a5.upd (a5.ne_new hp)) (a4.trans (Keep.new hp))⟩⟩
    · refine ⟨.int g, rfl, g, rfl, by omega, by omega, fun Dl hD => ?_⟩
      have ndl : d ≠ Dl := hd1.ne_new hD
      have hD0 : H Dl = none := k1.free ndl.symm hD
      refine lc_range (lo := 0) (n := g.toNat) (ChW d Dl H most) ⟨[], [], upd_same, .nil, rfl, k1.trans (Keep.new hD), hd1.upd ndl⟩ (fun i H' hi W => ?_) (fun H' W => ?_)
      · have hd' := W.choose_spec.choose_spec.2.2.2.2
        refine ⟨rfl, ?_⟩
        dsimp only [tYes]
        rw [if_pos rfl]
        refine ⟨.ref d, rfl, .int most, rfl, d, most, rfl, hd', by omega, by omega, fun x n s H3 hx hd3 k3 => ?_⟩
        exact W.turn ndl hD0 k3 hd3 hx (by omega)
      · obtain ⟨xs, rs, a1, a2, a3, a4, a5⟩ := W
        refine ⟨Dl, xs, rfl, .inl ⟨SqL.of a1, fun p hp => q p xs rs _ upd_same (paired_imp (fun y r' z => RingAt.ex (.new hp) z) a2) (by omega) (a5.upd (a5.ne_new hp)) (a4.trans (Keep.new hp))⟩⟩
end
end K1

namespace K1
open PySem PySem.Spec PyProof.Rows L2 Evl
/-! ### judges of rings and chains -/
/-- no tuple -/
inductive NotTup (K : PySem.W.Frag) (H : Hp) : V → Prop where
  | bl (b : Bool) : NotTup K H (.bl b)
  | non : NotTup K H .non
  | int (i : Int) : NotTup K H (.int i)
  | str (x : Str) : NotTup K H (.str x)
  | lst {a : Addr} {xs : List V} (e : H a = some (.lst xs)) : NotTup K H (.ref a)
  | dK {a : Addr} {kvs : List (Key × V)} (e : H a = some (.dK kvs)) : NotTup K H (.ref a)
theorem NotTup.ty {K : PySem.W.Frag} {H : Hp} {x : V} (h : NotTup K H x) : ∃ t : Value, TyX K H x t ∧ PySem.W.kitOne K t (.type "tuple") = some false := by
  cases h with
  | bl b => exact ⟨_, .base (.bl b), (kit_ty (by decide +kernel))⟩
  | non => exact ⟨_, .base .non, (kit_ty (by decide +kernel))⟩
  | int x => exact ⟨_, .base (.int x), (kit_ty (by decide +kernel))⟩
  | str x => exact ⟨_, .base (.str x), (kit_ty (by decide +kernel))⟩
  | lst e => exact ⟨_, .base (.lst e), (kit_ty (by decide +kernel))⟩
  | dK e => exact ⟨_, .base (.dK e), (kit_ty (by decide +kernel))⟩
theorem NotTup.mono {K : PySem.W.Frag} {H H' : Hp} {x : V} (e : Ex H H') (h : NotTup K H x) : NotTup K H' x := by
  cases h with
  | bl b => exact .bl b
  | non => exact .non
  | int x => exact .int x
  | str x => exact .str x
  | lst q => exact .lst (e _ _ q)
  | dK q => exact .dK (e _ _ q)
theorem BtwB.mono {K : PySem.W.Frag} {H H' : Hp} {lo hi : Int} {x : V} {b : Bool} (e : Ex H H') (h : BtwB K H lo hi x b) : BtwB K H' lo hi x b := by
  cases h with
  | int i => exact .int i
  | no h => exact .no (h.mono e)
theorem BtwB.yes {K : PySem.W.Frag} {H : Hp} {lo hi i : Int} (h1 : lo ≤ i) (h2 : i ≤ hi) (h3 : -(10 ^ 60) < i) (h4 : i < 10 ^ 60) : BtwB K H lo hi (.int i) true := by
  have := BtwB.int (K := K) (H := H) (lo := lo) (hi := hi) i
  rw [decide_eq_true h1, decide_eq_true h2, decide_eq_true h3, decide_eq_true h4] at this
  exact this
theorem BtwB.out {K : PySem.W.Frag} {H : Hp} {lo hi i : Int} (h1 : ¬ (lo ≤ i ∧ i ≤ hi)) : BtwB K H lo hi (.int i) false := by
  have := BtwB.int (K := K) (H := H) (lo := lo) (hi := hi) i
  have e : (decide (lo ≤ i) && decide (i ≤ hi)) = false := by
    by_cases c : lo ≤ i
    · have c2 : ¬ i ≤ hi := fun z => h1 ⟨c, z⟩
      rw [decide_eq_false c2, Bool.and_false]
    · rw [decide_eq_false c, Bool.false_and]
  rw [e, Bool.and_false] at this
  exact this
inductive PairB (K : PySem.W.Frag) (H : Hp) : V → Bool → Prop where
  | no {x : V} (h : NotTup K H x) : PairB K H x false
  | tup {a : Addr} {xs : List V} (e : H a = some (.tup xs)) : PairB K H (.ref a) (decide (xs.length = 2))
inductive RingB (K : PySem.W.Frag) (H : Hp) : V → Bool → Prop where
  | no {x : V} (h : NotTup K H x) : RingB K H x false
  | len {a : Addr} {xs : List V} (e : H a = some (.tup xs)) (h : xs.length ≠ 2) : RingB K H (.ref a) false
  | first {a : Addr} {x y : V} (e : H a = some (.tup [x, y])) (h : BtwB K H 2 60 x false) : RingB K H (.ref a) false
  | both {a : Addr} {n : Int} {y : V} {b : Bool} (e : H a = some (.tup [.int n, y])) (h1 : 2 ≤ n) (h2 : n ≤ 60) (h : BtwB K H 1 (n - 1) y b) : RingB K H (.ref a) b
theorem RingB.mono {K : PySem.W.Frag} {H H' : Hp} {x : V} {b : Bool} (e : Ex H H') (h : RingB K H x b) : RingB K H' x b := by
  cases h with
  | no h => exact .no (h.mono e)
  | len q h => exact .len (e _ _ q) h
  | first q h => exact .first (e _ _ q) (h.mono e)
  | both q h1 h2 h => exact .both (e _ _ q) h1 h2 (h.mono e)
inductive ChainB (K : PySem.W.Frag) (H : Hp) : V → Bool → Prop where
  | no {x : V} (h : NotTup K H x) : ChainB K H x false
  | len {a : Addr} {xs : List V} (e : H a = some (.tup xs)) (h : ¬ (1 ≤ xs.length ∧ xs.length ≤ 12)) : ChainB K H (.ref a) false
  | tup {a : Addr} {xs : List V} {bs : List Bool} (e : H a = some (.tup xs)) (h : 1 ≤ xs.length ∧ xs.length ≤ 12) (hb : Paired (RingB K H) xs bs) : ChainB K H (.ref a) (bs.all id)
theorem RingAt.ring {K : PySem.W.Frag} {H : Hp} {most n s : Int} {x : V} (h : RingAt H most x n s) (hm : most ≤ 60) : RingB K H x true := by
  obtain ⟨t, rfl, ht, h1, h2, h3, h4⟩ := h
  exact .both ht h1 (by omega) (.yes h3 (by omega) (by omega) (by omega))
section
variable {P : Program} {w : World} {K : PySem.W.Frag} {mg : Str → Option Value} {base : Heap}
def spIsPair (K : PySem.W.Frag) : Sp := fun vs H Q _ => ∃ x b, vs = [x] ∧ PairB K H x b ∧ ∀ H', Ex H H' → Q (.bl b) H'
theorem ok_is_pair (T : Txt K mg) {f : Addr} {fd : FuncData} (D : DefAt K mg "is_pair" sIsPair ["value"] f fd) : FnOk P w K mg base CX0 1 f fd ["value"] (spIsPair K) := by
  refine D.F.ok scIsPair (fun vs H Q E h => ?_) (fun cdv A outer s H vs Q E hr h => ?_)
  · obtain ⟨x, b, rfl, _⟩ := h
    rfl
  · obtain ⟨x, b, rfl, hb, q⟩ := h
    refine ⟨_, pss_one (ps_ret (pe_and (pe_callB call_isi (by rfl) T.z_isinstance (by decide +kernel) (pa_cons (pv 0) (pa_cons (pe_bltn (v := .ty "tuple") (by rfl) T.z_tuple (by decide +kernel) rfl) pa_nil)))
      (pe_one (pe_cmpR op_eq (pe_callB call_len (by rfl) T.z_len PySem.boot_len (pa_cons (pv 0) pa_nil)) pe_int (nomark _))))), ?_⟩
    cases hb with
    | no hn =>
      obtain ⟨t, ty, h⟩ := hn.ty
      exact ⟨x, rfl, x, .ty "tuple", t, .type "tuple", false, rfl, .ty _, ty, h, false, rfl, iteF (q _ (Ex.refl _))⟩
    | @tup a xs e =>
      refine ⟨_, rfl, .ref a, .ty "tuple", .type "tuple", .type "tuple", true, rfl, .ty _, .base (.tup e), kit_ty (by decide +kernel), true, rfl, iteT ?_⟩
      refine ⟨_, rfl, _, xs.length, rfl, .inr ⟨_, SqT.of e, rfl⟩, rfl, ?_⟩
      have e2 : decide (V.int (xs.length : Int) = V.int 2) = decide (xs.length = 2) := by
        by_cases c : xs.length = 2
        · rw [c]
          rfl
        · rw [decide_eq_false c, decide_eq_false (fun z => c (by have := V.int.inj z; omega))]
      rw [e2]
      exact q _ (Ex.refl _)
def spIsRing (K : PySem.W.Frag) : Sp := fun vs H Q _ => ∃ x b, vs = [x] ∧ RingB K H x b ∧ ∀ H', Ex H H' → Q (.bl b) H'
theorem ok_is_ring (T : Txt K mg) {f : Addr} {fd : FuncData} (D : DefAt K mg "is_ring" sIsRing ["value"] f fd) : FnOk P w K mg base CX0 3 f fd ["value"] (spIsRing K) := by
  refine D.F.ok scIsRing (fun vs H Q E h => ?_) (fun cdv A outer s H vs Q E hr h => ?_)
  · obtain ⟨x, b, rfl, _⟩ := h
    rfl
  · obtain ⟨x, b, rfl, hb, q⟩ := h
    obtain ⟨f1, fd1, D1⟩ := T.d_is_pair
    obtain ⟨f2, fd2, D2⟩ := T.d_is_between
    obtain ⟨tM, vM⟩ := T.v_PLACES
    have hr1 : Room 1 _ := hr.mono (by decide)
    refine ⟨_, pss_cons (ps_if (pt_not (pt_val (pe_call (ok_is_pair T D1) hr1 (by rfl) D1.g D1.F.kp D1.b .nil pass0 (pa_cons (pv 0) pa_nil)))) (pss_one (ps_ret pe_bl)) pss_nil)
      (pss_cons (ps_asg (pv 0) (pg_tup (by rfl) (pgs_cons (pg_name (i := 1) scIsRing.nd rfl (.inl rfl)) (pgs_cons (pg_name (i := 2) scIsRing.nd rfl (.inl rfl)) pgs_nil))))
      (pss_one (ps_ret (pe_and (pe_call (ok_is_between T D2) hr (by rfl) D2.g D2.F.kp D2.b .nil pass0 (pa_cons (pv 1) (pa_cons pe_int (pa_cons (pe_glob (v := .int 60) rfl vM ⟨_, rfl⟩) pa_nil))))
        (pe_one (pe_call (ok_is_between T D2) hr (by rfl) D2.g D2.F.kp D2.b .nil pass0 (pa_cons (pv 2) (pa_cons pe_int (pa_cons (pe_op op_sub (pv 1) pe_int) pa_nil))))))))), ?_⟩
    cases hb with
    | no h => exact ⟨x, rfl, x, false, rfl, .no h, fun H1 e1 => ⟨false, rfl, iteT (q _ e1)⟩⟩
    | @len a xs e h => exact ⟨_, rfl, .ref a, false, rfl, by have := PairB.tup (K := K) e; rw [decide_eq_false h] at this; exact this, fun H1 e1 => ⟨false, rfl, iteT (q _ e1)⟩⟩
    | @first a x y e h =>
      refine ⟨_, rfl, .ref a, true, rfl, .tup e, fun H1 e1 => ⟨true, rfl, iteF ?_⟩⟩
      refine ⟨_, rfl, a, [x, y], rfl, SqT.of (e1 _ _ e), rfl, x, [y], rfl, y, [], rfl, rfl, ?_⟩
      exact ⟨x, rfl, x, 2, 60, false, rfl, h.mono e1, fun H2 e2 => ⟨false, rfl, iteF (q _ (e1.trans e2))⟩⟩
    | @both a n y b e h1 h2 h =>
      refine ⟨_, rfl, .ref a, true, rfl, .tup e, fun H1 e1 => ⟨true, rfl, iteF ?_⟩⟩
      refine ⟨_, rfl, a, [.int n, y], rfl, SqT.of (e1 _ _ e), rfl, .int n, [y], rfl, y, [], rfl, rfl, ?_⟩
      refine ⟨.int n, rfl, .int n, 2, 60, true, rfl, .yes h1 h2 (by omega) (by omega), fun H2 e2 => ⟨true, rfl, iteT ?_⟩⟩
      exact ⟨y, rfl, .int n, rfl, n, 1, rfl, rfl, y, 1, n - 1, b, rfl, h.mono (e1.trans e2), fun H3 e3 => q _ ((e1.trans e2).trans e3)⟩
def spIsChain (K : PySem.W.Frag) : Sp := fun vs H Q _ => ∃ x b, vs = [x] ∧ ChainB K H x b ∧ ∀ H', Ex H H' → Q (.bl b) H'
theorem ok_is_chain (T : Txt K mg) {f : Addr} {fd : FuncData} (D : DefAt K mg "is_chain" sIsChain ["value"] f fd) : FnOk P w K mg base CX0 4 f fd ["value"] (spIsChain K) := by
  refine D.F.ok scIsChain (fun vs H Q E h => ?_) (fun cdv A outer s H vs Q E hr h => ?_)
  · obtain ⟨x, b, rfl, _⟩ := h
    rfl
  · obtain ⟨x, b, rfl, hb, q⟩ := h
    obtain ⟨f1, fd1, D1⟩ := T.d_is_ring
    obtain ⟨tM, vM⟩ := T.v_RINGS
    refine ⟨_, pss_cons (ps_if (PW.pt (pw_or (pt_not (pt_val (pe_callB call_isi (by rfl) T.z_isinstance (by decide +kernel) (pa_cons (pv 0) (pa_cons (pe_bltn (v := .ty "tuple") (by rfl) T.z_tuple (by decide +kernel) rfl) pa_nil)))))
        (pw_or1 (pt_not (pt_chain op_le op_le pe_int (pe_callB call_len (by rfl) T.z_len PySem.boot_len (pa_cons (pv 0) pa_nil)) (pe_glob (v := .int 12) rfl vM ⟨_, rfl⟩)))))) (pss_one (ps_ret pe_bl)) pss_nil)
      (pss_one (ps_ret (pe_callB (cr_all rfl) (by rfl) T.z_all (by decide +kernel) (pa_cons (pe_lc (own := [("ring", 1)]) (g := gName 1) (tt := tYes) rfl scIsChain.nd (pi_tup (pv 0))
          (blkOk_by (N := nIsChain) (sc := defScope sIsChain) (by decide +kernel)) (fun _ _ _ _ _ => pg_name (i := 1) scIsChain.nd rfl (Or.inl rfl)) (fun _ _ _ _ _ => pts_nil)
          (fun _ _ _ _ _ => pe_call (ok_is_ring T D1) hr (by rfl) D1.g D1.F.kp D1.b .nil pass0 (pa_cons (pv 1) pa_nil))) pa_nil)))), ?_⟩
    cases hb with
    | no hn =>
      obtain ⟨t, ty, h⟩ := hn.ty
      exact ⟨x, rfl, x, .ty "tuple", t, .type "tuple", false, rfl, .ty _, ty, h, false, rfl, iteT (iteT (q _ (Ex.refl _)))⟩
    | @len a xs e h =>
      refine ⟨_, rfl, .ref a, .ty "tuple", .type "tuple", .type "tuple", true, rfl, .ty _, .base (.tup e), kit_ty (by decide +kernel), true, rfl, iteF ?_⟩
      refine ⟨_, rfl, _, xs.length, rfl, .inr ⟨_, SqT.of e, rfl⟩, _, _, rfl, rfl, _, rfl, ite2 (fun c => ?_) (fun c => ?_)⟩
      · refine ⟨_, _, rfl, rfl, _, rfl, ?_⟩
        have c2 : ¬ ((xs.length : Int) ≤ 12) := fun z => h ⟨by have : (1 : Int) ≤ (xs.length : Int) := of_decide_eq_true c; omega, by omega⟩
        rw [decide_eq_false c2]
        exact iteT (q _ (Ex.refl _))
      · exact ⟨_, rfl, iteT (q _ (Ex.refl _))⟩
    | @tup a xs bs e h hb =>
      refine ⟨_, rfl, .ref a, .ty "tuple", .type "tuple", .type "tuple", true, rfl, .ty _, .base (.tup e), kit_ty (by decide +kernel), true, rfl, iteF ?_⟩
      refine ⟨_, rfl, _, xs.length, rfl, .inr ⟨_, SqT.of e, rfl⟩, _, _, rfl, rfl, _, rfl, ite2 (fun c => ?_) (fun c => ?_)⟩
      · refine ⟨_, _, rfl, rfl, _, rfl, ?_⟩
        rw [decide_eq_true (show (xs.length : Int) ≤ 12 by omega)]
        refine iteF ?_
        refine ⟨_, rfl, a, rfl, ⟨_, SqT.of e⟩, fun Dl hD => ?_⟩
        refine lc_tup (K := K) (a := a) (xs := xs) (fun i H' => H' Dl = some (.lst ((bs.take i).map V.bl)) ∧ Ex H H') ⟨upd_same, Ex.new hD⟩ (fun i H' _ hp => SqT.of (hp.2 _ _ e)) (fun i x H' hx hp => ?_) (fun H' hp => ?_)
        · obtain ⟨y, hy, hR⟩ := paired_get hb hx
          refine ⟨rfl, ?_⟩
          dsimp only [tYes]
          rw [if_pos rfl]
          refine ⟨x, rfl, x, y, rfl, hR.mono hp.2, fun H2 e2 => ⟨_, e2 _ _ hp.1, ?_, ?_, ?_⟩⟩
          · have := (List.getElem?_eq_some_iff.mp hx).1
            rw [List.length_map, List.length_take]
            exact small1000 (Nat.le_trans (Nat.min_le_left _ _) (by omega))
          · rw [upd_same, List.take_add_one, hy, List.map_append]
            rfl
          · exact Ex.mut (hp.2.trans e2) hD
        · refine ⟨Dl, bs, rfl, ?_, q _ hp.2⟩
          have e3 : bs.take xs.length = bs := List.take_of_length_le (by rw [paired_len hb]; exact Nat.le_refl _)
          have h1 := hp.1
          rw [e3] at h1
          exact SqL.of h1
      · exact absurd (decide_eq_true (show (1 : Int) ≤ (xs.length : Int) by omega)) c
end
end K1

namespace K1
open PySem PySem.Spec PyProof.Rows L2 Evl
/-! ### orders and diagonals -/
section
variable {P : Program} {w : World} {K : PySem.W.Frag} {mg : Str → Option Value} {base : Heap}
def spCheckInteger (K : PySem.W.Frag) : Sp := fun vs H Q _ => ∃ i : Int, vs = [.int i] ∧ -(10 ^ 60) < i ∧ i < 10 ^ 60 ∧ ∀ H', Ex H H' → Q .non H'
def spCheckRing (K : PySem.W.Frag) : Sp := fun vs H Q _ => ∃ x, vs = [x] ∧ RingB K H x true ∧ ∀ H', Ex H H' → Q .non H'
def spCheckChain (K : PySem.W.Frag) : Sp := fun vs H Q _ => ∃ x, vs = [x] ∧ ChainB K H x true ∧ ∀ H', Ex H H' → Q .non H'
theorem ok_check_chain (T : Txt K mg) {f : Addr} {fd : FuncData} (D : DefAt K mg "check_chain" sCheckChain ["chain"] f fd) : FnOk P w K mg base CX0 5 f fd ["chain"] (spCheckChain K) := by
  refine D.F.ok scCheckChain (fun vs H Q E h => ?_) (fun cdv A outer s H vs Q E hr h => ?_)
  · obtain ⟨x, rfl, _⟩ := h
    rfl
  · obtain ⟨x, rfl, hb, q⟩ := h
    obtain ⟨f1, fd1, D1⟩ := T.d_is_chain
    refine ⟨_, pss_one (ps_if (pt_not (pt_val (pe_call (ok_is_chain T D1) hr (by rfl) D1.g D1.F.kp D1.b .nil pass0 (pa_cons (pv 0) pa_nil)))) pss_never pss_nil), ?_⟩
    exact ⟨_, rfl, x, true, rfl, hb, fun H1 e1 => ⟨true, rfl, iteF (q _ e1)⟩⟩
def spOrderOf : Sp := fun vs H Q _ => ∃ x n s, vs = [x] ∧ RingAt H 60 x n s ∧ ∀ H', Ex H H' → Q (.int (K1M.ord n.natAbs s.natAbs : Nat)) H'
def spLets : Sp := fun vs H Q _ => ∃ x n s p c, vs = [x, .int p, .int c] ∧ RingAt H 60 x n s ∧ ∀ H', Ex H H' → Q (.bl (decide ((c * s - p) % n = 0))) H'
def spDoesLet : Sp := fun vs H Q _ => ∃ x n s p c, vs = [x, .int p, .int c] ∧ RingAt H 60 x n s ∧ 0 ≤ p ∧ p < n ∧ -(10 ^ 60) < c ∧ c < 10 ^ 60 ∧ ∀ H', Ex H H' → Q (.bl (decide ((c * s) % n = p))) H'
end
end K1

namespace K1
open PySem PySem.Spec PyProof.Rows L2 Evl K1N
/-! ### written names -/
theorem eqv_pair (a b c d : Int) : PyData.eqv (.tuple [.int a, .int b]) (.tuple [.int c, .int d]) = (a == c && b == d) := by
  simp [PyData.eqv, PyData.eqvAll]
def PlaceAt (H : Hp) (x : V) (p : Int × Int) : Prop := ∃ t, x = .ref t ∧ H t = some (.tup [.int p.1, .int p.2])
theorem PlaceAt.ex {H H' : Hp} {x : V} {p : Int × Int} (e : Ex H H') (h : PlaceAt H x p) : PlaceAt H' x p := by
  obtain ⟨t, rfl, ht⟩ := h
  exact ⟨t, rfl, e _ _ ht⟩
theorem PlaceAt.updL {H : Hp} {x : V} {p : Int × Int} {D : Addr} {ys zs : List V} (hD : H D = some (.lst ys)) (h : PlaceAt H x p) : PlaceAt (upd H D (.lst zs)) x p := by
  obtain ⟨t, rfl, ht⟩ := h
  exact ⟨t, rfl, by rw [upd_ne (ne_of ht hD (by intro z; cases z))]; exact ht⟩
abbrev Places (H : Hp) (xs : List V) (ps : List (Int × Int)) : Prop := Paired (PlaceAt H) xs ps
theorem Places.ex {H H' : Hp} {xs : List V} {ps : List (Int × Int)} (e : Ex H H') (h : Places H xs ps) : Places H' xs ps := paired_imp (fun _ _ q => PlaceAt.ex e q) h
theorem Places.updL {H : Hp} {xs : List V} {ps : List (Int × Int)} {D : Addr} {ys zs : List V} (hD : H D = some (.lst ys)) (h : Places H xs ps) : Places (upd H D (.lst zs)) xs ps := paired_imp (fun _ _ q => PlaceAt.updL hD q) h
/-- what the rings of a chain are, by number -/
theorem rings_nth {H : Hp} {most : Int} {xs : List V} {rs : List (Int × Int)} (h : RingsAt H most xs rs) {j : Nat} (hj : j < rs.length) : ∃ x, xs[j]? = some x ∧ RingAt H most x (nAt rs j : Int) (sAt rs j) := by
  have hl := paired_len h
  have hx : xs[j]? = some (xs[j]'(by omega)) := List.getElem?_eq_getElem _
  obtain ⟨r, hr, q⟩ := paired_get h hx
  have e : rs.getD j (0, 0) = r := by rw [List.getD_eq_getElem?_getD, hr]; rfl
  obtain ⟨t, e1, e2, e3, e4, e5, e6⟩ := id q
  refine ⟨_, hx, ?_⟩
  unfold nAt sAt
  rw [e, show ((r.1.toNat : Nat) : Int) = r.1 by omega]
  exact q
theorem rings_ok {H : Hp} {most : Int} {xs : List V} {rs : List (Int × Int)} (h : RingsAt H most xs rs) (j : Nat) (hj : j < rs.length) : 1 ≤ sAt rs j ∧ sAt rs j < (nAt rs j : Int) := by
  obtain ⟨x, _, t, _, _, _, _, e5, e6⟩ := rings_nth h hj
  exact ⟨e5, e6⟩
theorem rings_n {H : Hp} {xs : List V} {rs : List (Int × Int)} (h : RingsAt H 60 xs rs) (j : Nat) : nAt rs j ≤ 60 := by
  by_cases hj : j < rs.length
  · obtain ⟨x, _, t, _, _, _, e4, _⟩ := rings_nth h hj
    omega
  · unfold nAt
    rw [List.getD_eq_getElem?_getD, List.getElem?_eq_none (by omega)]
    decide
theorem rings_chain {K : PySem.W.Frag} {H : Hp} {a : Addr} {xs : List V} {rs : List (Int × Int)} (h : RingsAt H 60 xs rs) (ha : H a = some (.tup xs)) (h1 : 1 ≤ xs.length) (h2 : xs.length ≤ 12) : ChainB K H (.ref a) true := by
  have p : ∀ {xs : List V} {rs : List (Int × Int)}, RingsAt H 60 xs rs → Paired (RingB K H) xs (List.replicate xs.length true) := by
    intro xs rs h
    induction h with
    | nil => exact .nil
    | cons r _ ih => exact .cons (RingAt.ring r (Int.le_refl _)) ih
  have q := ChainB.tup (K := K) ha ⟨h1, h2⟩ (p h)
  have e : (List.replicate xs.length true).all id = true := by simp
  rw [e] at q
  exact q
theorem pre_in (rs : List (Int × Int)) : ∀ (i : Nat) {p : Int × Int}, p ∈ pre rs i → 0 ≤ p.1 ∧ p.1 < (i : Int)
  | 0, p, h => by cases h
  | i + 1, p, h => by
    rcases List.mem_append.mp h with h | h
    · have := pre_in rs i h
      omega
    · unfold row at h
      obtain ⟨q, _, rfl⟩ := List.mem_map.mp h
      show 0 ≤ (i : Int) ∧ (i : Int) < ((i + 1 : Nat) : Int)
      omega
/-- the written name of a place -/
def wn (rs : List (Int × Int)) (p : Int × Int) : Int × Int := if own rs p then p else (p.1 - 1, 0)
section
variable {P : Program} {w : World} {K : PySem.W.Frag} {mg : Str → Option Value} {base : Heap}
def spWrittenName : Sp := fun vs H Q _ => ∃ (c : Addr) (xs : List V) (rs : List (Int × Int)) (x : V) (p : Int × Int), vs = [.ref c, x] ∧ H c = some (.tup xs) ∧ RingsAt H 60 xs rs ∧ PlaceAt H x p ∧ 0 ≤ p.1 ∧ p.1 < (rs.length : Int) ∧
  ∀ y H', Ex H H' → PlaceAt H' y (wn rs p) → Q y H'
def spNamesOf : Sp := fun vs H Q _ => ∃ (c : Addr) (xs : List V) (rs : List (Int × Int)), vs = [.ref c] ∧ H c = some (.tup xs) ∧ RingsAt H 60 xs rs ∧ xs.length ≤ 12 ∧ ∀ p ys H', Ex H H' → H p = none → H' p = some (.lst ys) → Places H' ys (names rs) → Q (.ref p) H'
def spPlacesOf : Sp := fun vs H Q _ => ∃ (c : Addr) (xs : List V) (rs : List (Int × Int)), vs = [.ref c] ∧ H c = some (.tup xs) ∧ RingsAt H 60 xs rs ∧ 1 ≤ xs.length ∧ xs.length ≤ 12 ∧ ∀ p ys H', Ex H H' → H' p = some (.tup ys) → Places H' ys (names rs) → Q (.ref p) H'
end
end K1

/-! own walks: comprehensions and loops over zip and enumerate of tuples, zip of lists of any lengths -/
namespace ZW
open PySem PySem.Spec PyProof.Rows L2
theorem lc_zipT {K : PySem.W.Frag} {a b : Addr} {xs ys : List V} {n : Nat} {g : TG} {tt : TT} {te : TE} {vs : List Nat} {σ : L2.St} {H1 : Hp} {D : Addr} {Qd : Hp → Prop} (hx : n ≤ xs.length) (hy : n ≤ ys.length) (hn : xs.length ≤ n ∨ ys.length ≤ n)
    (Pv : Nat → Hp → Prop) (h0 : Pv 0 (upd H1 D (.lst []))) (hq : ∀ i H, Pv i H → SqT K H a xs ∧ SqT K H b ys)
    (hs : ∀ i x y T H, i < n → xs[i]? = some x → ys[i]? = some y → Pv i H → H T = none → g (.ref T) (wipe σ vs) (upd H T (.tup [x, y])) fun σ2 H2 => wipe σ2 vs = wipe σ vs ∧ tt σ2 H2 fun c H3 =>
      if c = true then te σ2 H3 fun z H4 => ∃ acc, H4 D = some (.lst acc) ∧ acc.length < sizeLine ∧ Pv (i + 1) (upd H4 D (.lst (acc ++ [z]))) else Pv (i + 1) H3) (hd : ∀ H, Pv n H → Qd H) :
    ∃ W : Nat → Nat → Hp → Prop, (∃ m, W 0 m (upd H1 D (.lst []))) ∧ ∀ i m H, W i m H →
      ((RZ.ItzT K a b).stop i H ∧ Qd H) ∨ ((RZ.ItzT K a b).go i H ∧ ∃ Nx : Hp → Prop, (∀ H', Nx H' → ∃ m', m' < m ∧ W (i + 1) m' H') ∧ ∀ v H', (RZ.ItzT K a b).yld i H v H' → g v (wipe σ vs) H' fun σ2 H2 => wipe σ2 vs = wipe σ vs ∧ tt σ2 H2 fun c H3 =>
        if c = true then te σ2 H3 fun z H4 => ∃ acc, H4 D = some (.lst acc) ∧ acc.length < sizeLine ∧ Nx (upd H4 D (.lst (acc ++ [z]))) else Nx H3) := by
  refine ⟨fun i m H => m = n - i ∧ i ≤ n ∧ Pv i H, ⟨n, (Nat.sub_zero n).symm, Nat.zero_le _, h0⟩, ?_⟩
  rintro i m H ⟨rfl, hi, p⟩
  obtain ⟨qa, qb⟩ := hq i H p
  by_cases hlt : i < n
  · have e1 : xs[i]? = some (xs[i]'(by omega)) := List.getElem?_eq_getElem _
    have e2 : ys[i]? = some (ys[i]'(by omega)) := List.getElem?_eq_getElem _
    refine .inr ⟨⟨xs, ys, _, _, qa, qb, e1, e2⟩, Pv (i + 1), fun H' p' => ⟨n - (i + 1), by omega, rfl, hlt, p'⟩, fun v H' hy' => ?_⟩
    obtain ⟨T, x, y, rfl, nT, rfl, fx, fy⟩ := hy'
    exact hs i x y T H hlt (fx _ qa) (fy _ qb) p nT
  · have e : i = n := by omega
    subst e
    exact .inl ⟨⟨xs, ys, qa, qb, by omega⟩, hd H p⟩
theorem for_zipT {K : PySem.W.Frag} {a b : Addr} {xs ys : List V} {n : Nat} {g : TG} {tb : TS} {D : Ends} {σ : L2.St} {H : Hp} (hx : n ≤ xs.length) (hy : n ≤ ys.length) (hn : xs.length ≤ n ∨ ys.length ≤ n)
    (Pv : Nat → L2.St → Hp → Prop) (h0 : Pv 0 σ H) (hq : ∀ i σ H, Pv i σ H → SqT K H a xs ∧ SqT K H b ys)
    (hs : ∀ i x y T σ H, i < n → xs[i]? = some x → ys[i]? = some y → Pv i σ H → H T = none → g (.ref T) σ (upd H T (.tup [x, y])) fun σ2 H2 => tb { D with nx := Pv (i + 1), ct := Pv (i + 1), bk := D.nx } σ2 H2) (hd : ∀ σ H, Pv n σ H → D.nx σ H) :
    ∃ W : Nat → Nat → L2.St → Hp → Prop, (∃ m, W 0 m σ H) ∧ ∀ i m σ H, W i m σ H →
      ((RZ.ItzT K a b).stop i H ∧ D.nx σ H) ∨ ((RZ.ItzT K a b).go i H ∧ ∃ N : L2.St → Hp → Prop, (∀ σ' H', N σ' H' → ∃ m', m' < m ∧ W (i + 1) m' σ' H') ∧ ∀ v H', (RZ.ItzT K a b).yld i H v H' → g v σ H' fun σ2 H2 => tb { D with nx := N, ct := N, bk := D.nx } σ2 H2) := by
  refine ⟨fun i m σ H => m = n - i ∧ i ≤ n ∧ Pv i σ H, ⟨n, (Nat.sub_zero n).symm, Nat.zero_le _, h0⟩, ?_⟩
  rintro i m σ H ⟨rfl, hi, p⟩
  obtain ⟨qa, qb⟩ := hq i σ H p
  by_cases hlt : i < n
  · have e1 : xs[i]? = some (xs[i]'(by omega)) := List.getElem?_eq_getElem _
    have e2 : ys[i]? = some (ys[i]'(by omega)) := List.getElem?_eq_getElem _
    refine .inr ⟨⟨xs, ys, _, _, qa, qb, e1, e2⟩, Pv (i + 1), fun σ' H' p' => ⟨n - (i + 1), by omega, rfl, hlt, p'⟩, fun v H' hy' => ?_⟩
    obtain ⟨T, x, y, rfl, nT, rfl, fx, fy⟩ := hy'
    exact hs i x y T σ H hlt (fx _ qa) (fy _ qb) p nT
  · have e : i = n := by omega
    subst e
    exact .inl ⟨⟨xs, ys, qa, qb, by omega⟩, hd σ H p⟩
theorem lc_zipL {K : PySem.W.Frag} {a b : Addr} {xs ys : List V} {n : Nat} {g : TG} {tt : TT} {te : TE} {vs : List Nat} {σ : L2.St} {H1 : Hp} {D : Addr} {Qd : Hp → Prop} (hx : n ≤ xs.length) (hy : n ≤ ys.length) (hn : xs.length ≤ n ∨ ys.length ≤ n)
    (Pv : Nat → Hp → Prop) (h0 : Pv 0 (upd H1 D (.lst []))) (hq : ∀ i H, Pv i H → SqL K H a xs ∧ SqL K H b ys)
    (hs : ∀ i x y T H, i < n → xs[i]? = some x → ys[i]? = some y → Pv i H → H T = none → g (.ref T) (wipe σ vs) (upd H T (.tup [x, y])) fun σ2 H2 => wipe σ2 vs = wipe σ vs ∧ tt σ2 H2 fun c H3 =>
      if c = true then te σ2 H3 fun z H4 => ∃ acc, H4 D = some (.lst acc) ∧ acc.length < sizeLine ∧ Pv (i + 1) (upd H4 D (.lst (acc ++ [z]))) else Pv (i + 1) H3) (hd : ∀ H, Pv n H → Qd H) :
    ∃ W : Nat → Nat → Hp → Prop, (∃ m, W 0 m (upd H1 D (.lst []))) ∧ ∀ i m H, W i m H →
      ((Itz K a b).stop i H ∧ Qd H) ∨ ((Itz K a b).go i H ∧ ∃ Nx : Hp → Prop, (∀ H', Nx H' → ∃ m', m' < m ∧ W (i + 1) m' H') ∧ ∀ v H', (Itz K a b).yld i H v H' → g v (wipe σ vs) H' fun σ2 H2 => wipe σ2 vs = wipe σ vs ∧ tt σ2 H2 fun c H3 =>
        if c = true then te σ2 H3 fun z H4 => ∃ acc, H4 D = some (.lst acc) ∧ acc.length < sizeLine ∧ Nx (upd H4 D (.lst (acc ++ [z]))) else Nx H3) := by
  refine ⟨fun i m H => m = n - i ∧ i ≤ n ∧ Pv i H, ⟨n, (Nat.sub_zero n).symm, Nat.zero_le _, h0⟩, ?_⟩
  rintro i m H ⟨rfl, hi, p⟩
  obtain ⟨qa, qb⟩ := hq i H p
  by_cases hlt : i < n
  · have e1 : xs[i]? = some (xs[i]'(by omega)) := List.getElem?_eq_getElem _
    have e2 : ys[i]? = some (ys[i]'(by omega)) := List.getElem?_eq_getElem _
    refine .inr ⟨⟨xs, ys, _, _, qa, qb, e1, e2⟩, Pv (i + 1), fun H' p' => ⟨n - (i + 1), by omega, rfl, hlt, p'⟩, fun v H' hy' => ?_⟩
    obtain ⟨T, x, y, rfl, nT, rfl, fx, fy⟩ := hy'
    exact hs i x y T H hlt (fx _ qa) (fy _ qb) p nT
  · have e : i = n := by omega
    subst e
    exact .inl ⟨⟨xs, ys, qa, qb, by omega⟩, hd H p⟩
theorem for_zipL {K : PySem.W.Frag} {a b : Addr} {xs ys : List V} {n : Nat} {g : TG} {tb : TS} {D : Ends} {σ : L2.St} {H : Hp} (hx : n ≤ xs.length) (hy : n ≤ ys.length) (hn : xs.length ≤ n ∨ ys.length ≤ n)
    (Pv : Nat → L2.St → Hp → Prop) (h0 : Pv 0 σ H) (hq : ∀ i σ H, Pv i σ H → SqL K H a xs ∧ SqL K H b ys)
    (hs : ∀ i x y T σ H, i < n → xs[i]? = some x → ys[i]? = some y → Pv i σ H → H T = none → g (.ref T) σ (upd H T (.tup [x, y])) fun σ2 H2 => tb { D with nx := Pv (i + 1), ct := Pv (i + 1), bk := D.nx } σ2 H2) (hd : ∀ σ H, Pv n σ H → D.nx σ H) :
    ∃ W : Nat → Nat → L2.St → Hp → Prop, (∃ m, W 0 m σ H) ∧ ∀ i m σ H, W i m σ H →
      ((Itz K a b).stop i H ∧ D.nx σ H) ∨ ((Itz K a b).go i H ∧ ∃ N : L2.St → Hp → Prop, (∀ σ' H', N σ' H' → ∃ m', m' < m ∧ W (i + 1) m' σ' H') ∧ ∀ v H', (Itz K a b).yld i H v H' → g v σ H' fun σ2 H2 => tb { D with nx := N, ct := N, bk := D.nx } σ2 H2) := by
  refine ⟨fun i m σ H => m = n - i ∧ i ≤ n ∧ Pv i σ H, ⟨n, (Nat.sub_zero n).symm, Nat.zero_le _, h0⟩, ?_⟩
  rintro i m σ H ⟨rfl, hi, p⟩
  obtain ⟨qa, qb⟩ := hq i σ H p
  by_cases hlt : i < n
  · have e1 : xs[i]? = some (xs[i]'(by omega)) := List.getElem?_eq_getElem _
    have e2 : ys[i]? = some (ys[i]'(by omega)) := List.getElem?_eq_getElem _
    refine .inr ⟨⟨xs, ys, _, _, qa, qb, e1, e2⟩, Pv (i + 1), fun σ' H' p' => ⟨n - (i + 1), by omega, rfl, hlt, p'⟩, fun v H' hy' => ?_⟩
    obtain ⟨T, x, y, rfl, nT, rfl, fx, fy⟩ := hy'
    exact hs i x y T σ H hlt (fx _ qa) (fy _ qb) p nT
  · have e : i = n := by omega
    subst e
    exact .inl ⟨⟨xs, ys, qa, qb, by omega⟩, hd σ H p⟩
theorem for_enumT {K : PySem.W.Frag} {a : Addr} {xs : List V} {g : TG} {tb : TS} {D : Ends} {σ : L2.St} {H : Hp} (Pv : Nat → L2.St → Hp → Prop) (h0 : Pv 0 σ H) (hq : ∀ i σ H, Pv i σ H → SqT K H a xs)
    (hs : ∀ i x T σ H, xs[i]? = some x → Pv i σ H → H T = none → g (.ref T) σ (upd H T (.tup [.int (i : Nat), x])) fun σ2 H2 => tb { D with nx := Pv (i + 1), ct := Pv (i + 1), bk := D.nx } σ2 H2) (hd : ∀ σ H, Pv xs.length σ H → D.nx σ H) :
    ∃ W : Nat → Nat → L2.St → Hp → Prop, (∃ m, W 0 m σ H) ∧ ∀ i m σ H, W i m σ H →
      ((EnT.IteT K a).stop i H ∧ D.nx σ H) ∨ ((EnT.IteT K a).go i H ∧ ∃ N : L2.St → Hp → Prop, (∀ σ' H', N σ' H' → ∃ m', m' < m ∧ W (i + 1) m' σ' H') ∧ ∀ v H', (EnT.IteT K a).yld i H v H' → g v σ H' fun σ2 H2 => tb { D with nx := N, ct := N, bk := D.nx } σ2 H2) := by
  refine ⟨fun i m σ H => m = xs.length - i ∧ i ≤ xs.length ∧ Pv i σ H, ⟨xs.length, (Nat.sub_zero _).symm, Nat.zero_le _, h0⟩, ?_⟩
  rintro i m σ H ⟨rfl, hi, p⟩
  have qa := hq i σ H p
  by_cases hlt : i < xs.length
  · have e1 : xs[i]? = some (xs[i]'hlt) := List.getElem?_eq_getElem _
    refine .inr ⟨⟨xs, _, qa, e1⟩, Pv (i + 1), fun σ' H' p' => ⟨xs.length - (i + 1), by omega, rfl, hlt, p'⟩, fun v H' hy' => ?_⟩
    obtain ⟨T, x, rfl, nT, rfl, fx⟩ := hy'
    exact hs i x T σ H (fx _ qa) p nT
  · have e : i = xs.length := by omega
    subst e
    exact .inl ⟨⟨xs, qa, rfl⟩, hd σ H p⟩
theorem lc_enumT {K : PySem.W.Frag} {a : Addr} {xs : List V} {g : TG} {tt : TT} {te : TE} {vs : List Nat} {σ : L2.St} {H1 : Hp} {D : Addr} {Qd : Hp → Prop} (Pv : Nat → Hp → Prop) (h0 : Pv 0 (upd H1 D (.lst []))) (hq : ∀ i H, Pv i H → SqT K H a xs)
    (hs : ∀ i x T H, xs[i]? = some x → Pv i H → H T = none → g (.ref T) (wipe σ vs) (upd H T (.tup [.int (i : Nat), x])) fun σ2 H2 => wipe σ2 vs = wipe σ vs ∧ tt σ2 H2 fun c H3 =>
      if c = true then te σ2 H3 fun z H4 => ∃ acc, H4 D = some (.lst acc) ∧ acc.length < sizeLine ∧ Pv (i + 1) (upd H4 D (.lst (acc ++ [z]))) else Pv (i + 1) H3) (hd : ∀ H, Pv xs.length H → Qd H) :
    ∃ W : Nat → Nat → Hp → Prop, (∃ m, W 0 m (upd H1 D (.lst []))) ∧ ∀ i m H, W i m H →
      ((EnT.IteT K a).stop i H ∧ Qd H) ∨ ((EnT.IteT K a).go i H ∧ ∃ Nx : Hp → Prop, (∀ H', Nx H' → ∃ m', m' < m ∧ W (i + 1) m' H') ∧ ∀ v H', (EnT.IteT K a).yld i H v H' → g v (wipe σ vs) H' fun σ2 H2 => wipe σ2 vs = wipe σ vs ∧ tt σ2 H2 fun c H3 =>
        if c = true then te σ2 H3 fun z H4 => ∃ acc, H4 D = some (.lst acc) ∧ acc.length < sizeLine ∧ Nx (upd H4 D (.lst (acc ++ [z]))) else Nx H3) := by
  refine ⟨fun i m H => m = xs.length - i ∧ i ≤ xs.length ∧ Pv i H, ⟨xs.length, (Nat.sub_zero _).symm, Nat.zero_le _, h0⟩, ?_⟩
  rintro i m H ⟨rfl, hi, p⟩
  have qa := hq i H p
  by_cases hlt : i < xs.length
  · have e1 : xs[i]? = some (xs[i]'hlt) := List.getElem?_eq_getElem _
    refine .inr ⟨⟨xs, _, qa, e1⟩, Pv (i + 1), fun H' p' => ⟨xs.length - (i + 1), by omega, rfl, hlt, p'⟩, fun v H' hy' => ?_⟩
    obtain ⟨T, x, rfl, nT, rfl, fx⟩ := hy'
    exact hs i x T H (fx _ qa) p nT
  · have e : i = xs.length := by omega
    subst e
    exact .inl ⟨⟨xs, qa, rfl⟩, hd H p⟩
end ZW

/-! own walk: zip of a list and a tuple -/
namespace ZM
open PySem PySem.Spec PyProof.Rows L2
/-- a list and a tuple, their items in new pairs -/
def ItM (K : PySem.W.Frag) (a b : Addr) : It :=
  ⟨fun i H => ∃ (xs ys : List V) (x y : V), SqL K H a xs ∧ SqT K H b ys ∧ xs[i]? = some x ∧ ys[i]? = some y,
    fun i H v H' => ∃ T x y, v = .ref T ∧ H T = none ∧ H' = upd H T (.tup [x, y]) ∧ (∀ xs, SqL K H a xs → xs[i]? = some x) ∧ ∀ ys, SqT K H b ys → ys[i]? = some y,
    fun i H => ∃ xs ys : List V, SqL K H a xs ∧ SqT K H b ys ∧ xs.length = i ∧ ys.length = i⟩
theorem turnM {P : Program} {w : World} {K : PySem.W.Frag} {elts : List Expr} {kk : Nat} {tpos : Pos} {a b z TI TO i1 i2 : Addr} (S : ZipSep2 z TI TO i1 i2 [i1, a] [i2, b]) (na : a ≠ i1) (nb : b ≠ i2) (w1 : z ≠ i1 ∧ z ≠ i2) :
    Turn P w K (.Tuple elts kk tpos) (ItM K a b) [z, TI, TO, i1, i2] z (fun i h => IsZip h z TI TO .none ∧ IsTupOf2 h TI (.ref i1) (.ref i2) ∧ (∃ x y, IsTupOf2 h TO x y) ∧ h.IsListIter i1 a i ∧ h.IsTupleIter i2 b i) where
  mem := by simp
  obj := fun i h st t ht => by
    obtain ⟨hz, hTI, ⟨x, y, hTO⟩, ⟨o1, e1, _, d1⟩, ⟨o2, e2, _, d2⟩⟩ := st
    rcases (show t = z ∨ t = TI ∨ t = TO ∨ t = i1 ∨ t = i2 by simpa using ht) with q | q | q | q | q
    · rw [q]
      exact ⟨_, hz, fun v q => nomatch q⟩
    · rw [q]
      exact ⟨_, hTI, fun v q => nomatch q⟩
    · rw [q]
      exact ⟨_, hTO, fun v q => nomatch q⟩
    · exact ⟨o1, q ▸ e1, fun v q => by rw [d1] at q; cases q⟩
    · exact ⟨o2, q ▸ e2, fun v q => by rw [d2] at q; cases q⟩
  keep := fun i h h' st k => by
    obtain ⟨hz, hTI, ⟨x, y, hTO⟩, h1, h2⟩ := st
    exact ⟨k z (by simp) _ hz, k TI (by simp) _ hTI, ⟨x, y, k TO (by simp) _ hTO⟩, h1.at fun o q => k i1 (by simp) o q, h2.at fun o q => k i2 (by simp) o q⟩
  item := by
    intro X eP eW eK hc i pins s σ H E I hf st hg
    subst eP eW eK
    obtain ⟨hz, hTI, ⟨x0, y0, hTO⟩, h1, h2⟩ := st
    obtain ⟨xs, ys, x, y, qx, qy, gx, gy⟩ := hg
    obtain ⟨t1, r1, p1, _⟩ := I.list qx
    obtain ⟨t2, r2, p2, _⟩ := I.tuple qy
    obtain ⟨v1, m1, rv1⟩ := r1.get gx
    obtain ⟨v2, m2, rv2⟩ := r2.get gy
    have l1 : i < t1.toArray.size := by simpa using (List.getElem?_eq_some_iff.mp m1).1
    have l2 : i < t2.toArray.size := by simpa using (List.getElem?_eq_some_iff.mp m2).1
    have hzl : z < s.heap.objs.size := Heap.lt_size hz
    have hh : X.A.in1.handled = none := I.ok.hd hc
    refine wpAny_pyNext_zipD2_item S (Draws.list hh i1 a na t1.toArray) (Draws.tuple hh i2 b nb t2.toArray) hz hTI hTO ⟨h1, p1.isList⟩ ⟨h2, p2⟩ l1 l2 fun w1' w2' h' tk g1 g2 zz tt s1 s2 hT hsz hk => ?_
    have a1 : w1' = v1 := Option.some.inj (g1.symm.trans (by simpa using m1))
    have a2 : w2' = v2 := Option.some.inj (g2.symm.trans (by simpa using m2))
    subst a1 a2
    refine ⟨_, rfl, wpAny_letOwnedTupleGo_zip (s := { s with heap := h', toks := tk }) zz fun h2' z2 sb => ?_⟩
    have hT2 : h2'.get? s.heap.objs.size = some { cls := .type "tuple", data := .seq #[w1', w2'] } := (sb.2 _ (Nat.ne_of_gt hzl)).trans hT
    have made : ObjOk X.prog X.w (upd H s.heap.objs.size (.tup [x, y])) h2' s.heap.objs.size (.tup [x, y]) :=
      ⟨by show 2 ≤ sizeLine; decide, [w1', w2'], .cons rv1 (.cons rv2 .nil), ⟨_, hT2, rfl, _, rfl⟩⟩
    have I2 : Inv X pins σ (upd H s.heap.objs.size (.tup [x, y])) { s with heap := h2', toks := tk } :=
      I.turnedNew (ch := [z, TI, TO, i1, i2]) (fun t o ht q => (sb.2 t (fun e => ht (by simp [e]))).trans (hk t o (fun e => ht (by simp [e])) (fun e => ht (by simp [e])) (fun e => ht (by simp [e])) (fun e => ht (by simp [e])) q)) hf (Nat.le_refl _) made
    refine ⟨.ref s.heap.objs.size, _, I2, rfl, ⟨_, x, y, rfl, I.hok.fresh (Nat.le_refl _), rfl, fun l hl => by rw [I.list_inj hl qx]; exact gx, fun l hl => by rw [I.tuple_inj hl qy]; exact gy⟩,
      ⟨z2, (sb.2 _ S.TIz).trans (hk _ _ S.TIz S.TITO S.TIi1 S.TIi2 hTI), ⟨w1', w2', (sb.2 _ S.TOz).trans tt⟩, s1.1.at fun o q => (sb.2 _ w1.1.symm).trans q, s2.1.at fun o q => (sb.2 _ w1.2.symm).trans q⟩, fun t ht => ?_⟩
    have lt : t < s.heap.objs.size := by
      rcases (show t = z ∨ t = TI ∨ t = TO ∨ t = i1 ∨ t = i2 by simpa using ht) with q | q | q | q | q
      · exact q ▸ hzl
      · exact q ▸ Heap.lt_size hTI
      · exact q ▸ Heap.lt_size hTO
      · obtain ⟨_, e, _⟩ := h1
        exact q ▸ Heap.lt_size e
      · obtain ⟨_, e, _⟩ := h2
        exact q ▸ Heap.lt_size e
    rw [upd_ne (Nat.ne_of_lt lt)]
    exact (hf t ht).1
  done := by
    intro X eP eW eK hc i pins s σ H E I hf st hg
    subst eP eW eK
    obtain ⟨hz, hTI, ⟨x0, y0, hTO⟩, h1, h2⟩ := st
    obtain ⟨xs, ys, qx, qy, gx, gy⟩ := hg
    obtain ⟨t1, r1, p1, _⟩ := I.list qx
    obtain ⟨t2, r2, p2, _⟩ := I.tuple qy
    have k1 := r1.length
    have k2 := r2.length
    have hh : X.A.in1.handled = none := I.ok.hd hc
    exact wpAny_pyNext_zipD2_end S (Draws.list hh i1 a na t1.toArray) (Draws.tuple hh i2 b nb t2.toArray) hz hTI hTO ⟨h1, p1.isList⟩ ⟨h2, p2⟩ (by rw [List.size_toArray]; omega) (by rw [List.size_toArray]; omega) (.inl (by rw [List.size_toArray]; omega))
      fun h' tk hk => ⟨rfl, I.turnedL (ch := [z, TI, TO, i1, i2]) (fun t o ht q => hk t o (fun e => ht (by simp [e])) (fun e => ht (by simp [e])) (fun e => ht (by simp [e])) (fun e => ht (by simp [e])) q) hf⟩
  self := fun A i s Q E st h => wpAny_pyIter_zip st.1 h
def iZipM (K : PySem.W.Frag) (ta : TA) : TI := fun σ H R => ta σ H fun vs H1 => ∃ a b xs ys, vs = [.ref a, .ref b] ∧ SqL K H1 a xs ∧ SqT K H1 b ys ∧ R (ItM K a b) H1
theorem pi_zipM {X : Cx} {e e2 : Expr} {ta : TA} {p pos tpos : Pos} {elts : List Expr} {kk : Nat} (hg : Gl X "zip") (hm : X.mg "zip" = none) (ha : PA X [e, e2] ta)
    (hs : starEach [e, e2] X.env = (false, eval e X.env) :: starEach [e2] X.env := by rfl) (hpl : (backTo pos (starEach [e2] X.env)).any (·.1) = false := by rfl) :
    PI X (.Tuple elts kk tpos) (.Call (.Name "zip" p) [e, e2] [] pos) (iZipM X.K ta) := by
  refine ⟨fun pins s σ H R I h => ?_⟩
  refine Call_ (ld_blt I hg hm PyProof.Rows.boot_zip (PyProof.Rows.callWith_type1 (thn (ha.run pos pins s σ H _ I h) fun vs' s1 ⟨vs, H1, I1, r1, q1⟩ => ?_) hs hpl))
  obtain ⟨a, b, xs, ys, ex, qx, qy, q⟩ := q1
  subst ex
  obtain ⟨t1, r1', p1, _⟩ := I1.list qx
  obtain ⟨t2, r2', p2, _⟩ := I1.tuple qy
  cases r1 with
  | cons ra rr =>
    cases rr with
    | cons rb rr =>
      cases rr
      cases ra
      cases rb
      have la : a < s1.heap.objs.size := by
        obtain ⟨_, e, _⟩ := p1.isList
        exact Heap.lt_size e
      have lb : b < s1.heap.objs.size := by
        obtain ⟨_, e, _⟩ := p2
        exact Heap.lt_size e
      refine zip_begins2 (begins_list a t1.toArray) (begins_tuple b t2.toArray) p1.isList p2 fun h' hz hTI hTO g1 g2 _ hk => wpAny_pyIter_zip hz ?_
      have I2 : Inv X pins σ H1 { s1 with heap := h' } := I1.kept (t' := s1.toks) hk
      have S : ZipSep2 (s1.heap.objs.size + 4) (s1.heap.objs.size + 2) (s1.heap.objs.size + 3) s1.heap.objs.size (s1.heap.objs.size + 1) [s1.heap.objs.size, a] [s1.heap.objs.size + 1, b] :=
        zip_sep2 (fun t ht => by rw [List.mem_singleton.mp ht]; exact la) (fun t ht => by rw [List.mem_singleton.mp ht]; exact lb)
      have add : ∀ {m k : Nat}, m ≠ k → s1.heap.objs.size + m ≠ s1.heap.objs.size + k := fun n e => n (Nat.add_left_cancel e)
      refine ⟨s1.heap.objs.size + 4, [s1.heap.objs.size + 4, s1.heap.objs.size + 2, s1.heap.objs.size + 3, s1.heap.objs.size, s1.heap.objs.size + 1], _, _, H1, rfl, I2,
        turnM S (Nat.ne_of_lt la) (Nat.ne_of_lt (Nat.lt_succ_of_lt lb)) ⟨add (m := 4) (k := 0) (by decide), add (by decide)⟩,
        ⟨hz, hTI, ⟨_, _, hTO⟩, ⟨_, g1, rfl, rfl⟩, ⟨_, g2, rfl, rfl⟩⟩, fun t ht => ?_, q⟩
      have le : s1.heap.objs.size ≤ t := by
        rcases (show t = s1.heap.objs.size + 4 ∨ t = s1.heap.objs.size + 2 ∨ t = s1.heap.objs.size + 3 ∨ t = s1.heap.objs.size ∨ t = s1.heap.objs.size + 1 by simpa using ht) with q | q | q | q | q
        · exact q ▸ Nat.le_add_right _ _
        · exact q ▸ Nat.le_add_right _ _
        · exact q ▸ Nat.le_add_right _ _
        · exact q ▸ Nat.le_refl _
        · exact q ▸ Nat.le_add_right _ _
      exact I1.fpOk le (I1.hok.fresh le)
theorem lc_zipM {K : PySem.W.Frag} {a b : Addr} {xs ys : List V} {n : Nat} {g : TG} {tt : TT} {te : TE} {vs : List Nat} {σ : L2.St} {H1 : Hp} {D : Addr} {Qd : Hp → Prop} (hx : xs.length = n) (hy : ys.length = n)
    (Pv : Nat → Hp → Prop) (h0 : Pv 0 (upd H1 D (.lst []))) (hq : ∀ i H, Pv i H → SqL K H a xs ∧ SqT K H b ys)
    (hs : ∀ i x y T H, i < n → xs[i]? = some x → ys[i]? = some y → Pv i H → H T = none → g (.ref T) (wipe σ vs) (upd H T (.tup [x, y])) fun σ2 H2 => wipe σ2 vs = wipe σ vs ∧ tt σ2 H2 fun c H3 =>
      if c = true then te σ2 H3 fun z H4 => ∃ acc, H4 D = some (.lst acc) ∧ acc.length < sizeLine ∧ Pv (i + 1) (upd H4 D (.lst (acc ++ [z]))) else Pv (i + 1) H3) (hd : ∀ H, Pv n H → Qd H) :
    ∃ W : Nat → Nat → Hp → Prop, (∃ m, W 0 m (upd H1 D (.lst []))) ∧ ∀ i m H, W i m H →
      ((ItM K a b).stop i H ∧ Qd H) ∨ ((ItM K a b).go i H ∧ ∃ Nx : Hp → Prop, (∀ H', Nx H' → ∃ m', m' < m ∧ W (i + 1) m' H') ∧ ∀ v H', (ItM K a b).yld i H v H' → g v (wipe σ vs) H' fun σ2 H2 => wipe σ2 vs = wipe σ vs ∧ tt σ2 H2 fun c H3 =>
        if c = true then te σ2 H3 fun z H4 => ∃ acc, H4 D = some (.lst acc) ∧ acc.length < sizeLine ∧ Nx (upd H4 D (.lst (acc ++ [z]))) else Nx H3) := by
  refine ⟨fun i m H => m = n - i ∧ i ≤ n ∧ Pv i H, ⟨n, (Nat.sub_zero n).symm, Nat.zero_le _, h0⟩, ?_⟩
  rintro i m H ⟨rfl, hi, p⟩
  obtain ⟨qa, qb⟩ := hq i H p
  by_cases hlt : i < n
  · have e1 : xs[i]? = some (xs[i]'(by omega)) := List.getElem?_eq_getElem _
    have e2 : ys[i]? = some (ys[i]'(by omega)) := List.getElem?_eq_getElem _
    refine .inr ⟨⟨xs, ys, _, _, qa, qb, e1, e2⟩, Pv (i + 1), fun H' p' => ⟨n - (i + 1), by omega, rfl, hlt, p'⟩, fun v H' hy' => ?_⟩
    obtain ⟨T, x, y, rfl, nT, rfl, fx, fy⟩ := hy'
    exact hs i x y T H hlt (fx _ qa) (fy _ qb) p nT
  · have e : i = n := by omega
    subst e
    exact .inl ⟨⟨xs, ys, qa, qb, hx, hy⟩, hd H p⟩
end ZM

/-! own rules: xs[i] op= e of a list; range(n) as a value, walked later -/
namespace LX
open PySem PySem.Spec PyProof.Rows L2
section
variable {X : Cx}
/-- xs[i] by values, 0 ≤ i -/
def rGetL (K : PySem.W.Frag) : V → V → Hp → VK → Prop := fun o i H Q => ∃ (a : Addr) (ys : List V) (j : Nat) (v : V), o = .ref a ∧ i = .int (j : Int) ∧ SqL K H a ys ∧ ys[j]? = some v ∧ Q v H
theorem get_list : PGet X (rGetL X.K) := by
  intro pins s σ H o i ov iv Q I ro ri h
  obtain ⟨a, ys, j, v, rfl, rfl, hq, hv, q⟩ := h
  cases ro
  obtain ⟨t, rfl⟩ := ri
  obtain ⟨its, r, pl, hz⟩ := I.list hq
  obtain ⟨u, hu, ru⟩ := r.get hv
  have hn := line63
  have hj := (List.getElem?_eq_some_iff.mp hu).1
  have hl := r.length
  exact wpAny_getItem_list pl.isList (by omega) (by omega) (by simpa using hu) ⟨v, H, I, ru, q⟩
/-- range(n), a new range object -/
theorem cr_range1 : CallR X (.type "range") (fun vs H Q => ∃ j, vs = [V.int j] ∧ ∀ p, H p = none → Q (.ref p) (upd H p (.rng 0 j))) := by
  intro pins s σ H vs us Q I r h
  obtain ⟨j, rfl, q⟩ := h
  obtain ⟨u1, rfl, rj⟩ := vals1 r
  obtain ⟨t, rfl⟩ := rj
  have nw : ObjOk X.prog X.w (upd H s.heap.objs.size (.rng 0 j)) (s.heap.push { cls := .type "range", data := .fields #[.int 0 s.toks, .int j t, .int 1 (s.toks + 1)] }) s.heap.objs.size (.rng 0 j) := ⟨s.toks, t, s.toks + 1, Heap.get?_push_size _ rfl⟩
  exact call_range_1 ⟨.ref s.heap.objs.size, _, I.laid (t' := s.toks + 1 + 1) (fun b o e => Heap.get?_push_of_some _ e) (Nat.le_refl _) nw, rfl, q _ (I.hok.fresh (Nat.le_refl _))⟩
/-- a range object that stands, walked -/
def iRngV (te : TE) : TI := fun σ H R => te σ H fun x H1 => ∃ (p : Addr) (lo hi : Int), x = .ref p ∧ H1 p = some (.rng lo hi) ∧ (-(2 ^ 62) ≤ lo ∧ lo < 2 ^ 62 ∧ -(2 ^ 62) ≤ hi ∧ hi < 2 ^ 62) ∧ R (Itr lo (hi - lo).toNat) H1
theorem pi_rngV {tg e : Expr} {te : TE} (he : PE X e te) : PI X tg e (iRngV te) := by
  refine ⟨fun pins s σ H R I h => ?_⟩
  refine thn (he.run pins s σ H _ I h) fun u s1 ⟨x, H1, I1, r1, p, lo, hi, ex, hp, ⟨b1, b2, b3, b4⟩, q⟩ => ?_
  subst ex
  obtain rfl : u = Value.ref p := r1
  obtain ⟨t, u, v, g⟩ := (show ObjOk X.prog X.w H1 s1.heap p (.rng lo hi) from I1.hok p _ hp)
  refine wpAny_pyIter_range (s := s1) g (small_one b1 b2 b3 b4) ?_
  refine ⟨s1.heap.objs.size, [s1.heap.objs.size], _, _, H1, rfl, I1.kept (t' := s1.toks) fun b o e => Heap.get?_push_of_some _ e, turn_range _ lo (hi - lo).toNat, ?_, fun b hb => ?_, q⟩
  · have e1 : lo + ((0 : Nat) : Int) * 1 = lo := by simp
    have e2 : (((hi - lo).toNat : Nat) : Int) - ((0 : Nat) : Int) = Builtin.Range.rangeSize lo hi 1 := by
      rw [rangeSize_one]
      split <;> omega
    show IsRangeIter _ _ (lo + ((0 : Nat) : Int) * 1) ((((hi - lo).toNat : Nat) : Int) - ((0 : Nat) : Int)) 1
    rw [e1, e2]
    exact Heap.get?_push_size _ rfl
  · obtain rfl : b = s1.heap.objs.size := by simpa using hb
    exact I1.fpOk (Nat.le_refl _) (I1.hok.fresh (Nat.le_refl _))
end
end LX

namespace K1
open PySem PySem.Spec PyProof.Rows L2 Evl LX ZW ZM
/-- ints of a tuple of places -/
def PlacesT (H : Hp) (a : Addr) (ps : List Int) : Prop := H a = some (.tup (ps.map V.int))
theorem rings_nth4 {H : Hp} {most : Int} {xs : List V} {rs : List (Int × Int)} (h : RingsAt H most xs rs) {j : Nat} {x : V} (hx : xs[j]? = some x) : RingAt H most x (K1N.nAt rs j : Int) (K1N.sAt rs j) := by
  obtain ⟨r, hr, q⟩ := paired_get h hx
  have e : rs.getD j (0, 0) = r := by
    rw [List.getD_eq_getElem?_getD, hr]
    rfl
  obtain ⟨t, e1, e2, e3, e4, e5, e6⟩ := id q
  unfold K1N.nAt K1N.sAt
  rw [e, show ((r.1.toNat : Nat) : Int) = r.1 by omega]
  exact q
theorem rings_ex4 {H H' : Hp} {most : Int} {xs : List V} {rs : List (Int × Int)} (e : Ex H H') (h : RingsAt H most xs rs) : RingsAt H' most xs rs := paired_imp (fun _ _ z => RingAt.ex e z) h
theorem rings_chain4 {K : PySem.W.Frag} {H : Hp} {a : Addr} {xs : List V} {rs : List (Int × Int)} (h : RingsAt H 60 xs rs) (ha : H a = some (.tup xs)) (h1 : 1 ≤ xs.length) (h2 : xs.length ≤ 12) : ChainB K H (.ref a) true := by
  have p : ∀ {xs : List V} {rs : List (Int × Int)}, RingsAt H 60 xs rs → Paired (RingB K H) xs (List.replicate xs.length true) := by
    intro xs rs h
    induction h with
    | nil => exact .nil
    | cons r _ ih => exact .cons (RingAt.ring r (Int.le_refl _)) ih
  have q := ChainB.tup (K := K) ha ⟨h1, h2⟩ (p h)
  rw [show (List.replicate xs.length true).all id = true by simp] at q
  exact q
theorem int_get5 {ns : List Int} {i : Nat} (h : i < ns.length) : (ns.map V.int)[i]? = some (V.int (ns.getD i 0)) := by
  rw [List.getElem?_map, List.getD_eq_getElem?_getD, List.getElem?_eq_getElem h]
  rfl
theorem pl_get {ps : List Int} {i : Nat} {x : V} (hx : (ps.map V.int)[i]? = some x) : x = .int (ps.getD i 0) := by
  rw [List.getElem?_map] at hx
  rw [List.getD_eq_getElem?_getD]
  cases e : ps[i]? with
  | none =>
    rw [e] at hx
    cases hx
  | some p =>
    rw [e] at hx
    exact (Option.some.inj hx).symm
theorem getD_snoc_lt {l : List Int} {x : Int} {j : Nat} (h : j < l.length) : (l ++ [x]).getD j 0 = l.getD j 0 := by
  rw [List.getD_eq_getElem?_getD, List.getD_eq_getElem?_getD, List.getElem?_append_left h]
theorem getD_snoc_eq {l : List Int} {x : Int} : (l ++ [x]).getD l.length 0 = x := by
  rw [List.getD_eq_getElem?_getD, List.getElem?_append_right (Nat.le_refl _), Nat.sub_self]
  rfl
def PlOk (rs : List (Int × Int)) (ps : List Int) : Prop := ∀ j : Nat, j < ps.length → 0 ≤ ps.getD j 0 ∧ ps.getD j 0 < (K1N.nAt rs j : Int)
theorem PlOk.snoc {rs : List (Int × Int)} {ps : List Int} {x : Int} (h : PlOk rs ps) (h0 : 0 ≤ x) (h1 : x < (K1N.nAt rs ps.length : Int)) : PlOk rs (ps ++ [x]) := by
  intro j hj
  by_cases c : j < ps.length
  · rw [getD_snoc_lt c]
    exact h j c
  · have e : j = ps.length := by
      rw [List.length_append] at hj
      have : ([x] : List Int).length = 1 := rfl
      omega
    subst e
    rw [getD_snoc_eq]
    exact ⟨h0, h1⟩
theorem mapr_get {n i : Nat} (f : Nat → Int) (h : i < n) : ((List.range n).map f).getD i 0 = f i := by
  rw [List.getD_eq_getElem?_getD, List.getElem?_map, List.getElem?_range h]
  rfl
section
variable {P : Program} {w : World} {K : PySem.W.Frag} {mg : Str → Option Value} {base : Heap}
def spCheckPlaces (K : PySem.W.Frag) : Sp := fun vs H Q _ => ∃ c a xs rs ps, vs = [.ref c, .ref a] ∧ H c = some (.tup xs) ∧ RingsAt H 60 xs rs ∧ xs.length ≤ 12 ∧ PlacesT H a ps ∧ ps.length = xs.length ∧ (∀ j : Nat, j < ps.length → 0 ≤ ps.getD j 0 ∧ ps.getD j 0 < (K1N.nAt rs j : Int)) ∧ ∀ H', Ex H H' → Q .non H'
def spLiesTold (K : PySem.W.Frag) : Sp := fun vs H Q E => spCheckPlaces K vs H (fun _ H' => Q (.bl true) H') E
theorem ok_lies_told (T : Txt K mg) {f : Addr} {fd : FuncData} (D : DefAt K mg "lies_told" sLiesTold ["chain", "value"] f fd) : FnOk P w K mg base CX0 3 f fd ["chain", "value"] (spLiesTold K) := by
  refine D.F.ok scLiesTold (fun vs H Q E h => ?_) (fun cdv A outer s₀ H vs Q E hr h => ?_)
  · obtain ⟨c, a, xs, rs, ps, rfl, _⟩ := h
    rfl
  · obtain ⟨c, a, xs, rs, ps, rfl, hc, hR, hl, ha, hlen, hb, q⟩ := h
    obtain ⟨f1, fd1, D1⟩ := T.d_is_between
    refine ⟨_, pss_cons (ps_if (PW.pt (pw_or (pt_not (pt_val (pe_callB call_isi (by rfl) T.z_isinstance (by decide +kernel) (pa_cons (pv 1) (pa_cons (pe_bltn (v := .ty "tuple") (by rfl) T.z_tuple (by decide +kernel) rfl) pa_nil)))))
        (pw_or1 (pt_cmpR op_ne (pe_callB call_len_seq (by rfl) T.z_len PySem.boot_len (pa_cons (pv 1) pa_nil)) (pe_callB call_len_seq (by rfl) T.z_len PySem.boot_len (pa_cons (pv 0) pa_nil)) (nomark _))))) (pss_one (ps_ret pe_bl)) pss_nil)
      (pss_one (ps_ret (pe_callB (cr_all rfl) (by rfl) T.z_all (by decide +kernel) (pa_cons (pe_lc (own := [("place", 2), ("ring", 3)]) (g := gTup K 2 (gCons (gName 2) (gCons (gName 3) gNil))) (tt := tYes) rfl scLiesTold.nd (RZ.pi_zipA (by rfl) T.z_zip (pa_cons (pv 1) (pa_cons (pv 0) pa_nil)))
          (blkOk_by (N := nLiesTold) (sc := defScope sLiesTold) (by decide +kernel)) (fun _ _ _ _ _ => pg_tup (by rfl) (pgs_cons (pg_name (i := 2) scLiesTold.nd rfl (.inl rfl)) (pgs_cons (pg_name (i := 3) scLiesTold.nd rfl (.inl rfl)) pgs_nil))) (fun _ _ _ _ _ => pts_nil)
          (fun _ _ _ _ _ => pe_call (ok_is_between T D1) hr (by rfl) D1.g D1.F.kp D1.b .nil pass0 (pa_cons (pv 2) (pa_cons pe_int (pa_cons (pe_op op_sub (pe_ix (show IxR _ (rIxT K) from ix_tup) (pv 3) pe_int (fun _ _ => rfl)) pe_int) pa_nil))))) pa_nil)))), ?_⟩
    refine ⟨_, rfl, .ref a, .ty "tuple", .type "tuple", .type "tuple", true, rfl, .ty _, .base (.tup ha), kit_ty (by decide +kernel), true, rfl, iteF ?_⟩
    refine ⟨_, rfl, a, _, rfl, .inr (SqT.of ha), _, rfl, c, _, rfl, .inr (SqT.of hc), rfl, _, rfl, ?_⟩
    rw [List.length_map, hlen, decide_eq_true (rfl : V.int (xs.length : Int) = V.int (xs.length : Int))]
    refine iteF ?_
    refine ⟨_, rfl, _, rfl, a, c, _, _, rfl, .inr ⟨SqT.of ha, SqT.of hc, fun Dl hD => ?_⟩⟩
    refine lc_zipT (K := K) (a := a) (b := c) (xs := ps.map V.int) (ys := xs) (n := xs.length) (by rw [List.length_map]; omega) (Nat.le_refl _) (.inr (Nat.le_refl _)) (fun i H' => H' Dl = some (.lst ((List.replicate i true).map V.bl)) ∧ Ex H H') ⟨upd_same, Ex.new hD⟩ (fun i H' hp => ⟨SqT.of (hp.2 _ _ ha), SqT.of (hp.2 _ _ hc)⟩) (fun i x y Tp H' hi hx hy hp nT => ?_) (fun H' hp => ?_)
    · have ex : ∃ p : Int, x = .int p ∧ ps.getD i 0 = p := by
        rw [List.getElem?_map] at hx
        cases e : ps[i]? with
        | none =>
          rw [e] at hx
          cases hx
        | some p =>
          rw [e] at hx
          refine ⟨p, (Option.some.inj hx).symm, ?_⟩
          rw [List.getD_eq_getElem?_getD, e]
          rfl
      obtain ⟨p, rfl, hpv⟩ := ex
      have eT := Ex.new (o := .tup [.int p, y]) nT
      have hy1 := rings_nth4 (rings_ex4 (hp.2.trans eT) hR) hy
      obtain ⟨t, rfl, ht, b1, b2, b3, b4⟩ := hy1
      obtain ⟨c0, c1⟩ := hb i (by omega)
      rw [hpv] at c0 c1
      refine ⟨Tp, _, rfl, SqT.of upd_same, rfl, .int p, [.ref t], rfl, .ref t, [], rfl, rfl, rfl, ?_⟩
      dsimp only [tYes]
      rw [if_pos rfl]
      refine ⟨_, rfl, _, rfl, t, _, 0, _, rfl, rfl, SqT.of ht, rfl, _, _, rfl, rfl, .int p, 0, _, true, rfl, .yes c0 (by omega) (by omega) (by omega), fun H3 e3 => ?_⟩
      refine ⟨_, e3 _ _ (eT _ _ hp.1), ?_, ?_, Ex.mut ((hp.2.trans eT).trans e3) hD⟩
      · rw [List.length_map, List.length_replicate]
        exact small1000 (by omega)
      · rw [upd_same, List.replicate_succ', List.map_append]
        rfl
    · refine ⟨Dl, List.replicate xs.length true, rfl, SqL.of hp.1, ?_⟩
      rw [show (List.replicate xs.length true).all id = true by simp]
      exact q _ hp.2
def spCheckDigits (K : PySem.W.Frag) : Sp := fun vs H Q _ => ∃ (l : Addr) (ns : List Int), vs = [.ref l] ∧ H l = some (.lst (ns.map V.int)) ∧ ns.length ≤ 1000 ∧ (∀ z ∈ ns, -(10 ^ 60) < z ∧ z < 10 ^ 60) ∧ ∀ H', Ex H H' → Q .non H'
end
end K1

/-! boxes of tuples: mathematics -/
namespace BX
abbrev Rg := List (Int × Int)
def ups (n : Nat) : List Int := (List.range n).map fun (i : Nat) => (i : Int)
/-- all tuples, the first place outermost -/
def allT : Rg → List (List Int)
  | [] => [[]]
  | r :: rs => (ups r.1.toNat).flatMap fun p => (allT rs).map (p :: ·)
/-- one ring more, as the law makes it -/
def wider (l : List (List Int)) (n : Nat) : List (List Int) := l.flatMap fun one => (ups n).map fun p => one ++ [p]
def allF (rs : Rg) : List (List Int) := rs.foldl (fun l r => wider l r.1.toNat) [[]]
theorem foldl_wider : ∀ (rs : Rg) (l : List (List Int)), rs.foldl (fun l r => wider l r.1.toNat) l = l.flatMap fun one => (allT rs).map (one ++ ·)
  | [], l => by simp [allT]
  | r :: rs, l => by
    rw [List.foldl_cons, foldl_wider rs, show allT (r :: rs) = (ups r.1.toNat).flatMap fun p => (allT rs).map (p :: ·) from rfl]
    unfold wider
    rw [List.flatMap_assoc]
    congr 1
    funext one
    rw [List.flatMap_map, List.map_flatMap]
    congr 1
    funext p
    rw [List.map_map]
    congr 1
    funext x
    simp
theorem allF_eq (rs : Rg) : allF rs = allT rs := by
  unfold allF
  rw [foldl_wider]
  simp
theorem mem_ups {n : Nat} {p : Int} : p ∈ ups n ↔ 0 ≤ p ∧ p < n := by
  unfold ups
  rw [List.mem_map]
  constructor
  · rintro ⟨i, hi, rfl⟩
    have := List.mem_range.mp hi
    omega
  · rintro ⟨h0, h1⟩
    exact ⟨p.toNat, List.mem_range.mpr (by omega), by omega⟩
/-- tuples of places of the rings -/
inductive InT : Rg → List Int → Prop where
  | nil : InT [] []
  | cons {r : Int × Int} {rs : Rg} {p : Int} {ps : List Int} (h0 : 0 ≤ p) (h1 : p < r.1) (h : InT rs ps) : InT (r :: rs) (p :: ps)
theorem mem_allT : ∀ {rs : Rg} {x : List Int}, x ∈ allT rs ↔ InT rs x
  | [], x => by
    unfold allT
    rw [List.mem_singleton]
    exact ⟨fun h => h ▸ .nil, fun h => by cases h; rfl⟩
  | r :: rs, x => by
    unfold allT
    rw [List.mem_flatMap]
    constructor
    · rintro ⟨p, hp, hx⟩
      obtain ⟨y, hy, rfl⟩ := List.mem_map.mp hx
      have := mem_ups.mp hp
      exact .cons this.1 (by omega) (mem_allT.mp hy)
    · intro h
      cases h with
      | @cons _ _ p ps h0 h1 h => exact ⟨p, mem_ups.mpr ⟨h0, by omega⟩, List.mem_map.mpr ⟨_, mem_allT.mpr h, rfl⟩⟩
/-- boxes of the rings -/
inductive BoxR : Rg → List (Option Int) → Prop where
  | nil : BoxR [] []
  | open {r : Int × Int} {rs : Rg} {bs : List (Option Int)} (h : BoxR rs bs) : BoxR (r :: rs) (none :: bs)
  | told {r : Int × Int} {rs : Rg} {t : Int} {bs : List (Option Int)} (h0 : 0 ≤ t) (h1 : t < r.1) (h : BoxR rs bs) : BoxR (r :: rs) (some t :: bs)
theorem BoxR.length : ∀ {rs : Rg} {bs : List (Option Int)}, BoxR rs bs → bs.length = rs.length
  | _, _, .nil => rfl
  | _, _, .open h => by simp [h.length]
  | _, _, .told _ _ h => by simp [h.length]
theorem InT.length : ∀ {rs : Rg} {ps : List Int}, InT rs ps → ps.length = rs.length
  | _, _, .nil => rfl
  | _, _, .cons _ _ h => by simp [h.length]
def inB : List (Option Int) → List Int → Bool
  | some t :: bs, p :: ps => decide (t = p) && inB bs ps
  | none :: bs, _ :: ps => inB bs ps
  | _, _ => true
def liB : List (Option Int) → List (Option Int) → Bool
  | some t :: bs, o :: os => decide (some t = o) && liB bs os
  | none :: bs, _ :: os => liB bs os
  | _, _ => true
def sizeB : Rg → List (Option Int) → Nat
  | r :: rs, none :: bs => r.1.toNat * sizeB rs bs
  | _ :: rs, some _ :: bs => sizeB rs bs
  | _, _ => 1
def meetB : List (Option Int) → List (Option Int) → Option (List (Option Int))
  | some t :: bs, some u :: os => if t = u then (meetB bs os).map (some u :: ·) else none
  | some t :: bs, none :: os => (meetB bs os).map (some t :: ·)
  | none :: bs, o :: os => (meetB bs os).map (o :: ·)
  | _, _ => some []
theorem filter_flatMap {α β : Type} (q : β → Bool) (f : α → List β) : ∀ l : List α, (l.flatMap f).filter q = l.flatMap fun a => (f a).filter q
  | [] => rfl
  | a :: l => by simp [List.filter_append, filter_flatMap q f l]
theorem len_flatMap {α β : Type} (f : α → List β) (c : Nat) : ∀ l : List α, (∀ a ∈ l, (f a).length = c) → (l.flatMap f).length = l.length * c
  | [], _ => by simp
  | a :: l, h => by
    rw [List.flatMap_cons, List.length_append, h a (by simp), len_flatMap f c l fun b hb => h b (by simp [hb]), List.length_cons, Nat.succ_mul, Nat.add_comm]
theorem len_ups (n : Nat) : (ups n).length = n := by simp [ups]
theorem len_one {α : Type} (f : Int → List α) (t : Int) (c : Nat) (h1 : (f t).length = c) (h0 : ∀ p, p ≠ t → f p = []) : ∀ n : Nat, ((ups n).flatMap f).length = if 0 ≤ t ∧ t < n then c else 0
  | 0 => by
    rw [if_neg (by omega)]
    rfl
  | n + 1 => by
    have e : ups (n + 1) = ups n ++ [(n : Int)] := by simp [ups, List.range_succ]
    rw [e, List.flatMap_append, List.length_append, len_one f t c h1 h0 n]
    have e2 : ([(n : Int)].flatMap f) = f n := by simp
    rw [e2]
    by_cases z : (n : Int) = t
    · rw [z, h1, if_neg (by omega), if_pos (by omega)]
      omega
    · rw [h0 _ z]
      by_cases c2 : 0 ≤ t ∧ t < n
      · rw [if_pos c2, if_pos (by omega)]
        rfl
      · rw [if_neg c2, if_neg (by omega)]
        rfl
theorem count_box : ∀ {rs : Rg} {bs : List (Option Int)}, BoxR rs bs → ((allT rs).filter (inB bs)).length = sizeB rs bs
  | _, _, .nil => rfl
  | r :: rs, _, .open (bs := bs) h => by
    unfold allT sizeB
    rw [filter_flatMap, len_flatMap _ (sizeB rs bs), len_ups]
    intro p _
    rw [List.filter_map, List.length_map, ← count_box h]
    rfl
  | r :: rs, _, .told (t := t) (bs := bs) h0 h1 h => by
    unfold allT sizeB
    rw [filter_flatMap, len_one _ t (sizeB rs bs), if_pos (by omega)]
    · rw [List.filter_map, List.length_map, ← count_box h]
      congr 1
      refine List.filter_congr fun x _ => ?_
      show (decide (t = t) && inB bs x) = _
      rw [decide_eq_true rfl, Bool.true_and]
    · intro p hp
      rw [List.filter_map]
      rw [List.filter_eq_nil_iff.mpr]
      · rfl
      · intro x _
        show ¬ (decide (t = p) && inB bs x) = true
        rw [decide_eq_false (fun z => hp z.symm), Bool.false_and]
        exact Bool.false_ne_true
/-- a box has a tuple -/
def pick : List (Option Int) → List Int
  | some t :: bs => t :: pick bs
  | none :: bs => 0 :: pick bs
  | [] => []
theorem pick_in : ∀ {rs : Rg} {bs : List (Option Int)}, (∀ r ∈ rs, 2 ≤ r.1) → BoxR rs bs → InT rs (pick bs) ∧ inB bs (pick bs) = true
  | _, _, _, .nil => ⟨.nil, rfl⟩
  | r :: rs, _, hr, .open h => by
    have := pick_in (fun r hr' => hr r (by simp [hr'])) h
    have := hr r (by simp)
    exact ⟨.cons (Int.le_refl 0) (by omega) ‹_ ∧ _›.1, ‹_ ∧ _›.2⟩
  | r :: rs, _, hr, .told h0 h1 h => by
    have := pick_in (fun r hr' => hr r (by simp [hr'])) h
    refine ⟨.cons h0 h1 this.1, ?_⟩
    show (decide (_ = _) && _) = true
    rw [decide_eq_true rfl, Bool.true_and]
    exact this.2
theorem li_sound : ∀ {rs : Rg} {one other : List (Option Int)} {x : List Int}, BoxR rs one → BoxR rs other → InT rs x → liB one other = true → inB other x = true → inB one x = true
  | _, _, _, _, .nil, .nil, .nil, _, _ => rfl
  | _, _, _, _, .open (bs := bs) a, .open (bs := os) b, .cons (ps := ps) _ _ c, h, k => by
    have := li_sound (one := bs) (other := os) (x := ps) a b c h k
    exact this
  | _, _, _, _, .open (bs := bs) a, .told (t := u) (bs := os) _ _ b, .cons (p := p) (ps := ps) _ _ c, h, k => by
    have k : (decide (u = p) && inB os ps) = true := k
    have := li_sound (one := bs) (other := os) (x := ps) a b c h (Bool.and_eq_true_iff.mp k).2
    exact this
  | _, _, _, _, .told _ _ a, .open b, .cons _ _ c, h, k => by
    have h : (decide (_ = none) && _) = true := h
    have := of_decide_eq_true (Bool.and_eq_true_iff.mp h).1
    cases this
  | _, _, _, _, .told (t := t) (bs := bs) _ _ a, .told (t := u) (bs := os) _ _ b, .cons (p := p) (ps := ps) _ _ c, h, k => by
    have h : (decide (some t = some u) && liB bs os) = true := h
    have k : (decide (u = p) && inB os ps) = true := k
    obtain ⟨h1, h2⟩ := Bool.and_eq_true_iff.mp h
    obtain ⟨k1, k2⟩ := Bool.and_eq_true_iff.mp k
    have h1 := Option.some.inj (of_decide_eq_true h1)
    have k1 := of_decide_eq_true k1
    show (decide (t = p) && inB bs ps) = true
    rw [li_sound a b c h2 k2, decide_eq_true (by omega)]
    rfl
theorem li_full : ∀ {rs : Rg} {one other : List (Option Int)}, (∀ r ∈ rs, 2 ≤ r.1) → BoxR rs one → BoxR rs other → liB one other = false → ∃ x, InT rs x ∧ inB other x = true ∧ inB one x = false
  | _, _, _, _, .nil, .nil, h => by cases h
  | r :: rs, _, _, hr, .open a, .open b, h => by
    obtain ⟨x, h1, h2, h3⟩ := li_full (fun r hr' => hr r (by simp [hr'])) a b h
    have := hr r (by simp)
    exact ⟨0 :: x, .cons (Int.le_refl 0) (by omega) h1, h2, h3⟩
  | r :: rs, _, _, hr, .open a, .told (t := u) h0 h1 b, h => by
    obtain ⟨x, k1, k2, k3⟩ := li_full (fun r hr' => hr r (by simp [hr'])) a b h
    refine ⟨u :: x, .cons h0 h1 k1, ?_, k3⟩
    show (decide (_ = _) && _) = true
    rw [decide_eq_true rfl, Bool.true_and]
    exact k2
  | r :: rs, _, _, hr, .told (t := t) h0 h1 a, .open (bs := os) b, h => by
    obtain ⟨k1, k2⟩ := pick_in (fun r hr' => hr r (by simp [hr'])) b
    have := hr r (by simp)
    refine ⟨(if t = 0 then 1 else 0) :: pick os, .cons (by split <;> omega) (by split <;> omega) k1, k2, ?_⟩
    show (decide (_ = _) && _) = false
    rw [decide_eq_false (by split <;> omega), Bool.false_and]
  | r :: rs, _, _, hr, .told (t := t) (bs := bs) h0 h1 a, .told (t := u) (bs := os) g0 g1 b, h => by
    have h : (decide (some t = some u) && liB bs os) = false := h
    by_cases z : t = u
    · rw [decide_eq_true (by rw [z]), Bool.true_and] at h
      obtain ⟨x, k1, k2, k3⟩ := li_full (fun r hr' => hr r (by simp [hr'])) a b h
      refine ⟨u :: x, .cons g0 g1 k1, ?_, ?_⟩
      · show (decide (_ = _) && _) = true
        rw [decide_eq_true rfl, Bool.true_and]
        exact k2
      · show (decide (_ = _) && _) = false
        rw [k3, Bool.and_false]
    · obtain ⟨k1, k2⟩ := pick_in (fun r hr' => hr r (by simp [hr'])) b
      refine ⟨u :: pick os, .cons g0 g1 k1, ?_, ?_⟩
      · show (decide (_ = _) && _) = true
        rw [decide_eq_true rfl, Bool.true_and]
        exact k2
      · show (decide (_ = _) && _) = false
        rw [decide_eq_false z, Bool.false_and]
theorem meet_none : ∀ {rs : Rg} {one other : List (Option Int)} {x : List Int}, BoxR rs one → BoxR rs other → InT rs x → meetB one other = none → (inB one x && inB other x) = false
  | _, _, _, _, .nil, .nil, .nil, h => by cases h
  | _, _, _, _, .open (bs := bs) a, .open (bs := os) b, .cons (ps := ps) _ _ c, h => by
    have h : (meetB bs os).map ((none : Option Int) :: ·) = none := h
    have := meet_none (one := bs) (other := os) (x := ps) a b c (Option.map_eq_none_iff.mp h)
    exact this
  | _, _, _, _, .open (bs := bs) a, .told (t := u) (bs := os) _ _ b, .cons (p := p) (ps := ps) _ _ c, h => by
    have h : (meetB bs os).map (some u :: ·) = none := h
    have := meet_none (one := bs) (other := os) (x := ps) a b c (Option.map_eq_none_iff.mp h)
    show (inB bs ps && (decide (u = p) && inB os ps)) = false
    rw [← Bool.and_assoc, Bool.and_comm (inB _ _), Bool.and_assoc, this, Bool.and_false]
  | _, _, _, _, .told (t := t) (bs := bs) _ _ a, .open (bs := os) b, .cons (p := p) (ps := ps) _ _ c, h => by
    have h : (meetB bs os).map (some t :: ·) = none := h
    have := meet_none (one := bs) (other := os) (x := ps) a b c (Option.map_eq_none_iff.mp h)
    show ((decide (t = p) && inB bs ps) && inB os ps) = false
    rw [Bool.and_assoc, this, Bool.and_false]
  | _, _, _, _, .told (t := t) (bs := bs) _ _ a, .told (t := u) (bs := os) _ _ b, .cons (p := p) (ps := ps) _ _ c, h => by
    have h : (if t = u then (meetB bs os).map (some u :: ·) else none) = none := h
    show ((decide (t = p) && inB bs ps) && (decide (u = p) && inB os ps)) = false
    by_cases z : t = u
    · rw [if_pos z] at h
      have := meet_none a b c (Option.map_eq_none_iff.mp h)
      cases q1 : inB bs ps <;> cases q2 : inB os ps <;> simp_all
    · by_cases k : t = p
      · rw [decide_eq_false (show ¬ u = p by omega)]
        simp
      · rw [decide_eq_false k]
        simp
theorem meet_some : ∀ {rs : Rg} {one other m : List (Option Int)}, BoxR rs one → BoxR rs other → meetB one other = some m → BoxR rs m ∧ ∀ x, InT rs x → inB m x = (inB one x && inB other x)
  | _, _, _, _, .nil, .nil, h => by
    cases h
    exact ⟨.nil, fun x hx => by cases hx; rfl⟩
  | _, _, _, _, .open (bs := bs) a, .open (bs := os) b, h => by
    have h : (meetB bs os).map ((none : Option Int) :: ·) = some _ := h
    obtain ⟨m, e, rfl⟩ := Option.map_eq_some_iff.mp h
    obtain ⟨k1, k2⟩ := meet_some a b e
    exact ⟨.open k1, fun x hx => by cases hx with | cons _ _ hx => exact k2 _ hx⟩
  | _, _, _, _, .open (bs := bs) a, .told (t := u) (bs := os) h0 h1 b, h => by
    have h : (meetB bs os).map (some u :: ·) = some _ := h
    obtain ⟨m, e, rfl⟩ := Option.map_eq_some_iff.mp h
    obtain ⟨k1, k2⟩ := meet_some a b e
    refine ⟨.told h0 h1 k1, fun x hx => ?_⟩
    cases hx with
    | @cons _ _ p ps _ _ hx =>
      show (decide (u = p) && inB m ps) = (inB bs ps && (decide (u = p) && inB os ps))
      rw [k2 _ hx, ← Bool.and_assoc, ← Bool.and_assoc, Bool.and_comm (decide _)]
  | _, _, _, _, .told (t := t) (bs := bs) h0 h1 a, .open (bs := os) b, h => by
    have h : (meetB bs os).map (some t :: ·) = some _ := h
    obtain ⟨m, e, rfl⟩ := Option.map_eq_some_iff.mp h
    obtain ⟨k1, k2⟩ := meet_some a b e
    refine ⟨.told h0 h1 k1, fun x hx => ?_⟩
    cases hx with
    | @cons _ _ p ps _ _ hx =>
      show (decide (t = p) && inB m ps) = ((decide (t = p) && inB bs ps) && inB os ps)
      rw [k2 _ hx, Bool.and_assoc]
  | _, _, _, _, .told (t := t) (bs := bs) _ _ a, .told (t := u) (bs := os) h0 h1 b, h => by
    have h : (if t = u then (meetB bs os).map (some u :: ·) else none) = some _ := h
    by_cases z : t = u
    · rw [if_pos z] at h
      obtain ⟨m, e, rfl⟩ := Option.map_eq_some_iff.mp h
      obtain ⟨k1, k2⟩ := meet_some a b e
      refine ⟨.told h0 h1 k1, fun x hx => ?_⟩
      cases hx with
      | @cons _ _ p ps _ _ hx =>
        show (decide (u = p) && inB m ps) = ((decide (t = p) && inB bs ps) && (decide (u = p) && inB os ps))
        rw [k2 _ hx, z]
        cases decide (u = p) <;> simp
    · rw [if_neg z] at h
      cases h
end BX

/-! own rules: slices of a tuple and sums of tuples, whole or empty ones too, by what stands afterwards -/
namespace TE
open PySem PySem.Spec PyProof.Rows L2 Evl
section
variable {X : Cx}
def rSlE : V → Option Int → Option Int → Hp → VK → Prop := fun x lo hi H Q => ∃ a xs, x = .ref a ∧ H a = some (.tup xs) ∧ ∀ p H', Ex H H' → H' p = some (.tup (cutV xs lo hi)) → Q (.ref p) H'
theorem sl_tupE : SlR X rSlE := by
  intro pins s σ H x v vl vu lo hi sl Q I rx hs pl pu h
  obtain ⟨a, xs, rfl, hx, q⟩ := h
  refine sl_tupA pins s σ H _ v vl vu lo hi sl Q I rx hs pl pu ⟨a, xs, rfl, SqT.of hx, fun w => q a H (Ex.refl _) ?_, fun _ p hp => q p _ (Ex.new hp) upd_same⟩
  obtain ⟨w1, w2⟩ := w
  have e : cutV xs lo hi = xs := by
    unfold cutV
    rw [w1, w2, List.drop_zero, Nat.sub_zero, List.take_length]
  rw [e]
  exact hx
def rCatE : R2 := fun x y H Q => ∃ a b xs ys, x = .ref a ∧ y = .ref b ∧ H a = some (.tup xs) ∧ H b = some (.tup ys) ∧ xs.length + ys.length ≤ sizeLine ∧ ∀ p H', Ex H H' → H' p = some (.tup (xs ++ ys)) → Q (.ref p) H'
theorem op_catE : OpR X (binaryOp .Add) rCatE := by
  intro pins s σ H x y v u Q I rx ry h
  obtain ⟨a, b, xs, ys, rfl, rfl, ha, hb, hz, q⟩ := h
  refine op_catA pins s σ H _ _ v u Q I rx ry ⟨a, b, xs, ys, rfl, rfl, SqT.of ha, SqT.of hb, hz, fun e => q b H (Ex.refl _) ?_, fun _ e => q a H (Ex.refl _) ?_, fun _ _ p hp => q p _ (Ex.new hp) upd_same⟩
  · rw [e, List.nil_append]
    exact hb
  · rw [e, List.append_nil]
    exact ha
end
end TE

theorem L2.Room.units65 {k : Nat} {A : PySem.Around} (r : L2.Room k A) : A.units + 65 < PySem.cLine := by have := r.un; omega
namespace K1
open PySem PySem.Spec PyProof.Rows L2 Evl LX ZW ZM TE BX
/-! ### data: tuples of ints, lists of them -/
theorem dp_ints {K : PySem.W.Frag} {H : Hp} : ∀ ns : List Int, DpAll K H (ns.map V.int) (ns.map PyData.int)
  | [] => .nil
  | n :: r => .cons (.int n) (dp_ints r)
theorem can_ints : ∀ l : List Int, PyData.canLayAll0 (l.map PyData.int) = true
  | [] => rfl
  | b :: r => by simp [PyData.canLayAll0, PyData.canLay0, can_ints r]
theorem depth_ints : ∀ l : List Int, PyData.depthAll (l.map PyData.int) ≤ 60
  | [] => by decide
  | b :: r => by
    have := depth_ints r
    simp only [List.map_cons, PyData.depthAll, PyData.depth]
    omega
theorem eqvAll_ints : ∀ a b : List Int, PyData.eqvAll (a.map PyData.int) (b.map PyData.int) = decide (a = b)
  | [], [] => by simp [PyData.eqvAll]
  | [], _ :: _ => by simp [PyData.eqvAll]
  | _ :: _, [] => by simp [PyData.eqvAll]
  | x :: a, y :: b => by
    have := eqvAll_ints a b
    simp only [List.map_cons, PyData.eqvAll, PyData.eqv, this]
    by_cases e : x = y
    · subst e
      simp
    · simp [e]
def tD (ps : List Int) : PyData := .tuple (ps.map PyData.int)
theorem eqv_tD (a b : List Int) : PyData.eqv (tD a) (tD b) = decide (a = b) := by
  have : PyData.eqv (tD a) (tD b) = PyData.eqvAll (a.map PyData.int) (b.map PyData.int) := by
    unfold tD
    simp only [PyData.eqv]
  rw [this, eqvAll_ints]
theorem shaped_tD (ns : List Int) : SeqAt.shaped (tD ns) = true := by
  unfold SeqAt.shaped tD
  have h1 : (PyData.tuple (ns.map PyData.int)).canLay0 = true := by simp [PyData.canLay0, can_ints ns]
  have h2 : (PyData.tuple (ns.map PyData.int)).depth ≤ 64 := by
    have := depth_ints ns
    simp only [PyData.depth]
    omega
  rw [h1, decide_eq_true h2]
  rfl
theorem dp_row {K : PySem.W.Frag} {H : Hp} {a : Addr} {ps : List Int} (h : PlacesT H a ps) : Dp K H (.ref a) (tD ps) := .tup (SqT.of h) (dp_ints _)
/-- tuples of integers at values -/
def Rows (H : Hp) (ys : List V) (pss : List (List Int)) : Prop := Paired (fun v ps => ∃ a, v = V.ref a ∧ PlacesT H a ps) ys pss
theorem Rows.keep {H H' : Hp} {ys : List V} {pss : List (List Int)} (k : ∀ b xs, H b = some (.tup xs) → H' b = some (.tup xs)) (h : Rows H ys pss) : Rows H' ys pss :=
  paired_imp (fun _ _ ⟨a, e, z⟩ => ⟨a, e, k a _ z⟩) h
theorem Rows.ex {H H' : Hp} {ys : List V} {pss : List (List Int)} (e : Ex H H') (h : Rows H ys pss) : Rows H' ys pss := h.keep fun b _ q => e b _ q
theorem Rows.lst {H : Hp} {ys acc : List V} {pss : List (List Int)} {l : Addr} {o : HO} (hl : H l = some (.lst acc)) (h : Rows H ys pss) : Rows (upd H l o) ys pss :=
  h.keep fun b _ q => (upd_ne (ne_of q hl (by intro z; cases z))).trans q
theorem Rows.get {H : Hp} {ys : List V} {pss : List (List Int)} {i : Nat} {x : V} (h : Rows H ys pss) (hx : ys[i]? = some x) : ∃ a ps, x = .ref a ∧ PlacesT H a ps ∧ pss[i]? = some ps := by
  obtain ⟨ps, h1, a, h2, h3⟩ := paired_get h hx
  exact ⟨a, ps, h2, h3, h1⟩
theorem dp_rows {K : PySem.W.Frag} {H : Hp} : ∀ {ys : List V} {pss : List (List Int)}, Rows H ys pss → DpAll K H ys (pss.map tD)
  | [], [], .nil => .nil
  | _ :: _, _ :: _, .cons ⟨_, e, r⟩ s => by
    subst e
    exact .cons (dp_row r) (dp_rows s)
theorem can_rows : ∀ l : List (List Int), PyData.canLayAll0 (l.map tD) = true
  | [] => rfl
  | b :: r => by
    have h1 : (tD b).canLay0 = true := by simp [tD, PyData.canLay0, can_ints b]
    simp only [List.map_cons, PyData.canLayAll0, h1, can_rows r, Bool.true_and]
theorem depth_rows : ∀ l : List (List Int), PyData.depthAll (l.map tD) ≤ 62
  | [] => Nat.zero_le _
  | b :: r => by
    have h1 := depth_rows r
    have h2 := depth_ints b
    simp only [List.map_cons, tD, PyData.depthAll, PyData.depth]
    have h1' : PyData.depthAll (List.map (fun ps => PyData.tuple (List.map PyData.int ps)) r) ≤ 62 := h1
    first
      | omega
      | (show max _ _ ≤ _; omega)
theorem shaped_rows (l : List (List Int)) : SeqAt.shaped (.list (l.map tD)) = true := by
  unfold SeqAt.shaped
  have h1 : (PyData.list (l.map tD)).canLay0 = true := by simp [PyData.canLay0, can_rows l]
  have h2 : (PyData.list (l.map tD)).depth ≤ 64 := by
    have := depth_rows l
    simp only [PyData.depth]
    omega
  rw [h1, decide_eq_true h2]
  rfl
theorem eqvAll_rows : ∀ a b : List (List Int), PyData.eqvAll (a.map tD) (b.map tD) = decide (a = b)
  | [], [] => by simp [PyData.eqvAll]
  | [], _ :: _ => by simp [PyData.eqvAll]
  | _ :: _, [] => by simp [PyData.eqvAll]
  | x :: a, y :: b => by
    have := eqvAll_rows a b
    simp only [List.map_cons, PyData.eqvAll, eqv_tD, this]
    by_cases e : x = y
    · subst e
      simp
    · simp [e]
theorem eqv_rows (a b : List (List Int)) : PyData.eqv (.list (a.map tD)) (.list (b.map tD)) = decide (a = b) := by
  rw [← eqvAll_rows]
  simp only [PyData.eqv]
theorem any_rows (l : List (List Int)) (x : List Int) : ((l.map tD).any fun z => PyData.eqv z (tD x)) = decide (x ∈ l) := by
  induction l with
  | nil => rfl
  | cons b r ih =>
    rw [List.map_cons, List.any_cons, ih, eqv_tD, ← Bool.decide_or]
    refine decide_eq_decide.mpr ?_
    rw [List.mem_cons]
    exact ⟨fun h => h.imp Eq.symm id, fun h => h.imp Eq.symm id⟩
/-- two lists of rows compared -/
theorem eq_rows {K : PySem.W.Frag} {H : Hp} {a b : Addr} {xs ys : List V} {pss qss : List (List Int)} {Q : VK} (ha : H a = some (.lst xs)) (hx : Rows H xs pss) (hb : H b = some (.lst ys)) (hy : Rows H ys qss) (q : Q (.bl (decide (pss = qss))) H) : rEqD K (.ref a) (.ref b) H Q := by
  refine ⟨_, _, .lst (SqL.of ha) (dp_rows hx), .lst (SqL.of hb) (dp_rows hy), shaped_rows _, shaped_rows _, ?_⟩
  rw [eqv_rows]
  exact q
theorem ne_rows {K : PySem.W.Frag} {H : Hp} {a b : Addr} {xs ys : List V} {pss qss : List (List Int)} {Q : VK} (ha : H a = some (.lst xs)) (hx : Rows H xs pss) (hb : H b = some (.lst ys)) (hy : Rows H ys qss) (q : Q (.bl (!decide (pss = qss))) H) : rNeD K (.ref a) (.ref b) H Q := by
  refine ⟨_, _, .lst (SqL.of ha) (dp_rows hx), .lst (SqL.of hb) (dp_rows hy), shaped_rows _, shaped_rows _, ?_⟩
  rw [eqv_rows]
  exact q
theorem in_rows {K : PySem.W.Frag} {H : Hp} {a b : Addr} {ys : List V} {ps : List Int} {qss : List (List Int)} {Q : VK} (ha : PlacesT H a ps) (hb : H b = some (.lst ys)) (hy : Rows H ys qss) (q : Q (.bl (decide (ps ∈ qss))) H) : rInD K (.ref a) (.ref b) H Q := by
  refine ⟨_, _, dp_row ha, .lst (SqL.of hb) (dp_rows hy), shaped_tD _, shaped_rows _, ?_⟩
  rw [any_rows]
  exact q
theorem notIn_rows {K : PySem.W.Frag} {H : Hp} {a b : Addr} {ys : List V} {ps : List Int} {qss : List (List Int)} {Q : VK} (ha : PlacesT H a ps) (hb : H b = some (.lst ys)) (hy : Rows H ys qss) (q : Q (.bl (!decide (ps ∈ qss))) H) : rNotInD K (.ref a) (.ref b) H Q := by
  refine ⟨_, _, dp_row ha, .lst (SqL.of hb) (dp_rows hy), shaped_tD _, shaped_rows _, ?_⟩
  rw [any_rows]
  exact q
/-- what a comprehension [x for x in rows if p x] has made of the first i rows -/
def FW (p : List Int → Bool) (Dl : Addr) (H0 : Hp) (pss : List (List Int)) (i : Nat) (H' : Hp) : Prop := ∃ acc, H' Dl = some (.lst acc) ∧ Rows H' acc ((pss.take i).filter p) ∧ Ex H0 H'
theorem take_snoc {α : Type} {l : List α} {i : Nat} {x : α} (h : l[i]? = some x) : l.take (i + 1) = l.take i ++ [x] := by
  rw [List.take_add_one, h]
  rfl
theorem FW.start {p : List Int → Bool} {Dl : Addr} {H0 : Hp} {pss : List (List Int)} (h : H0 Dl = none) : FW p Dl H0 pss 0 (upd H0 Dl (.lst [])) := ⟨[], upd_same, .nil, Ex.new h⟩
theorem FW.skip {p : List Int → Bool} {Dl : Addr} {H0 H' H2 : Hp} {pss : List (List Int)} {ps : List Int} {i : Nat} (W : FW p Dl H0 pss i H') (e : Ex H' H2) (hx : pss[i]? = some ps) (hp : p ps = false) : FW p Dl H0 pss (i + 1) H2 := by
  obtain ⟨acc, a1, a2, a3⟩ := W
  refine ⟨acc, e _ _ a1, ?_, a3.trans e⟩
  rw [take_snoc hx, List.filter_append, show [ps].filter p = [] by simp [hp], List.append_nil]
  exact a2.ex e
theorem FW.put {p : List Int → Bool} {Dl a : Addr} {H0 H' H2 : Hp} {pss : List (List Int)} {ps : List Int} {i : Nat} (W : FW p Dl H0 pss i H') (h0 : H0 Dl = none) (e : Ex H' H2) (hx : pss[i]? = some ps) (hp : p ps = true) (ha : PlacesT H2 a ps) (hl : pss.length ≤ 1000) :
    ∃ acc, H2 Dl = some (.lst acc) ∧ acc.length < sizeLine ∧ FW p Dl H0 pss (i + 1) (upd H2 Dl (.lst (acc ++ [.ref a]))) := by
  obtain ⟨acc, a1, a2, a3⟩ := W
  have hl2 : acc.length = ((pss.take i).filter p).length := paired_len a2
  have hl3 := List.length_filter_le p (pss.take i)
  have hl4 : (pss.take i).length ≤ pss.length := by rw [List.length_take]; exact Nat.min_le_right _ _
  refine ⟨acc, e _ _ a1, small1000 (by omega), acc ++ [.ref a], upd_same, ?_, Ex.mut (a3.trans e) h0⟩
  rw [take_snoc hx, List.filter_append, show [ps].filter p = [ps] by simp [hp]]
  exact Rows.lst (e _ _ a1) (show Rows H2 (acc ++ [.ref a]) _ from paired_snoc (R := fun v ps => ∃ a, v = V.ref a ∧ PlacesT H2 a ps) ⟨a, rfl, ha⟩ (a2.ex e))
/-! ### told places -/
def ov : Option Int → V
  | none => .non
  | some i => .int i
theorem ov_inj {a b : Option Int} : ov a = ov b ↔ a = b := by
  cases a <;> cases b <;> simp [ov]
def BoxAt (H : Hp) (a : Addr) (bs : List (Option Int)) : Prop := H a = some (.tup (bs.map ov))
theorem BoxAt.row {H : Hp} {a : Addr} {ps : List Int} (h : PlacesT H a ps) : BoxAt H a (ps.map some) := by
  unfold BoxAt
  rw [List.map_map]
  exact h
theorem ov_get {bs : List (Option Int)} {i : Nat} {x : V} (h : (bs.map ov)[i]? = some x) : ∃ o, bs[i]? = some o ∧ x = ov o := by
  rw [List.getElem?_map] at h
  cases e : bs[i]? with
  | none =>
    rw [e] at h
    cases h
  | some o =>
    rw [e] at h
    exact ⟨o, rfl, (Option.some.inj h).symm⟩
theorem inB_li : ∀ (bs : List (Option Int)) (ps : List Int), inB bs ps = liB bs (ps.map some)
  | some t :: bs, p :: ps => by
    show (decide (t = p) && inB bs ps) = (decide (some t = some p) && liB bs (ps.map some))
    rw [inB_li bs ps]
    congr 1
    exact decide_eq_decide.mpr ⟨fun h => by rw [h], fun h => Option.some.inj h⟩
  | none :: bs, p :: ps => inB_li bs ps
  | [], _ => by cases ‹List Int› <;> rfl
  | some _ :: _, [] => rfl
  | none :: _, [] => rfl
def li1 : Option Int → Option Int → Bool
  | none, _ => true
  | some t, o => decide (some t = o)
theorem li_all : ∀ (bs os : List (Option Int)), (List.zipWith li1 bs os).all id = liB bs os
  | some t :: bs, o :: os => by
    show (decide (some t = o) && (List.zipWith li1 bs os).all id) = _
    rw [li_all bs os]
    rfl
  | none :: bs, o :: os => by
    show (true && (List.zipWith li1 bs os).all id) = _
    rw [li_all bs os]
    rfl
  | [], _ => by cases ‹List (Option Int)› <;> rfl
  | some _ :: _, [] => rfl
  | none :: _, [] => rfl
theorem zip_get {bs os : List (Option Int)} {i : Nat} {a b : Option Int} (h1 : bs[i]? = some a) (h2 : os[i]? = some b) : (List.zipWith li1 bs os)[i]? = some (li1 a b) := by
  rw [List.getElem?_zipWith, h1, h2]
end K1

namespace K1
open PySem PySem.Spec PyProof.Rows L2 Evl LX ZW ZM TE BX
/-! ### judged rows of values -/
inductive OptB (K : PySem.W.Frag) (H : Hp) (hi : Int) : V → Bool → Prop where
  | non : OptB K H hi .non true
  | btw {x : V} {b : Bool} (n : x ≠ .non) (h : BtwB K H 0 hi x b) : OptB K H hi x b
inductive RowB (K : PySem.W.Frag) (R : Hp → Nat → V → Bool → Prop) (H : Hp) (n : Nat) : V → Bool → Prop where
  | no {x : V} (h : NotTup K H x) : RowB K R H n x false
  | len {a : Addr} {xs : List V} (e : H a = some (.tup xs)) (h : xs.length ≠ n) : RowB K R H n (.ref a) false
  | tup {a : Addr} {xs : List V} {bs : List Bool} (e : H a = some (.tup xs)) (h : xs.length = n) (hb : bs.length = n) (hr : ∀ i x b, xs[i]? = some x → bs[i]? = some b → R H i x b) : RowB K R H n (.ref a) (bs.all id)
abbrev optR (K : PySem.W.Frag) (rs : List (Int × Int)) : Hp → Nat → V → Bool → Prop := fun H i x b => OptB K H ((K1N.nAt rs i : Int) - 1) x b
abbrev intR (K : PySem.W.Frag) (rs : List (Int × Int)) : Hp → Nat → V → Bool → Prop := fun H i x b => BtwB K H 0 ((K1N.nAt rs i : Int) - 1) x b
theorem OptB.mono {K : PySem.W.Frag} {H H' : Hp} {hi : Int} {x : V} {b : Bool} (e : Ex H H') (h : OptB K H hi x b) : OptB K H' hi x b := by
  cases h with
  | non => exact .non
  | btw n h => exact .btw n (h.mono e)
theorem RowB.mono {K : PySem.W.Frag} {R : Hp → Nat → V → Bool → Prop} {H H' : Hp} {n : Nat} {x : V} {b : Bool} (m : ∀ i x b, R H i x b → R H' i x b) (e : Ex H H') (h : RowB K R H n x b) : RowB K R H' n x b := by
  cases h with
  | no h => exact .no (h.mono e)
  | len q h => exact .len (e _ _ q) h
  | tup q h hb hr => exact .tup (e _ _ q) h hb fun i x b h1 h2 => m i x b (hr i x b h1 h2)
theorem RowB.opt {K : PySem.W.Frag} {rs : List (Int × Int)} {H H' : Hp} {n : Nat} {x : V} {b : Bool} (e : Ex H H') (h : RowB K (optR K rs) H n x b) : RowB K (optR K rs) H' n x b := h.mono (fun _ _ _ q => OptB.mono e q) e
theorem RowB.int {K : PySem.W.Frag} {rs : List (Int × Int)} {H H' : Hp} {n : Nat} {x : V} {b : Bool} (e : Ex H H') (h : RowB K (intR K rs) H n x b) : RowB K (intR K rs) H' n x b := h.mono (fun _ _ _ q => BtwB.mono e q) e
section
variable {P : Program} {w : World} {K : PySem.W.Frag} {mg : Str → Option Value} {base : Heap}
def spLiesBoxed (K : PySem.W.Frag) : Sp := fun vs H Q _ => ∃ c v xs rs b, vs = [.ref c, v] ∧ H c = some (.tup xs) ∧ RingsAt H 60 xs rs ∧ xs.length ≤ 12 ∧ RowB K (optR K rs) H rs.length v b ∧ ∀ H', Ex H H' → Q (.bl b) H'
theorem ok_lies_boxed (T : Txt K mg) {f : Addr} {fd : FuncData} (D : DefAt K mg "lies_boxed" sLiesBoxed ["chain", "value"] f fd) : FnOk P w K mg base CX0 3 f fd ["chain", "value"] (spLiesBoxed K) := by
  refine D.F.ok scLiesBoxed (fun vs H Q E h => ?_) (fun cdv A outer s₀ H vs Q E hr h => ?_)
  · obtain ⟨c, v, xs, rs, b, rfl, _⟩ := h
    rfl
  · obtain ⟨c, v, xs, rs, b, rfl, hc, hR, hl, hb, q⟩ := h
    obtain ⟨f1, fd1, D1⟩ := T.d_is_between
    have hr2 : Room 2 _ := hr.mono (by decide)
    refine ⟨_, pss_cons (ps_if (PW.pt (pw_or (pt_not (pt_val (pe_callB call_isi (by rfl) T.z_isinstance (by decide +kernel) (pa_cons (pv 1) (pa_cons (pe_bltn (v := .ty "tuple") (by rfl) T.z_tuple (by decide +kernel) rfl) pa_nil)))))
          (pw_or1 (pt_cmpR op_ne (pe_callB call_len_seq (by rfl) T.z_len PySem.boot_len (pa_cons (pv 1) pa_nil)) (pe_callB call_len_seq (by rfl) T.z_len PySem.boot_len (pa_cons (pv 0) pa_nil)) (nomark _))))) (pss_one (ps_ret pe_bl)) pss_nil)
      (pss_one (ps_ret (pe_callB (cr_all rfl) (by rfl) T.z_all (by decide +kernel) (pa_cons (pe_lc (own := [("place", 2), ("ring", 3)]) (g := gTup K 2 (gCons (gName 2) (gCons (gName 3) gNil))) (tt := tYes) rfl scLiesBoxed.nd (RZ.pi_zipA (by rfl) T.z_zip (pa_cons (pv 1) (pa_cons (pv 0) pa_nil)))
        (blkOk_by (N := nLiesBoxed) (sc := defScope sLiesBoxed) (by decide +kernel)) (fun _ _ _ _ _ => (pg_tup (by rfl) (pgs_cons (pg_name (i := 2) scLiesBoxed.nd rfl (.inl rfl)) (pgs_cons (pg_name (i := 3) scLiesBoxed.nd rfl (.inl rfl)) pgs_nil)))) (fun _ _ _ _ _ => pts_nil)
        (fun _ _ _ _ _ => (pe_or (pe_cmpR op_isN (pv 2) pe_non (nomark _)) (pe_one (pe_call (ok_is_between T D1) hr2 (by rfl) D1.g D1.F.kp D1.b .nil pass0 (pa_cons (pv 2) (pa_cons pe_int (pa_cons (pe_op op_sub (pe_ix (show IxR _ (rIxT K) from ix_tup) (pv 3) pe_int (fun _ _ => rfl)) pe_int) pa_nil)))))))) pa_nil)))), ?_⟩
    have hlen : xs.length = rs.length := paired_len hR
    cases hb with
    | no hn =>
      obtain ⟨t, ty, h⟩ := hn.ty
      exact ⟨_, rfl, v, .ty "tuple", t, .type "tuple", false, rfl, .ty _, ty, h, false, rfl, iteT (iteT (q _ (Ex.refl _)))⟩
    | @len a ys ha hn =>
      refine ⟨_, rfl, .ref a, .ty "tuple", .type "tuple", .type "tuple", true, rfl, .ty _, .base (.tup ha), kit_ty (by decide +kernel), true, rfl, iteF ?_⟩
      refine ⟨_, rfl, a, _, rfl, .inr (SqT.of ha), _, rfl, c, _, rfl, .inr (SqT.of hc), rfl, _, rfl, ?_⟩
      rw [hlen, decide_eq_false (fun z => hn (by have := V.int.inj z; omega) : ¬ V.int (ys.length : Int) = V.int (rs.length : Int))]
      exact iteT (q _ (Ex.refl _))
    | @tup a ys bs ha h1 h2 hr2 =>
      refine ⟨_, rfl, .ref a, .ty "tuple", .type "tuple", .type "tuple", true, rfl, .ty _, .base (.tup ha), kit_ty (by decide +kernel), true, rfl, iteF ?_⟩
      refine ⟨_, rfl, a, _, rfl, .inr (SqT.of ha), _, rfl, c, _, rfl, .inr (SqT.of hc), rfl, _, rfl, ?_⟩
      rw [hlen, h1, decide_eq_true (rfl : V.int (rs.length : Int) = V.int (rs.length : Int))]
      refine iteF ?_
      refine ⟨_, rfl, _, rfl, a, c, _, _, rfl, .inr ⟨SqT.of ha, SqT.of hc, fun Dl hD => ?_⟩⟩
      refine lc_zipT (K := K) (a := a) (b := c) (xs := ys) (ys := xs) (n := xs.length) (by omega) (Nat.le_refl _) (.inr (Nat.le_refl _)) (fun i H' => H' Dl = some (.lst ((bs.take i).map V.bl)) ∧ Ex H H') ⟨upd_same, Ex.new hD⟩ (fun i H' hp => ⟨SqT.of (hp.2 _ _ ha), SqT.of (hp.2 _ _ hc)⟩) (fun i x y Tp H' hi hx hy hp nT => ?_) (fun H' hp => ?_)
      · have eT := Ex.new (o := .tup [x, y]) nT
        have hy1 := rings_nth4 (rings_ex4 (hp.2.trans eT) hR) hy
        obtain ⟨t, rfl, ht, b1, b2, b3, b4⟩ := hy1
        have hbx : bs[i]? = some (bs[i]'(by omega)) := List.getElem?_eq_getElem _
        have hj := hr2 i x _ hx hbx
        have fin : ∀ H3, Ex (upd H' Tp (.tup [x, .ref t])) H3 → ∃ acc, H3 Dl = some (.lst acc) ∧ acc.length < sizeLine ∧ ((upd H3 Dl (.lst (acc ++ [.bl (bs[i]'(by omega))]))) Dl = some (.lst ((bs.take (i + 1)).map V.bl)) ∧ Ex H (upd H3 Dl (.lst (acc ++ [.bl (bs[i]'(by omega))])))) := fun H3 e3 => by
          refine ⟨_, e3 _ _ (eT _ _ hp.1), ?_, ?_, Ex.mut ((hp.2.trans eT).trans e3) hD⟩
          · rw [List.length_map, List.length_take]
            exact small1000 (by omega)
          · rw [upd_same, take_snoc hbx, List.map_append]
            rfl
        generalize hbb : bs[i]'(by omega) = bb at hj fin
        refine ⟨Tp, _, rfl, SqT.of upd_same, rfl, x, [.ref t], rfl, .ref t, [], rfl, rfl, rfl, ?_⟩
        dsimp only [tYes]
        rw [if_pos rfl]
        refine ⟨_, rfl, rfl, ?_⟩
        cases hj with
        | non => exact ⟨true, rfl, iteT (fin _ (Ex.refl _))⟩
        | btw n h =>
          rw [decide_eq_false n]
          refine ⟨false, rfl, iteF ?_⟩
          exact ⟨_, rfl, _, rfl, t, _, 0, _, rfl, rfl, SqT.of ht, rfl, _, _, rfl, rfl, x, 0, _, bb, rfl, h.mono (hp.2.trans eT), fun H3 e3 => fin H3 e3⟩
      · refine ⟨Dl, bs, rfl, ?_, q _ hp.2⟩
        have := hp.1
        rw [List.take_of_length_le (by omega)] at this
        exact SqL.of this
def spLiesToldB (K : PySem.W.Frag) : Sp := fun vs H Q _ => ∃ c v xs rs b, vs = [.ref c, v] ∧ H c = some (.tup xs) ∧ RingsAt H 60 xs rs ∧ xs.length ≤ 12 ∧ RowB K (intR K rs) H rs.length v b ∧ ∀ H', Ex H H' → Q (.bl b) H'
theorem ok_lies_toldB (T : Txt K mg) {f : Addr} {fd : FuncData} (D : DefAt K mg "lies_told" sLiesTold ["chain", "value"] f fd) : FnOk P w K mg base CX0 3 f fd ["chain", "value"] (spLiesToldB K) := by
  refine D.F.ok scLiesTold (fun vs H Q E h => ?_) (fun cdv A outer s₀ H vs Q E hr h => ?_)
  · obtain ⟨c, v, xs, rs, b, rfl, _⟩ := h
    rfl
  · obtain ⟨c, v, xs, rs, b, rfl, hc, hR, hl, hb, q⟩ := h
    obtain ⟨f1, fd1, D1⟩ := T.d_is_between
    have hr2 : Room 2 _ := hr.mono (by decide)
    refine ⟨_, pss_cons (ps_if (PW.pt (pw_or (pt_not (pt_val (pe_callB call_isi (by rfl) T.z_isinstance (by decide +kernel) (pa_cons (pv 1) (pa_cons (pe_bltn (v := .ty "tuple") (by rfl) T.z_tuple (by decide +kernel) rfl) pa_nil)))))
          (pw_or1 (pt_cmpR op_ne (pe_callB call_len_seq (by rfl) T.z_len PySem.boot_len (pa_cons (pv 1) pa_nil)) (pe_callB call_len_seq (by rfl) T.z_len PySem.boot_len (pa_cons (pv 0) pa_nil)) (nomark _))))) (pss_one (ps_ret pe_bl)) pss_nil)
      (pss_one (ps_ret (pe_callB (cr_all rfl) (by rfl) T.z_all (by decide +kernel) (pa_cons (pe_lc (own := [("place", 2), ("ring", 3)]) (g := gTup K 2 (gCons (gName 2) (gCons (gName 3) gNil))) (tt := tYes) rfl scLiesTold.nd (RZ.pi_zipA (by rfl) T.z_zip (pa_cons (pv 1) (pa_cons (pv 0) pa_nil)))
        (blkOk_by (N := nLiesTold) (sc := defScope sLiesTold) (by decide +kernel)) (fun _ _ _ _ _ => (pg_tup (by rfl) (pgs_cons (pg_name (i := 2) scLiesTold.nd rfl (.inl rfl)) (pgs_cons (pg_name (i := 3) scLiesTold.nd rfl (.inl rfl)) pgs_nil)))) (fun _ _ _ _ _ => pts_nil)
        (fun _ _ _ _ _ => (pe_call (ok_is_between T D1) hr2 (by rfl) D1.g D1.F.kp D1.b .nil pass0 (pa_cons (pv 2) (pa_cons pe_int (pa_cons (pe_op op_sub (pe_ix (show IxR _ (rIxT K) from ix_tup) (pv 3) pe_int (fun _ _ => rfl)) pe_int) pa_nil)))))) pa_nil)))), ?_⟩
    have hlen : xs.length = rs.length := paired_len hR
    cases hb with
    | no hn =>
      obtain ⟨t, ty, h⟩ := hn.ty
      exact ⟨_, rfl, v, .ty "tuple", t, .type "tuple", false, rfl, .ty _, ty, h, false, rfl, iteT (iteT (q _ (Ex.refl _)))⟩
    | @len a ys ha hn =>
      refine ⟨_, rfl, .ref a, .ty "tuple", .type "tuple", .type "tuple", true, rfl, .ty _, .base (.tup ha), kit_ty (by decide +kernel), true, rfl, iteF ?_⟩
      refine ⟨_, rfl, a, _, rfl, .inr (SqT.of ha), _, rfl, c, _, rfl, .inr (SqT.of hc), rfl, _, rfl, ?_⟩
      rw [hlen, decide_eq_false (fun z => hn (by have := V.int.inj z; omega) : ¬ V.int (ys.length : Int) = V.int (rs.length : Int))]
      exact iteT (q _ (Ex.refl _))
    | @tup a ys bs ha h1 h2 hr2 =>
      refine ⟨_, rfl, .ref a, .ty "tuple", .type "tuple", .type "tuple", true, rfl, .ty _, .base (.tup ha), kit_ty (by decide +kernel), true, rfl, iteF ?_⟩
      refine ⟨_, rfl, a, _, rfl, .inr (SqT.of ha), _, rfl, c, _, rfl, .inr (SqT.of hc), rfl, _, rfl, ?_⟩
      rw [hlen, h1, decide_eq_true (rfl : V.int (rs.length : Int) = V.int (rs.length : Int))]
      refine iteF ?_
      refine ⟨_, rfl, _, rfl, a, c, _, _, rfl, .inr ⟨SqT.of ha, SqT.of hc, fun Dl hD => ?_⟩⟩
      refine lc_zipT (K := K) (a := a) (b := c) (xs := ys) (ys := xs) (n := xs.length) (by omega) (Nat.le_refl _) (.inr (Nat.le_refl _)) (fun i H' => H' Dl = some (.lst ((bs.take i).map V.bl)) ∧ Ex H H') ⟨upd_same, Ex.new hD⟩ (fun i H' hp => ⟨SqT.of (hp.2 _ _ ha), SqT.of (hp.2 _ _ hc)⟩) (fun i x y Tp H' hi hx hy hp nT => ?_) (fun H' hp => ?_)
      · have eT := Ex.new (o := .tup [x, y]) nT
        have hy1 := rings_nth4 (rings_ex4 (hp.2.trans eT) hR) hy
        obtain ⟨t, rfl, ht, b1, b2, b3, b4⟩ := hy1
        have hbx : bs[i]? = some (bs[i]'(by omega)) := List.getElem?_eq_getElem _
        have hj := hr2 i x _ hx hbx
        refine ⟨Tp, _, rfl, SqT.of upd_same, rfl, x, [.ref t], rfl, .ref t, [], rfl, rfl, rfl, ?_⟩
        dsimp only [tYes]
        rw [if_pos rfl]
        refine ⟨_, rfl, _, rfl, t, _, 0, _, rfl, rfl, SqT.of ht, rfl, _, _, rfl, rfl, x, 0, _, _, rfl, hj.mono (hp.2.trans eT), fun H3 e3 => ?_⟩
        refine ⟨_, e3 _ _ (eT _ _ hp.1), ?_, ?_, Ex.mut ((hp.2.trans eT).trans e3) hD⟩
        · rw [List.length_map, List.length_take]
          exact small1000 (by omega)
        · rw [upd_same, take_snoc hbx, List.map_append]
          rfl
      · refine ⟨Dl, bs, rfl, ?_, q _ hp.2⟩
        have := hp.1
        rw [List.take_of_length_le (by omega)] at this
        exact SqL.of this
def spLiesIn : Sp := fun vs H Q _ => ∃ a b bs os, vs = [.ref a, .ref b] ∧ BoxAt H a bs ∧ BoxAt H b os ∧ bs.length = os.length ∧ bs.length ≤ 12 ∧ ∀ H', Ex H H' → Q (.bl (liB bs os)) H'
theorem ok_lies_in (T : Txt K mg) {f : Addr} {fd : FuncData} (D : DefAt K mg "lies_in" sLiesIn ["box", "places"] f fd) : FnOk P w K mg base CX0 1 f fd ["box", "places"] spLiesIn := by
  refine D.F.ok scLiesIn (fun vs H Q E h => ?_) (fun cdv A outer s₀ H vs Q E hr h => ?_)
  · obtain ⟨a, b, bs, os, rfl, _⟩ := h
    rfl
  · obtain ⟨a, b, bs, os, rfl, ha, hb, hlen, hl, q⟩ := h
    refine ⟨_, pss_one (ps_ret (pe_callB (cr_all rfl) (by rfl) T.z_all (by decide +kernel) (pa_cons (pe_lc (own := [("told", 2), ("place", 3)]) (g := gTup K 2 (gCons (gName 2) (gCons (gName 3) gNil))) (tt := tYes) rfl scLiesIn.nd (RZ.pi_zipA (by rfl) T.z_zip (pa_cons (pv 0) (pa_cons (pv 1) pa_nil)))
        (blkOk_by (N := nLiesIn) (sc := defScope sLiesIn) (by decide +kernel)) (fun _ _ _ _ _ => (pg_tup (by rfl) (pgs_cons (pg_name (i := 2) scLiesIn.nd rfl (.inl rfl)) (pgs_cons (pg_name (i := 3) scLiesIn.nd rfl (.inl rfl)) pgs_nil)))) (fun _ _ _ _ _ => pts_nil)
        (fun _ _ _ _ _ => (pe_or (pe_cmpR op_isN (pv 2) pe_non (nomark _)) (pe_one (pe_cmpR op_eq (pv 2) (pv 3) (nomark _)))))) pa_nil))), ?_⟩
    refine ⟨_, rfl, _, rfl, a, b, _, _, rfl, .inr ⟨SqT.of ha, SqT.of hb, fun Dl hD => ?_⟩⟩
    refine lc_zipT (K := K) (a := a) (b := b) (xs := bs.map ov) (ys := os.map ov) (n := bs.length) (by rw [List.length_map]; omega) (by rw [List.length_map]; omega) (.inl (by rw [List.length_map]; omega)) (fun i H' => H' Dl = some (.lst (((List.zipWith li1 bs os).take i).map V.bl)) ∧ Ex H H') ⟨upd_same, Ex.new hD⟩ (fun i H' hp => ⟨SqT.of (hp.2 _ _ ha), SqT.of (hp.2 _ _ hb)⟩) (fun i x y Tp H' hi hx hy hp nT => ?_) (fun H' hp => ?_)
    · obtain ⟨o1, ho1, rfl⟩ := ov_get hx
      obtain ⟨o2, ho2, rfl⟩ := ov_get hy
      have eT := Ex.new (o := .tup [ov o1, ov o2]) nT
      refine ⟨Tp, _, rfl, SqT.of upd_same, rfl, ov o1, [ov o2], rfl, ov o2, [], rfl, rfl, rfl, ?_⟩
      dsimp only [tYes]
      rw [if_pos rfl]
      have fin : ∃ acc, (upd H' Tp (.tup [ov o1, ov o2])) Dl = some (.lst acc) ∧ acc.length < sizeLine ∧ ((upd (upd H' Tp (.tup [ov o1, ov o2])) Dl (.lst (acc ++ [.bl (li1 o1 o2)]))) Dl = some (.lst (((List.zipWith li1 bs os).take (i + 1)).map V.bl)) ∧ Ex H (upd (upd H' Tp (.tup [ov o1, ov o2])) Dl (.lst (acc ++ [.bl (li1 o1 o2)])))) := by
        refine ⟨_, eT _ _ hp.1, ?_, ?_, Ex.mut (hp.2.trans eT) hD⟩
        · rw [List.length_map, List.length_take]
          exact small1000 (by omega)
        · rw [upd_same, take_snoc (zip_get ho1 ho2), List.map_append]
          rfl
      refine ⟨_, rfl, rfl, ?_⟩
      cases o1 with
      | none => exact ⟨true, rfl, iteT fin⟩
      | some t =>
        refine ⟨false, rfl, iteF ⟨_, rfl, _, rfl, ?_⟩⟩
        cases o2 with
        | none => exact ⟨rfl, fin⟩
        | some u =>
          refine ⟨rfl, ?_⟩
          have e : decide (V.int t = V.int u) = li1 (some t) (some u) := decide_eq_decide.mpr ⟨fun z => by rw [V.int.inj z], fun z => by rw [Option.some.inj z]⟩
          show ∃ acc, _ ∧ _ ∧ _
          rw [show decide (ov (some t) = ov (some u)) = li1 (some t) (some u) from e]
          exact fin
    · refine ⟨Dl, List.zipWith li1 bs os, rfl, ?_, ?_⟩
      · have := hp.1
        rw [List.take_of_length_le (by rw [List.length_zipWith]; omega)] at this
        exact SqL.of this
      · rw [li_all]
        exact q _ hp.2
def spCheckBox (K : PySem.W.Frag) : Sp := fun vs H Q _ => ∃ c v xs rs, vs = [.ref c, v] ∧ H c = some (.tup xs) ∧ RingsAt H 60 xs rs ∧ xs.length ≤ 12 ∧ RowB K (optR K rs) H rs.length v true ∧ ∀ H', Ex H H' → Q .non H'
theorem ok_check_box (T : Txt K mg) {f : Addr} {fd : FuncData} (D : DefAt K mg "check_box" sCheckBox ["chain", "box"] f fd) : FnOk P w K mg base CX0 4 f fd ["chain", "box"] (spCheckBox K) := by
  refine D.F.ok scCheckBox (fun vs H Q E h => ?_) (fun cdv A outer s₀ H vs Q E hr h => ?_)
  · obtain ⟨c, v, xs, rs, rfl, _⟩ := h
    rfl
  · obtain ⟨c, v, xs, rs, rfl, hc, hR, hl, hb, q⟩ := h
    obtain ⟨f1, fd1, D1⟩ := T.d_lies_boxed
    have hr3 : Room 3 _ := hr.mono (by decide)
    refine ⟨_, pss_one (ps_if (pt_not (pt_val (pe_call (ok_lies_boxed T D1) hr3 (by rfl) D1.g D1.F.kp D1.b .nil pass0 (pa_cons (pv 0) (pa_cons (pv 1) pa_nil))))) pss_never pss_nil), ?_⟩
    exact ⟨_, rfl, _, rfl, c, v, xs, rs, true, rfl, hc, hR, hl, hb, fun H1 e1 => ⟨true, rfl, iteF (q _ e1)⟩⟩
end
end K1

namespace K1
open PySem PySem.Spec PyProof.Rows L2 Evl LX ZW ZM TE BX
/-! ### boxes of a chain -/
theorem boxR_get : ∀ {rs : List (Int × Int)} {bs : List (Option Int)} {i : Nat} {o : Option Int}, BoxR rs bs → bs[i]? = some o → o = none ∨ ∃ t, o = some t ∧ 0 ≤ t ∧ t < (rs.getD i (0, 0)).1
  | _, _, _, _, .nil, h => by simp at h
  | _, _, 0, _, .open b, h => by simp at h; exact .inl h.symm
  | _, _, 0, _, .told h0 h1 b, h => by
    simp at h
    exact .inr ⟨_, h.symm, h0, h1⟩
  | _, _, i + 1, _, .open b, h => by
    have := boxR_get (i := i) b (by simpa using h)
    simpa using this
  | _, _, i + 1, _, .told h0 h1 b, h => by
    have := boxR_get (i := i) b (by simpa using h)
    simpa using this
theorem inT_get : ∀ {rs : List (Int × Int)} {ps : List Int} {i : Nat} {p : Int}, InT rs ps → ps[i]? = some p → 0 ≤ p ∧ p < (rs.getD i (0, 0)).1
  | _, _, _, _, .nil, h => by simp at h
  | _, _, 0, _, .cons h0 h1 b, h => by
    simp at h
    subst h
    exact ⟨h0, h1⟩
  | _, _, i + 1, _, .cons h0 h1 b, h => by
    have := inT_get (i := i) b (by simpa using h)
    simpa using this
theorem nAt_eq {H : Hp} {most : Int} {xs : List V} {rs : List (Int × Int)} (hR : RingsAt H most xs rs) {i : Nat} (hi : i < rs.length) : (K1N.nAt rs i : Int) = (rs.getD i (0, 0)).1 := by
  obtain ⟨x, _, t, _, _, h1, _⟩ := rings_nth hR hi
  unfold K1N.nAt at h1 ⊢
  omega
theorem box_judged {K : PySem.W.Frag} {H : Hp} {a : Addr} {xs : List V} {rs : List (Int × Int)} {bs : List (Option Int)} (hR : RingsAt H 60 xs rs) (ha : BoxAt H a bs) (hb : BoxR rs bs) : RowB K (optR K rs) H rs.length (.ref a) true := by
  have hl := hb.length
  have q := RowB.tup (K := K) (R := optR K rs) (bs := List.replicate rs.length true) ha (by rw [List.length_map, hl]) (by rw [List.length_replicate]) fun i x b h1 h2 => by
    obtain ⟨o, ho, rfl⟩ := ov_get h1
    have hi : i < rs.length := by
      have := (List.getElem?_eq_some_iff.mp ho).1
      omega
    have e : b = true := by
      have := (List.getElem?_eq_some_iff.mp h2)
      obtain ⟨_, e⟩ := this
      rw [List.getElem_replicate] at e
      exact e.symm
    subst e
    have n60 := rings_n hR i
    rcases boxR_get hb ho with rfl | ⟨t, rfl, t0, t1⟩
    · exact .non
    · rw [← nAt_eq hR hi] at t1
      exact .btw (by intro z; cases z) (.yes t0 (by omega) (by omega) (by omega))
  rw [show (List.replicate rs.length true).all id = true by simp] at q
  exact q
theorem row_judged {K : PySem.W.Frag} {H : Hp} {a : Addr} {xs : List V} {rs : List (Int × Int)} {ps : List Int} (hR : RingsAt H 60 xs rs) (ha : PlacesT H a ps) (hb : InT rs ps) : RowB K (intR K rs) H rs.length (.ref a) true := by
  have hl := hb.length
  have q := RowB.tup (K := K) (R := intR K rs) (bs := List.replicate rs.length true) ha (by rw [List.length_map, hl]) (by rw [List.length_replicate]) fun i x b h1 h2 => by
    have hi : i < rs.length := by
      have := (List.getElem?_eq_some_iff.mp h1).1
      rw [List.length_map] at this
      omega
    have e : b = true := by
      obtain ⟨_, e⟩ := (List.getElem?_eq_some_iff.mp h2)
      rw [List.getElem_replicate] at e
      exact e.symm
    subst e
    have n60 := rings_n hR i
    rw [List.getElem?_map] at h1
    cases ep : ps[i]? with
    | none =>
      rw [ep] at h1
      cases h1
    | some p =>
      rw [ep] at h1
      obtain rfl := Option.some.inj h1
      have := inT_get hb ep
      rw [← nAt_eq hR hi] at this
      exact .yes this.1 (by omega) (by omega) (by omega)
  rw [show (List.replicate rs.length true).all id = true by simp] at q
  exact q
section
variable {P : Program} {w : World} {K : PySem.W.Frag} {mg : Str → Option Value} {base : Heap}
def spIsBox (K : PySem.W.Frag) : Sp := fun vs H Q _ => ∃ c v xs rs b, vs = [.ref c, v] ∧ H c = some (.tup xs) ∧ RingsAt H 60 xs rs ∧ (1 ≤ xs.length ∧ xs.length ≤ 12) ∧ RowB K (optR K rs) H rs.length v b ∧ ∀ H', Ex H H' → Q (.bl b) H'
theorem ok_is_box (T : Txt K mg) {f : Addr} {fd : FuncData} (D : DefAt K mg "is_box" sIsBox ["chain", "value"] f fd) : FnOk P w K mg base CX0 6 f fd ["chain", "value"] (spIsBox K) := by
  refine D.F.ok scIsBox (fun vs H Q E h => ?_) (fun cdv A outer s₀ H vs Q E hr h => ?_)
  · obtain ⟨c, v, xs, rs, b, rfl, _⟩ := h
    rfl
  · obtain ⟨c, v, xs, rs, b, rfl, hc, hR, hl, hb, q⟩ := h
    obtain ⟨f1, fd1, D1⟩ := T.d_lies_boxed
    obtain ⟨f2, fd2, D2⟩ := T.d_check_chain
    have hr3 : Room 3 _ := hr.mono (by decide)
    have hr5 : Room 5 _ := hr.mono (by decide)
    refine ⟨_, pss_cons (ps_expr (pe_call (ok_check_chain T D2) hr5 (by rfl) D2.g D2.F.kp D2.b .nil pass0 (pa_cons (pv 0) pa_nil)))
      (pss_one (ps_ret (pe_call (ok_lies_boxed T D1) hr3 (by rfl) D1.g D1.F.kp D1.b .nil pass0 (pa_cons (pv 0) (pa_cons (pv 1) pa_nil))))), ?_⟩
    refine ⟨_, rfl, .ref c, rfl, rings_chain4 hR hc hl.1 hl.2, fun H1 e1 => ?_⟩
    exact ⟨_, rfl, _, rfl, c, v, xs, rs, b, rfl, e1 _ _ hc, rings_ex4 e1 hR, hl.2, hb.opt e1, fun H2 e2 => q _ (e1.trans e2)⟩
/-- a judged value: a row that is told, or none -/
inductive InBoxB (K : PySem.W.Frag) (H : Hp) (rs : List (Int × Int)) (bs : List (Option Int)) : V → Bool → Prop where
  | no {v : V} (h : RowB K (intR K rs) H rs.length v false) : InBoxB K H rs bs v false
  | row {a : Addr} {ps : List Int} (h : PlacesT H a ps) (hp : InT rs ps) : InBoxB K H rs bs (.ref a) (inB bs ps)
theorem InBoxB.ex {K : PySem.W.Frag} {H H' : Hp} {rs : List (Int × Int)} {bs : List (Option Int)} {v : V} {b : Bool} (e : Ex H H') (h : InBoxB K H rs bs v b) : InBoxB K H' rs bs v b := by
  cases h with
  | no h => exact .no (h.int e)
  | row h hp => exact .row (e _ _ h) hp
def spIsInBox (K : PySem.W.Frag) : Sp := fun vs H Q _ => ∃ c a v xs rs bs b, vs = [.ref c, .ref a, v] ∧ H c = some (.tup xs) ∧ RingsAt H 60 xs rs ∧ (1 ≤ xs.length ∧ xs.length ≤ 12) ∧ BoxAt H a bs ∧ BoxR rs bs ∧ InBoxB K H rs bs v b ∧ ∀ H', Ex H H' → Q (.bl b) H'
theorem ok_is_in_box (T : Txt K mg) {f : Addr} {fd : FuncData} (D : DefAt K mg "is_in_box" sIsInBox ["chain", "box", "value"] f fd) : FnOk P w K mg base CX0 6 f fd ["chain", "box", "value"] (spIsInBox K) := by
  refine D.F.ok scIsInBox (fun vs H Q E h => ?_) (fun cdv A outer s₀ H vs Q E hr h => ?_)
  · obtain ⟨c, a, v, xs, rs, bs, b, rfl, _⟩ := h
    rfl
  · obtain ⟨c, a, v, xs, rs, bs, b, rfl, hc, hR, hl, ha, hbs, hb, q⟩ := h
    obtain ⟨f1, fd1, D1⟩ := T.d_lies_in
    obtain ⟨f2, fd2, D2⟩ := T.d_lies_told
    obtain ⟨f3, fd3, D3⟩ := T.d_check_box
    obtain ⟨f4, fd4, D4⟩ := T.d_check_chain
    have hr1 : Room 1 _ := hr.mono (by decide)
    have hr3 : Room 3 _ := hr.mono (by decide)
    have hr4 : Room 4 _ := hr.mono (by decide)
    have hr5 : Room 5 _ := hr.mono (by decide)
    refine ⟨_, pss_cons (ps_expr (pe_call (ok_check_chain T D4) hr5 (by rfl) D4.g D4.F.kp D4.b .nil pass0 (pa_cons (pv 0) pa_nil)))
      (pss_cons (ps_expr (pe_call (ok_check_box T D3) hr4 (by rfl) D3.g D3.F.kp D3.b .nil pass0 (pa_cons (pv 0) (pa_cons (pv 1) pa_nil))))
      (pss_one (ps_ret (pe_and (pe_call (ok_lies_toldB T D2) hr3 (by rfl) D2.g D2.F.kp D2.b .nil pass0 (pa_cons (pv 0) (pa_cons (pv 2) pa_nil))) (pe_one (pe_call (ok_lies_in T D1) hr1 (by rfl) D1.g D1.F.kp D1.b .nil pass0 (pa_cons (pv 1) (pa_cons (pv 2) pa_nil)))))))), ?_⟩
    have hlen : xs.length = rs.length := paired_len hR
    have hbl := hbs.length
    refine ⟨_, rfl, .ref c, rfl, rings_chain4 hR hc hl.1 hl.2, fun H1 e1 => ?_⟩
    refine ⟨_, rfl, _, rfl, c, .ref a, xs, rs, rfl, e1 _ _ hc, rings_ex4 e1 hR, hl.2, (box_judged hR ha hbs).opt e1, fun H2 e2 => ?_⟩
    have e12 := e1.trans e2
    cases hb with
    | no h => exact ⟨_, rfl, _, rfl, c, v, xs, rs, false, rfl, e12 _ _ hc, rings_ex4 e12 hR, hl.2, h.int e12, fun H3 e3 => ⟨false, rfl, iteF (q _ (e12.trans e3))⟩⟩
    | @row b2 ps h hp =>
      have hpl := hp.length
      refine ⟨_, rfl, _, rfl, c, .ref b2, xs, rs, true, rfl, e12 _ _ hc, rings_ex4 e12 hR, hl.2, (row_judged hR h hp).int e12, fun H3 e3 => ⟨true, rfl, iteT ?_⟩⟩
      have e13 := e12.trans e3
      refine ⟨_, rfl, _, rfl, a, b2, bs, ps.map some, rfl, e13 _ _ ha, BoxAt.row (e13 _ _ h), by rw [List.length_map]; omega, by omega, fun H4 e4 => ?_⟩
      rw [← inB_li]
      exact q _ (e13.trans e4)
def spSizeOf (K : PySem.W.Frag) : Sp := fun vs H Q _ => ∃ c a xs rs bs, vs = [.ref c, .ref a] ∧ H c = some (.tup xs) ∧ RingsAt H 60 xs rs ∧ (1 ≤ xs.length ∧ xs.length ≤ 12) ∧ BoxAt H a bs ∧ BoxR rs bs ∧ ∀ H', Ex H H' → Q (.int (sizeB rs bs : Nat)) H'
theorem size_step {rs : List (Int × Int)} {bs : List (Option Int)} {i : Nat} {o : Option Int} (hb : bs.length = rs.length) (h : bs[i]? = some o) : sizeB (rs.drop i) (bs.drop i) = (if o = none then (rs.getD i (0, 0)).1.toNat else 1) * sizeB (rs.drop (i + 1)) (bs.drop (i + 1)) := by
  obtain ⟨h1, h2⟩ := List.getElem?_eq_some_iff.mp h
  have h3 : i < rs.length := by omega
  rw [List.drop_eq_getElem_cons h1, List.drop_eq_getElem_cons h3, h2]
  have e : rs.getD i (0, 0) = rs[i] := by rw [List.getD_eq_getElem?_getD, List.getElem?_eq_getElem h3]; rfl
  rw [e]
  cases o with
  | none => rw [if_pos rfl]; rfl
  | some t => rw [if_neg (by intro z; cases z), Nat.one_mul]; rfl
theorem ok_size_of (T : Txt K mg) {f : Addr} {fd : FuncData} (D : DefAt K mg "size_of" sSizeOf ["chain", "box"] f fd) : FnOk P w K mg base CX0 6 f fd ["chain", "box"] (spSizeOf K) := by
  refine D.F.ok scSizeOf (fun vs H Q E h => ?_) (fun cdv A outer s₀ H vs Q E hr h => ?_)
  · obtain ⟨c, a, xs, rs, bs, rfl, _⟩ := h
    rfl
  · obtain ⟨c, a, xs, rs, bs, rfl, hc, hR, hl, ha, hbs, q⟩ := h
    obtain ⟨f1, fd1, D1⟩ := T.d_check_box
    obtain ⟨f2, fd2, D2⟩ := T.d_check_chain
    have hr4 : Room 4 _ := hr.mono (by decide)
    have hr5 : Room 5 _ := hr.mono (by decide)
    refine ⟨_, pss_cons (ps_expr (pe_call (ok_check_chain T D2) hr5 (by rfl) D2.g D2.F.kp D2.b .nil pass0 (pa_cons (pv 0) pa_nil)))
      (pss_cons (ps_expr (pe_call (ok_check_box T D1) hr4 (by rfl) D1.g D1.F.kp D1.b .nil pass0 (pa_cons (pv 0) (pa_cons (pv 1) pa_nil))))
      (pss_cons (ps_set (i := 2) scSizeOf.nd rfl (.inl rfl) pe_int)
      (pss_cons (ps_for PassesOwn.never rfl (RZ.pi_zipA (by rfl) T.z_zip (pa_cons (pv 1) (pa_cons (pv 0) pa_nil))) (pg_tup (by rfl) (pgs_cons (pg_name (i := 3) scSizeOf.nd rfl (.inl rfl)) (pgs_cons (pg_name (i := 4) scSizeOf.nd rfl (.inl rfl)) pgs_nil)))
        (pss_one (ps_if (pt_cmpR op_isN (pv 3) pe_non (nomark _)) (pss_one (ps_set (i := 2) scSizeOf.nd rfl (.inl rfl) (pe_op op_mul (pv 2) (pe_ix ix_tup (pv 4) pe_int (fun _ _ => rfl))))) pss_nil)))
      (pss_one (ps_ret (pv 2)))))), ?_⟩
    have hlen : xs.length = rs.length := paired_len hR
    have hbl := hbs.length
    refine ⟨_, rfl, .ref c, rfl, rings_chain4 hR hc hl.1 hl.2, fun H1 e1 => ?_⟩
    refine ⟨_, rfl, _, rfl, c, .ref a, xs, rs, rfl, e1 _ _ hc, rings_ex4 e1 hR, hl.2, (box_judged hR ha hbs).opt e1, fun H2 e2 => ?_⟩
    have e12 := e1.trans e2
    refine ⟨_, rfl, _, rfl, a, c, _, _, rfl, .inr ⟨SqT.of (e12 _ _ ha), SqT.of (e12 _ _ hc), ?_⟩⟩
    refine for_zipT (K := K) (a := a) (b := c) (xs := bs.map ov) (ys := xs) (n := bs.length) (by rw [List.length_map]; exact Nat.le_refl _) (by omega) (.inl (by rw [List.length_map]; exact Nat.le_refl _)) (fun i σ' H' => ∃ (m : Nat) (y3 y4 : Option V), σ' = [some (.ref c), some (.ref a), some (.int m), y3, y4] ∧ m * sizeB (rs.drop i) (bs.drop i) = sizeB rs bs ∧ Ex H H') ⟨1, none, none, rfl, by simp, e12⟩ (fun i σ' H' hp => ?_) (fun i x y Tp σ' H' hi hx hy hp nT => ?_) (fun σ' H' hp => ?_)
    · obtain ⟨_, _, _, _, _, e⟩ := hp
      exact ⟨SqT.of (e _ _ ha), SqT.of (e _ _ hc)⟩
    · obtain ⟨m, y3, y4, rfl, hm, e⟩ := hp
      obtain ⟨o, ho, rfl⟩ := ov_get hx
      have eT := Ex.new (o := .tup [ov o, y]) nT
      have hy1 := rings_nth4 (rings_ex4 (e.trans eT) hR) hy
      have hn := nAt_eq hR (show i < rs.length by omega)
      obtain ⟨t, rfl, ht, b1, b2, b3, b4⟩ := hy1
      have hst := size_step hbl ho
      refine ⟨Tp, _, rfl, SqT.of upd_same, rfl, ov o, [.ref t], rfl, .ref t, [], rfl, rfl, ?_⟩
      refine ⟨_, rfl, rfl, _, rfl, ?_⟩
      cases o with
      | none =>
        refine iteT ⟨_, rfl, _, rfl, t, _, 0, _, rfl, rfl, SqT.of ht, rfl, _, _, rfl, rfl, .inr (by constructor <;> omega), ?_⟩
        refine ⟨m * (K1N.nAt rs i), some .non, some (.ref t), ?_, ?_, e.trans eT⟩
        · show [some (V.ref c), some (.ref a), some (.int ((m : Int) * (K1N.nAt rs i : Int))), some .non, some (.ref t)] = _
          rw [← Int.natCast_mul]
        · rw [← hm, hst, if_pos rfl, ← hn, Int.toNat_natCast, Nat.mul_assoc]
      | some u =>
        refine iteF ⟨m, some (.int u), some (.ref t), rfl, ?_, e.trans eT⟩
        rw [← hm, hst, if_neg (by intro z; cases z), Nat.one_mul]
    · obtain ⟨m, y3, y4, rfl, hm, e⟩ := hp
      rw [List.drop_of_length_le (Nat.le_refl bs.length), List.drop_of_length_le (by omega : rs.length ≤ bs.length)] at hm
      have : m = sizeB rs bs := by
        rw [← hm]
        show m = m * 1
        omega
      rw [← this] at q
      exact ⟨_, rfl, q _ e⟩
def spCheckBoxes (K : PySem.W.Frag) : Sp := fun vs H Q _ => ∃ c a b xs rs bs os, vs = [.ref c, .ref a, .ref b] ∧ H c = some (.tup xs) ∧ RingsAt H 60 xs rs ∧ (1 ≤ xs.length ∧ xs.length ≤ 12) ∧ BoxAt H a bs ∧ BoxR rs bs ∧ BoxAt H b os ∧ BoxR rs os ∧ ∀ H', Ex H H' → Q .non H'
theorem ok_check_boxes (T : Txt K mg) {f : Addr} {fd : FuncData} (D : DefAt K mg "check_boxes" sCheckBoxes ["chain", "one", "other"] f fd) : FnOk P w K mg base CX0 6 f fd ["chain", "one", "other"] (spCheckBoxes K) := by
  refine D.F.ok scCheckBoxes (fun vs H Q E h => ?_) (fun cdv A outer s₀ H vs Q E hr h => ?_)
  · obtain ⟨c, a, b, xs, rs, bs, os, rfl, _⟩ := h
    rfl
  · obtain ⟨c, a, b, xs, rs, bs, os, rfl, hc, hR, hl, ha, hbs, hb, hos, q⟩ := h
    obtain ⟨f1, fd1, D1⟩ := T.d_check_box
    obtain ⟨f2, fd2, D2⟩ := T.d_check_chain
    have hr4 : Room 4 _ := hr.mono (by decide)
    have hr5 : Room 5 _ := hr.mono (by decide)
    refine ⟨_, pss_cons (ps_expr (pe_call (ok_check_chain T D2) hr5 (by rfl) D2.g D2.F.kp D2.b .nil pass0 (pa_cons (pv 0) pa_nil)))
      (pss_cons (ps_expr (pe_call (ok_check_box T D1) hr4 (by rfl) D1.g D1.F.kp D1.b .nil pass0 (pa_cons (pv 0) (pa_cons (pv 1) pa_nil))))
      (pss_one (ps_expr (pe_call (ok_check_box T D1) hr4 (by rfl) D1.g D1.F.kp D1.b .nil pass0 (pa_cons (pv 0) (pa_cons (pv 2) pa_nil)))))), ?_⟩
    refine ⟨_, rfl, .ref c, rfl, rings_chain4 hR hc hl.1 hl.2, fun H1 e1 => ?_⟩
    refine ⟨_, rfl, _, rfl, c, .ref a, xs, rs, rfl, e1 _ _ hc, rings_ex4 e1 hR, hl.2, (box_judged hR ha hbs).opt e1, fun H2 e2 => ?_⟩
    have e12 := e1.trans e2
    exact ⟨_, rfl, _, rfl, c, .ref b, xs, rs, rfl, e12 _ _ hc, rings_ex4 e12 hR, hl.2, (box_judged hR hb hos).opt e12, fun H3 e3 => q _ (e12.trans e3)⟩
def spHoldsBox (K : PySem.W.Frag) : Sp := fun vs H Q _ => ∃ c a b xs rs bs os, vs = [.ref c, .ref a, .ref b] ∧ H c = some (.tup xs) ∧ RingsAt H 60 xs rs ∧ (1 ≤ xs.length ∧ xs.length ≤ 12) ∧ BoxAt H a bs ∧ BoxR rs bs ∧ BoxAt H b os ∧ BoxR rs os ∧ ∀ H', Ex H H' → Q (.bl (liB bs os)) H'
theorem ok_holds_box (T : Txt K mg) {f : Addr} {fd : FuncData} (D : DefAt K mg "holds_box" sHoldsBox ["chain", "one", "other"] f fd) : FnOk P w K mg base CX0 7 f fd ["chain", "one", "other"] (spHoldsBox K) := by
  refine D.F.ok scHoldsBox (fun vs H Q E h => ?_) (fun cdv A outer s₀ H vs Q E hr h => ?_)
  · obtain ⟨c, a, b, xs, rs, bs, os, rfl, _⟩ := h
    rfl
  · obtain ⟨c, a, b, xs, rs, bs, os, rfl, hc, hR, hl, ha, hbs, hb, hos, q⟩ := h
    obtain ⟨f1, fd1, D1⟩ := T.d_lies_in
    obtain ⟨f2, fd2, D2⟩ := T.d_check_boxes
    have hr1 : Room 1 _ := hr.mono (by decide)
    have hr6 : Room 6 _ := hr.mono (by decide)
    refine ⟨_, pss_cons (ps_expr (pe_call (ok_check_boxes T D2) hr6 (by rfl) D2.g D2.F.kp D2.b .nil pass0 (pa_cons (pv 0) (pa_cons (pv 1) (pa_cons (pv 2) pa_nil)))))
      (pss_one (ps_ret (pe_call (ok_lies_in T D1) hr1 (by rfl) D1.g D1.F.kp D1.b .nil pass0 (pa_cons (pv 1) (pa_cons (pv 2) pa_nil))))), ?_⟩
    have hlen : xs.length = rs.length := paired_len hR
    have hbl := hbs.length
    have hol := hos.length
    refine ⟨_, rfl, _, rfl, _, rfl, c, a, b, xs, rs, bs, os, rfl, hc, hR, hl, ha, hbs, hb, hos, fun H1 e1 => ?_⟩
    exact ⟨_, rfl, _, rfl, a, b, bs, os, rfl, e1 _ _ ha, e1 _ _ hb, by omega, by omega, fun H2 e2 => q _ (e1.trans e2)⟩
def spMeeting (K : PySem.W.Frag) : Sp := fun vs H Q _ => ∃ c a b xs rs bs os, vs = [.ref c, .ref a, .ref b] ∧ H c = some (.tup xs) ∧ RingsAt H 60 xs rs ∧ (1 ≤ xs.length ∧ xs.length ≤ 12) ∧ BoxAt H a bs ∧ BoxR rs bs ∧ BoxAt H b os ∧ BoxR rs os ∧
  (meetB bs os = none → ∀ H', Ex H H' → Q .non H') ∧ ∀ m, meetB bs os = some m → ∀ p H', Ex H H' → BoxAt H' p m → Q (.ref p) H'
theorem meet_step {bs os : List (Option Int)} {i : Nat} {o u : Option Int} (h1 : bs[i]? = some o) (h2 : os[i]? = some u) : meetB (bs.drop i) (os.drop i) = if o ≠ none ∧ u ≠ none ∧ o ≠ u then none else (meetB (bs.drop (i + 1)) (os.drop (i + 1))).map ((if o = none then u else o) :: ·) := by
  obtain ⟨k1, k2⟩ := List.getElem?_eq_some_iff.mp h1
  obtain ⟨k3, k4⟩ := List.getElem?_eq_some_iff.mp h2
  rw [List.drop_eq_getElem_cons k1, List.drop_eq_getElem_cons k3, k2, k4]
  cases o with
  | none =>
    rw [if_neg (by simp), if_pos rfl]
    rfl
  | some t =>
    cases u with
    | none =>
      rw [if_neg (by simp), if_neg (by simp)]
      rfl
    | some v =>
      show (if t = v then _ else none) = _
      by_cases z : t = v
      · subst z
        rw [if_pos rfl, if_neg (by simp), if_neg (by simp)]
      · rw [if_neg z, if_pos ⟨by simp, by simp, by simpa using z⟩]
theorem ok_meeting (T : Txt K mg) {f : Addr} {fd : FuncData} (D : DefAt K mg "meeting" sMeeting ["chain", "one", "other"] f fd) : FnOk P w K mg base CX0 7 f fd ["chain", "one", "other"] (spMeeting K) := by
  refine D.F.ok scMeeting (fun vs H Q E h => ?_) (fun cdv A outer s₀ H vs Q E hr h => ?_)
  · obtain ⟨c, a, b, xs, rs, bs, os, rfl, _⟩ := h
    rfl
  · obtain ⟨c, a, b, xs, rs, bs, os, rfl, hc, hR, hl, ha, hbs, hb, hos, qn, qs⟩ := h
    obtain ⟨f1, fd1, D1⟩ := T.d_check_boxes
    have hr6 : Room 6 _ := hr.mono (by decide)
    refine ⟨_, pss_cons (ps_expr (pe_call (ok_check_boxes T D1) hr6 (by rfl) D1.g D1.F.kp D1.b .nil pass0 (pa_cons (pv 0) (pa_cons (pv 1) (pa_cons (pv 2) pa_nil)))))
      (pss_cons (ps_set (i := 3) scMeeting.nd rfl (.inl rfl) (pe_lst pa_nil))
      (pss_cons (ps_for PassesOwn.never rfl (RZ.pi_zipA (by rfl) T.z_zip (pa_cons (pv 1) (pa_cons (pv 2) pa_nil))) (pg_tup (by rfl) (pgs_cons (pg_name (i := 4) scMeeting.nd rfl (.inl rfl)) (pgs_cons (pg_name (i := 5) scMeeting.nd rfl (.inl rfl)) pgs_nil)))
        (pss_cons (ps_if (PW.pt (pw_and (pt_cmpR op_notN (pv 4) pe_non (nomark _))
          (pw_and (pt_cmpR op_notN (pv 5) pe_non (nomark _))
          (pw_and1 (pt_cmpR op_ne (pv 4) (pv 5) (nomark _)))))) (pss_one (ps_ret pe_non)) pss_nil)
      (pss_one (ps_expr (pe_bm PySem.F.plainAttrs_list PySem.F.slot_list_append PySem.F.type_list_append mt_append (pv 3) (pa_cons (pe_ifExp (pt_cmpR op_isN (pv 4) pe_non (nomark _)) (pv 5) (pv 4)) pa_nil))))))
      (pss_one (ps_ret (pe_callTy call_tuple_of (by rfl) T.z_tuple (by decide +kernel) (pa_cons (pv 3) pa_nil)))))), ?_⟩
    have hlen : xs.length = rs.length := paired_len hR
    have hbl := hbs.length
    have hol := hos.length
    refine ⟨_, rfl, _, rfl, _, rfl, c, a, b, xs, rs, bs, os, rfl, hc, hR, hl, ha, hbs, hb, hos, fun H1 e1 => ?_⟩
    refine ⟨by show 0 ≤ sizeLine; decide, fun l hl0 => ?_⟩
    have x1 := Ex.new (o := .lst []) hl0
    have hL0 : H l = none := by
      cases q : H l with
      | none => rfl
      | some o =>
        rw [e1 _ _ q] at hl0
        cases hl0
    have e2 := e1.trans x1
    refine ⟨_, rfl, _, rfl, a, b, _, _, rfl, .inr ⟨SqT.of (e2 _ _ ha), SqT.of (e2 _ _ hb), ?_⟩⟩
    refine for_zipT (K := K) (a := a) (b := b) (xs := bs.map ov) (ys := os.map ov) (n := bs.length) (by rw [List.length_map]; exact Nat.le_refl _) (by rw [List.length_map]; omega) (.inl (by rw [List.length_map]; exact Nat.le_refl _)) (fun i σ' H' => ∃ (acc : List (Option Int)) (y4 y5 : Option V), σ' = [some (.ref c), some (.ref a), some (.ref b), some (.ref l), y4, y5] ∧ H' l = some (.lst (acc.map ov)) ∧ acc.length = i ∧ meetB bs os = (meetB (bs.drop i) (os.drop i)).map (acc ++ ·) ∧ Ex H H') ⟨[], none, none, rfl, upd_same, rfl, by simp, e2⟩ (fun i σ' H' hp => ?_) (fun i x y Tp σ' H' hi hx hy hp nT => ?_) (fun σ' H' hp => ?_)
    · obtain ⟨_, _, _, _, _, _, _, e⟩ := hp
      exact ⟨SqT.of (e _ _ ha), SqT.of (e _ _ hb)⟩
    · obtain ⟨acc, y4, y5, rfl, h1, h2, h3, e⟩ := hp
      obtain ⟨o, ho, rfl⟩ := ov_get hx
      obtain ⟨u, hu, rfl⟩ := ov_get hy
      have eT := Ex.new (o := .tup [ov o, ov u]) nT
      have hst := meet_step ho hu
      have hlT : (upd H' Tp (.tup [ov o, ov u])) l = some (.lst (acc.map ov)) := eT _ _ h1
      have eU := e.trans eT
      refine ⟨Tp, _, rfl, SqT.of upd_same, rfl, ov o, [ov u], rfl, ov u, [], rfl, rfl, ?_⟩
      generalize upd H' Tp (.tup [ov o, ov u]) = H2 at eT hlT eU ⊢
      have put : ∀ z : Option Int, (¬ (o ≠ none ∧ u ≠ none ∧ o ≠ u)) → (if o = none then u else o) = z → ∃ (acc' : List (Option Int)) (z4 z5 : Option V), [some (V.ref c), some (.ref a), some (.ref b), some (.ref l), some (ov o), some (ov u)] = [some (.ref c), some (.ref a), some (.ref b), some (.ref l), z4, z5] ∧ (upd H2 l (.lst (acc.map ov ++ [ov z]))) l = some (.lst (acc'.map ov)) ∧ acc'.length = i + 1 ∧ meetB bs os = (meetB (bs.drop (i + 1)) (os.drop (i + 1))).map (acc' ++ ·) ∧ Ex H (upd H2 l (.lst (acc.map ov ++ [ov z]))) := fun z n ez => by
        refine ⟨acc ++ [z], _, _, rfl, ?_, by rw [List.length_append, h2]; rfl, ?_, Ex.mut eU hL0⟩
        · rw [upd_same, List.map_append]
          rfl
        · rw [h3, hst, if_neg n, ez, Option.map_map]
          congr 1
          funext q
          simp
      have szl : (acc.map ov).length < sizeLine := by
        rw [List.length_map]
        exact small1000 (by omega)
      cases o with
      | none =>
        refine ⟨_, rfl, rfl, _, rfl, iteF (iteF ?_)⟩
        refine ⟨_, rfl, .inl ⟨rfl, _, SqL.of hlT⟩, _, rfl, rfl, _, rfl, iteT ⟨_, rfl, l, _, _, rfl, rfl, hlT, szl, ?_⟩⟩
        exact put u (by simp) (if_pos rfl)
      | some t =>
        refine ⟨_, rfl, rfl, _, rfl, iteT ?_⟩
        cases u with
        | none =>
          refine ⟨_, rfl, rfl, _, rfl, iteF (iteF ?_)⟩
          refine ⟨_, rfl, .inl ⟨rfl, _, SqL.of hlT⟩, _, rfl, rfl, _, rfl, iteF ⟨_, rfl, l, _, _, rfl, rfl, hlT, szl, ?_⟩⟩
          exact put (some t) (by simp) (if_neg (by simp))
        | some v =>
          refine ⟨_, rfl, rfl, _, rfl, iteT ?_⟩
          refine ⟨_, rfl, _, rfl, rfl, _, rfl, ?_⟩
          by_cases z : t = v
          · subst z
            rw [decide_eq_true (rfl : ov (some t) = ov (some t))]
            refine iteF ?_
            refine ⟨_, rfl, .inl ⟨rfl, _, SqL.of hlT⟩, _, rfl, rfl, _, rfl, iteF ⟨_, rfl, l, _, _, rfl, rfl, hlT, szl, ?_⟩⟩
            exact put (some t) (by simp) (if_neg (by simp))
          · rw [decide_eq_false (fun q => z (Option.some.inj (ov_inj.mp q)))]
            refine iteT (qn ?_ _ eU)
            rw [h3, hst, if_pos ⟨by simp, by simp, by simpa using z⟩]
            rfl
    · obtain ⟨acc, y4, y5, rfl, h1, h2, h3, e⟩ := hp
      rw [List.drop_of_length_le (Nat.le_refl bs.length), List.drop_of_length_le (by omega : os.length ≤ bs.length)] at h3
      have h4 : meetB bs os = some acc := by
        rw [h3]
        show some (acc ++ []) = _
        rw [List.append_nil]
      refine ⟨_, rfl, l, _, rfl, .inl ⟨SqL.of h1, fun p hp => qs acc h4 p _ (e.trans (Ex.new hp)) upd_same⟩⟩
end
end K1

namespace K1
open PySem PySem.Spec PyProof.Rows L2 Evl LX ZW ZM TE BX
/-! ### the law's own tuples and boxes -/
theorem allT_succ {rs : List (Int × Int)} {i : Nat} (hi : i < rs.length) : allT (rs.take (i + 1)) = wider (allT (rs.take i)) (rs.getD i (0, 0)).1.toNat := by
  have e : rs.getD i (0, 0) = rs[i] := by rw [List.getD_eq_getElem?_getD, List.getElem?_eq_getElem hi]; rfl
  rw [e, ← allF_eq, ← allF_eq, take_snoc (List.getElem?_eq_getElem hi)]
  unfold allF
  rw [List.foldl_append]
  rfl
theorem wider_snoc (l : List (List Int)) (x : List Int) (n : Nat) : wider (l ++ [x]) n = wider l n ++ (ups n).map fun p => x ++ [p] := by
  unfold wider
  rw [List.flatMap_append]
  simp
theorem wider_len (l : List (List Int)) (n : Nat) : (wider l n).length = l.length * n := by
  unfold wider
  refine len_flatMap _ n l fun a _ => ?_
  rw [List.length_map, len_ups]
theorem ups_succ (n : Nat) : ups (n + 1) = ups n ++ [(n : Int)] := by simp [ups, List.range_succ]
theorem allT_len {H : Hp} {xs : List V} {rs : List (Int × Int)} (hR : RingsAt H 4 xs rs) : ∀ i, i ≤ rs.length → (allT (rs.take i)).length ≤ 4 ^ i
  | 0, _ => by simp [allT]
  | i + 1, h => by
    rw [allT_succ (by omega), wider_len, Nat.pow_succ]
    obtain ⟨x, _, t, _, _, h1, h2, _⟩ := rings_nth hR (show i < rs.length by omega)
    have e := nAt_eq hR (show i < rs.length by omega)
    exact Nat.mul_le_mul (allT_len hR i (by omega)) (by omega)
theorem take_len {α : Type} {l : List α} {i : Nat} (h : i ≤ l.length) : (l.take i).length = i := by rw [List.length_take]; omega
theorem _root_.PySem.Paired.keep {d : Addr} {H H' : Hp} {most : Int} {xs : List V} {rs : List (Int × Int)} (hR : RingsAt H most xs rs) (k : Keep d H H') (hd : Dice H d) : RingsAt H' most xs rs := paired_imp (fun _ _ z => RingAt.keep k hd z) hR
section
variable {P : Program} {w : World} {K : PySem.W.Frag} {mg : Str → Option Value} {base : Heap}
def spAllTuples : Sp := fun vs H Q _ => ∃ c xs rs, vs = [.ref c] ∧ H c = some (.tup xs) ∧ RingsAt H 4 xs rs ∧ xs.length ≤ 4 ∧
  ∀ r ys H', Ex H H' → H' r = some (.lst ys) → Rows H' ys (allT rs) → (allT rs).length ≤ 256 → Q (.ref r) H'
theorem ok_all_tuples (T : Txt K mg) {f : Addr} {fd : FuncData} (D : DefAt K mg "_law_all_tuples" sLAllTuples ["_law_chain_here"] f fd) : FnOk P w K mg base CX0 1 f fd ["_law_chain_here"] spAllTuples := by
  refine D.F.ok scLAllTuples (fun vs H Q E h => ?_) (fun cdv A outer s₀ H vs Q E hr h => ?_)
  · obtain ⟨c, xs, rs, rfl, _⟩ := h
    rfl
  · obtain ⟨c, xs, rs, rfl, hc, hR, hl, k⟩ := h
    have hlen : xs.length = rs.length := paired_len hR
    refine ⟨_, pss_cons (ps_set (i := 1) scLAllTuples.nd rfl (.inl rfl) (pe_lst (pa_cons (pe_tup pa_nil) pa_nil)))
      (pss_cons (ps_for PassesOwn.never rfl (pi_tup (pv 0)) (pg_tup (by rfl) (pgs_cons (pg_name (i := 2) scLAllTuples.nd rfl (.inl rfl)) (pgs_cons (pg_name (i := 3) scLAllTuples.nd rfl (.inl rfl)) pgs_nil)))
        (pss_cons (ps_set (i := 4) scLAllTuples.nd rfl (.inl rfl) (pe_lst pa_nil))
      (pss_cons (ps_for PassesOwn.never rfl (pi_list (pv 1)) (pg_name (i := 5) scLAllTuples.nd rfl (.inr rfl))
        (pss_one (ps_expr (pe_bm PySem.F.plainAttrs_list PySem.F.slot_list_extend PySem.F.type_list_extend mt_extend (pv 4) (pa_cons (pe_lc (own := [("_law_p", 6)]) (g := gName 6) (tt := tYes) rfl scLAllTuples.nd (pi_range1 (by rfl) T.z_range (pa_cons (pv 2) pa_nil))
        (blkOk_by (N := nLAllTuples) (sc := defScope sLAllTuples) (by decide +kernel)) (fun _ _ _ _ _ => (pg_name (i := 6) scLAllTuples.nd rfl (.inl rfl))) (fun _ _ _ _ _ => pts_nil)
        (fun _ _ _ _ _ => (pe_op op_catE (pv 5) (pe_tup (pa_cons (pv 6) pa_nil))))) pa_nil)))))
      (pss_one (ps_set (i := 1) scLAllTuples.nd rfl (.inl rfl) (pv 4))))))
      (pss_one (ps_ret (pv 1)))), ?_⟩
    refine ⟨by show 0 ≤ sizeLine; decide, fun t0 ht0 => ⟨by show 1 ≤ sizeLine; decide, fun l0 hl0 => ?_⟩⟩
    have y1 := Ex.new (o := .tup []) ht0
    have y2 := Ex.new (o := .lst [.ref t0]) hl0
    have g0 : (upd (upd H t0 (.tup [])) l0 (.lst [.ref t0])) l0 = some (.lst [.ref t0]) := upd_same
    have v0 := y2 _ _ (show (upd H t0 (.tup [])) t0 = some (.tup (([] : List Int).map V.int)) from upd_same)
    have y12 := y1.trans y2
    clear y1 y2 hl0
    generalize upd (upd H t0 (.tup [])) l0 (.lst [.ref t0]) = H0 at y12 g0 v0 ⊢
    refine ⟨_, rfl, c, rfl, ⟨_, SqT.of (y12 _ _ hc)⟩, for_tup (K := K) (a := c) (xs := xs) (fun i σ' H' => ∃ (L : Addr) (ys : List V) (z2 z3 z4 z5 : Option V), σ' = [some (.ref c), some (.ref L), z2, z3, z4, z5, none] ∧ H' L = some (.lst ys) ∧ Rows H' ys (allT (rs.take i)) ∧ Ex H H')
      ⟨l0, [.ref t0], none, none, none, none, rfl, g0, .cons ⟨t0, rfl, v0⟩ .nil, y12⟩ (fun i σ' H' _ hW => ?_) (fun i x σ' H' hx hW => ?_) (fun σ' H' hW => ?_)⟩
    · obtain ⟨_, _, _, _, _, _, _, _, _, e⟩ := hW
      exact SqT.of (e _ _ hc)
    · obtain ⟨L, ys, z2, z3, z4, z5, rfl, w1, w2, e⟩ := hW
      have hi := (List.getElem?_eq_some_iff.mp hx).1
      have hn := nAt_eq hR (show i < rs.length by omega)
      have pw := allT_len hR i (by omega)
      have pw2 : 4 ^ i ≤ 4 ^ 3 := Nat.pow_le_pow_right (by decide) (by omega)
      have hsucc := allT_succ (rs := rs) (i := i) (by omega)
      rw [← hn, Int.toNat_natCast] at hsucc
      have hin : ∀ ps ∈ allT (rs.take i), ps.length = i := fun ps hp => by
        rw [(mem_allT.mp hp).length, take_len (by omega)]
      obtain ⟨tt, rfl, htt, n1, n2, n3, n4⟩ := rings_nth4 (rings_ex4 e hR) hx
      generalize K1N.nAt rs i = n at *
      generalize allT (rs.take i) = pss at *
      have yl : ys.length = pss.length := paired_len w2
      refine ⟨tt, _, rfl, SqT.of htt, rfl, .int _, [_], rfl, .int _, [], rfl, rfl, ?_⟩
      refine ⟨by show 0 ≤ sizeLine; decide, fun W hW0 => ?_⟩
      have x1 := Ex.new (o := .lst []) hW0
      have nLW : L ≠ W := fun z => by rw [z, hW0] at w1; cases w1
      have g1 := x1 _ _ w1
      have r1 := w2.ex x1
      have u1 : (upd H' W (.lst [])) W = some (.lst []) := upd_same
      have e5 := e.trans x1
      have HW : H W = none := by
        cases q : H W with
        | none => rfl
        | some o =>
          rw [e _ _ q] at hW0
          cases hW0
      clear x1 w1 w2 htt
      generalize upd H' W (.lst []) = H5 at e5 g1 r1 u1 ⊢
      refine ⟨_, rfl, L, rfl, ⟨_, SqL.of g1⟩, for_list (K := K) (a := L) (xs := ys) (fun j σ' H6 => ∃ (z5 : Option V) (zs : List V), σ' = [some (.ref c), some (.ref L), some (.int (n : Int)), some (.int (K1N.sAt rs i)), some (.ref W), z5, none] ∧ H6 W = some (.lst zs) ∧ Rows H6 zs (wider (pss.take j) n) ∧ Keep W H5 H6)
        ⟨z5, [], rfl, u1, .nil, Keep.refl _ _⟩ (fun j σ' H6 _ hV => ?_) (fun j x σ' H6 hx2 hV => ?_) (fun σ' H6 hV => ?_)⟩
      · obtain ⟨_, _, _, _, _, kk⟩ := hV
        exact SqL.of (kk _ _ nLW g1)
      · obtain ⟨z6, zs, rfl, a1, a2, kk⟩ := hV
        have hj := (List.getElem?_eq_some_iff.mp hx2).1
        obtain ⟨b, ps, rfl, hb, hps⟩ := r1.get hx2
        have hb6 : PlacesT H6 b ps := kk _ _ (ne_of hb u1 (by intro z; cases z)) hb
        have p1 := hin ps (List.mem_of_getElem? hps)
        have zl : zs.length = (wider (pss.take j) n).length := paired_len a2
        have zl2 : (wider (pss.take j) n).length ≤ 64 * 4 := by
          rw [wider_len, List.length_take]
          exact Nat.mul_le_mul (by omega) (by omega)
        refine ⟨_, rfl, .inl ⟨rfl, _, SqL.of a1⟩, _, rfl, n, rfl, by omega, by omega, fun Dl hD => ?_⟩
        have nDW : W ≠ Dl := fun z => by rw [z, hD] at a1; cases a1
        refine lc_range (lo := 0) (n := n) (fun m H7 => ∃ acc, H7 Dl = some (.lst acc) ∧ Rows H7 acc ((ups m).map fun p => ps ++ [p]) ∧ Ex H6 H7) ⟨[], upd_same, .nil, Ex.new hD⟩ (fun m H7 hm hp => ?_) (fun H7 hp => ?_)
        · obtain ⟨acc, b1, b2, b5⟩ := hp
          refine ⟨rfl, ?_⟩
          dsimp only [tYes]
          rw [if_pos rfl]
          refine ⟨_, rfl, _, rfl, by show 1 ≤ sizeLine; decide, fun q1 hq1 => ?_⟩
          have x8 := Ex.new (o := .tup [V.int (0 + (m : Int))]) hq1
          refine ⟨b, q1, _, _, rfl, rfl, x8 _ _ (b5 _ _ hb6), upd_same, by rw [List.length_map, p1]; exact sz_of (by show _ + 1 ≤ _; omega), fun q2 H9 e9 hq2 => ?_⟩
          have x89 := x8.trans e9
          have hD9 := x89 _ _ b1
          have hq2' : PlacesT H9 q2 (ps ++ [(m : Int)]) := by
            show H9 q2 = _
            rw [hq2, List.map_append, Int.zero_add]
            rfl
          have al : acc.length = ((ups m).map fun p => ps ++ [p]).length := paired_len b2
          rw [List.length_map, len_ups] at al
          have rr := paired_snoc (x := V.ref q2) (y := ps ++ [(m : Int)]) (R := fun v ps => ∃ a, v = V.ref a ∧ PlacesT H9 a ps) ⟨q2, rfl, hq2'⟩ (b2.ex x89)
          refine ⟨acc, hD9, small1000 (by omega), acc ++ [V.ref q2], upd_same, ?_, Ex.mut (b5.trans x89) hD⟩
          rw [ups_succ, List.map_append]
          exact Rows.lst hD9 (show Rows H9 (acc ++ [V.ref q2]) _ from rr)
        · obtain ⟨acc, b1, b2, b5⟩ := hp
          have a1' := b5 _ _ a1
          have al : acc.length = ((ups n).map fun p => ps ++ [p]).length := paired_len b2
          rw [List.length_map, len_ups] at al
          refine ⟨W, Dl, zs, acc, rfl, rfl, a1', b1, sz_of (by omega), some (.ref b), zs ++ acc, rfl, upd_same, ?_, ?_⟩
          · rw [take_snoc hps, wider_snoc]
            exact Rows.lst a1' (paired_append (a2.ex b5) b2)
          · exact (kk.trans (Keep.ex b5)).trans Keep.dice
      · obtain ⟨z6, zs, rfl, a1, a2, kk⟩ := hV
        refine ⟨_, rfl, W, zs, _, _, _, _, rfl, a1, ?_, ?_⟩
        · rw [hsucc]
          rw [yl, List.take_length] at a2
          exact a2
        · exact fun b o hb => kk _ _ (fun z => by rw [z, HW] at hb; cases hb) (e5 _ _ hb)
    · obtain ⟨L, ys, z2, z3, z4, z5, rfl, w1, w2, e⟩ := hW
      rw [hlen, List.take_length] at w2
      refine ⟨_, rfl, k L ys _ e w1 w2 ?_⟩
      have h1 := allT_len hR rs.length (Nat.le_refl _)
      rw [List.take_length] at h1
      exact Nat.le_trans h1 (Nat.pow_le_pow_right (by decide) (by omega : rs.length ≤ 4))
theorem none_all (l : List Bool) : decide ((l.filter (!·)).map (fun _ => (1 : Int)) = []) = l.all id := by
  induction l with
  | nil => rfl
  | cons b r ih =>
    cases b with
    | true => simpa using ih
    | false => simp
def spIsIn : Sp := fun vs H Q _ => ∃ a b bs ps, vs = [.ref a, .ref b] ∧ BoxAt H a bs ∧ PlacesT H b ps ∧ bs.length = ps.length ∧ bs.length ≤ 12 ∧ ∀ H', Ex H H' → Q (.bl (inB bs ps)) H'
theorem ok_is_in (T : Txt K mg) {f : Addr} {fd : FuncData} (D : DefAt K mg "_law_is_in" sLIsIn ["_law_box_told", "_law_x"] f fd) : FnOk P w K mg base CX0 1 f fd ["_law_box_told", "_law_x"] spIsIn := by
  refine D.F.ok scLIsIn (fun vs H Q E h => ?_) (fun cdv A outer s₀ H vs Q E hr h => ?_)
  · obtain ⟨a, b, bs, os, rfl, _⟩ := h
    rfl
  · obtain ⟨a, b, bs, ps, rfl, ha, hb, hlen, hl, q⟩ := h
    refine ⟨_, pss_one (ps_ret (pe_cmpR (op_eqD hr.units) (pe_lc (own := [("_law_told", 2), ("_law_place", 3)]) (g := gTup K 2 (gCons (gName 2) (gCons (gName 3) gNil))) rfl scLIsIn.nd (RZ.pi_zipA (by rfl) T.z_zip (pa_cons (pv 0) (pa_cons (pv 1) pa_nil)))
        (blkOk_by (N := nLIsIn) (sc := defScope sLIsIn) (by decide +kernel)) (fun _ _ _ _ _ => (pg_tup (by rfl) (pgs_cons (pg_name (i := 2) scLIsIn.nd rfl (.inl rfl)) (pgs_cons (pg_name (i := 3) scLIsIn.nd rfl (.inl rfl)) pgs_nil)))) (fun _ _ _ _ _ => pts_one (PW.pt (pw_and (pt_cmpR op_notN (pv 2) pe_non (nomark _))
          (pw_and1 (pt_cmpR op_ne (pv 2) (pv 3) (nomark _))))))
        (fun _ _ _ _ _ => pe_int)) (pe_lst pa_nil) (nomark _))), ?_⟩
    refine ⟨_, rfl, _, rfl, a, b, _, _, rfl, .inr ⟨SqT.of ha, SqT.of hb, fun Dl hD => ?_⟩⟩
    refine lc_zipT (K := K) (a := a) (b := b) (xs := bs.map ov) (ys := ps.map V.int) (n := bs.length) (by rw [List.length_map]; omega) (by rw [List.length_map]; omega) (.inl (by rw [List.length_map]; omega)) (fun i H' => H' Dl = some (.lst ((((List.zipWith li1 bs (ps.map some)).take i).filter (!·)).map (fun _ => V.int 1))) ∧ Ex H H') ⟨upd_same, Ex.new hD⟩ (fun i H' hp => ⟨SqT.of (hp.2 _ _ ha), SqT.of (hp.2 _ _ hb)⟩) (fun i x y Tp H' hi hx hy hp nT => ?_) (fun H' hp => ?_)
    · obtain ⟨o1, ho1, rfl⟩ := ov_get hx
      have ey := pl_get hy
      have hp2 : (ps.map some)[i]? = some (some (ps.getD i 0)) := by
        rw [List.getElem?_map, List.getD_eq_getElem?_getD, List.getElem?_eq_getElem (by omega)]
        rfl
      generalize ps.getD i 0 = p at ey hp2
      subst ey
      have eT := Ex.new (o := .tup [ov o1, .int p]) nT
      have hz := zip_get ho1 hp2
      refine ⟨Tp, _, rfl, SqT.of upd_same, rfl, ov o1, [.int p], rfl, .int p, [], rfl, rfl, rfl, ?_⟩
      have hpT := eT _ _ hp.1
      have eU := hp.2.trans eT
      generalize upd H' Tp (.tup [ov o1, .int p]) = H2 at hpT eU ⊢
      have stay : li1 o1 (some p) = true → (H2 Dl = some (.lst ((((List.zipWith li1 bs (ps.map some)).take (i + 1)).filter (!·)).map (fun _ => V.int 1))) ∧ Ex H H2) := fun hb => by
        refine ⟨?_, eU⟩
        rw [take_snoc hz, List.filter_append, hb]
        simpa using hpT
      cases o1 with
      | none =>
        refine ⟨_, rfl, rfl, _, rfl, iteF (iteF ?_)⟩
        exact stay rfl
      | some t =>
        refine ⟨_, rfl, rfl, _, rfl, iteT ⟨_, rfl, _, rfl, rfl, _, rfl, ?_⟩⟩
        by_cases z : t = p
        · subst z
          rw [decide_eq_true (show ov (some t) = V.int t from rfl)]
          exact iteF (stay (decide_eq_true rfl))
        · have e2 : li1 (some t) (some p) = false := decide_eq_false (fun q => z (Option.some.inj q))
          rw [decide_eq_false (show ¬ ov (some t) = V.int p from fun q => z (V.int.inj q))]
          refine iteT ⟨_, hpT, ?_, ?_, Ex.mut eU hD⟩
          · rw [List.length_map]
            refine small1000 (Nat.le_trans (List.length_filter_le _ _) ?_)
            rw [List.length_take]
            omega
          · rw [upd_same, take_snoc hz, List.filter_append, e2]
            simp
    · refine ⟨by show 0 ≤ sizeLine; decide, fun t9 ht9 => ?_⟩
      have x9 := Ex.new (o := .lst []) ht9
      have hd := hp.1
      rw [List.take_of_length_le (by rw [List.length_zipWith]; omega)] at hd
      have hd2 : H' Dl = some (.lst ((((List.zipWith li1 bs (ps.map some)).filter (!·)).map (fun _ => (1 : Int))).map V.int)) := by
        rw [hd, List.map_map]
        rfl
      have e1 := none_all (List.zipWith li1 bs (ps.map some))
      have sh : ∀ ns : List Int, SeqAt.shaped (.list (ns.map PyData.int)) = true := fun ns => by
        induction ns with
        | nil => rfl
        | cons b r ih => exact ih
      refine ⟨.list _, .list [], .lst (SqL.of (x9 _ _ hd2)) (dp_ints _), .lst (SqL.of upd_same) .nil, sh _, rfl, ?_⟩
      have e2 : PyData.eqv (.list ((((List.zipWith li1 bs (ps.map some)).filter (!·)).map (fun _ => (1 : Int))).map PyData.int)) (.list []) = inB bs ps := by
        rw [inB_li, ← li_all, ← e1, ← eqvAll_ints]
        simp only [PyData.eqv]
        rfl
      rw [e2]
      exact q _ (hp.2.trans x9)
theorem BoxR_snocN {r : Int × Int} : ∀ {rs : List (Int × Int)} {bs : List (Option Int)}, BoxR rs bs → BoxR (rs ++ [r]) (bs ++ [none])
  | _, _, .nil => .open .nil
  | _, _, .open b => .open (BoxR_snocN b)
  | _, _, .told h0 h1 b => .told h0 h1 (BoxR_snocN b)
theorem BoxR_snocT {r : Int × Int} {t : Int} (t0 : 0 ≤ t) (t1 : t < r.1) : ∀ {rs : List (Int × Int)} {bs : List (Option Int)}, BoxR rs bs → BoxR (rs ++ [r]) (bs ++ [some t])
  | _, _, .nil => .told t0 t1 .nil
  | _, _, .open b => .open (BoxR_snocT t0 t1 b)
  | _, _, .told h0 h1 b => .told h0 h1 (BoxR_snocT t0 t1 b)
theorem InT_snoc {r : Int × Int} {t : Int} (t0 : 0 ≤ t) (t1 : t < r.1) : ∀ {rs : List (Int × Int)} {bs : List Int}, InT rs bs → InT (rs ++ [r]) (bs ++ [t])
  | _, _, .nil => .cons t0 t1 .nil
  | _, _, .cons h0 h1 b => .cons h0 h1 (InT_snoc t0 t1 b)
theorem rs_snoc {rs : List (Int × Int)} {i : Nat} (hi : i < rs.length) : rs.take (i + 1) = rs.take i ++ [rs.getD i (0, 0)] := by
  have e : rs.getD i (0, 0) = rs[i] := by rw [List.getD_eq_getElem?_getD, List.getElem?_eq_getElem hi]; rfl
  rw [e, take_snoc (List.getElem?_eq_getElem hi)]
def spDrawnBox : Sp := fun vs H Q _ => ∃ d c xs rs, vs = [.ref d, .ref c] ∧ Dice H d ∧ H c = some (.tup xs) ∧ RingsAt H 60 xs rs ∧ xs.length ≤ 12 ∧ ∀ p bs H', BoxAt H' p bs → BoxR rs bs → Dice H' d → Keep d H H' → Q (.ref p) H'
theorem ok_drawn_box (T : Txt K mg) {f : Addr} {fd : FuncData} (D : DefAt K mg "_law_drawn_box" sLDrawnBox ["_law_dice_here", "_law_chain_here"] f fd) : FnOk P w K mg base CX0 2 f fd ["_law_dice_here", "_law_chain_here"] spDrawnBox := by
  refine D.F.ok scLDrawnBox (fun vs H Q E h => ?_) (fun cdv A outer s₀ H vs Q E hr h => ?_)
  · obtain ⟨d, c, xs, rs, rfl, _⟩ := h
    rfl
  · obtain ⟨d, c, xs, rs, rfl, hd, hc, hR, hl, q⟩ := h
    obtain ⟨f1, fd1, D1⟩ := T.d_l_roll
    have hr1 : Room 1 _ := hr.mono (by decide)
    refine ⟨_, pss_one (ps_ret (pe_callTy call_tuple_of (by rfl) T.z_tuple (by decide +kernel) (pa_cons (pe_lc (own := [("_law_n", 2), ("_law_s", 3)]) (g := gTup K 2 (gCons (gName 2) (gCons (gName 3) gNil))) (tt := tYes) rfl scLDrawnBox.nd (pi_tup (pv 1))
        (blkOk_by (N := nLDrawnBox) (sc := defScope sLDrawnBox) (by decide +kernel)) (fun _ _ _ _ _ => (pg_tup (by rfl) (pgs_cons (pg_name (i := 2) scLDrawnBox.nd rfl (.inl rfl)) (pgs_cons (pg_name (i := 3) scLDrawnBox.nd rfl (.inl rfl)) pgs_nil)))) (fun _ _ _ _ _ => pts_nil)
        (fun _ _ _ _ _ => (pe_ifExp (pt_cmpR op_eq (pe_call (ok_roll T D1) hr1 (by rfl) D1.g D1.F.kp D1.b .nil pass0 (pa_cons (pv 0) (pa_cons pe_int pa_nil))) pe_int (nomark _)) pe_non (pe_call (ok_roll T D1) hr1 (by rfl) D1.g D1.F.kp D1.b .nil pass0 (pa_cons (pv 0) (pa_cons (pv 2) pa_nil)))))) pa_nil))), ?_⟩
    have hlen : xs.length = rs.length := paired_len hR
    have nc := hd.ne_tup hc
    refine ⟨_, rfl, c, rfl, ⟨_, SqT.of hc⟩, fun Dl hD => ?_⟩
    have ndl : d ≠ Dl := hd.ne_new hD
    refine lc_tup (K := K) (a := c) (xs := xs) (fun i H' => ∃ bs, H' Dl = some (.lst (bs.map ov)) ∧ BoxR (rs.take i) bs ∧ Keep d H H' ∧ Dice H' d) ⟨[], upd_same, .nil, Keep.new hD, hd.upd ndl⟩ (fun i H' _ hp => by obtain ⟨_, _, _, k, _⟩ := hp; exact SqT.of (k _ _ nc hc)) (fun i x H' hx hp => ?_) (fun H' hp => ?_)
    · obtain ⟨bs, a1, a2, kk, hd'⟩ := hp
      have hi := (List.getElem?_eq_some_iff.mp hx).1
      have hn := nAt_eq hR (show i < rs.length by omega)
      obtain ⟨tt, rfl, htt, n1, n2, n3, n4⟩ := rings_nth4 (hR.keep kk hd) hx
      have bl : bs.length = i := by rw [a2.length, take_len (by omega)]
      refine ⟨tt, _, rfl, SqT.of htt, rfl, .int _, [_], rfl, .int _, [], rfl, rfl, rfl, ?_⟩
      dsimp only [tYes]
      rw [if_pos rfl]
      refine ⟨_, rfl, d, 2, rfl, hd', by decide, by decide, fun r1 H2 r10 r11 hd2 k2 => ⟨rfl, _, rfl, ite2 (fun c1 => ?_) (fun c1 => ?_)⟩⟩
      · have b1 := k2 _ _ ndl.symm a1
        refine ⟨_, b1, by rw [List.length_map]; exact small1000 (by omega), bs ++ [none], ?_, ?_, (kk.trans k2).mut hD, hd2.upd ndl⟩
        · rw [upd_same, List.map_append]
          rfl
        · rw [rs_snoc (by omega)]
          exact BoxR_snocN a2
      · refine ⟨_, rfl, _, rfl, d, _, rfl, hd2, by omega, by omega, fun r2 H3 r20 r21 hd3 k3 => ?_⟩
        have k23 := k2.trans k3
        have b1 := k23 _ _ ndl.symm a1
        refine ⟨_, b1, by rw [List.length_map]; exact small1000 (by omega), bs ++ [some r2], ?_, ?_, (kk.trans k23).mut hD, hd3.upd ndl⟩
        · rw [upd_same, List.map_append]
          rfl
        · rw [rs_snoc (by omega)]
          exact BoxR_snocT r20 (by omega) a2
    · obtain ⟨bs, a1, a2, kk, hd'⟩ := hp
      rw [hlen, List.take_length] at a2
      refine ⟨Dl, _, rfl, .inl ⟨SqL.of a1, fun p hp => q p bs _ upd_same a2 (hd'.upd (hd'.ne_new hp)) (kk.trans (Keep.new hp))⟩⟩
end
end K1

namespace K1
open PySem PySem.Spec PyProof.Rows L2 Evl LX ZW ZM TE BX
/-! ### two boxes, held against all tuples -/
theorem li_rows {rs : Rg} {bs os : List (Option Int)} (hr : ∀ r ∈ rs, 2 ≤ r.1) (hb : BoxR rs bs) (ho : BoxR rs os) : decide (((allT rs).filter (inB os)).filter (fun x => !decide (x ∈ (allT rs).filter (inB bs))) = []) = liB bs os := by
  cases h : liB bs os with
  | true =>
    refine decide_eq_true (List.filter_eq_nil_iff.mpr fun x hx => ?_)
    obtain ⟨h1, h2⟩ := List.mem_filter.mp hx
    have := li_sound hb ho (mem_allT.mp h1) h h2
    simp [List.mem_filter, h1, this]
  | false =>
    refine decide_eq_false fun z => ?_
    obtain ⟨x, h1, h2, h3⟩ := li_full hr hb ho h
    have h4 := mem_allT.mpr h1
    have := List.filter_eq_nil_iff.mp z x (List.mem_filter.mpr ⟨h4, h2⟩)
    simp [List.mem_filter, h4, h3] at this
theorem both_rows {rs : Rg} {bs os : List (Option Int)} : ((allT rs).filter (inB bs)).filter (fun x => decide (x ∈ (allT rs).filter (inB os))) = (allT rs).filter fun x => inB bs x && inB os x := by
  rw [List.filter_filter]
  refine List.filter_congr fun x hx => ?_
  have : decide (x ∈ (allT rs).filter (inB os)) = inB os x := by
    cases h : inB os x with
    | true => exact decide_eq_true (List.mem_filter.mpr ⟨hx, h⟩)
    | false =>
      refine decide_eq_false fun z => ?_
      have := (List.mem_filter.mp z).2
      rw [h] at this
      cases this
  rw [this, Bool.and_comm]
theorem meet_no {rs : Rg} {bs os : List (Option Int)} (hb : BoxR rs bs) (ho : BoxR rs os) (h : meetB bs os = none) : (allT rs).filter (fun x => inB bs x && inB os x) = [] :=
  List.filter_eq_nil_iff.mpr fun x hx => by
    rw [meet_none hb ho (mem_allT.mp hx) h]
    decide
theorem meet_yes {rs : Rg} {bs os m : List (Option Int)} (hr : ∀ r ∈ rs, 2 ≤ r.1) (hb : BoxR rs bs) (ho : BoxR rs os) (h : meetB bs os = some m) : (allT rs).filter (inB m) = (allT rs).filter (fun x => inB bs x && inB os x) ∧ (allT rs).filter (fun x => inB bs x && inB os x) ≠ [] ∧ BoxR rs m := by
  obtain ⟨h1, h2⟩ := meet_some hb ho h
  have e : (allT rs).filter (inB m) = (allT rs).filter (fun x => inB bs x && inB os x) := List.filter_congr fun x hx => h2 x (mem_allT.mp hx)
  refine ⟨e, fun z => ?_, h1⟩
  rw [← e] at z
  obtain ⟨k1, k2⟩ := pick_in hr h1
  exact List.filter_eq_nil_iff.mp z _ (mem_allT.mpr k1) k2
theorem rings_two {H : Hp} {most : Int} {xs : List V} {rs : List (Int × Int)} (h : RingsAt H most xs rs) : ∀ r ∈ rs, 2 ≤ r.1 := by
  induction h with
  | nil => intro r hr; cases hr
  | cons a _ ih =>
    intro r hr
    rcases List.mem_cons.mp hr with rfl | hr
    · obtain ⟨_, _, _, h, _⟩ := a
      exact h
    · exact ih r hr
theorem FW.ex {p : List Int → Bool} {Dl : Addr} {H0 H' : Hp} {pss : List (List Int)} {i : Nat} (W : FW p Dl H0 pss i H') : Ex H0 H' := by
  obtain ⟨_, _, _, e⟩ := W
  exact e
theorem FW.done {p : List Int → Bool} {Dl : Addr} {H0 H' : Hp} {pss : List (List Int)} {ys : List V} (W : FW p Dl H0 pss ys.length H') (h : ys.length = pss.length) : ∃ acc, H' Dl = some (.lst acc) ∧ Rows H' acc (pss.filter p) ∧ Ex H0 H' := by
  obtain ⟨acc, a1, a2, a3⟩ := W
  rw [h, List.take_length] at a2
  exact ⟨acc, a1, a2, a3⟩
section
variable {P : Program} {w : World} {K : PySem.W.Frag} {mg : Str → Option Value} {base : Heap}
def spTwo : Sp := fun vs H Q _ => ∃ d c a b L xs rs bs os ys, vs = [d, .ref c, .ref a, .ref b, .ref L] ∧ H c = some (.tup xs) ∧ RingsAt H 60 xs rs ∧ (1 ≤ xs.length ∧ xs.length ≤ 12) ∧ BoxAt H a bs ∧ BoxR rs bs ∧ BoxAt H b os ∧ BoxR rs os ∧
  H L = some (.lst ys) ∧ Rows H ys (allT rs) ∧ (allT rs).length ≤ 256 ∧ ∀ H', Ex H H' → Q (.bl true) H'
theorem ok_two_right (T : Txt K mg) {f : Addr} {fd : FuncData} (D : DefAt K mg "_law_two_right" sLTwoRight ["_law_dice_here", "_law_chain_here", "_law_one", "_law_other", "_law_rows"] f fd) : FnOk P w K mg base CX0 8 f fd ["_law_dice_here", "_law_chain_here", "_law_one", "_law_other", "_law_rows"] spTwo := by
  refine D.F.ok scLTwoRight (fun vs H Q E h => ?_) (fun cdv A outer s₀ H vs Q E hr h => ?_)
  · obtain ⟨d, c, a, b, L, xs, rs, bs, os, ys, rfl, _⟩ := h
    rfl
  · obtain ⟨d, c, a, b, L, xs, rs, bs, os, ys, rfl, hc, hR, hl, ha, hbs, hb, hos, hL, hrow, hsz, q⟩ := h
    obtain ⟨f1, fd1, D1⟩ := T.d_l_is_in
    obtain ⟨f2, fd2, D2⟩ := T.d_is_box
    obtain ⟨f3, fd3, D3⟩ := T.d_meeting
    obtain ⟨f4, fd4, D4⟩ := T.d_holds_box
    obtain ⟨f5, fd5, D5⟩ := T.d_is_in_box
    obtain ⟨f6, fd6, D6⟩ := T.d_size_of
    have hr1 : Room 1 _ := hr.mono (by decide)
    have hr6 : Room 6 _ := hr.mono (by decide)
    have hr7 : Room 7 _ := hr.mono (by decide)
    refine ⟨_, pss_cons (ps_asg (pe_tup (pa_cons (pe_lc (own := [("_law_x", 9)]) (g := gName 9) rfl scLTwoRight.nd (pi_list (pv 4))
        (blkOk_by (N := nLTwoRight) (sc := defScope sLTwoRight) (by decide +kernel)) (fun _ _ _ _ _ => (pg_name (i := 9) scLTwoRight.nd rfl (.inl rfl))) (fun _ _ _ _ _ => pts_one (pt_val (pe_call (ok_is_in T D1) hr1 (by rfl) D1.g D1.F.kp D1.b .nil pass0 (pa_cons (pv 2) (pa_cons (pv 9) pa_nil)))))
        (fun _ _ _ _ _ => (pv 9))) (pa_cons (pe_lc (own := [("_law_x", 9)]) (g := gName 9) rfl scLTwoRight.nd (pi_list (pv 4))
        (blkOk_by (N := nLTwoRight) (sc := defScope sLTwoRight) (by decide +kernel)) (fun _ _ _ _ _ => (pg_name (i := 9) scLTwoRight.nd rfl (.inl rfl))) (fun _ _ _ _ _ => pts_one (pt_val (pe_call (ok_is_in T D1) hr1 (by rfl) D1.g D1.F.kp D1.b .nil pass0 (pa_cons (pv 3) (pa_cons (pv 9) pa_nil)))))
        (fun _ _ _ _ _ => (pv 9))) pa_nil))) (pg_tup (by rfl) (pgs_cons (pg_name (i := 5) scLTwoRight.nd rfl (.inr rfl)) (pgs_cons (pg_name (i := 6) scLTwoRight.nd rfl (.inr rfl)) pgs_nil))))
      (pss_cons (ps_if (PW.pt (pw_or (pt_cmpR op_ne (pe_call (ok_size_of T D6) hr6 (by rfl) D6.g D6.F.kp D6.b .nil pass0 (pa_cons (pv 1) (pa_cons (pv 2) pa_nil))) (pe_callB call_len_seq (by rfl) T.z_len PySem.boot_len (pa_cons (pv 5) pa_nil)) (nomark _))
          (pw_or1 (pt_cmpR (op_neD hr.units) (pe_lc (own := [("_law_x", 9)]) (g := gName 9) rfl scLTwoRight.nd (pi_list (pv 4))
        (blkOk_by (N := nLTwoRight) (sc := defScope sLTwoRight) (by decide +kernel)) (fun _ _ _ _ _ => (pg_name (i := 9) scLTwoRight.nd rfl (.inl rfl))) (fun _ _ _ _ _ => pts_one (pt_val (pe_call (ok_is_in_box T D5) hr6 (by rfl) D5.g D5.F.kp D5.b .nil pass0 (pa_cons (pv 1) (pa_cons (pv 2) (pa_cons (pv 9) pa_nil))))))
        (fun _ _ _ _ _ => (pv 9))) (pv 5) (nomark _))))) (pss_one (ps_ret pe_bl)) pss_nil)
      (pss_cons (ps_if (pt_cmpR op_ne (pe_call (ok_holds_box T D4) hr7 (by rfl) D4.g D4.F.kp D4.b .nil pass0 (pa_cons (pv 1) (pa_cons (pv 2) (pa_cons (pv 3) pa_nil)))) (pe_cmpR (op_eqD hr.units) (pe_lc (own := [("_law_x", 9)]) (g := gName 9) rfl scLTwoRight.nd (pi_list (pv 6))
        (blkOk_by (N := nLTwoRight) (sc := defScope sLTwoRight) (by decide +kernel)) (fun _ _ _ _ _ => (pg_name (i := 9) scLTwoRight.nd rfl (.inl rfl))) (fun _ _ _ _ _ => pts_one (pt_cmpR (show OpR _ _ (rNotInD K) from op_notInD hr.units65) (pv 9) (pv 5) (by rfl)))
        (fun _ _ _ _ _ => (pv 9))) (pe_lst pa_nil) (nomark _)) (nomark _)) (pss_one (ps_ret pe_bl)) pss_nil)
      (pss_cons (ps_asg (pe_tup (pa_cons (pe_lc (own := [("_law_x", 9)]) (g := gName 9) rfl scLTwoRight.nd (pi_list (pv 5))
        (blkOk_by (N := nLTwoRight) (sc := defScope sLTwoRight) (by decide +kernel)) (fun _ _ _ _ _ => (pg_name (i := 9) scLTwoRight.nd rfl (.inl rfl))) (fun _ _ _ _ _ => pts_one (pt_cmpR (show OpR _ _ (rInD K) from op_inD hr.units65) (pv 9) (pv 6) (by rfl)))
        (fun _ _ _ _ _ => (pv 9))) (pa_cons (pe_call (ok_meeting T D3) hr7 (by rfl) D3.g D3.F.kp D3.b .nil pass0 (pa_cons (pv 1) (pa_cons (pv 2) (pa_cons (pv 3) pa_nil)))) pa_nil))) (pg_tup (by rfl) (pgs_cons (pg_name (i := 7) scLTwoRight.nd rfl (.inl rfl)) (pgs_cons (pg_name (i := 8) scLTwoRight.nd rfl (.inr rfl)) pgs_nil))))
      (pss_cons (ps_if (pt_cmpR op_isN (pv 8) pe_non (nomark _)) (pss_one (ps_ret (pe_cmpR (op_eqD hr.units) (pv 7) (pe_lst pa_nil) (nomark _)))) pss_nil)
      (pss_one (ps_ret (pe_and (pe_call (ok_is_box T D2) hr6 (by rfl) D2.g D2.F.kp D2.b .nil pass0 (pa_cons (pv 1) (pa_cons (pv 8) pa_nil))) (pe_and (pe_cmpR (op_eqD hr.units) (pe_lc (own := [("_law_x", 9)]) (g := gName 9) rfl scLTwoRight.nd (pi_list (pv 4))
        (blkOk_by (N := nLTwoRight) (sc := defScope sLTwoRight) (by decide +kernel)) (fun _ _ _ _ _ => (pg_name (i := 9) scLTwoRight.nd rfl (.inl rfl))) (fun _ _ _ _ _ => pts_one (pt_val (pe_call (ok_is_in T D1) hr1 (by rfl) D1.g D1.F.kp D1.b .nil pass0 (pa_cons (pv 8) (pa_cons (pv 9) pa_nil)))))
        (fun _ _ _ _ _ => (pv 9))) (pv 7) (nomark _)) (pe_one (pe_cmpR (op_neD hr.units) (pv 7) (pe_lst pa_nil) (nomark _))))))))))), ?_⟩
    have hlen : xs.length = rs.length := paired_len hR
    have hbl := hbs.length
    have hol := hos.length
    have two := rings_two hR
    have yl : ys.length = (allT rs).length := paired_len hrow
    have inT : ∀ {i ps}, (allT rs)[i]? = some ps → InT rs ps := fun {i ps} h => mem_allT.mp (List.mem_of_getElem? h)
    -- first, second
    refine ⟨_, rfl, L, rfl, ⟨_, SqL.of hL⟩, fun D1 hD1 => ?_⟩
    refine lc_list (K := K) (a := L) (xs := ys) (fun i H' => FW (inB bs) D1 H (allT rs) i H') (FW.start hD1) (fun i H' _ hp => SqL.of (hp.ex _ _ hL)) (fun i x H' hx hp => ?_) (fun H1 hp => ?_)
    · obtain ⟨xa, ps, rfl, hxa, hps⟩ := hrow.get hx
      have pl := (inT hps).length
      refine ⟨rfl, ?_⟩
      refine ⟨_, rfl, _, rfl, a, xa, bs, ps, rfl, hp.ex _ _ ha, hp.ex _ _ hxa, by omega, by omega, fun H2 e2 => ⟨_, rfl, ite2 (fun cc => ?_) (fun cc => ?_)⟩⟩
      · exact ⟨_, rfl, hp.put hD1 e2 hps cc (e2 _ _ (hp.ex _ _ hxa)) (by omega)⟩
      · exact hp.skip e2 hps (Bool.eq_false_iff.mpr cc)
    obtain ⟨acc1, a1, r1, e1⟩ := hp.done yl
    clear hp
    refine ⟨_, rfl, L, rfl, ⟨_, SqL.of (e1 _ _ hL)⟩, fun D2 hD2 => ?_⟩
    refine lc_list (K := K) (a := L) (xs := ys) (fun i H' => FW (inB os) D2 H1 (allT rs) i H') (FW.start hD2) (fun i H' _ hp => SqL.of ((e1.trans hp.ex) _ _ hL)) (fun i x H' hx hp => ?_) (fun H2 hp => ?_)
    · obtain ⟨xa, ps, rfl, hxa, hps⟩ := hrow.get hx
      have pl := (inT hps).length
      have e' := e1.trans hp.ex
      refine ⟨rfl, ?_⟩
      refine ⟨_, rfl, _, rfl, b, xa, os, ps, rfl, e' _ _ hb, e' _ _ hxa, by omega, by omega, fun H2 e2 => ⟨_, rfl, ite2 (fun cc => ?_) (fun cc => ?_)⟩⟩
      · exact ⟨_, rfl, hp.put hD2 e2 hps cc (e2 _ _ (e' _ _ hxa)) (by omega)⟩
      · exact hp.skip e2 hps (Bool.eq_false_iff.mpr cc)
    obtain ⟨acc2, a2, r2, e12⟩ := hp.done yl
    clear hp
    refine ⟨by show 2 ≤ sizeLine; decide, fun t3 ht3 => ?_⟩
    have x3 := Ex.new (o := .tup [.ref D1, .ref D2]) ht3
    have v3 : (upd H2 t3 (.tup [.ref D1, .ref D2])) t3 = some (.tup [.ref D1, .ref D2]) := upd_same
    have g1 := x3 _ _ (e12 _ _ a1)
    have g2 := x3 _ _ a2
    have s1 := (r1.ex e12).ex x3
    have s2 := r2.ex x3
    have e3 := (e1.trans e12).trans x3
    clear a1 a2 r1 r2 hD2 e12
    generalize upd H2 t3 (.tup [.ref D1, .ref D2]) = H3 at v3 g1 g2 s1 s2 e3 ⊢
    clear x3 e1 hD1
    refine ⟨t3, _, rfl, SqT.of v3, rfl, .ref D1, [_], rfl, .ref D2, [], rfl, rfl, ?_⟩
    have f1len : ((allT rs).filter (inB bs)).length ≤ 256 := Nat.le_trans (List.length_filter_le _ _) hsz
    have f2len : ((allT rs).filter (inB os)).length ≤ 256 := Nat.le_trans (List.length_filter_le _ _) hsz
    have in1 : ∀ {i ps}, ((allT rs).filter (inB bs))[i]? = some ps → InT rs ps := fun {i ps} h => mem_allT.mp (List.mem_filter.mp (List.mem_of_getElem? h)).1
    have c1 := paired_len s1
    have c2 := paired_len s2
    -- size_of, is_in_box
    refine ⟨_, rfl, _, rfl, c, a, xs, rs, bs, rfl, e3 _ _ hc, rings_ex4 e3 hR, hl, e3 _ _ ha, hbs, fun H4 e4 => ?_⟩
    refine ⟨_, rfl, D1, _, rfl, .inl (SqL.of (e4 _ _ g1)), rfl, _, rfl, ?_⟩
    rw [c1, count_box hbs, decide_eq_true (rfl : V.int ((sizeB rs bs : Nat) : Int) = V.int ((sizeB rs bs : Nat) : Int))]
    refine iteF ?_
    have e34 := e3.trans e4
    refine ⟨_, rfl, L, rfl, ⟨_, SqL.of (e34 _ _ hL)⟩, fun D5 hD5 => ?_⟩
    refine lc_list (K := K) (a := L) (xs := ys) (fun i H' => FW (inB bs) D5 H4 (allT rs) i H') (FW.start hD5) (fun i H' _ hp => SqL.of ((e34.trans hp.ex) _ _ hL)) (fun i x H' hx hp => ?_) (fun H5 hp => ?_)
    · obtain ⟨xa, ps, rfl, hxa, hps⟩ := hrow.get hx
      have e' := e34.trans hp.ex
      have hxa' : PlacesT H' xa ps := e' _ _ hxa
      refine ⟨rfl, ?_⟩
      refine ⟨_, rfl, _, rfl, _, rfl, c, a, .ref xa, xs, rs, bs, inB bs ps, rfl, e' _ _ hc, rings_ex4 e' hR, hl, e' _ _ ha, hbs, .row hxa' (inT hps), fun H2 e2 => ⟨_, rfl, ite2 (fun cc => ?_) (fun cc => ?_)⟩⟩
      · exact ⟨_, rfl, hp.put hD5 e2 hps cc (e2 _ _ hxa') (by omega)⟩
      · exact hp.skip e2 hps (Bool.eq_false_iff.mpr cc)
    obtain ⟨acc5, a5, r5, e5⟩ := hp.done yl
    clear hp
    refine ⟨_, rfl, ne_rows a5 r5 (e5 _ _ (e4 _ _ g1)) ((s1.ex e4).ex e5) ?_⟩
    rw [decide_eq_true (rfl : (allT rs).filter (inB bs) = (allT rs).filter (inB bs))]
    refine ⟨false, rfl, iteF ?_⟩
    have e45 := e4.trans e5
    have e35 := e3.trans e45
    have h1 := e45 _ _ g1
    have h2 := e45 _ _ g2
    have u1 := s1.ex e45
    have u2 := s2.ex e45
    clear a5 r5 hD5 e4 e5 e34 g1 g2 s1 s2 v3 e45
    -- holds_box
    refine ⟨_, rfl, _, rfl, _, rfl, c, a, b, xs, rs, bs, os, rfl, e35 _ _ hc, rings_ex4 e35 hR, hl, e35 _ _ ha, hbs, e35 _ _ hb, hos, fun H6 e6 => ?_⟩
    refine ⟨_, rfl, D2, rfl, ⟨_, SqL.of (e6 _ _ h2)⟩, fun D7 hD7 => ?_⟩
    refine lc_list (K := K) (a := D2) (xs := acc2) (fun i H' => FW (fun x => !decide (x ∈ (allT rs).filter (inB bs))) D7 H6 ((allT rs).filter (inB os)) i H') (FW.start hD7) (fun i H' _ hp => SqL.of ((e6.trans hp.ex) _ _ h2)) (fun i x H' hx hp => ?_) (fun H7 hp => ?_)
    · obtain ⟨xa, ps, rfl, hxa, hps⟩ := u2.get hx
      have e' := e6.trans hp.ex
      have hxa' : PlacesT H' xa ps := e' _ _ hxa
      refine ⟨rfl, ?_⟩
      refine ⟨_, rfl, _, rfl, notIn_rows hxa' (e' _ _ h1) (u1.ex e') ⟨_, rfl, ite2 (fun cc => ?_) (fun cc => ?_)⟩⟩
      · exact ⟨_, rfl, hp.put hD7 (Ex.refl _) hps cc hxa' (by omega)⟩
      · exact hp.skip (Ex.refl _) hps (Bool.eq_false_iff.mpr cc)
    obtain ⟨acc7, a7, r7, e7⟩ := hp.done c2
    clear hp
    refine ⟨by show 0 ≤ sizeLine; decide, fun t8 ht8 => ?_⟩
    have x8 := Ex.new (o := .lst []) ht8
    refine eq_rows (x8 _ _ a7) (r7.ex x8) upd_same (.nil) ?_
    rw [li_rows two hbs hos]
    refine ⟨rfl, _, rfl, ?_⟩
    rw [decide_eq_true (rfl : V.bl (liB bs os) = V.bl (liB bs os))]
    refine iteF ?_
    have e68 := (e6.trans e7).trans x8
    have e38 := e35.trans e68
    have k1 := e68 _ _ h1
    have k2 := e68 _ _ h2
    have w1 := u1.ex e68
    have w2 := u2.ex e68
    clear a7 r7 e6 e7 h1 h2 u1 u2 hD7 e35 x8
    generalize upd H7 t8 (.lst []) = H8 at e38 k1 k2 w1 w2 ⊢
    clear e68
    -- both, told
    refine ⟨_, rfl, D1, rfl, ⟨_, SqL.of k1⟩, fun D9 hD9 => ?_⟩
    refine lc_list (K := K) (a := D1) (xs := acc1) (fun i H' => FW (fun x => decide (x ∈ (allT rs).filter (inB os))) D9 H8 ((allT rs).filter (inB bs)) i H') (FW.start hD9) (fun i H' _ hp => SqL.of (hp.ex _ _ k1)) (fun i x H' hx hp => ?_) (fun H9 hp => ?_)
    · obtain ⟨xa, ps, rfl, hxa, hps⟩ := w1.get hx
      have e' := hp.ex
      have hxa' : PlacesT H' xa ps := e' _ _ hxa
      refine ⟨rfl, ?_⟩
      refine ⟨_, rfl, _, rfl, in_rows hxa' (e' _ _ k2) (w2.ex e') ⟨_, rfl, ite2 (fun cc => ?_) (fun cc => ?_)⟩⟩
      · exact ⟨_, rfl, hp.put hD9 (Ex.refl _) hps cc hxa' (by omega)⟩
      · exact hp.skip (Ex.refl _) hps (Bool.eq_false_iff.mpr cc)
    obtain ⟨acc9, a9, r9, e9⟩ := hp.done c1
    clear hp
    rw [both_rows] at r9
    have e39 := e38.trans e9
    refine ⟨_, rfl, _, rfl, _, rfl, c, a, b, xs, rs, bs, os, rfl, e39 _ _ hc, rings_ex4 e39 hR, hl, e39 _ _ ha, hbs, e39 _ _ hb, hos, fun hm H10 e10 => ?_, fun m hm p H10 e10 hp10 => ?_⟩
    · refine ⟨by show 2 ≤ sizeLine; decide, fun t11 ht11 => ?_⟩
      have x11 := Ex.new (o := .tup [.ref D9, .non]) ht11
      refine ⟨t11, _, rfl, SqT.of upd_same, rfl, .ref D9, [_], rfl, .non, [], rfl, rfl, ?_⟩
      refine ⟨_, rfl, rfl, _, rfl, iteT ?_⟩
      refine ⟨_, rfl, by show 0 ≤ sizeLine; decide, fun t12 ht12 => ?_⟩
      have x12 := Ex.new (o := .lst []) ht12
      have e912 := (e10.trans x11).trans x12
      refine eq_rows (e912 _ _ a9) (r9.ex e912) upd_same .nil ?_
      rw [meet_no hbs hos hm]
      exact q _ (e39.trans e912)
    · obtain ⟨m1, m2, m3⟩ := meet_yes two hbs hos hm
      have ml := m3.length
      refine ⟨by show 2 ≤ sizeLine; decide, fun t11 ht11 => ?_⟩
      have x11 := Ex.new (o := .tup [.ref D9, .ref p]) ht11
      have e911 := e10.trans x11
      have e311 := e39.trans e911
      have hp11 : BoxAt _ p m := x11 _ _ hp10
      have a11 := e911 _ _ a9
      have r11 := r9.ex e911
      refine ⟨t11, _, rfl, SqT.of upd_same, rfl, .ref D9, [_], rfl, .ref p, [], rfl, rfl, ?_⟩
      generalize upd H10 t11 (.tup [.ref D9, .ref p]) = H11 at e311 hp11 a11 r11 ⊢
      refine ⟨_, rfl, rfl, _, rfl, iteF ?_⟩
      refine ⟨_, rfl, _, rfl, c, .ref p, xs, rs, true, rfl, e311 _ _ hc, rings_ex4 e311 hR, hl, box_judged (rings_ex4 e311 hR) hp11 m3, fun H12 e12 => ⟨true, rfl, iteT ?_⟩⟩
      have e312 := e311.trans e12
      refine ⟨_, rfl, L, rfl, ⟨_, SqL.of (e312 _ _ hL)⟩, fun D13 hD13 => ?_⟩
      refine lc_list (K := K) (a := L) (xs := ys) (fun i H' => FW (inB m) D13 H12 (allT rs) i H') (FW.start hD13) (fun i H' _ hp => SqL.of ((e312.trans hp.ex) _ _ hL)) (fun i x H' hx hp => ?_) (fun H13 hp => ?_)
      · obtain ⟨xa, ps, rfl, hxa, hps⟩ := hrow.get hx
        have pl := (inT hps).length
        have e' := e312.trans hp.ex
        refine ⟨rfl, ?_⟩
        refine ⟨_, rfl, _, rfl, p, xa, m, ps, rfl, (e12.trans hp.ex) _ _ hp11, e' _ _ hxa, by omega, by omega, fun H2 e2 => ⟨_, rfl, ite2 (fun cc => ?_) (fun cc => ?_)⟩⟩
        · exact ⟨_, rfl, hp.put hD13 e2 hps cc (e2 _ _ (e' _ _ hxa)) (by omega)⟩
        · exact hp.skip e2 hps (Bool.eq_false_iff.mpr cc)
      obtain ⟨acc13, a13, r13, e13⟩ := hp.done yl
      have e1213 := e12.trans e13
      refine ⟨_, rfl, eq_rows a13 r13 (e1213 _ _ a11) (r11.ex e1213) ?_⟩
      rw [m1, decide_eq_true rfl]
      refine ⟨true, rfl, iteT ?_⟩
      refine ⟨_, rfl, by show 0 ≤ sizeLine; decide, fun t14 ht14 => ?_⟩
      have x14 := Ex.new (o := .lst []) ht14
      have e1114 := e1213.trans x14
      refine ne_rows (e1114 _ _ a11) (r11.ex e1114) upd_same .nil ?_
      rw [decide_eq_false m2]
      exact q _ (e311.trans e1114)
end
end K1

/-! own rule: a tuple times an int from 1 on, by what stands afterwards -/
namespace RT
open PySem PySem.Spec PyProof.Rows L2 Evl
theorem tuple_mul1 (l : Addr) (items : Array Value) (n : Nat) (dd : Option Addr) (sl : Array (Option Value)) (u : Tok) :
    Meets (Builtin.«tuple.__mul__» ⟨[.ref l, .int 1 u], []⟩) (fun _ R s => s.heap.get? l = some { cls := .type "tuple", dict := dd, data := .seq items n, slots := sl } ∧ R (.ok (.ret (Value.ref l))) s) :=
  .of_wp fun prog w A R s h => by
    obtain ⟨hp, g, d, tk, os⟩ := s
    obtain ⟨hl, h⟩ := h
    have f1 := AutoSeq1.idx_int
    have c0 : (decide ((1 : Int) < -(2 ^ 63)) || decide ((1 : Int) ≥ 2 ^ 63)) = false := by decide
    have c1 : (items.isEmpty || (1 : Int) == 1) = true := by simp
    wp_walk using wpAny_loadPart' hl
    repeat (first
      | (refine wpAny_ite_false (decide_eq_false (by rw [c0]; exact Bool.false_ne_true)) ?_; wp_walk using wpAny_loadPart' hl)
      | (refine wpAny_ite_true (decide_eq_true (by rw [c1])) ?_; wp_walk using wpAny_loadPart' hl))
    exact ⟨_, rfl, h⟩
section
variable {X : Cx}
def rRepE : R2 := fun x y H Q => ∃ l k xs, x = .ref l ∧ y = .int k ∧ H l = some (.tup xs) ∧ xs ≠ [] ∧ 1 ≤ k ∧ k ≤ 1000 ∧ xs.length ≤ 1000 ∧ ∀ p H', Ex H H' → H' p = some (.tup (List.replicate k.toNat xs).flatten) → Q (.ref p) H'
theorem op_repE : OpR X (binaryOp .Mult) rRepE := by
  intro pins s σ H x y v u Q I rx ry h
  obtain ⟨l, k, xs, rfl, rfl, hT, hne, h1, h2, hz, q⟩ := h
  by_cases hk : k = 1
  · subst hk
    cases rx
    obtain ⟨t, rfl⟩ := ry
    obtain ⟨its, r, ⟨⟨cls, dd, data, sl⟩, ho, hc, n, hd⟩, hs⟩ := I.tuple (SqT.of hT)
    simp only at hc hd
    subst hc hd
    refine wpAny_binaryOp_repeat_ref (T := "tuple") (U := "int") (by decide) ⟨_, ho, rfl⟩ (fun s' => typeIs_int s' 1 t) noFill_tuple_mul F.fills_int_mul F.slot_int_rmul repeat_tuple F.slot_int_index.lookup
      (call_meets F.slot_int_rmul (typeIs_int s 1 t) F.entry_int_rmul (F.args_int_rmul_2 _ _) (int_rmul_tuple 1 t l its.toArray n dd sl)
        ⟨ho, rfl, ⟨_, ho, rfl⟩, call_meets F.slot_tuple_mul ⟨_, ho, rfl⟩ F.entry_tuple_mul (F.args_tuple_mul_2 _ _) (tuple_mul1 l its.toArray n dd sl t) ⟨ho, ?_⟩⟩)
    refine ⟨.ref l, H, I, rfl, q l H (Ex.refl _) ?_⟩
    rw [hT]
    simp
  · exact op_repT pins s σ H _ _ v u Q I rx ry ⟨l, k, xs, rfl, rfl, SqT.of hT, hne, by omega, h2, hz, fun p hp => q p _ (Ex.new hp) upd_same⟩
end
end RT

namespace K1
open PySem PySem.Spec PyProof.Rows L2 Evl LX ZW ZM TE BX RT
/-! ### values that are judged -/
theorem cutE_to {xs : List V} {c : Nat} (hc : c ≤ xs.length) : cutV xs none (some (c : Int)) = xs.take c := by
  unfold cutV
  rw [HT.sIx_none, HT.sIx_nat, List.drop_zero, Nat.sub_zero, Nat.min_eq_left hc]
theorem cutE_from {xs : List V} {c : Nat} (hc : c ≤ xs.length) : cutV xs (some (c : Int)) none = xs.drop c := by
  unfold cutV
  rw [HT.sIx_none, HT.sIx_nat, Nat.min_eq_left hc]
  exact List.take_of_length_le (by rw [List.length_drop]; exact Nat.le_refl _)
theorem set_partsE {α : Type} : ∀ (l : List α) (c : Nat) (v : α), c < l.length → l.take c ++ [v] ++ l.drop (c + 1) = l.set c v
  | [], c, _, h => absurd h (Nat.not_lt_zero c)
  | x :: l, 0, v, _ => rfl
  | x :: l, c + 1, v, h => congrArg (x :: ·) (set_partsE l c v (Nat.lt_of_succ_lt_succ h))
theorem row_put {K : PySem.W.Frag} {R : Hp → Nat → V → Bool → Prop} {H : Hp} {n j : Nat} {a : Addr} {xs : List V} {y : V} (hx : xs.length = n) (hj : j < n) (good : ∀ i x, xs[i]? = some x → R H i x true) (bad : R H j y false) (e : H a = some (.tup (xs.take j ++ [y] ++ xs.drop (j + 1)))) : RowB K R H n (.ref a) false := by
  rw [set_partsE _ _ _ (by omega)] at e
  have q := RowB.tup (K := K) (R := R) (bs := (List.range n).map fun i => decide (i ≠ j)) e (by rw [List.length_set, hx]) (by rw [List.length_map, List.length_range]) fun i x b h1 h2 => by
    rw [List.getElem?_map] at h2
    by_cases hi : i < n
    · rw [List.getElem?_range hi] at h2
      obtain rfl := Option.some.inj h2
      rw [List.getElem?_set] at h1
      by_cases z : j = i
      · subst z
        rw [if_pos rfl, if_pos (by omega)] at h1
        obtain rfl := Option.some.inj h1
        show R H j y (decide (j ≠ j))
        rw [decide_eq_false (fun q => q rfl)]
        exact bad
      · rw [if_neg z] at h1
        show R H i x (decide (i ≠ j))
        rw [decide_eq_true (show i ≠ j from fun q => z q.symm)]
        exact good i x h1
    · rw [List.getElem?_eq_none (by rw [List.length_range]; omega)] at h2
      cases h2
  rw [show ((List.range n).map fun i => decide (i ≠ j)).all id = false by
    rw [List.all_eq_false]
    exact ⟨false, List.mem_map.mpr ⟨j, List.mem_range.mpr hj, by simp⟩, by decide⟩] at q
  exact q
theorem box_good {K : PySem.W.Frag} {H : Hp} {xs : List V} {rs : List (Int × Int)} {bs : List (Option Int)} (hR : RingsAt H 60 xs rs) (hb : BoxR rs bs) : ∀ i x, (bs.map ov)[i]? = some x → optR K rs H i x true := fun i x h1 => by
  have hl := hb.length
  obtain ⟨o, ho, rfl⟩ := ov_get h1
  have hi : i < rs.length := by
    have := (List.getElem?_eq_some_iff.mp ho).1
    omega
  have n60 := rings_n hR i
  rcases boxR_get hb ho with rfl | ⟨t, rfl, t0, t1⟩
  · exact .non
  · rw [← nAt_eq hR hi] at t1
    exact .btw (by intro z; cases z) (.yes t0 (by omega) (by omega) (by omega))
theorem row_good {K : PySem.W.Frag} {H : Hp} {xs : List V} {rs : List (Int × Int)} {ps : List Int} (hR : RingsAt H 60 xs rs) (hb : InT rs ps) : ∀ i x, (ps.map V.int)[i]? = some x → intR K rs H i x true := fun i x h1 => by
  have hl := hb.length
  have hi : i < rs.length := by
    have := (List.getElem?_eq_some_iff.mp h1).1
    rw [List.length_map] at this
    omega
  have n60 := rings_n hR i
  rw [List.getElem?_map] at h1
  cases ep : ps[i]? with
  | none =>
    rw [ep] at h1
    cases h1
  | some p =>
    rw [ep] at h1
    obtain rfl := Option.some.inj h1
    have := inT_get hb ep
    rw [← nAt_eq hR hi] at this
    exact .yes this.1 (by omega) (by omega) (by omega)
theorem boxR_open : ∀ rs : List (Int × Int), BoxR rs (List.replicate rs.length none)
  | [] => .nil
  | _ :: rs => .open (boxR_open rs)
theorem inB_snoc {o : Option Int} {p : Int} : ∀ {bs : List (Option Int)} {ps : List Int}, bs.length = ps.length → inB (bs ++ [o]) (ps ++ [p]) = (inB bs ps && inB [o] [p])
  | [], [], _ => (Bool.true_and _).symm
  | some t :: bs, q :: ps, h => by
    show (decide (t = q) && inB (bs ++ [o]) (ps ++ [p])) = ((decide (t = q) && inB bs ps) && _)
    rw [inB_snoc (by simpa using h), Bool.and_assoc]
  | none :: bs, q :: ps, h => by
    show inB (bs ++ [o]) (ps ++ [p]) = _
    rw [inB_snoc (by simpa using h)]
    rfl
  | [], _ :: _, h => by simp at h
  | _ :: _, [], h => by simp at h
section
variable {P : Program} {w : World} {K : PySem.W.Frag} {mg : Str → Option Value} {base : Heap}
def spJudged : Sp := fun vs H Q _ => ∃ d c a xs rs bs, vs = [.ref d, .ref c, .ref a] ∧ Dice H d ∧ H c = some (.tup xs) ∧ RingsAt H 60 xs rs ∧ (1 ≤ xs.length ∧ xs.length ≤ 12) ∧ BoxAt H a bs ∧ BoxR rs bs ∧ ∀ H', Dice H' d → Keep d H H' → Q (.bl true) H'
theorem ok_judged_right (T : Txt K mg) {f : Addr} {fd : FuncData} (D : DefAt K mg "_law_judged_right" sLJudgedRight ["_law_dice_here", "_law_chain_here", "_law_one"] f fd) : FnOk P w K mg base CX0 7 f fd ["_law_dice_here", "_law_chain_here", "_law_one"] spJudged := by
  refine D.F.ok scLJudgedRight (fun vs H Q E h => ?_) (fun cdv A outer s₀ H vs Q E hr h => ?_)
  · obtain ⟨d, c, a, xs, rs, bs, rfl, _⟩ := h
    rfl
  · obtain ⟨d, c, a, xs, rs, bs, rfl, hd, hc, hR, hl, ha, hbs, k⟩ := h
    obtain ⟨f1, fd1, D1⟩ := T.d_is_in_box
    obtain ⟨f2, fd2, D2⟩ := T.d_l_roll
    obtain ⟨f3, fd3, D3⟩ := T.d_is_box
    have hr1 : Room 1 _ := hr.mono (by decide)
    have hr6 : Room 6 _ := hr.mono (by decide)
    refine ⟨_, pss_cons (ps_set (i := 3) scLJudgedRight.nd rfl (.inl rfl) (pe_call (ok_roll T D2) hr1 (by rfl) D2.g D2.F.kp D2.b .nil pass0 (pa_cons (pv 0) (pa_cons (pe_callB call_len_seq (by rfl) T.z_len PySem.boot_len (pa_cons (pv 1) pa_nil)) pa_nil))))
      (pss_cons (ps_set (i := 4) scLJudgedRight.nd rfl (.inl rfl) (pe_lst (pa_cons (pe_callTy call_list_of (by rfl) T.z_list (by decide +kernel) (pa_cons (pv 2) pa_nil)) (pa_cons (pe_op op_catE (pv 2) (pe_tup (pa_cons pe_non pa_nil))) (pa_cons (pe_slice sl_tupE (pv 2) (po_some pe_int) po_none) (pa_cons pe_non (pa_cons pe_int (pa_cons (pe_op op_catE (pe_op op_catE (pe_slice sl_tupE (pv 2) po_none (po_some (pv 3))) (pe_tup (pa_cons (pe_ix ix_tup (pe_ix ix_tup (pv 1) (pv 3) (fun _ _ => rfl)) pe_int (fun _ _ => rfl)) pa_nil))) (pe_slice sl_tupE (pv 2) (po_some (pe_op op_add (pv 3) pe_int)) po_none)) (pa_cons (pe_op op_catE (pe_op op_catE (pe_slice sl_tupE (pv 2) po_none (po_some (pv 3))) (pe_tup (pa_cons pe_bl pa_nil))) (pe_slice sl_tupE (pv 2) (po_some (pe_op op_add (pv 3) pe_int)) po_none)) pa_nil)))))))))
      (pss_cons (ps_set (i := 4) scLJudgedRight.nd rfl (.inl rfl) (pe_op op_cat (pv 4) (pe_lst (pa_cons (pe_op op_catE (pe_op op_catE (pe_slice sl_tupE (pv 2) po_none (po_some (pv 3))) (pe_tup (pa_cons (pe_un un_neg pe_int) pa_nil))) (pe_slice sl_tupE (pv 2) (po_some (pe_op op_add (pv 3) pe_int)) po_none)) (pa_cons (pe_op op_catE (pe_op op_catE (pe_slice sl_tupE (pv 2) po_none (po_some (pv 3))) (pe_tup (pa_cons pe_str pa_nil))) (pe_slice sl_tupE (pv 2) (po_some (pe_op op_add (pv 3) pe_int)) po_none)) pa_nil)))))
      (pss_cons (ps_if (PW.pt (pw_or (pt_cmpR (op_neD hr.units) (pe_lc (own := [("_law_value", 6)]) (g := gName 6) rfl scLJudgedRight.nd (pi_list (pv 4))
        (blkOk_by (N := nLJudgedRight) (sc := defScope sLJudgedRight) (by decide +kernel)) (fun _ _ _ _ _ => (pg_name (i := 6) scLJudgedRight.nd rfl (.inl rfl))) (fun _ _ _ _ _ => pts_one (pt_val (pe_call (ok_is_box T D3) hr6 (by rfl) D3.g D3.F.kp D3.b .nil pass0 (pa_cons (pv 1) (pa_cons (pv 6) pa_nil)))))
        (fun _ _ _ _ _ => (pv 6))) (pe_lst pa_nil) (nomark _))
          (pw_or (pt_not (pt_val (pe_call (ok_is_box T D3) hr6 (by rfl) D3.g D3.F.kp D3.b .nil pass0 (pa_cons (pv 1) (pa_cons (pv 2) pa_nil)))))
          (pw_or1 (pt_not (pt_val (pe_call (ok_is_box T D3) hr6 (by rfl) D3.g D3.F.kp D3.b .nil pass0 (pa_cons (pv 1) (pa_cons (pe_op op_repE (pe_tup (pa_cons pe_non pa_nil)) (pe_callB call_len_seq (by rfl) T.z_len PySem.boot_len (pa_cons (pv 1) pa_nil))) pa_nil))))))))) (pss_one (ps_ret pe_bl)) pss_nil)
      (pss_cons (ps_set (i := 5) scLJudgedRight.nd rfl (.inl rfl) (pe_callTy call_tuple_of (by rfl) T.z_tuple (by decide +kernel) (pa_cons (pe_lc (own := [("_law_told", 7), ("_law_n", 8), ("_law_s", 9)]) (g := gTup K 2 (gCons (gName 7) (gCons (gTup K 2 (gCons (gName 8) (gCons (gName 9) gNil))) gNil))) (tt := tYes) rfl scLJudgedRight.nd (RZ.pi_zipA (by rfl) T.z_zip (pa_cons (pv 2) (pa_cons (pv 1) pa_nil)))
        (blkOk_by (N := nLJudgedRight) (sc := defScope sLJudgedRight) (by decide +kernel)) (fun _ _ _ _ _ => (pg_tup (by rfl) (pgs_cons (pg_name (i := 7) scLJudgedRight.nd rfl (.inl rfl)) (pgs_cons (pg_tup (by rfl) (pgs_cons (pg_name (i := 8) scLJudgedRight.nd rfl (.inl rfl)) (pgs_cons (pg_name (i := 9) scLJudgedRight.nd rfl (.inl rfl)) pgs_nil))) pgs_nil)))) (fun _ _ _ _ _ => pts_nil)
        (fun _ _ _ _ _ => (pe_ifExp (pt_cmpR op_isN (pv 7) pe_non (nomark _)) (pe_call (ok_roll T D2) hr1 (by rfl) D2.g D2.F.kp D2.b .nil pass0 (pa_cons (pv 0) (pa_cons (pv 8) pa_nil))) (pv 7)))) pa_nil)))
      (pss_cons (ps_if (PW.pt (pw_or (pt_not (pt_val (pe_call (ok_is_in_box T D1) hr6 (by rfl) D1.g D1.F.kp D1.b .nil pass0 (pa_cons (pv 1) (pa_cons (pv 2) (pa_cons (pv 5) pa_nil))))))
          (pw_or (pt_val (pe_call (ok_is_in_box T D1) hr6 (by rfl) D1.g D1.F.kp D1.b .nil pass0 (pa_cons (pv 1) (pa_cons (pv 2) (pa_cons (pe_callTy call_list_of (by rfl) T.z_list (by decide +kernel) (pa_cons (pv 5) pa_nil)) pa_nil)))))
          (pw_or1 (pt_val (pe_call (ok_is_in_box T D1) hr6 (by rfl) D1.g D1.F.kp D1.b .nil pass0 (pa_cons (pv 1) (pa_cons (pv 2) (pa_cons (pe_op op_catE (pv 5) (pe_tup (pa_cons pe_int pa_nil))) pa_nil))))))))) (pss_one (ps_ret pe_bl)) pss_nil)
      (pss_one (ps_ret (pe_not (pe_call (ok_is_in_box T D1) hr6 (by rfl) D1.g D1.F.kp D1.b .nil pass0 (pa_cons (pv 1) (pa_cons (pv 2) (pa_cons (pe_op op_catE (pe_op op_catE (pe_slice sl_tupE (pv 5) po_none (po_some (pv 3))) (pe_tup (pa_cons pe_non pa_nil))) (pe_slice sl_tupE (pv 5) (po_some (pe_op op_add (pv 3) pe_int)) po_none)) pa_nil)))))))))))), ?_⟩
    have hlen : xs.length = rs.length := paired_len hR
    have hbl := hbs.length
    have lb : (bs.map ov).length = rs.length := by rw [List.length_map, hbl]
    refine ⟨_, rfl, _, rfl, c, _, rfl, .inr (SqT.of hc), d, _, rfl, hd, by omega, by omega, fun r H1 r0 r1 hd1 k1 => ?_⟩
    obtain ⟨j, rfl⟩ : ∃ j : Nat, r = j := ⟨r.toNat, by omega⟩
    have hj : j < rs.length := by omega
    have ha1 : BoxAt H1 a bs := k1.tup hd ha
    have hc1 := k1.tup hd hc
    have hR1 := hR.keep k1 hd
    have nj := nAt_eq hR1 hj
    have n60 := rings_n hR1 j
    have good := box_good (K := K) hR1 hbs
    clear ha hc hR hd
    obtain ⟨xj, hxj, tj, rfl, htj, nj1, nj2, nj3, nj4⟩ := rings_nth hR1 hj
    -- list(one)
    refine ⟨_, rfl, a, _, rfl, .inr (SqT.of ha1), fun v1 hv1 => ?_⟩
    have e1 : Ex H1 _ := Ex.new (o := .lst (bs.map ov)) hv1
    have w1 : (upd H1 v1 (.lst (bs.map ov))) v1 = some (.lst (bs.map ov)) := upd_same
    generalize upd H1 v1 (.lst (bs.map ov)) = H2 at e1 w1 ⊢
    have g1 : RowB K (optR K rs) H2 rs.length (.ref v1) false := .no (.lst w1)
    clear w1
    -- one + (None,)
    refine ⟨_, rfl, by show 1 ≤ sizeLine; decide, fun q2 hq2 => ?_⟩
    have x2 := Ex.new (o := .tup [.non]) hq2
    refine ⟨a, q2, _, _, rfl, rfl, (e1.trans x2) _ _ ha1, upd_same, by rw [lb]; exact sz_of (by show _ + 1 ≤ _; omega), fun v2 H3 x3 hv2 => ?_⟩
    have e3 := (e1.trans x2).trans x3
    have g2 : RowB K (optR K rs) H3 rs.length (.ref v2) false := .len hv2 (by rw [List.length_append, lb]; show ¬ _ + 1 = _; omega)
    have y3 := x2.trans x3
    replace g1 := g1.opt y3
    clear x2 x3 hq2 y3
    -- one[1:]
    refine ⟨_, rfl, _, rfl, a, _, rfl, e3 _ _ ha1, fun v3 H4 x4 hv3 => ?_⟩
    rw [show (1 : Int) = ((1 : Nat) : Int) from rfl, cutE_from (by omega)] at hv3
    have e4 := e3.trans x4
    have g3 : RowB K (optR K rs) H4 rs.length (.ref v3) false := .len hv3 (by rw [List.length_drop, lb]; omega)
    replace g1 := g1.opt x4
    replace g2 := g2.opt x4
    -- the ring's own number of places
    refine ⟨_, rfl, _, rfl, _, rfl, a, _, rfl, e4 _ _ ha1, fun s6 G61 x61 hs6 => ?_⟩
    rw [cutE_to (by rw [List.length_map]; omega)] at hs6
    have e61 := e4.trans x61
    refine ⟨_, rfl, _, rfl, c, xs, _, _, rfl, rfl, SqT.of (e61 _ _ hc1), atI_nat hxj, tj, _, 0, _, rfl, rfl, SqT.of (e61 _ _ htj), rfl, by show 1 ≤ sizeLine; decide, fun q6 hq6 => ?_⟩
    have x62 := Ex.new (o := .tup [.int (K1N.nAt rs j : Int)]) hq6
    refine ⟨s6, q6, _, _, rfl, rfl, x62 _ _ hs6, upd_same, by rw [List.length_take, List.length_map]; exact sz_of (by show _ + 1 ≤ _; omega), fun m6 G63 x63 hm6 => ?_⟩
    have e63 := (e61.trans x62).trans x63
    refine ⟨_, rfl, _, rfl, _, _, rfl, rfl, _, rfl, a, _, rfl, e63 _ _ ha1, fun u6 G64 x64 hu6 => ?_⟩
    rw [show (j : Int) + 1 = ((j + 1 : Nat) : Int) by omega, cutE_from (by rw [List.length_map]; omega)] at hu6
    refine ⟨m6, u6, _, _, rfl, rfl, x64 _ _ hm6, hu6, by rw [List.length_append, List.length_take, List.length_drop, List.length_map]; exact sz_of (by show _ + 1 + _ ≤ _; omega), fun w6 G65 x65 hw6 => ?_⟩
    have e6 := (e63.trans x64).trans x65
    have z6 := (((x61.trans x62).trans x63).trans x64).trans x65
    clear x61 x62 x63 x64 hs6 hm6 hu6 e61 e63 hq6
    have g6 : RowB K (optR K rs) G65 rs.length (.ref w6) false := row_put (K := K) (R := optR K rs) lb hj (fun i x h => OptB.mono e6 (good i x h)) (.btw (by intro z; cases z) (.out (by omega))) hw6
    replace g1 := g1.opt z6
    replace g2 := g2.opt z6
    replace g3 := g3.opt z6
    refine ⟨_, rfl, _, rfl, _, rfl, a, _, rfl, e6 _ _ ha1, fun s7 G71 x71 hs7 => ?_⟩
    rw [cutE_to (by rw [List.length_map]; omega)] at hs7
    have e71 := e6.trans x71
    refine ⟨by show 1 ≤ sizeLine; decide, fun q7 hq7 => ?_⟩
    have x72 := Ex.new (o := .tup [.bl true]) hq7
    refine ⟨s7, q7, _, _, rfl, rfl, x72 _ _ hs7, upd_same, by rw [List.length_take, List.length_map]; exact sz_of (by show _ + 1 ≤ _; omega), fun m7 G73 x73 hm7 => ?_⟩
    have e73 := (e71.trans x72).trans x73
    refine ⟨_, rfl, _, rfl, _, _, rfl, rfl, _, rfl, a, _, rfl, e73 _ _ ha1, fun u7 G74 x74 hu7 => ?_⟩
    rw [show (j : Int) + 1 = ((j + 1 : Nat) : Int) by omega, cutE_from (by rw [List.length_map]; omega)] at hu7
    refine ⟨m7, u7, _, _, rfl, rfl, x74 _ _ hm7, hu7, by rw [List.length_append, List.length_take, List.length_drop, List.length_map]; exact sz_of (by show _ + 1 + _ ≤ _; omega), fun w7 G75 x75 hw7 => ?_⟩
    have e7 := (e73.trans x74).trans x75
    have z7 := (((x71.trans x72).trans x73).trans x74).trans x75
    clear x71 x72 x73 x74 hs7 hm7 hu7 e71 e73 hq7
    have g7 : RowB K (optR K rs) G75 rs.length (.ref w7) false := row_put (K := K) (R := optR K rs) lb hj (fun i x h => OptB.mono e7 (good i x h)) (.btw (by intro z; cases z) (.no (.bl true))) hw7
    replace g1 := g1.opt z7
    replace g2 := g2.opt z7
    replace g3 := g3.opt z7
    replace g6 := g6.opt z7
    refine ⟨by show 7 ≤ sizeLine; decide, fun l8 hl8 => ?_⟩
    have x8 := Ex.new (o := .lst [.ref v1, .ref v2, .ref v3, .non, .int 5, .ref w6, .ref w7]) hl8
    have v8 : (upd G75 l8 (.lst [.ref v1, .ref v2, .ref v3, .non, .int 5, .ref w6, .ref w7])) l8 = some (.lst [.ref v1, .ref v2, .ref v3, .non, .int 5, .ref w6, .ref w7]) := upd_same
    have e8 := e7.trans x8
    replace g1 := g1.opt x8
    replace g2 := g2.opt x8
    replace g3 := g3.opt x8
    replace g6 := g6.opt x8
    replace g7 := g7.opt x8
    clear hl8 x8
    generalize upd G75 l8 (.lst [.ref v1, .ref v2, .ref v3, .non, .int 5, .ref w6, .ref w7]) = H8 at e8 v8 g1 g2 g3 g6 g7 ⊢
    refine ⟨_, rfl, ?_⟩
    refine ⟨_, rfl, _, rfl, _, rfl, a, _, rfl, e8 _ _ ha1, fun s9 G91 x91 hs9 => ?_⟩
    rw [cutE_to (by rw [List.length_map]; omega)] at hs9
    have e91 := e8.trans x91
    refine ⟨_, rfl, by show 1 ≤ sizeLine; decide, fun q9 hq9 => ?_⟩
    have x92 := Ex.new (o := .tup [.int (-1)]) hq9
    refine ⟨s9, q9, _, _, rfl, rfl, x92 _ _ hs9, upd_same, by rw [List.length_take, List.length_map]; exact sz_of (by show _ + 1 ≤ _; omega), fun m9 G93 x93 hm9 => ?_⟩
    have e93 := (e91.trans x92).trans x93
    refine ⟨_, rfl, _, rfl, _, _, rfl, rfl, _, rfl, a, _, rfl, e93 _ _ ha1, fun u9 G94 x94 hu9 => ?_⟩
    rw [show (j : Int) + 1 = ((j + 1 : Nat) : Int) by omega, cutE_from (by rw [List.length_map]; omega)] at hu9
    refine ⟨m9, u9, _, _, rfl, rfl, x94 _ _ hm9, hu9, by rw [List.length_append, List.length_take, List.length_drop, List.length_map]; exact sz_of (by show _ + 1 + _ ≤ _; omega), fun w9 G95 x95 hw9 => ?_⟩
    have e9 := (e93.trans x94).trans x95
    have z9 := (((x91.trans x92).trans x93).trans x94).trans x95
    clear x91 x92 x93 x94 hs9 hm9 hu9 e91 e93 hq9
    have g9 : RowB K (optR K rs) G95 rs.length (.ref w9) false := row_put (K := K) (R := optR K rs) lb hj (fun i x h => OptB.mono e9 (good i x h)) (.btw (by intro z; cases z) (.out (by omega))) hw9
    replace g1 := g1.opt z9
    replace g2 := g2.opt z9
    replace g3 := g3.opt z9
    replace g6 := g6.opt z9
    replace g7 := g7.opt z9
    refine ⟨_, rfl, _, rfl, _, rfl, a, _, rfl, e9 _ _ ha1, fun s10 G101 x101 hs10 => ?_⟩
    rw [cutE_to (by rw [List.length_map]; omega)] at hs10
    have e101 := e9.trans x101
    refine ⟨by show 1 ≤ sizeLine; decide, fun q10 hq10 => ?_⟩
    have x102 := Ex.new (o := .tup [.str "0"]) hq10
    refine ⟨s10, q10, _, _, rfl, rfl, x102 _ _ hs10, upd_same, by rw [List.length_take, List.length_map]; exact sz_of (by show _ + 1 ≤ _; omega), fun m10 G103 x103 hm10 => ?_⟩
    have e103 := (e101.trans x102).trans x103
    refine ⟨_, rfl, _, rfl, _, _, rfl, rfl, _, rfl, a, _, rfl, e103 _ _ ha1, fun u10 G104 x104 hu10 => ?_⟩
    rw [show (j : Int) + 1 = ((j + 1 : Nat) : Int) by omega, cutE_from (by rw [List.length_map]; omega)] at hu10
    refine ⟨m10, u10, _, _, rfl, rfl, x104 _ _ hm10, hu10, by rw [List.length_append, List.length_take, List.length_drop, List.length_map]; exact sz_of (by show _ + 1 + _ ≤ _; omega), fun w10 G105 x105 hw10 => ?_⟩
    have e10 := (e103.trans x104).trans x105
    have z10 := (((x101.trans x102).trans x103).trans x104).trans x105
    clear x101 x102 x103 x104 hs10 hm10 hu10 e101 e103 hq10
    have g10 : RowB K (optR K rs) G105 rs.length (.ref w10) false := row_put (K := K) (R := optR K rs) lb hj (fun i x h => OptB.mono e10 (good i x h)) (.btw (by intro z; cases z) (.no (.str _))) hw10
    replace g1 := g1.opt z10
    replace g2 := g2.opt z10
    replace g3 := g3.opt z10
    replace g6 := g6.opt z10
    replace g7 := g7.opt z10
    replace g9 := g9.opt z10
    refine ⟨by show 2 ≤ sizeLine; decide, fun l11 hl11 => ?_⟩
    have x11 := Ex.new (o := .lst [.ref w9, .ref w10]) hl11
    refine ⟨l8, l11, _, _, rfl, rfl, (z9.trans (z10.trans x11)) _ _ v8, upd_same, by show 9 ≤ sizeLine; decide, fun l12 hl12 => ?_⟩
    have x12 := Ex.new (o := .lst ([.ref v1, .ref v2, .ref v3, .non, .int 5, .ref w6, .ref w7] ++ [.ref w9, .ref w10])) hl12
    have x112 := x11.trans x12
    have bad : ∀ v ∈ [V.ref v1, .ref v2, .ref v3, .non, .int 5, .ref w6, .ref w7] ++ [.ref w9, .ref w10], RowB K (optR K rs) _ rs.length v false := fun v hv => by
      simp only [List.cons_append, List.nil_append, List.mem_cons, List.not_mem_nil, or_false] at hv
      rcases hv with rfl | rfl | rfl | rfl | rfl | rfl | rfl | rfl | rfl
      · exact g1.opt x112
      · exact g2.opt x112
      · exact g3.opt x112
      · exact .no .non
      · exact .no (.int 5)
      · exact g6.opt x112
      · exact g7.opt x112
      · exact g9.opt x112
      · exact g10.opt x112
    have v12 : (upd (upd G105 l11 (.lst [.ref w9, .ref w10])) l12 (.lst ([.ref v1, .ref v2, .ref v3, .non, .int 5, .ref w6, .ref w7] ++ [.ref w9, .ref w10]))) l12 = some (.lst ([.ref v1, .ref v2, .ref v3, .non, .int 5, .ref w6, .ref w7] ++ [.ref w9, .ref w10])) := upd_same
    have e12 := e10.trans x112
    clear g1 g2 g3 g6 g7 g9 g10 x11 x12 x112 hl11 hl12 v8 e1 e3 e4 e6 e7 e8 e9 e10 z6 z7 z9 z10 hw6 hw7 hw9 hw10
    generalize upd (upd G105 l11 (.lst [.ref w9, .ref w10])) l12 (.lst ([.ref v1, .ref v2, .ref v3, .non, .int 5, .ref w6, .ref w7] ++ [.ref w9, .ref w10])) = H12 at e12 bad v12 ⊢
    generalize [V.ref v1, .ref v2, .ref v3, .non, .int 5, .ref w6, .ref w7] ++ [.ref w9, .ref w10] = vals at bad v12
    -- none of them is a box
    refine ⟨_, rfl, l12, rfl, ⟨_, SqL.of v12⟩, fun D13 hD13 => ?_⟩
    refine lc_list (K := K) (a := l12) (xs := vals) (fun i H' => H' D13 = some (.lst []) ∧ Ex H12 H') ⟨upd_same, Ex.new hD13⟩ (fun i H' _ hp => SqL.of (hp.2 _ _ v12)) (fun i x H' hx hp => ?_) (fun H13 hp => ?_)
    · have e' := e12.trans hp.2
      refine ⟨rfl, ?_⟩
      refine ⟨_, rfl, _, rfl, c, x, xs, rs, false, rfl, e' _ _ hc1, rings_ex4 e' hR1, hl, (bad x (List.mem_of_getElem? hx)).opt hp.2, fun H2 e2 => ⟨_, rfl, iteF ⟨e2 _ _ hp.1, hp.2.trans e2⟩⟩⟩
    obtain ⟨h13, e1213⟩ := hp
    refine ⟨by show 0 ≤ sizeLine; decide, fun t14 ht14 => ?_⟩
    have x14 := Ex.new (o := .lst []) ht14
    refine ⟨.list [], .list [], .lst (SqL.of (x14 _ _ h13)) .nil, .lst (SqL.of upd_same) .nil, rfl, rfl, _, rfl, iteF ?_⟩
    have e14 := (e12.trans e1213).trans x14
    clear x14 h13 e1213 e12 hD13 bad v12
    generalize upd H13 t14 (.lst []) = H14 at e14 ⊢
    -- one is a box, and the box without places
    refine ⟨_, rfl, _, rfl, c, .ref a, xs, rs, true, rfl, e14 _ _ hc1, rings_ex4 e14 hR1, hl, (box_judged hR1 ha1 hbs).opt e14, fun H15 e1415 => ⟨true, rfl, iteF ?_⟩⟩
    have e15 := e14.trans e1415
    refine ⟨_, rfl, by show 1 ≤ sizeLine; decide, fun t16 ht16 => ?_⟩
    have x16 := Ex.new (o := .tup [.non]) ht16
    have e16 := e15.trans x16
    refine ⟨_, rfl, c, _, rfl, .inr (SqT.of (e16 _ _ hc1)), t16, _, _, rfl, rfl, upd_same, by simp, by omega, by omega, by show 1 ≤ 1000; decide, fun p17 H17 x17 hp17 => ?_⟩
    have e17 := e16.trans x17
    have hb17 : BoxAt H17 p17 (List.replicate rs.length none) := by
      unfold BoxAt
      rw [hp17, Int.toNat_natCast, hlen]
      congr 2
      generalize rs.length = n
      induction n with
      | zero => rfl
      | succ n ih => rw [List.replicate_succ, List.flatten_cons, ih]; rfl
    refine ⟨c, .ref p17, xs, rs, true, rfl, e17 _ _ hc1, rings_ex4 e17 hR1, hl, box_judged (rings_ex4 e17 hR1) hb17 (boxR_open rs), fun H18 x18 => ⟨true, rfl, iteF ?_⟩⟩
    have e18 := e17.trans x18
    have hd18 := hd1.ex e18
    have ha18 : BoxAt H18 a bs := e18 _ _ ha1
    have hc18 := e18 _ _ hc1
    have hR18 := rings_ex4 e18 hR1
    have k18 := k1.trans (Keep.ex e18)
    clear e14 e15 e16 e17 e18 e1415 x16 x17 x18 ht16 hp17 hb17 ha1 hc1 hR1 hd1 k1 good
    -- a tuple in the box
    refine ⟨_, rfl, _, rfl, a, c, _, _, rfl, .inr ⟨SqT.of ha18, SqT.of hc18, fun D19 hD19 => ?_⟩⟩
    have nda := hd18.ne_tup ha18
    have ndc := hd18.ne_tup hc18
    have ndl : d ≠ D19 := hd18.ne_new hD19
    refine lc_zipT (K := K) (a := a) (b := c) (xs := bs.map ov) (ys := xs) (n := rs.length) (by omega) (by omega) (.inl (by omega)) (fun i H' => ∃ ps : List Int, H' D19 = some (.lst (ps.map V.int)) ∧ InT (rs.take i) ps ∧ inB (bs.take i) ps = true ∧ Keep d H18 H' ∧ Dice H' d) ⟨[], upd_same, .nil, rfl, Keep.new hD19, hd18.upd ndl⟩ (fun i H' hp => by obtain ⟨_, _, _, _, kk, _⟩ := hp; exact ⟨SqT.of (kk _ _ nda ha18), SqT.of (kk _ _ ndc hc18)⟩) (fun i x y Tp H' hi hx hy hp nT => ?_) (fun H19 hp => ?_)
    · obtain ⟨ps, p1, p2, p3, kk, hd'⟩ := hp
      obtain ⟨o, ho, rfl⟩ := ov_get hx
      have hn := nAt_eq hR18 hi
      have eT := Ex.new (o := .tup [ov o, y]) nT
      have hy1 := rings_nth4 (rings_ex4 eT (hR18.keep kk hd18)) hy
      obtain ⟨t, rfl, ht, b1, b2, b3, b4⟩ := hy1
      have pl : ps.length = i := by rw [p2.length, take_len (by omega)]
      have hT : (upd H' Tp (.tup [ov o, .ref t])) Tp = some (.tup [ov o, .ref t]) := upd_same
      have p1' := eT _ _ p1
      have hdT := hd'.ex eT
      have kT := kk.trans (Keep.ex eT)
      clear eT p1 hd' kk
      generalize upd H' Tp (.tup [ov o, .ref t]) = G at ht hT p1' hdT kT ⊢
      have fin : ∀ (v : Int) G2, 0 ≤ v → v < (rs.getD i (0, 0)).1 → inB [o] [v] = true → Keep d G G2 → Dice G2 d → ∃ acc, G2 D19 = some (.lst acc) ∧ acc.length < sizeLine ∧ (∃ ps : List Int, (upd G2 D19 (.lst (acc ++ [.int v]))) D19 = some (.lst (ps.map V.int)) ∧ InT (rs.take (i + 1)) ps ∧ inB (bs.take (i + 1)) ps = true ∧ Keep d H18 (upd G2 D19 (.lst (acc ++ [.int v]))) ∧ Dice (upd G2 D19 (.lst (acc ++ [.int v]))) d) := fun v G2 h0 h1 h2 k2 d2 => by
        refine ⟨_, k2 _ _ ndl.symm p1', ?_, ps ++ [v], ?_, ?_, ?_, (kT.trans k2).mut hD19, d2.upd ndl⟩
        · rw [List.length_map]
          exact small1000 (by omega)
        · rw [upd_same, List.map_append]
          rfl
        · rw [rs_snoc hi]
          exact InT_snoc h0 h1 p2
        · rw [take_snoc ho, inB_snoc (by rw [pl, take_len (by omega)]), p3, h2]
          rfl
      refine ⟨Tp, _, rfl, SqT.of hT, rfl, ov o, [.ref t], rfl, .ref t, [], rfl, ⟨t, _, rfl, SqT.of ht, rfl, .int _, [_], rfl, .int _, [], rfl, rfl, rfl, rfl, ?_⟩⟩
      dsimp only [tYes]
      rw [if_pos rfl]
      refine ⟨_, rfl, rfl, _, rfl, ?_⟩
      cases o with
      | none => exact iteT ⟨_, rfl, _, rfl, d, _, rfl, hdT, by omega, by omega, fun r2 G2 r20 r21 d2 k2 => fin r2 G2 r20 (by omega) rfl k2 d2⟩
      | some u =>
        have hu : 0 ≤ u ∧ u < (rs.getD i (0, 0)).1 := by
          rcases boxR_get hbs ho with z | ⟨t, e, t0, t1⟩
          · cases z
          · cases e
            exact ⟨t0, t1⟩
        refine iteF ⟨_, rfl, fin u G hu.1 hu.2 ?_ (Keep.refl _ _) hdT⟩
        show (decide (u = u) && true) = true
        rw [decide_eq_true rfl]
        rfl
    obtain ⟨ps, p1, p2, p3, kk, hd19⟩ := hp
    rw [List.take_length] at p2
    rw [List.take_of_length_le (by omega)] at p3
    have pl := p2.length
    refine ⟨D19, _, rfl, .inl ⟨SqL.of p1, fun t20 ht20 => ?_⟩⟩
    have x20 := Ex.new (o := .tup (ps.map V.int)) ht20
    have hx20 : PlacesT (upd H19 t20 (.tup (ps.map V.int))) t20 ps := upd_same
    have ha20 : BoxAt (upd H19 t20 (.tup (ps.map V.int))) a bs := x20 _ _ (kk _ _ nda ha18)
    have hc20 := x20 _ _ (kk _ _ ndc hc18)
    have hR20 := rings_ex4 x20 (hR18.keep kk hd18)
    have hd20 := hd19.ex x20
    have k20 := (k18.trans kk).trans (Keep.ex x20)
    clear x20 ht20 p1 kk hd19 ha18 hc18 hR18 hd18 k18 hD19 nda ndc ndl
    generalize upd H19 t20 (.tup (ps.map V.int)) = H20 at hx20 ha20 hc20 hR20 hd20 k20 ⊢
    have good2 := row_good (K := K) hR20 p2
    refine ⟨_, rfl, _, rfl, _, rfl, c, a, .ref t20, xs, rs, bs, inB bs ps, rfl, hc20, hR20, hl, ha20, hbs, .row hx20 p2, fun H21 e21 => ⟨true, by rw [p3], iteF ?_⟩⟩
    refine ⟨_, rfl, _, rfl, _, rfl, t20, _, rfl, .inr (SqT.of (e21 _ _ hx20)), fun l22 hl22 => ?_⟩
    have x22 := Ex.new (o := .lst (ps.map V.int)) hl22
    have e22 := e21.trans x22
    refine ⟨c, a, .ref l22, xs, rs, bs, false, rfl, e22 _ _ hc20, rings_ex4 e22 hR20, hl, e22 _ _ ha20, hbs, .no (.no (.lst upd_same)), fun H23 e23 => ⟨false, rfl, iteF ?_⟩⟩
    have e2023 := e22.trans e23
    refine ⟨_, rfl, _, rfl, _, rfl, by show 1 ≤ sizeLine; decide, fun q24 hq24 => ?_⟩
    have x24 := Ex.new (o := .tup [.int 0]) hq24
    refine ⟨t20, q24, _, _, rfl, rfl, (e2023.trans x24) _ _ hx20, upd_same, by rw [List.length_map]; exact sz_of (by show _ + 1 ≤ _; omega), fun p25 H25 x25 hp25 => ?_⟩
    have e25 := (e2023.trans x24).trans x25
    refine ⟨c, a, .ref p25, xs, rs, bs, false, rfl, e25 _ _ hc20, rings_ex4 e25 hR20, hl, e25 _ _ ha20, hbs, .no (.len hp25 (by rw [List.length_append, List.length_map, pl]; show ¬ _ + 1 = _; omega)), fun H26 e26 => ⟨false, rfl, iteF ?_⟩⟩
    have e2026 := e25.trans e26
    clear e21 e22 e23 e2023 x22 x24 x25 e25 hl22 hq24 hp25
    refine ⟨_, rfl, _, rfl, ?_⟩
    refine ⟨_, rfl, _, rfl, _, rfl, t20, _, rfl, e2026 _ _ hx20, fun s27 G271 x271 hs27 => ?_⟩
    rw [cutE_to (by rw [List.length_map]; omega)] at hs27
    have e271 := e2026.trans x271
    refine ⟨by show 1 ≤ sizeLine; decide, fun q27 hq27 => ?_⟩
    have x272 := Ex.new (o := .tup [.non]) hq27
    refine ⟨s27, q27, _, _, rfl, rfl, x272 _ _ hs27, upd_same, by rw [List.length_take, List.length_map]; exact sz_of (by show _ + 1 ≤ _; omega), fun m27 G273 x273 hm27 => ?_⟩
    have e273 := (e271.trans x272).trans x273
    refine ⟨_, rfl, _, rfl, _, _, rfl, rfl, _, rfl, t20, _, rfl, e273 _ _ hx20, fun u27 G274 x274 hu27 => ?_⟩
    rw [show (j : Int) + 1 = ((j + 1 : Nat) : Int) by omega, cutE_from (by rw [List.length_map]; omega)] at hu27
    refine ⟨m27, u27, _, _, rfl, rfl, x274 _ _ hm27, hu27, by rw [List.length_append, List.length_take, List.length_drop, List.length_map]; exact sz_of (by show _ + 1 + _ ≤ _; omega), fun w27 G275 x275 hw27 => ?_⟩
    have e27 := (e273.trans x274).trans x275
    have z27 := (((x271.trans x272).trans x273).trans x274).trans x275
    clear x271 x272 x273 x274 hs27 hm27 hu27 e271 e273 hq27
    exact ⟨c, a, .ref w27, xs, rs, bs, false, rfl, e27 _ _ hc20, rings_ex4 e27 hR20, hl, e27 _ _ ha20, hbs, .no (row_put (K := K) (R := intR K rs) (by rw [List.length_map, pl]) hj (fun i x h => BtwB.mono e27 (good2 i x h)) (.no .non) hw27), fun H28 e28 => ⟨false, rfl, k _ (hd20.ex (e27.trans e28)) (k20.trans (Keep.ex (e27.trans e28)))⟩⟩
end
end K1

namespace K1
open PySem PySem.Spec PyProof.Rows L2 Evl LX ZW ZM TE BX RT
section
variable {P : Program} {w : World} {K : PySem.W.Frag} {mg : Str → Option Value} {base : Heap}
theorem sql_keep {H H1 H2 : Hp} {p a : Addr} {xs : List V} (h0 : H p = none) (e : Ex H H1) (k : Keep p H1 H2) (h : SqL K H a xs) : SqL K H2 a xs := by
  rcases h with (h | ⟨o, h⟩) | h
  · exact .inl (.inl (k _ _ (ne_of_none h h0) (e _ _ h)))
  · exact .inl (.inr ⟨o, k _ _ (ne_of_none h h0) (e _ _ h)⟩)
  · exact .inr h
theorem boxR_cut {rs : List (Int × Int)} {i : Nat} {bs acc : List (Option Int)} {o : Option Int} (hb : BoxR rs bs) (ho : bs[i]? = some o) (ha : BoxR (rs.take i) acc) : BoxR (rs.take (i + 1)) (acc ++ [o]) ∧ BoxR (rs.take (i + 1)) (acc ++ [none]) := by
  have hi : i < rs.length := by
    have := (List.getElem?_eq_some_iff.mp ho).1
    rw [hb.length] at this
    exact this
  rw [rs_snoc hi]
  refine ⟨?_, BoxR_snocN ha⟩
  rcases boxR_get hb ho with rfl | ⟨t, rfl, t0, t1⟩
  · exact BoxR_snocN ha
  · exact BoxR_snocT t0 t1 ha
def spLaw (K : PySem.W.Frag) : Sp := fun vs H Q _ => ∃ (a : Addr) (ns : List Int), vs = [.ref a] ∧ SqL K H a (ns.map V.int) ∧ ns.length ≤ 63 ∧ ∀ H', Q (.bl true) H'
theorem ok_law (T : Txt K mg) {f : Addr} {fd : FuncData} (F : Fun K "law" "law" sLaw f fd) : FnOk P w K mg base CX0 9 f fd ["_law_script"] (spLaw K) := by
  refine F.ok scLaw (fun vs H Q E h => ?_) (fun cdv A outer s₀ H vs Q E hr h => ?_)
  · obtain ⟨a, ns, rfl, _⟩ := h
    rfl
  · obtain ⟨a, ns, rfl, hS, hlen, q⟩ := h
    obtain ⟨f1, fd1, D1⟩ := T.d_l_judged_right
    obtain ⟨f2, fd2, D2⟩ := T.d_size_of
    obtain ⟨f3, fd3, D3⟩ := T.d_l_drawn_box
    obtain ⟨f4, fd4, D4⟩ := T.d_l_chain
    obtain ⟨f5, fd5, D5⟩ := T.d_l_two_right
    obtain ⟨f6, fd6, D6⟩ := T.d_l_roll
    obtain ⟨f7, fd7, D7⟩ := T.d_l_all_tuples
    obtain ⟨f8, fd8, D8⟩ := T.d_l_dice
    have hr1 : Room 1 _ := hr.mono (by decide)
    have hr2 : Room 2 _ := hr.mono (by decide)
    have hr4 : Room 4 _ := hr.mono (by decide)
    have hr6 : Room 6 _ := hr.mono (by decide)
    have hr7 : Room 7 _ := hr.mono (by decide)
    have hr8 : Room 8 _ := hr.mono (by decide)
    refine ⟨_, pss_cons (ps_for PassesOwn.never rfl (pi_range1 (by rfl) T.z_range (pa_cons (pe_callB (call_max2 rfl) (by rfl) T.z_max (by decide +kernel) (pa_cons pe_int (pa_cons (pe_callB (call_min2 rfl) (by rfl) T.z_min (by decide +kernel) (pa_cons pe_int (pa_cons (pe_callB call_len_seq (by rfl) T.z_len PySem.boot_len (pa_cons (pv 0) pa_nil)) pa_nil))) pa_nil))) pa_nil)) (pg_name (i := 1) scLaw.nd rfl (.inl rfl))
        (pss_cons (ps_set (i := 2) scLaw.nd rfl (.inr rfl) (pe_call (ok_dice T D8) hr1 (by rfl) D8.g D8.F.kp D8.b .nil pass0 (pa_cons (pv 0) (pa_cons (pv 1) pa_nil))))
      (pss_cons (ps_set (i := 3) scLaw.nd rfl (.inl rfl) (pe_call (ok_chain T D4) hr4 (by rfl) D4.g D4.F.kp D4.b .nil pass0 (pa_cons (pv 2) (pa_cons (pe_op op_add pe_int (pe_call (ok_roll T D6) hr1 (by rfl) D6.g D6.F.kp D6.b .nil pass0 (pa_cons (pv 2) (pa_cons pe_int pa_nil)))) (pa_cons pe_int pa_nil)))))
      (pss_cons (ps_set (i := 4) scLaw.nd rfl (.inl rfl) (pe_call (ok_all_tuples T D7) hr1 (by rfl) D7.g D7.F.kp D7.b .nil pass0 (pa_cons (pv 3) pa_nil)))
      (pss_cons (ps_set (i := 5) scLaw.nd rfl (.inl rfl) (pe_call (ok_drawn_box T D3) hr2 (by rfl) D3.g D3.F.kp D3.b .nil pass0 (pa_cons (pv 2) (pa_cons (pv 3) pa_nil))))
      (pss_cons (ps_set (i := 7) scLaw.nd rfl (.inl rfl) (pe_callTy call_tuple_of (by rfl) T.z_tuple (by decide +kernel) (pa_cons (pe_lc (own := [("_law_told", 6)]) (g := gName 6) (tt := tYes) rfl scLaw.nd (pi_tup (pv 5))
        (blkOk_by (N := nLaw) (sc := defScope sLaw) (by decide +kernel)) (fun _ _ _ _ _ => (pg_name (i := 6) scLaw.nd rfl (.inl rfl))) (fun _ _ _ _ _ => pts_nil)
        (fun _ _ _ _ _ => (pe_ifExp (pt_cmpR op_gt (pe_call (ok_roll T D6) hr1 (by rfl) D6.g D6.F.kp D6.b .nil pass0 (pa_cons (pv 2) (pa_cons pe_int pa_nil))) pe_int (nomark _)) (pv 6) pe_non))) pa_nil)))
      (pss_cut (ps_if (pt_cmpR op_eq (pe_call (ok_roll T D6) hr1 (by rfl) D6.g D6.F.kp D6.b .nil pass0 (pa_cons (pv 2) (pa_cons pe_int pa_nil))) pe_int (nomark _)) (pss_one (ps_set (i := 7) scLaw.nd rfl (.inl rfl) (pe_call (ok_drawn_box T D3) hr2 (by rfl) D3.g D3.F.kp D3.b .nil pass0 (pa_cons (pv 2) (pa_cons (pv 3) pa_nil))))) pss_nil)
      (pss_cons (ps_if (PW.pt (pw_or (pt_not (pt_val (pe_call (ok_two_right T D5) hr8 (by rfl) D5.g D5.F.kp D5.b .nil pass0 (pa_cons (pv 2) (pa_cons (pv 3) (pa_cons (pv 5) (pa_cons (pv 7) (pa_cons (pv 4) pa_nil))))))))
          (pw_or1 (pt_not (pt_val (pe_call (ok_two_right T D5) hr8 (by rfl) D5.g D5.F.kp D5.b .nil pass0 (pa_cons (pv 2) (pa_cons (pv 3) (pa_cons (pv 7) (pa_cons (pv 5) (pa_cons (pv 4) pa_nil))))))))))) (pss_one (ps_ret pe_bl)) pss_nil)
      (pss_cons (ps_set (i := 8) scLaw.nd rfl (.inl rfl) (pe_call (ok_chain T D4) hr4 (by rfl) D4.g D4.F.kp D4.b .nil pass0 (pa_cons (pv 2) (pa_cons pe_int (pa_cons pe_int pa_nil)))))
      (pss_cons (ps_par (i := 9) (j := 10) (by rfl) scLaw.nd rfl rfl (by decide) rfl rfl (pa_cons (pe_call (ok_drawn_box T D3) hr2 (by rfl) D3.g D3.F.kp D3.b .nil pass0 (pa_cons (pv 2) (pa_cons (pv 8) pa_nil))) (pa_cons pe_int pa_nil)) (by rfl))
      (pss_cons (ps_for PassesOwn.never rfl (RZ.pi_zipA (by rfl) T.z_zip (pa_cons (pv 9) (pa_cons (pv 8) pa_nil))) (pg_tup (by rfl) (pgs_cons (pg_name (i := 6) scLaw.nd rfl (.inl rfl)) (pgs_cons (pg_tup (by rfl) (pgs_cons (pg_name (i := 11) scLaw.nd rfl (.inl rfl)) (pgs_cons (pg_name (i := 12) scLaw.nd rfl (.inl rfl)) pgs_nil))) pgs_nil)))
        (pss_one (ps_set (i := 10) scLaw.nd rfl (.inl rfl) (pe_op op_mul (pv 10) (pe_ifExp (pt_cmpR op_isN (pv 6) pe_non (nomark _)) (pv 11) pe_int)))))
      (pss_one (ps_if (PW.pt (pw_or (pt_cmpR op_ne (pe_call (ok_size_of T D2) hr6 (by rfl) D2.g D2.F.kp D2.b .nil pass0 (pa_cons (pv 8) (pa_cons (pv 9) pa_nil))) (pv 10) (nomark _))
          (pw_or (pt_not (pt_val (pe_call (ok_judged_right T D1) hr7 (by rfl) D1.g D1.F.kp D1.b .nil pass0 (pa_cons (pv 2) (pa_cons (pv 3) (pa_cons (pv 5) pa_nil))))))
          (pw_or1 (pt_not (pt_val (pe_call (ok_judged_right T D1) hr7 (by rfl) D1.g D1.F.kp D1.b .nil pass0 (pa_cons (pv 2) (pa_cons (pv 8) (pa_cons (pv 9) pa_nil)))))))))) (pss_one (ps_ret pe_bl)) pss_nil)))))))))))))
      (pss_one (ps_ret pe_bl)), ?_⟩
    refine ⟨_, rfl, a, _, rfl, .inl hS, 3, _, rfl, 1, _, rfl, _, rfl, ?_, ?_, for_range (lo := 0) (n := Int.toNat _) (fun i σ' H' => ∃ y1 y2 y3 y4 y5 y7 y8 y9 y10 y6 y11 y12, σ' = [some (.ref a), y1, y2, y3, y4, y5, y6, y7, y8, y9, y10, y11, y12] ∧ SqL K H' a (ns.map V.int)) ⟨none, none, none, none, none, none, none, none, none, none, none, none, rfl, hS⟩ (fun i σ' H' _ hp => ?_) (fun σ' H' hp => ?_)⟩
    · split <;> split <;> omega
    · rw [List.length_map]
      split <;> split <;> omega
    · obtain ⟨y1, y2, y3, y4, y5, y7, y8, y9, y10, y6, y11, y12, rfl, hS'⟩ := hp
      refine ⟨_, rfl, _, rfl, a, ns, i, ?_, hS', fun p H1 hp0 e1 hd1 => ?_⟩
      · rw [Int.zero_add]
        rfl
      refine ⟨_, rfl, _, rfl, p, 4, rfl, hd1, by decide, by decide, fun r H2 r0 r1 hd2 k2 => ⟨1, r, rfl, rfl, p, 1 + r, 4, rfl, hd2, by omega, by omega, by decide, by decide, fun c xs rs H3 hc3 hR3 hg hd3 k3' => ?_⟩⟩
      have k3 := k2.trans k3'
      have hl : 1 ≤ xs.length ∧ xs.length ≤ 4 := by omega
      have hl12 : 1 ≤ xs.length ∧ xs.length ≤ 12 := by omega
      have l2 : xs.length = rs.length := paired_len hR3
      refine ⟨_, rfl, c, xs, rs, rfl, hc3, hR3, hl.2, fun L ys H4 e4 hL4 hrow4 hsz => ?_⟩
      have hR4 : RingsAt H4 60 xs rs := paired_imp (fun _ _ z => RingAt.most (by decide) z) (rings_ex4 e4 hR3)
      have hc4 := e4 _ _ hc3
      have hd4 := hd3.ex e4
      have k4 := k3.trans (Keep.ex e4)
      clear hc3 hR3 hd3 k3' k3 e4 k2 hd2
      refine ⟨_, rfl, _, rfl, p, c, xs, rs, rfl, hd4, hc4, hR4, hl12.2, fun o1 bs H5 ho5 hbs hd5 k5' => ?_⟩
      have nL : L ≠ p := by
        obtain ⟨z1, z2, z3, z⟩ := hd4
        intro e
        rw [e, z] at hL4
        have h0 : [V.int z1, V.int z2, V.int z3] = ys := by
          injection hL4 with h
          injection h
        rw [← h0] at hrow4
        generalize allT rs = pss at hrow4
        cases hrow4 with
        | cons q _ =>
          obtain ⟨_, q, _⟩ := q
          cases q
      have hc5 := k5'.tup hd4 hc4
      have hR5 := hR4.keep k5' hd4
      have hL5 := k5' _ _ nL hL4
      have hrow5 : Rows H5 ys (allT rs) := hrow4.keep fun b xs z => k5'.tup hd4 z
      have k5 := k4.trans k5'
      have nc := hd5.ne_tup hc5
      have no := hd5.ne_tup ho5
      clear hc4 hR4 hL4 hrow4 k4 k5' hd4
      have hbl := hbs.length
      -- other
      refine ⟨_, rfl, o1, rfl, ⟨_, SqT.of ho5⟩, fun D6 hD6 => ?_⟩
      have nd6 : p ≠ D6 := hd5.ne_new hD6
      refine lc_tup (K := K) (a := o1) (xs := bs.map ov) (fun i H' => ∃ acc, H' D6 = some (.lst (acc.map ov)) ∧ BoxR (rs.take i) acc ∧ Keep p H5 H' ∧ Dice H' p) ⟨[], upd_same, .nil, Keep.new hD6, hd5.upd nd6⟩ (fun i H' _ hp => by obtain ⟨_, _, _, kk, _⟩ := hp; exact SqT.of (kk _ _ no ho5)) (fun i x H' hx hp => ?_) (fun H6 hp => ?_)
      · obtain ⟨acc, a1, a2, kk, hd'⟩ := hp
        obtain ⟨o, ho, rfl⟩ := ov_get hx
        obtain ⟨b1, b2⟩ := boxR_cut hbs ho a2
        have al : acc.length ≤ 12 := by
          rw [a2.length, List.length_take]
          omega
        have put : ∀ (z : Option Int) G, Dice G p → Keep p H' G → BoxR (rs.take (i + 1)) (acc ++ [z]) → ∃ ac, G D6 = some (.lst ac) ∧ ac.length < sizeLine ∧ (∃ acc, (upd G D6 (.lst (ac ++ [ov z]))) D6 = some (.lst (acc.map ov)) ∧ BoxR (rs.take (i + 1)) acc ∧ Keep p H5 (upd G D6 (.lst (ac ++ [ov z]))) ∧ Dice (upd G D6 (.lst (ac ++ [ov z]))) p) := fun z G dG kG bz => by
          refine ⟨_, kG _ _ nd6.symm a1, by rw [List.length_map]; exact small1000 (by omega), acc ++ [z], ?_, bz, (kk.trans kG).mut hD6, dG.upd nd6⟩
          rw [upd_same, List.map_append]
          rfl
        refine ⟨rfl, ?_⟩
        dsimp only [tYes]
        rw [if_pos rfl]
        refine ⟨_, rfl, p, 3, rfl, hd', by decide, by decide, fun r7 H7 r70 r71 hd7 k7 => ⟨_, _, rfl, rfl, _, rfl, ite2 (fun cc => ?_) (fun cc => ?_)⟩⟩
        · exact ⟨_, rfl, put o H7 hd7 k7 b1⟩
        · exact put none H7 hd7 k7 b2
      obtain ⟨acc, a1, a2, kk, hd6⟩ := hp
      rw [show (bs.map ov).length = rs.length by rw [List.length_map, hbl], List.take_length] at a2
      refine ⟨D6, _, rfl, .inl ⟨SqL.of a1, fun p7 hp7 => ?_⟩⟩
      have x7 := Ex.new (o := .tup (acc.map ov)) hp7
      have ho7 : BoxAt (upd H6 p7 (.tup (acc.map ov))) p7 acc := upd_same
      have k57 := kk.trans (Keep.ex x7)
      have hd7 := hd6.ex x7
      clear x7 hp7 a1 kk hd6 hD6 nd6
      generalize upd H6 p7 (.tup (acc.map ov)) = H7 at ho7 k57 hd7 ⊢
      refine ⟨fun σ' H' => ∃ p8 os z6, σ' = [some (.ref a), some (.int (0 + (i : Int))), some (.ref p), some (.ref c), some (.ref L), some (.ref o1), z6, some (.ref p8), y8, y9, y10, y11, y12] ∧ BoxAt H' p8 os ∧ BoxR rs os ∧ Keep p H5 H' ∧ Dice H' p, ?_, ?_⟩
      · refine ⟨_, rfl, p, 2, rfl, hd7, by decide, by decide, fun r8 H8 r80 r81 hd8 k8 => ⟨rfl, _, rfl, ite2 (fun cc => ?_) (fun cc => ?_)⟩⟩
        · have k58 := k57.trans k8
          exact ⟨_, rfl, _, rfl, p, c, xs, rs, rfl, hd8, k58 _ _ nc hc5, hR5.keep k58 hd5, hl12.2, fun p9 os H9 ho9 hos hd9 k9 => ⟨p9, os, _, rfl, ho9, hos, k58.trans k9, hd9⟩⟩
        · exact ⟨p7, acc, _, rfl, k8.tup hd7 ho7, a2, k57.trans k8, hd8⟩
      · rintro σ' H' ⟨p8, os, z6, rfl, ho8, hos, k58, hd8⟩
        have hc8 := k58 _ _ nc hc5
        have hR8 := hR5.keep k58 hd5
        have hL8 := k58 _ _ nL hL5
        have hrow8 : Rows H' ys (allT rs) := hrow5.keep fun b xs z => k58.tup hd5 z
        have h18 : BoxAt H' o1 bs := k58 _ _ no ho5
        refine ⟨_, rfl, _, rfl, _, rfl, _, rfl, _, rfl, _, c, o1, p8, L, xs, rs, bs, os, ys, rfl, hc8, hR8, hl12, h18, hbs, ho8, hos, hL8, hrow8, hsz, fun H9 e9 => ⟨true, rfl, iteF ?_⟩⟩
        refine ⟨_, rfl, _, rfl, _, rfl, _, rfl, _, rfl, _, c, p8, o1, L, xs, rs, os, bs, ys, rfl, e9 _ _ hc8, rings_ex4 e9 hR8, hl12, e9 _ _ ho8, hos, e9 _ _ h18, hbs, e9 _ _ hL8, hrow8.ex e9, hsz, fun H10 e10' => ⟨true, rfl, iteF ?_⟩⟩
        have e10 := e9.trans e10'
        have hd10 := hd8.ex e10
        have k510 := k58.trans (Keep.ex e10)
        clear hc8 hR8 hL8 hrow8 h18 ho8 e9 e10' e10 hd8 k58
        -- the long chain
        refine ⟨_, rfl, p, 12, 60, rfl, hd10, by decide, by decide, by decide, by decide, fun c2 xs2 rs2 H11 hc11 hR11 hg2 hd11 k11 => ?_⟩
        have l22 : xs2.length = rs2.length := paired_len hR11
        refine ⟨_, rfl, _, rfl, p, c2, xs2, rs2, rfl, hd11, hc11, hR11, by omega, fun w12 ws H12 hw12 hws hd12 k12 => ?_⟩
        have hc12 := k12.tup hd11 hc11
        have hR12 := hR11.keep k12 hd11
        have k512 := (k510.trans k11).trans k12
        have hwl := hws.length
        clear hc11 hR11 k11 k510 hd10
        refine ⟨_, _, rfl, _, rfl, _, rfl, w12, c2, _, _, rfl, .inr ⟨SqT.of hw12, SqT.of hc12, ?_⟩⟩
        refine for_zipT (K := K) (a := w12) (b := c2) (xs := ws.map ov) (ys := xs2) (n := ws.length) (by rw [List.length_map]; exact Nat.le_refl _) (by omega) (.inl (by rw [List.length_map]; exact Nat.le_refl _)) (fun i σ' H' => ∃ (m : Nat) (z6 z11 z12 : Option V) (y1 : V), σ' = [some (.ref a), some y1, some (.ref p), some (.ref c), some (.ref L), some (.ref o1), z6, some (.ref p8), some (.ref c2), some (.ref w12), some (.int m), z11, z12] ∧ m * sizeB (rs2.drop i) (ws.drop i) = sizeB rs2 ws ∧ Ex H12 H') ⟨1, _, _, _, _, rfl, by simp, Ex.refl _⟩ (fun i σ' H' hp => ?_) (fun i x y Tp σ' H' hi hx hy hp nT => ?_) (fun σ' H13 hp => ?_)
        · obtain ⟨_, _, _, _, _, _, _, e⟩ := hp
          exact ⟨SqT.of (e _ _ hw12), SqT.of (e _ _ hc12)⟩
        · obtain ⟨m, z6, z11, z12, y1, rfl, hm, e⟩ := hp
          obtain ⟨o, ho, rfl⟩ := ov_get hx
          have eT := Ex.new (o := .tup [ov o, y]) nT
          have hy1 := rings_nth4 (rings_ex4 (e.trans eT) hR12) hy
          have hn := nAt_eq hR12 (show i < rs2.length by omega)
          obtain ⟨t, rfl, ht, b1, b2, b3, b4⟩ := hy1
          have hst := size_step hwl ho
          refine ⟨Tp, _, rfl, SqT.of upd_same, rfl, ov o, [.ref t], rfl, .ref t, [], rfl, ⟨t, _, rfl, SqT.of ht, rfl, .int _, [_], rfl, .int _, [], rfl, rfl, rfl, ?_⟩⟩
          refine ⟨_, rfl, _, rfl, rfl, _, rfl, ?_⟩
          cases o with
          | none =>
            refine iteT ⟨_, rfl, _, _, rfl, rfl, .inr (by constructor <;> omega), m * (K1N.nAt rs2 i), some .non, some (.int (K1N.nAt rs2 i : Int)), some (.int (K1N.sAt rs2 i)), y1, ?_, ?_, e.trans eT⟩
            · rw [Int.natCast_mul] <;> rfl
            · rw [← hm, hst, if_pos rfl, ← hn, Int.toNat_natCast, Nat.mul_assoc]
          | some u =>
            refine iteF ⟨_, _, rfl, rfl, .inr (by constructor <;> omega), m, some (.int u), some (.int (K1N.nAt rs2 i : Int)), some (.int (K1N.sAt rs2 i)), y1, ?_, ?_, e.trans eT⟩
            · have e1 : (m : Int) * 1 = m := Int.mul_one _
              show [some (V.ref a), some y1, some (V.ref p), some (V.ref c), some (V.ref L), some (V.ref o1), some (V.int u), some (V.ref p8), some (V.ref c2), some (V.ref w12), some (V.int ((m : Int) * 1)), some (V.int (K1N.nAt rs2 i : Int)), some (V.int (K1N.sAt rs2 i))] = _
              rw [e1]
            · rw [← hm, hst, if_neg (by intro z; cases z), Nat.one_mul]
        · obtain ⟨m, z6, z11, z12, y1, rfl, hm, e13⟩ := hp
          rw [List.drop_of_length_le (Nat.le_refl ws.length), List.drop_of_length_le (by omega : rs2.length ≤ ws.length)] at hm
          have hm2 : m = sizeB rs2 ws := by
            rw [← hm]
            show m = m * 1
            omega
          subst hm2
          have k513 := k512.trans (Keep.ex e13)
          have hd13 := hd12.ex e13
          have hl22 : 1 ≤ xs2.length ∧ xs2.length ≤ 12 := by omega
          refine ⟨_, rfl, _, rfl, c2, w12, xs2, rs2, ws, rfl, e13 _ _ hc12, rings_ex4 e13 hR12, hl22, e13 _ _ hw12, hws, fun H14 e14 => ?_⟩
          have k514 := k513.trans (Keep.ex e14)
          have hd14 := hd13.ex e14
          have e1214 := e13.trans e14
          refine ⟨_, rfl, rfl, _, rfl, ?_⟩
          rw [decide_eq_true (rfl : V.int ((sizeB rs2 ws : Nat) : Int) = V.int ((sizeB rs2 ws : Nat) : Int))]
          refine iteF ?_
          refine ⟨_, rfl, _, rfl, _, rfl, p, c, o1, xs, rs, bs, rfl, hd14, k514 _ _ nc hc5, hR5.keep k514 hd5, hl12, k514 _ _ no ho5, hbs, fun H15 hd15 k15 => ⟨true, rfl, iteF ?_⟩⟩
          have n2 := hd12.ne_tup hc12
          have nw := hd12.ne_tup hw12
          have k1215 := (Keep.ex e1214).trans k15
          refine ⟨_, rfl, _, rfl, _, rfl, p, c2, w12, xs2, rs2, ws, rfl, hd15, k1215 _ _ n2 hc12, hR12.keep k1215 hd12, hl22, k1215 _ _ nw hw12, hws, fun H16 hd16 k16 => ⟨true, rfl, iteF ⟨_, _, _, _, _, _, _, _, _, _, _, _, rfl, ?_⟩⟩⟩
          exact sql_keep hp0 e1 (((k5.trans k514).trans k15).trans k16) hS'
    · exact q _
end
end K1

namespace K1
open PySem PySem.Spec PyProof.Rows L2
/-- what a def of the text leaves -/
theorem mk_def {K : PySem.W.Frag} {h : Heap} {mg : Str → Option Value} {x : Str} {st : Stmt} {ps : List Str} {f : Addr} {oc : Value} {od an : Option Addr} {osl : Array (Option Value)} {kV doc pm cdv ct : Value} (X : K.In h) (G : h.Ns mainGlobals mg)
    (a : PySem.W.nsIn K mainGlobals x = some (some (.ref f))) (l : K.lookup f = some ⟨oc, od, .func (PySem.W.fnOf x x (defArgs st) (defBody st) (defScope st) .none kV doc pm an cdv ct), osl⟩) (c : PySem.W.codeIn K cdv x = true) (k : PySem.W.keepIn K (.ref f) = true)
    (b : ∀ (kV doc pm : Value) (an : Option Addr) (cdv ct : Value) (us : List Value), us.length = ps.length → bindArgs (PySem.W.fnOf x x (defArgs st) (defBody st) (defScope st) .none kV doc pm an cdv ct) ⟨us, []⟩ = pure (ps.zip us)) :
    ∃ f fd, DefAt K mg x st ps f fd := ⟨f, _, ⟨fun_mk (st := st) l c k, PySem.W.mg_of X G a, (fun_mk (st := st) l c k).binds b⟩⟩
theorem all_mk {P : Program} {w : World} {K : PySem.W.Frag} {h : Heap} {mg : Str → Option Value} {fa : Addr} (X : K.In h) (G : h.Ns mainGlobals mg) (hfa : mg "law" = some (.ref fa)) (vBOUND : ∃ t, mg "BOUND" = some (.int (10 ^ 60) t))
    {tRINGS tPLACES : Tok} (gRINGS : PySem.W.nsIn K mainGlobals "MOST_RINGS" = some (some (.int 12 tRINGS))) (gPLACES : PySem.W.nsIn K mainGlobals "MOST_PLACES" = some (some (.int 60 tPLACES)))
    (z_isinstance : PySem.W.nsIn K mainGlobals "isinstance" = some none) (z_len : PySem.W.nsIn K mainGlobals "len" = some none) (z_int : PySem.W.nsIn K mainGlobals "int" = some none) (z_bool : PySem.W.nsIn K mainGlobals "bool" = some none) (z_tuple : PySem.W.nsIn K mainGlobals "tuple" = some none) (z_all : PySem.W.nsIn K mainGlobals "all" = some none) (z_range : PySem.W.nsIn K mainGlobals "range" = some none) (z_abs : PySem.W.nsIn K mainGlobals "abs" = some none) (z_min : PySem.W.nsIn K mainGlobals "min" = some none) (z_max : PySem.W.nsIn K mainGlobals "max" = some none) (z_list : PySem.W.nsIn K mainGlobals "list" = some none) (z_zip : PySem.W.nsIn K mainGlobals "zip" = some none)
    {f0 : Addr} {oc0 : Value} {od0 an0 : Option Addr} {sl0 : Array (Option Value)} {kV0 dc0 pm0 cd0 ct0 : Value}
    (a0 : PySem.W.nsIn K mainGlobals "is_integer" = some (some (.ref f0))) (l0 : K.lookup f0 = some ⟨oc0, od0, .func (PySem.W.fnOf "is_integer" "is_integer" (defArgs sIsInteger) (defBody sIsInteger) (defScope sIsInteger) .none kV0 dc0 pm0 an0 cd0 ct0), sl0⟩) (c0 : PySem.W.codeIn K cd0 "is_integer" = true) (k0 : PySem.W.keepIn K (.ref f0) = true)
    {f1 : Addr} {oc1 : Value} {od1 an1 : Option Addr} {sl1 : Array (Option Value)} {kV1 dc1 pm1 cd1 ct1 : Value}
    (a1 : PySem.W.nsIn K mainGlobals "is_between" = some (some (.ref f1))) (l1 : K.lookup f1 = some ⟨oc1, od1, .func (PySem.W.fnOf "is_between" "is_between" (defArgs sIsBetween) (defBody sIsBetween) (defScope sIsBetween) .none kV1 dc1 pm1 an1 cd1 ct1), sl1⟩) (c1 : PySem.W.codeIn K cd1 "is_between" = true) (k1 : PySem.W.keepIn K (.ref f1) = true)
    {f2 : Addr} {oc2 : Value} {od2 an2 : Option Addr} {sl2 : Array (Option Value)} {kV2 dc2 pm2 cd2 ct2 : Value}
    (a2 : PySem.W.nsIn K mainGlobals "is_pair" = some (some (.ref f2))) (l2 : K.lookup f2 = some ⟨oc2, od2, .func (PySem.W.fnOf "is_pair" "is_pair" (defArgs sIsPair) (defBody sIsPair) (defScope sIsPair) .none kV2 dc2 pm2 an2 cd2 ct2), sl2⟩) (c2 : PySem.W.codeIn K cd2 "is_pair" = true) (k2 : PySem.W.keepIn K (.ref f2) = true)
    {f3 : Addr} {oc3 : Value} {od3 an3 : Option Addr} {sl3 : Array (Option Value)} {kV3 dc3 pm3 cd3 ct3 : Value}
    (a3 : PySem.W.nsIn K mainGlobals "is_ring" = some (some (.ref f3))) (l3 : K.lookup f3 = some ⟨oc3, od3, .func (PySem.W.fnOf "is_ring" "is_ring" (defArgs sIsRing) (defBody sIsRing) (defScope sIsRing) .none kV3 dc3 pm3 an3 cd3 ct3), sl3⟩) (c3 : PySem.W.codeIn K cd3 "is_ring" = true) (k3 : PySem.W.keepIn K (.ref f3) = true)
    {f4 : Addr} {oc4 : Value} {od4 an4 : Option Addr} {sl4 : Array (Option Value)} {kV4 dc4 pm4 cd4 ct4 : Value}
    (a4 : PySem.W.nsIn K mainGlobals "is_chain" = some (some (.ref f4))) (l4 : K.lookup f4 = some ⟨oc4, od4, .func (PySem.W.fnOf "is_chain" "is_chain" (defArgs sIsChain) (defBody sIsChain) (defScope sIsChain) .none kV4 dc4 pm4 an4 cd4 ct4), sl4⟩) (c4 : PySem.W.codeIn K cd4 "is_chain" = true) (k4 : PySem.W.keepIn K (.ref f4) = true)
    {f5 : Addr} {oc5 : Value} {od5 an5 : Option Addr} {sl5 : Array (Option Value)} {kV5 dc5 pm5 cd5 ct5 : Value}
    (a5 : PySem.W.nsIn K mainGlobals "check_chain" = some (some (.ref f5))) (l5 : K.lookup f5 = some ⟨oc5, od5, .func (PySem.W.fnOf "check_chain" "check_chain" (defArgs sCheckChain) (defBody sCheckChain) (defScope sCheckChain) .none kV5 dc5 pm5 an5 cd5 ct5), sl5⟩) (c5 : PySem.W.codeIn K cd5 "check_chain" = true) (k5 : PySem.W.keepIn K (.ref f5) = true)
    {f6 : Addr} {oc6 : Value} {od6 an6 : Option Addr} {sl6 : Array (Option Value)} {kV6 dc6 pm6 cd6 ct6 : Value}
    (a6 : PySem.W.nsIn K mainGlobals "lies_told" = some (some (.ref f6))) (l6 : K.lookup f6 = some ⟨oc6, od6, .func (PySem.W.fnOf "lies_told" "lies_told" (defArgs sLiesTold) (defBody sLiesTold) (defScope sLiesTold) .none kV6 dc6 pm6 an6 cd6 ct6), sl6⟩) (c6 : PySem.W.codeIn K cd6 "lies_told" = true) (k6 : PySem.W.keepIn K (.ref f6) = true)
    {f7 : Addr} {oc7 : Value} {od7 an7 : Option Addr} {sl7 : Array (Option Value)} {kV7 dc7 pm7 cd7 ct7 : Value}
    (a7 : PySem.W.nsIn K mainGlobals "lies_boxed" = some (some (.ref f7))) (l7 : K.lookup f7 = some ⟨oc7, od7, .func (PySem.W.fnOf "lies_boxed" "lies_boxed" (defArgs sLiesBoxed) (defBody sLiesBoxed) (defScope sLiesBoxed) .none kV7 dc7 pm7 an7 cd7 ct7), sl7⟩) (c7 : PySem.W.codeIn K cd7 "lies_boxed" = true) (k7 : PySem.W.keepIn K (.ref f7) = true)
    {f8 : Addr} {oc8 : Value} {od8 an8 : Option Addr} {sl8 : Array (Option Value)} {kV8 dc8 pm8 cd8 ct8 : Value}
    (a8 : PySem.W.nsIn K mainGlobals "check_box" = some (some (.ref f8))) (l8 : K.lookup f8 = some ⟨oc8, od8, .func (PySem.W.fnOf "check_box" "check_box" (defArgs sCheckBox) (defBody sCheckBox) (defScope sCheckBox) .none kV8 dc8 pm8 an8 cd8 ct8), sl8⟩) (c8 : PySem.W.codeIn K cd8 "check_box" = true) (k8 : PySem.W.keepIn K (.ref f8) = true)
    {f9 : Addr} {oc9 : Value} {od9 an9 : Option Addr} {sl9 : Array (Option Value)} {kV9 dc9 pm9 cd9 ct9 : Value}
    (a9 : PySem.W.nsIn K mainGlobals "is_box" = some (some (.ref f9))) (l9 : K.lookup f9 = some ⟨oc9, od9, .func (PySem.W.fnOf "is_box" "is_box" (defArgs sIsBox) (defBody sIsBox) (defScope sIsBox) .none kV9 dc9 pm9 an9 cd9 ct9), sl9⟩) (c9 : PySem.W.codeIn K cd9 "is_box" = true) (k9 : PySem.W.keepIn K (.ref f9) = true)
    {f10 : Addr} {oc10 : Value} {od10 an10 : Option Addr} {sl10 : Array (Option Value)} {kV10 dc10 pm10 cd10 ct10 : Value}
    (a10 : PySem.W.nsIn K mainGlobals "lies_in" = some (some (.ref f10))) (l10 : K.lookup f10 = some ⟨oc10, od10, .func (PySem.W.fnOf "lies_in" "lies_in" (defArgs sLiesIn) (defBody sLiesIn) (defScope sLiesIn) .none kV10 dc10 pm10 an10 cd10 ct10), sl10⟩) (c10 : PySem.W.codeIn K cd10 "lies_in" = true) (k10 : PySem.W.keepIn K (.ref f10) = true)
    {f11 : Addr} {oc11 : Value} {od11 an11 : Option Addr} {sl11 : Array (Option Value)} {kV11 dc11 pm11 cd11 ct11 : Value}
    (a11 : PySem.W.nsIn K mainGlobals "is_in_box" = some (some (.ref f11))) (l11 : K.lookup f11 = some ⟨oc11, od11, .func (PySem.W.fnOf "is_in_box" "is_in_box" (defArgs sIsInBox) (defBody sIsInBox) (defScope sIsInBox) .none kV11 dc11 pm11 an11 cd11 ct11), sl11⟩) (c11 : PySem.W.codeIn K cd11 "is_in_box" = true) (k11 : PySem.W.keepIn K (.ref f11) = true)
    {f12 : Addr} {oc12 : Value} {od12 an12 : Option Addr} {sl12 : Array (Option Value)} {kV12 dc12 pm12 cd12 ct12 : Value}
    (a12 : PySem.W.nsIn K mainGlobals "size_of" = some (some (.ref f12))) (l12 : K.lookup f12 = some ⟨oc12, od12, .func (PySem.W.fnOf "size_of" "size_of" (defArgs sSizeOf) (defBody sSizeOf) (defScope sSizeOf) .none kV12 dc12 pm12 an12 cd12 ct12), sl12⟩) (c12 : PySem.W.codeIn K cd12 "size_of" = true) (k12 : PySem.W.keepIn K (.ref f12) = true)
    {f13 : Addr} {oc13 : Value} {od13 an13 : Option Addr} {sl13 : Array (Option Value)} {kV13 dc13 pm13 cd13 ct13 : Value}
    (a13 : PySem.W.nsIn K mainGlobals "check_boxes" = some (some (.ref f13))) (l13 : K.lookup f13 = some ⟨oc13, od13, .func (PySem.W.fnOf "check_boxes" "check_boxes" (defArgs sCheckBoxes) (defBody sCheckBoxes) (defScope sCheckBoxes) .none kV13 dc13 pm13 an13 cd13 ct13), sl13⟩) (c13 : PySem.W.codeIn K cd13 "check_boxes" = true) (k13 : PySem.W.keepIn K (.ref f13) = true)
    {f14 : Addr} {oc14 : Value} {od14 an14 : Option Addr} {sl14 : Array (Option Value)} {kV14 dc14 pm14 cd14 ct14 : Value}
    (a14 : PySem.W.nsIn K mainGlobals "holds_box" = some (some (.ref f14))) (l14 : K.lookup f14 = some ⟨oc14, od14, .func (PySem.W.fnOf "holds_box" "holds_box" (defArgs sHoldsBox) (defBody sHoldsBox) (defScope sHoldsBox) .none kV14 dc14 pm14 an14 cd14 ct14), sl14⟩) (c14 : PySem.W.codeIn K cd14 "holds_box" = true) (k14 : PySem.W.keepIn K (.ref f14) = true)
    {f15 : Addr} {oc15 : Value} {od15 an15 : Option Addr} {sl15 : Array (Option Value)} {kV15 dc15 pm15 cd15 ct15 : Value}
    (a15 : PySem.W.nsIn K mainGlobals "meeting" = some (some (.ref f15))) (l15 : K.lookup f15 = some ⟨oc15, od15, .func (PySem.W.fnOf "meeting" "meeting" (defArgs sMeeting) (defBody sMeeting) (defScope sMeeting) .none kV15 dc15 pm15 an15 cd15 ct15), sl15⟩) (c15 : PySem.W.codeIn K cd15 "meeting" = true) (k15 : PySem.W.keepIn K (.ref f15) = true)
    {f16 : Addr} {oc16 : Value} {od16 an16 : Option Addr} {sl16 : Array (Option Value)} {kV16 dc16 pm16 cd16 ct16 : Value}
    (a16 : PySem.W.nsIn K mainGlobals "_law_dice" = some (some (.ref f16))) (l16 : K.lookup f16 = some ⟨oc16, od16, .func (PySem.W.fnOf "_law_dice" "_law_dice" (defArgs sLDice) (defBody sLDice) (defScope sLDice) .none kV16 dc16 pm16 an16 cd16 ct16), sl16⟩) (c16 : PySem.W.codeIn K cd16 "_law_dice" = true) (k16 : PySem.W.keepIn K (.ref f16) = true)
    {f17 : Addr} {oc17 : Value} {od17 an17 : Option Addr} {sl17 : Array (Option Value)} {kV17 dc17 pm17 cd17 ct17 : Value}
    (a17 : PySem.W.nsIn K mainGlobals "_law_roll" = some (some (.ref f17))) (l17 : K.lookup f17 = some ⟨oc17, od17, .func (PySem.W.fnOf "_law_roll" "_law_roll" (defArgs sLRoll) (defBody sLRoll) (defScope sLRoll) .none kV17 dc17 pm17 an17 cd17 ct17), sl17⟩) (c17 : PySem.W.codeIn K cd17 "_law_roll" = true) (k17 : PySem.W.keepIn K (.ref f17) = true)
    {f18 : Addr} {oc18 : Value} {od18 an18 : Option Addr} {sl18 : Array (Option Value)} {kV18 dc18 pm18 cd18 ct18 : Value}
    (a18 : PySem.W.nsIn K mainGlobals "_law_one_of" = some (some (.ref f18))) (l18 : K.lookup f18 = some ⟨oc18, od18, .func (PySem.W.fnOf "_law_one_of" "_law_one_of" (defArgs sLOneOf) (defBody sLOneOf) (defScope sLOneOf) .none kV18 dc18 pm18 an18 cd18 ct18), sl18⟩) (c18 : PySem.W.codeIn K cd18 "_law_one_of" = true) (k18 : PySem.W.keepIn K (.ref f18) = true)
    {f19 : Addr} {oc19 : Value} {od19 an19 : Option Addr} {sl19 : Array (Option Value)} {kV19 dc19 pm19 cd19 ct19 : Value}
    (a19 : PySem.W.nsIn K mainGlobals "_law_common" = some (some (.ref f19))) (l19 : K.lookup f19 = some ⟨oc19, od19, .func (PySem.W.fnOf "_law_common" "_law_common" (defArgs sLCommon) (defBody sLCommon) (defScope sLCommon) .none kV19 dc19 pm19 an19 cd19 ct19), sl19⟩) (c19 : PySem.W.codeIn K cd19 "_law_common" = true) (k19 : PySem.W.keepIn K (.ref f19) = true)
    {f20 : Addr} {oc20 : Value} {od20 an20 : Option Addr} {sl20 : Array (Option Value)} {kV20 dc20 pm20 cd20 ct20 : Value}
    (a20 : PySem.W.nsIn K mainGlobals "_law_ring" = some (some (.ref f20))) (l20 : K.lookup f20 = some ⟨oc20, od20, .func (PySem.W.fnOf "_law_ring" "_law_ring" (defArgs sLRing) (defBody sLRing) (defScope sLRing) .none kV20 dc20 pm20 an20 cd20 ct20), sl20⟩) (c20 : PySem.W.codeIn K cd20 "_law_ring" = true) (k20 : PySem.W.keepIn K (.ref f20) = true)
    {f21 : Addr} {oc21 : Value} {od21 an21 : Option Addr} {sl21 : Array (Option Value)} {kV21 dc21 pm21 cd21 ct21 : Value}
    (a21 : PySem.W.nsIn K mainGlobals "_law_ring_of" = some (some (.ref f21))) (l21 : K.lookup f21 = some ⟨oc21, od21, .func (PySem.W.fnOf "_law_ring_of" "_law_ring_of" (defArgs sLRingOf) (defBody sLRingOf) (defScope sLRingOf) .none kV21 dc21 pm21 an21 cd21 ct21), sl21⟩) (c21 : PySem.W.codeIn K cd21 "_law_ring_of" = true) (k21 : PySem.W.keepIn K (.ref f21) = true)
    {f22 : Addr} {oc22 : Value} {od22 an22 : Option Addr} {sl22 : Array (Option Value)} {kV22 dc22 pm22 cd22 ct22 : Value}
    (a22 : PySem.W.nsIn K mainGlobals "_law_chain" = some (some (.ref f22))) (l22 : K.lookup f22 = some ⟨oc22, od22, .func (PySem.W.fnOf "_law_chain" "_law_chain" (defArgs sLChain) (defBody sLChain) (defScope sLChain) .none kV22 dc22 pm22 an22 cd22 ct22), sl22⟩) (c22 : PySem.W.codeIn K cd22 "_law_chain" = true) (k22 : PySem.W.keepIn K (.ref f22) = true)
    {f23 : Addr} {oc23 : Value} {od23 an23 : Option Addr} {sl23 : Array (Option Value)} {kV23 dc23 pm23 cd23 ct23 : Value}
    (a23 : PySem.W.nsIn K mainGlobals "_law_all_tuples" = some (some (.ref f23))) (l23 : K.lookup f23 = some ⟨oc23, od23, .func (PySem.W.fnOf "_law_all_tuples" "_law_all_tuples" (defArgs sLAllTuples) (defBody sLAllTuples) (defScope sLAllTuples) .none kV23 dc23 pm23 an23 cd23 ct23), sl23⟩) (c23 : PySem.W.codeIn K cd23 "_law_all_tuples" = true) (k23 : PySem.W.keepIn K (.ref f23) = true)
    {f24 : Addr} {oc24 : Value} {od24 an24 : Option Addr} {sl24 : Array (Option Value)} {kV24 dc24 pm24 cd24 ct24 : Value}
    (a24 : PySem.W.nsIn K mainGlobals "_law_is_in" = some (some (.ref f24))) (l24 : K.lookup f24 = some ⟨oc24, od24, .func (PySem.W.fnOf "_law_is_in" "_law_is_in" (defArgs sLIsIn) (defBody sLIsIn) (defScope sLIsIn) .none kV24 dc24 pm24 an24 cd24 ct24), sl24⟩) (c24 : PySem.W.codeIn K cd24 "_law_is_in" = true) (k24 : PySem.W.keepIn K (.ref f24) = true)
    {f25 : Addr} {oc25 : Value} {od25 an25 : Option Addr} {sl25 : Array (Option Value)} {kV25 dc25 pm25 cd25 ct25 : Value}
    (a25 : PySem.W.nsIn K mainGlobals "_law_drawn_box" = some (some (.ref f25))) (l25 : K.lookup f25 = some ⟨oc25, od25, .func (PySem.W.fnOf "_law_drawn_box" "_law_drawn_box" (defArgs sLDrawnBox) (defBody sLDrawnBox) (defScope sLDrawnBox) .none kV25 dc25 pm25 an25 cd25 ct25), sl25⟩) (c25 : PySem.W.codeIn K cd25 "_law_drawn_box" = true) (k25 : PySem.W.keepIn K (.ref f25) = true)
    {f26 : Addr} {oc26 : Value} {od26 an26 : Option Addr} {sl26 : Array (Option Value)} {kV26 dc26 pm26 cd26 ct26 : Value}
    (a26 : PySem.W.nsIn K mainGlobals "_law_two_right" = some (some (.ref f26))) (l26 : K.lookup f26 = some ⟨oc26, od26, .func (PySem.W.fnOf "_law_two_right" "_law_two_right" (defArgs sLTwoRight) (defBody sLTwoRight) (defScope sLTwoRight) .none kV26 dc26 pm26 an26 cd26 ct26), sl26⟩) (c26 : PySem.W.codeIn K cd26 "_law_two_right" = true) (k26 : PySem.W.keepIn K (.ref f26) = true)
    {f27 : Addr} {oc27 : Value} {od27 an27 : Option Addr} {sl27 : Array (Option Value)} {kV27 dc27 pm27 cd27 ct27 : Value}
    (a27 : PySem.W.nsIn K mainGlobals "_law_judged_right" = some (some (.ref f27))) (l27 : K.lookup f27 = some ⟨oc27, od27, .func (PySem.W.fnOf "_law_judged_right" "_law_judged_right" (defArgs sLJudgedRight) (defBody sLJudgedRight) (defScope sLJudgedRight) .none kV27 dc27 pm27 an27 cd27 ct27), sl27⟩) (c27 : PySem.W.codeIn K cd27 "_law_judged_right" = true) (k27 : PySem.W.keepIn K (.ref f27) = true)
    {f28 : Addr} {oc28 : Value} {od28 an28 : Option Addr} {sl28 : Array (Option Value)} {kV28 dc28 pm28 cd28 ct28 : Value}
    (a28 : PySem.W.nsIn K mainGlobals "law" = some (some (.ref f28))) (l28 : K.lookup f28 = some ⟨oc28, od28, .func (PySem.W.fnOf "law" "law" (defArgs sLaw) (defBody sLaw) (defScope sLaw) .none kV28 dc28 pm28 an28 cd28 ct28), sl28⟩) (c28 : PySem.W.codeIn K cd28 "law" = true) (k28 : PySem.W.keepIn K (.ref f28) = true) :
    ∃ fd : FuncData, (∀ (s : Shared) (v : Value), BindsTo s fd ⟨[v], []⟩ [("_law_script", v)]) ∧ ∀ base : Heap, K.In base → base.Ns mainGlobals mg → FnOk P w K mg base CX0 9 fa fd ["_law_script"] (spLaw K) := by
  have e := hfa.symm.trans (PySem.W.mg_of X G a28)
  cases e
  have T : Txt K mg :=
    { z_isinstance := PySem.W.mg_none_of X G z_isinstance, z_len := PySem.W.mg_none_of X G z_len, z_int := PySem.W.mg_none_of X G z_int, z_bool := PySem.W.mg_none_of X G z_bool, z_tuple := PySem.W.mg_none_of X G z_tuple, z_all := PySem.W.mg_none_of X G z_all, z_range := PySem.W.mg_none_of X G z_range, z_abs := PySem.W.mg_none_of X G z_abs, z_min := PySem.W.mg_none_of X G z_min, z_max := PySem.W.mg_none_of X G z_max, z_list := PySem.W.mg_none_of X G z_list, z_zip := PySem.W.mg_none_of X G z_zip, v_BOUND := vBOUND, v_RINGS := ⟨tRINGS, PySem.W.mg_of X G gRINGS⟩, v_PLACES := ⟨tPLACES, PySem.W.mg_of X G gPLACES⟩,
      d_is_integer := mk_def (ps := ["value"]) X G a0 l0 c0 k0 fun _ _ _ _ _ _ us hl => match us, hl with | [_], _ => rfl,
      d_is_between := mk_def (ps := ["value", "low", "high"]) X G a1 l1 c1 k1 fun _ _ _ _ _ _ us hl => match us, hl with | [_, _, _], _ => rfl,
      d_is_pair := mk_def (ps := ["value"]) X G a2 l2 c2 k2 fun _ _ _ _ _ _ us hl => match us, hl with | [_], _ => rfl,
      d_is_ring := mk_def (ps := ["value"]) X G a3 l3 c3 k3 fun _ _ _ _ _ _ us hl => match us, hl with | [_], _ => rfl,
      d_is_chain := mk_def (ps := ["value"]) X G a4 l4 c4 k4 fun _ _ _ _ _ _ us hl => match us, hl with | [_], _ => rfl,
      d_check_chain := mk_def (ps := ["chain"]) X G a5 l5 c5 k5 fun _ _ _ _ _ _ us hl => match us, hl with | [_], _ => rfl,
      d_lies_told := mk_def (ps := ["chain", "value"]) X G a6 l6 c6 k6 fun _ _ _ _ _ _ us hl => match us, hl with | [_, _], _ => rfl,
      d_lies_boxed := mk_def (ps := ["chain", "value"]) X G a7 l7 c7 k7 fun _ _ _ _ _ _ us hl => match us, hl with | [_, _], _ => rfl,
      d_check_box := mk_def (ps := ["chain", "box"]) X G a8 l8 c8 k8 fun _ _ _ _ _ _ us hl => match us, hl with | [_, _], _ => rfl,
      d_is_box := mk_def (ps := ["chain", "value"]) X G a9 l9 c9 k9 fun _ _ _ _ _ _ us hl => match us, hl with | [_, _], _ => rfl,
      d_lies_in := mk_def (ps := ["box", "places"]) X G a10 l10 c10 k10 fun _ _ _ _ _ _ us hl => match us, hl with | [_, _], _ => rfl,
      d_is_in_box := mk_def (ps := ["chain", "box", "value"]) X G a11 l11 c11 k11 fun _ _ _ _ _ _ us hl => match us, hl with | [_, _, _], _ => rfl,
      d_size_of := mk_def (ps := ["chain", "box"]) X G a12 l12 c12 k12 fun _ _ _ _ _ _ us hl => match us, hl with | [_, _], _ => rfl,
      d_check_boxes := mk_def (ps := ["chain", "one", "other"]) X G a13 l13 c13 k13 fun _ _ _ _ _ _ us hl => match us, hl with | [_, _, _], _ => rfl,
      d_holds_box := mk_def (ps := ["chain", "one", "other"]) X G a14 l14 c14 k14 fun _ _ _ _ _ _ us hl => match us, hl with | [_, _, _], _ => rfl,
      d_meeting := mk_def (ps := ["chain", "one", "other"]) X G a15 l15 c15 k15 fun _ _ _ _ _ _ us hl => match us, hl with | [_, _, _], _ => rfl,
      d_l_dice := mk_def (ps := ["_law_script", "_law_at"]) X G a16 l16 c16 k16 fun _ _ _ _ _ _ us hl => match us, hl with | [_, _], _ => rfl,
      d_l_roll := mk_def (ps := ["_law_dice_here", "_law_total"]) X G a17 l17 c17 k17 fun _ _ _ _ _ _ us hl => match us, hl with | [_, _], _ => rfl,
      d_l_one_of := mk_def (ps := ["_law_dice_here", "_law_items"]) X G a18 l18 c18 k18 fun _ _ _ _ _ _ us hl => match us, hl with | [_, _], _ => rfl,
      d_l_common := mk_def (ps := ["_law_one", "_law_other"]) X G a19 l19 c19 k19 fun _ _ _ _ _ _ us hl => match us, hl with | [_, _], _ => rfl,
      d_l_ring := mk_def (ps := ["_law_dice_here", "_law_most"]) X G a20 l20 c20 k20 fun _ _ _ _ _ _ us hl => match us, hl with | [_, _], _ => rfl,
      d_l_ring_of := mk_def (ps := ["_law_dice_here", "_law_k", "_law_times"]) X G a21 l21 c21 k21 fun _ _ _ _ _ _ us hl => match us, hl with | [_, _, _], _ => rfl,
      d_l_chain := mk_def (ps := ["_law_dice_here", "_law_rings", "_law_most"]) X G a22 l22 c22 k22 fun _ _ _ _ _ _ us hl => match us, hl with | [_, _, _], _ => rfl,
      d_l_all_tuples := mk_def (ps := ["_law_chain_here"]) X G a23 l23 c23 k23 fun _ _ _ _ _ _ us hl => match us, hl with | [_], _ => rfl,
      d_l_is_in := mk_def (ps := ["_law_box_told", "_law_x"]) X G a24 l24 c24 k24 fun _ _ _ _ _ _ us hl => match us, hl with | [_, _], _ => rfl,
      d_l_drawn_box := mk_def (ps := ["_law_dice_here", "_law_chain_here"]) X G a25 l25 c25 k25 fun _ _ _ _ _ _ us hl => match us, hl with | [_, _], _ => rfl,
      d_l_two_right := mk_def (ps := ["_law_dice_here", "_law_chain_here", "_law_one", "_law_other", "_law_rows"]) X G a26 l26 c26 k26 fun _ _ _ _ _ _ us hl => match us, hl with | [_, _, _, _, _], _ => rfl,
      d_l_judged_right := mk_def (ps := ["_law_dice_here", "_law_chain_here", "_law_one"]) X G a27 l27 c27 k27 fun _ _ _ _ _ _ us hl => match us, hl with | [_, _, _], _ => rfl }
  have F := fun_mk (st := sLaw) l28 c28 k28
  exact ⟨PySem.W.fnOf "law" "law" (defArgs sLaw) (defBody sLaw) (defScope sLaw) .none kV28 dc28 pm28 an28 cd28 ct28, fun s v => .of_eq rfl, fun base _ _ => ok_law T F⟩
/-- the end of the law's row, what the loose names hold told -/
theorem walk_x {l : PySem.W.OpenLaw} {k : Nat} {q : Program} {loose : List Str} {lv : List (Str × PySem.W.WData)} {YP : World → Heap → Prop} {d : DefRec} {K : Params → PySem.W.Frag}
    (hn : l.most = some 63) (hdf : d.params.defaults = []) (hr : Room k callerA) (hY : ∀ (w : World) (h : Heap), YP w h → (K w.params).In h)
    (F : ∀ (w : World) (mg : Str → Option Value) (fa : Addr) (h : Heap), (K w.params).In h → h.Ns mainGlobals mg → PySem.W.XL q lv mg h → mg d.name = some (.ref fa) →
      ∃ fd : FuncData, (∀ (s : Shared) (u : Value), BindsTo s fd ⟨[u], []⟩ [("_law_script", u)]) ∧
        ∀ base : Heap, (K w.params).In base → base.Ns mainGlobals mg → FnOk l.prog w (K w.params) mg base CX0 k fa fd ["_law_script"] (spLaw (K w.params))) :
    PySem.W.WalkO q loose (PySem.W.XL q lv) YP l.row.toRowW d [] (fun f vs => PySem.call f vs) := by
  refine Att.attach_call hn hdf fun w s₀ s₁ mg mb fa o pm cd doc a vs ns G Y ho hd hcd hmg hobj hints hlen hg => ?_
  obtain ⟨fd, hb, hF⟩ := F w mg fa _ (hY w _ Y) G.T.g G.X hmg
  exact law_call (hY w _ Y) G.T.g G.T.b G.T.builtins G.T.nolimit hg hobj hints (Nat.le_trans hlen (by decide)) hr hF hb (fun H _ hS => ⟨a, ns, rfl, hS, hlen, fun _ => rfl⟩) fun H e s' z => z
end K1

open PySem PySem.W PyProof.Rows
set_option maxHeartbeats 0 in
theorem PySem.Challenge.cw_ringstairs_k50_whole_boxes_by_their_tupl_holds : PySem.Challenge.rw_ringstairs_k50_whole_boxes_by_their_tupl.Holds := by
  w_on; o_law; k_head; (case hw => w_witness2)
  k_fill
  refine K1.walk_x (k := 9) rfl rfl ⟨rfl, by decide, by decide⟩ (fun w h Y => PySem.W.kIn_of Y) ?F
  case F =>
    intro w mg fa h KX G XF hmg
    have vBOUND : ∃ t, mg "BOUND" = some (.int (10 ^ 60) t) := by
      obtain ⟨v, e1, e2⟩ := XF.2.val _ (List.mem_cons_self ..)
      cases e2
      exact ⟨_, e1⟩
    refine' K1.all_mk KX G hmg vBOUND ?gRINGS ?gPLACES ?z_isinstance ?z_len ?z_int ?z_bool ?z_tuple ?z_all ?z_range ?z_abs ?z_min ?z_max ?z_list ?z_zip ?a0 ?l0 ?c0 ?k0 ?a1 ?l1 ?c1 ?k1 ?a2 ?l2 ?c2 ?k2 ?a3 ?l3 ?c3 ?k3 ?a4 ?l4 ?c4 ?k4 ?a5 ?l5 ?c5 ?k5 ?a6 ?l6 ?c6 ?k6 ?a7 ?l7 ?c7 ?k7 ?a8 ?l8 ?c8 ?k8 ?a9 ?l9 ?c9 ?k9 ?a10 ?l10 ?c10 ?k10 ?a11 ?l11 ?c11 ?k11 ?a12 ?l12 ?c12 ?k12 ?a13 ?l13 ?c13 ?k13 ?a14 ?l14 ?c14 ?k14 ?a15 ?l15 ?c15 ?k15 ?a16 ?l16 ?c16 ?k16 ?a17 ?l17 ?c17 ?k17 ?a18 ?l18 ?c18 ?k18 ?a19 ?l19 ?c19 ?k19 ?a20 ?l20 ?c20 ?k20 ?a21 ?l21 ?c21 ?k21 ?a22 ?l22 ?c22 ?k22 ?a23 ?l23 ?c23 ?k23 ?a24 ?l24 ?c24 ?k24 ?a25 ?l25 ?c25 ?k25 ?a26 ?l26 ?c26 ?k26 ?a27 ?l27 ?c27 ?k27 ?a28 ?l28 ?c28 ?k28
    (case gRINGS => k_is); (case gPLACES => k_is); (case z_isinstance => k_is); (case z_len => k_is); (case z_int => k_is); (case z_bool => k_is); (case z_tuple => k_is); (case z_all => k_is)
    (case z_range => k_is); (case z_abs => k_is); (case z_min => k_is); (case z_max => k_is); (case z_list => k_is); (case z_zip => k_is); (case a0 => k_is); (case l0 => k_is)
    (case c0 => k_is); (case k0 => k_is); (case a1 => k_is); (case l1 => k_is); (case c1 => k_is); (case k1 => k_is); (case a2 => k_is); (case l2 => k_is)
    (case c2 => k_is); (case k2 => k_is); (case a3 => k_is); (case l3 => k_is); (case c3 => k_is); (case k3 => k_is); (case a4 => k_is); (case l4 => k_is)
    (case c4 => k_is); (case k4 => k_is); (case a5 => k_is); (case l5 => k_is); (case c5 => k_is); (case k5 => k_is); (case a6 => k_is); (case l6 => k_is)
    (case c6 => k_is); (case k6 => k_is); (case a7 => k_is); (case l7 => k_is); (case c7 => k_is); (case k7 => k_is); (case a8 => k_is); (case l8 => k_is)
    (case c8 => k_is); (case k8 => k_is); (case a9 => k_is); (case l9 => k_is); (case c9 => k_is); (case k9 => k_is); (case a10 => k_is); (case l10 => k_is)
    (case c10 => k_is); (case k10 => k_is); (case a11 => k_is); (case l11 => k_is); (case c11 => k_is); (case k11 => k_is); (case a12 => k_is); (case l12 => k_is)
    (case c12 => k_is); (case k12 => k_is); (case a13 => k_is); (case l13 => k_is); (case c13 => k_is); (case k13 => k_is); (case a14 => k_is); (case l14 => k_is)
    (case c14 => k_is); (case k14 => k_is); (case a15 => k_is); (case l15 => k_is); (case c15 => k_is); (case k15 => k_is); (case a16 => k_is); (case l16 => k_is)
    (case c16 => k_is); (case k16 => k_is); (case a17 => k_is); (case l17 => k_is); (case c17 => k_is); (case k17 => k_is); (case a18 => k_is); (case l18 => k_is)
    (case c18 => k_is); (case k18 => k_is); (case a19 => k_is); (case l19 => k_is); (case c19 => k_is); (case k19 => k_is); (case a20 => k_is); (case l20 => k_is)
    (case c20 => k_is); (case k20 => k_is); (case a21 => k_is); (case l21 => k_is); (case c21 => k_is); (case k21 => k_is); (case a22 => k_is); (case l22 => k_is)
    (case c22 => k_is); (case k22 => k_is); (case a23 => k_is); (case l23 => k_is); (case c23 => k_is); (case k23 => k_is); (case a24 => k_is); (case l24 => k_is)
    (case c24 => k_is); (case k24 => k_is); (case a25 => k_is); (case l25 => k_is); (case c25 => k_is); (case k25 => k_is); (case a26 => k_is); (case l26 => k_is)
    (case c26 => k_is); (case k26 => k_is); (case a27 => k_is); (case l27 => k_is); (case c27 => k_is); (case k27 => k_is); (case a28 => k_is); (case l28 => k_is)
    (case c28 => k_is); (case k28 => k_is)

