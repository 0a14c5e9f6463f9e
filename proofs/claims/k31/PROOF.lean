import PyProof.Rows.All
import Wide.All
import OpenK.AllK
import Wide.FinOn
import HandS.ForMost
import KE.GoesEnum
import PySem.Challenge.RW_ringstairs_k31_whole_tables_of_round_map
import HandS.ForExc
import HandS.Wide
import HandS.SortInts
import HandS.Zip
import HandS.Style
import HandS.Rev
import HandS.TupMul
import HandS.IsInst
import HandS.Evl
import HandS.Gcd
import HandS.RevRange
import HandS.Iter
import HandS.Small
import HandS.Conv
import HandS.Walk
import HandS.TupAny
import HandS.DictComp
import HandS.SlotsOwn
import KE.KOpsOwn
set_option Elab.async false
set_option linter.all false
set_option maxRecDepth 100000
set_option maxHeartbeats 4000000
/-! plain mathematics for the orders and the diagonals -/
namespace K1M
/-- the step: the i-th place on the way from the right door by the left door -/
theorem dvd_iff {n s i : Nat} (hn : 0 < n) : (i * s) % n = 0 ↔ (n / Nat.gcd n s) ∣ i := by
  have hg : 0 < Nat.gcd n s := Nat.gcd_pos_of_pos_left _ hn
  have hc : Nat.Coprime (n / Nat.gcd n s) (s / Nat.gcd n s) := Nat.coprime_div_gcd_div_gcd hg
  have hn' : n = Nat.gcd n s * (n / Nat.gcd n s) := (Nat.mul_div_cancel' (Nat.gcd_dvd_left n s)).symm
  have hs' : s = Nat.gcd n s * (s / Nat.gcd n s) := (Nat.mul_div_cancel' (Nat.gcd_dvd_right n s)).symm
  constructor
  · intro h
    have d : n ∣ i * s := Nat.dvd_of_mod_eq_zero h
    have d2 : Nat.gcd n s * (n / Nat.gcd n s) ∣ Nat.gcd n s * (i * (s / Nat.gcd n s)) := by
      rw [← hn']
      have e : Nat.gcd n s * (i * (s / Nat.gcd n s)) = i * s := by
        rw [Nat.mul_left_comm, ← hs']
      rw [e]
      exact d
    have d3 := Nat.dvd_of_mul_dvd_mul_left hg d2
    exact hc.dvd_of_dvd_mul_right d3
  · rintro ⟨c, rfl⟩
    apply Nat.mod_eq_zero_of_dvd
    refine ⟨c * (s / Nat.gcd n s), ?_⟩
    have e : n / Nat.gcd n s * c * s = n / Nat.gcd n s * c * (Nat.gcd n s * (s / Nat.gcd n s)) := by rw [← hs']
    rw [e]
    have e2 : n * (c * (s / Nat.gcd n s)) = Nat.gcd n s * (n / Nat.gcd n s) * (c * (s / Nat.gcd n s)) := by rw [← hn']
    rw [e2]
    simp only [Nat.mul_assoc, Nat.mul_left_comm, Nat.mul_comm]
def ord (n s : Nat) : Nat := n / Nat.gcd n s
theorem ord_pos {n s : Nat} (hn : 0 < n) : 0 < ord n s := Nat.div_pos (Nat.gcd_le_left s hn) (Nat.gcd_pos_of_pos_left _ hn)
theorem ord_le {n s : Nat} : ord n s ≤ n := Nat.div_le_self _ _
theorem ord_ge2 {n s : Nat} (h1 : 1 ≤ s) (h2 : s < n) : 2 ≤ ord n s := by
  have hn : 0 < n := by omega
  have hg : 0 < Nat.gcd n s := Nat.gcd_pos_of_pos_left _ hn
  have hle : Nat.gcd n s ≤ s := Nat.le_of_dvd h1 (Nat.gcd_dvd_right n s)
  have hn' : n = Nat.gcd n s * ord n s := (Nat.mul_div_cancel' (Nat.gcd_dvd_left n s)).symm
  rcases Nat.lt_or_ge (ord n s) 2 with h | h
  · exfalso
    have hp := ord_pos (s := s) hn
    have e1 : ord n s = 1 := by omega
    rw [e1, Nat.mul_one] at hn'
    omega
  · exact h
/-- the way: while the next is not 0 and there are fewer than n -/
def stp (n s i : Nat) : Nat := (i * s) % n
theorem stp_zero_iff {n s i : Nat} (hn : 0 < n) : stp n s i = 0 ↔ ord n s ∣ i := dvd_iff hn
theorem stp_mod {n s i : Nat} (hn : 0 < n) : stp n s (i % ord n s) = stp n s i := by
  have h0 : (ord n s * s) % n = 0 := (stp_zero_iff (i := ord n s) hn).mpr (Nat.dvd_refl _)
  have e : i = ord n s * (i / ord n s) + i % ord n s := (Nat.div_add_mod i (ord n s)).symm
  have e2 : i * s = (i / ord n s) * (ord n s * s) + (i % ord n s) * s := by
    have : (ord n s * (i / ord n s) + i % ord n s) * s = (i / ord n s) * (ord n s * s) + (i % ord n s) * s := by
      rw [Nat.add_mul]
      congr 1
      simp only [Nat.mul_assoc, Nat.mul_left_comm, Nat.mul_comm]
    rw [← this, ← e]
  obtain ⟨q, hq⟩ := Nat.dvd_of_mod_eq_zero h0
  unfold stp
  rw [e2, hq, Nat.mul_left_comm, Nat.add_comm, Nat.add_mul_mod_self_left]
/-- the same for integers: the diagonal's place -/
theorem istp {n s : Nat} (hn : 0 < n) (c : Int) : (c * (s : Int)) % (n : Int) = ((stp n s (c % (ord n s : Int)).toNat : Nat) : Int) := by
  have hm : 0 < ord n s := ord_pos hn
  have hm' : (0 : Int) < (ord n s : Int) := by exact_mod_cast hm
  have hr0 : 0 ≤ c % (ord n s : Int) := Int.emod_nonneg _ (by omega)
  have h0 : ((ord n s : Int) * (s : Int)) % (n : Int) = 0 := by
    have h0 : (ord n s * s) % n = 0 := (stp_zero_iff (i := ord n s) hn).mpr (Nat.dvd_refl _)
    have := congrArg (fun x : Nat => (x : Int)) h0
    simpa using this
  have e : c = (ord n s : Int) * (c / (ord n s : Int)) + c % (ord n s : Int) := (Int.mul_ediv_add_emod c (ord n s : Int)).symm
  have e2 : c * (s : Int) = (c / (ord n s : Int)) * ((ord n s : Int) * (s : Int)) + (c % (ord n s : Int)) * (s : Int) := by
    have : ((ord n s : Int) * (c / (ord n s : Int)) + c % (ord n s : Int)) * (s : Int) = (c / (ord n s : Int)) * ((ord n s : Int) * (s : Int)) + (c % (ord n s : Int)) * (s : Int) := by
      rw [Int.add_mul]
      congr 1
      rw [Int.mul_assoc, Int.mul_left_comm]
    rw [← this, ← e]
  rw [e2, Int.add_emod, Int.mul_emod, h0, Int.mul_zero, Int.zero_emod, Int.zero_add, Int.emod_emod]
  unfold stp
  have e3 : c % (ord n s : Int) = (((c % (ord n s : Int)).toNat : Nat) : Int) := (Int.toNat_of_nonneg hr0).symm
  conv => lhs; rw [e3]
  simp
/-- does_let tells just the place -/
theorem lets_iff {n : Nat} {x p : Int} (hn : 0 < n) (h0 : 0 ≤ p) (h1 : p < n) : (x - p) % (n : Int) = 0 ↔ x % (n : Int) = p := by
  have hn' : (0 : Int) < n := by exact_mod_cast hn
  constructor
  · intro h
    have e := Int.emod_emod_of_dvd x (Int.dvd_refl (n : Int))
    have h2 : x = (n : Int) * ((x - p) / n) + p := by
      have := Int.mul_ediv_add_emod (x - p) n
      omega
    rw [h2, Int.add_comm, Int.add_mul_emod_self_left]
    exact Int.emod_eq_of_lt h0 h1
  · intro h
    have h2 := Int.mul_ediv_add_emod x n
    have h3 : x - p = (n : Int) * (x / n) := by omega
    rw [h3, Int.mul_emod_right]
/-- the stop of the loop is the order -/
theorem stop_is {n s k : Nat} (hn : 0 < n) (hk : 1 ≤ k) (hkn : k ≤ n) (hlow : ∀ i, 0 < i → i < k → stp n s i ≠ 0) (hstop : stp n s k = 0 ∨ k = n) : k = ord n s := by
  have hm := ord_pos (s := s) hn
  have hmn : ord n s ≤ n := ord_le
  have h1 : k ≤ ord n s := by
    rcases Nat.lt_or_ge (ord n s) k with h | h
    · exact absurd ((stp_zero_iff hn).mpr (Nat.dvd_refl _)) (hlow _ hm h)
    · exact h
  rcases hstop with h | h
  · have d := (stp_zero_iff hn).mp h
    have := Nat.le_of_dvd hk d
    omega
  · omega
end K1M

/-! plain mathematics for the written names -/
namespace K1N
def nAt (rs : List (Int × Int)) (j : Nat) : Nat := (rs.getD j (0, 0)).1.toNat
def sAt (rs : List (Int × Int)) (j : Nat) : Int := (rs.getD j (0, 0)).2
def row (j n : Nat) : List (Int × Int) := (List.range n).map fun (q : Nat) => ((j : Int), (q : Int))
def pre (rs : List (Int × Int)) : Nat → List (Int × Int)
  | 0 => []
  | i + 1 => pre rs i ++ row i (nAt rs i)
/-- a place that is its own written name -/
def own (rs : List (Int × Int)) (p : Int × Int) : Bool := !(decide (0 < p.1) && decide (p.2 = sAt rs p.1.toNat))
def names (rs : List (Int × Int)) : List (Int × Int) := (pre rs rs.length).filter (own rs)
def sumTo (rs : List (Int × Int)) : Nat → Nat
  | 0 => 0
  | i + 1 => sumTo rs i + nAt rs i
theorem row_succ (j n : Nat) : row j (n + 1) = row j n ++ [((j : Int), (n : Int))] := by
  unfold row
  rw [List.range_succ, List.map_append]
  rfl
theorem row_len (j n : Nat) : (row j n).length = n := by
  unfold row
  rw [List.length_map, List.length_range]
theorem pre_len {rs : List (Int × Int)} (h : ∀ j, nAt rs j ≤ 60) : ∀ i, (pre rs i).length ≤ 60 * i
  | 0 => Nat.le_refl _
  | i + 1 => by
    show (pre rs i ++ row i (nAt rs i)).length ≤ 60 * (i + 1)
    rw [List.length_append, row_len]
    have := pre_len h i
    have := h i
    omega
theorem row0 (rs : List (Int × Int)) : ∀ n, ((row 0 n).filter (own rs)).length = n
  | 0 => rfl
  | n + 1 => by
    rw [row_succ, List.filter_append, List.length_append, row0 rs n]
    have : own rs (((0 : Nat) : Int), (n : Int)) = true := rfl
    rw [List.filter_cons, if_pos this]
    rfl
theorem rowS (rs : List (Int × Int)) (j : Nat) (s : Nat) (hs : sAt rs (j + 1) = (s : Int)) : ∀ n, ((row (j + 1) n).filter (own rs)).length = if s < n then n - 1 else n
  | 0 => rfl
  | n + 1 => by
    rw [row_succ, List.filter_append, List.length_append, rowS rs j s hs n]
    by_cases c : n = s
    · have e : own rs (((j + 1 : Nat) : Int), (n : Int)) = false := by
        unfold own
        rw [show (((j + 1 : Nat) : Int)).toNat = j + 1 by omega, hs, decide_eq_true (show (0 : Int) < ((j + 1 : Nat) : Int) by omega), decide_eq_true (show (n : Int) = (s : Int) by omega)]
        rfl
      have e2 : [(((j + 1 : Nat) : Int), (n : Int))].filter (own rs) = [] := by
        rw [List.filter_cons, if_neg (show ¬ own rs (((j + 1 : Nat) : Int), (n : Int)) = true by rw [e]; decide)]
        rfl
      rw [e2, if_neg (show ¬ s < n by omega), if_pos (show s < n + 1 by omega)]
      show n + 0 = n + 1 - 1
      omega
    · have e : own rs (((j + 1 : Nat) : Int), (n : Int)) = true := by
        unfold own
        rw [show (((j + 1 : Nat) : Int)).toNat = j + 1 by omega, hs, decide_eq_false (show ¬ (n : Int) = (s : Int) by omega), Bool.and_false]
        rfl
      rw [List.filter_cons, if_pos e]
      show (if s < n then n - 1 else n) + 1 = _
      by_cases c2 : s < n
      · rw [if_pos c2, if_pos (by omega)]
        omega
      · rw [if_neg c2, if_neg (by omega)]
/-- how many written names -/
theorem count_to {rs : List (Int × Int)} (h : ∀ j, j < rs.length → 1 ≤ sAt rs j ∧ sAt rs j < (nAt rs j : Int)) : ∀ i, 1 ≤ i → i ≤ rs.length → ((pre rs i).filter (own rs)).length + i = sumTo rs i + 1
  | 0, z, _ => absurd z (by decide)
  | 1, _, h1 => by
    show (([] ++ row 0 (nAt rs 0)).filter (own rs)).length + 1 = 0 + nAt rs 0 + 1
    rw [List.nil_append, row0]
    omega
  | i + 2, _, h1 => by
    have ih := count_to h (i + 1) (by omega) (by omega)
    have hs := h (i + 1) (by omega)
    have hr := rowS rs i (sAt rs (i + 1)).toNat (by omega) (nAt rs (i + 1))
    rw [if_pos (by omega)] at hr
    show ((pre rs (i + 1) ++ row (i + 1) (nAt rs (i + 1))).filter (own rs)).length + (i + 2) = sumTo rs (i + 1) + nAt rs (i + 1) + 1
    rw [List.filter_append, List.length_append, hr]
    omega
theorem nAt_left {a b : List (Int × Int)} {j : Nat} (h : j < a.length) : nAt (a ++ b) j = nAt a j := by
  unfold nAt
  rw [List.getD_eq_getElem?_getD, List.getD_eq_getElem?_getD, List.getElem?_append_left h]
theorem nAt_right {a b : List (Int × Int)} {j : Nat} : nAt (a ++ b) (a.length + j) = nAt b j := by
  unfold nAt
  rw [List.getD_eq_getElem?_getD, List.getD_eq_getElem?_getD, List.getElem?_append_right (by omega), Nat.add_sub_cancel_left]
theorem sum_left {a b : List (Int × Int)} : ∀ i, i ≤ a.length → sumTo (a ++ b) i = sumTo a i
  | 0, _ => rfl
  | i + 1, h => by
    show sumTo (a ++ b) i + nAt (a ++ b) i = sumTo a i + nAt a i
    rw [sum_left i (by omega), nAt_left (by omega)]
theorem sum_right {a b : List (Int × Int)} : ∀ i, sumTo (a ++ b) (a.length + i) = sumTo a a.length + sumTo b i
  | 0 => by
    rw [Nat.add_zero, sum_left _ (Nat.le_refl _)]
    rfl
  | i + 1 => by
    show sumTo (a ++ b) (a.length + i) + nAt (a ++ b) (a.length + i) = sumTo a a.length + (sumTo b i + nAt b i)
    rw [sum_right i, nAt_right, Nat.add_assoc]
theorem names_joined {a b : List (Int × Int)} (ha : 1 ≤ a.length) (hb : 1 ≤ b.length) (h1 : ∀ j, j < a.length → 1 ≤ sAt a j ∧ sAt a j < (nAt a j : Int)) (h2 : ∀ j, j < b.length → 1 ≤ sAt b j ∧ sAt b j < (nAt b j : Int))
    (h3 : ∀ j, j < (a ++ b).length → 1 ≤ sAt (a ++ b) j ∧ sAt (a ++ b) j < (nAt (a ++ b) j : Int)) : (names (a ++ b)).length + 1 = (names a).length + (names b).length := by
  unfold names
  have e1 := count_to h1 a.length ha (Nat.le_refl _)
  have e2 := count_to h2 b.length hb (Nat.le_refl _)
  have e3 := count_to h3 (a ++ b).length (by rw [List.length_append]; omega) (Nat.le_refl _)
  have e4 := sum_right (a := a) (b := b) b.length
  rw [List.length_append] at e3 ⊢
  omega
end K1N

/-! enumerate over a tuple, one argument -/
namespace EnT
open PySem PySem.Spec PyProof.Rows L2
theorem made {v : Value} {o : Obj} {Hy : Heap → Prop} (B : Begins v o Hy) : Meets (Builtin.«enumerate.__new__» ⟨[.type "enumerate", v], []⟩) (fun _ R s => Hy s.heap ∧
      R (.ok (.ret (.ref (s.heap.push o).objs.size))) { s with heap := (s.heap.push o).push { cls := .type "enumerate", data := .fields #[.none, .bool false, .ref s.heap.objs.size, rawInt 0, .none, .none] } }) :=
  .of_wp fun prog w A R s z => by
    obtain ⟨hp, gs, dr, tk, os⟩ := s
    obtain ⟨z1, z2⟩ := z
    have sb := sub_enumerate
    have it1 : ∀ {A2 : Around} {E2 : Value → Shared → Prop} {Q2 : Value → Shared → Prop}, Q2 (.ref hp.objs.size) ⟨hp.push o, gs, dr, tk, os⟩ → wpAny (model prog w) A2 (pyIter v) Q2 E2 ⟨hp, gs, dr, tk, os⟩ :=
      fun y => B.iter prog w _ _ ⟨hp, gs, dr, tk, os⟩ _ z1 y
    wp_walk using it1
    refine wpAny_stack_any fun _ => wpAny_pure ?_
    split
    · rename_i c _ _ _ _ _
      cases (c == Value.type "enumerate")
      · wp_walk using it1
        exact ⟨_, rfl, z2⟩
      · wp_walk using it1
        exact ⟨_, rfl, z2⟩
    · wp_walk using it1
      exact ⟨_, rfl, z2⟩
section
variable {prog : Program} {w : World} {A : Around} {E : Value → Shared → Prop} {s : Shared}
theorem call_made {v : Value} {o : Obj} {Hy : Heap → Prop} {Q : Value → Shared → Prop} (B : Begins v o Hy) (h1 : Hy s.heap)
    (k : ∀ h2, IsEnum h2 (s.heap.objs.size + 1) s.heap.objs.size 0 .none → h2.get? s.heap.objs.size = some o → (∀ b u, s.heap.get? b = some u → h2.get? b = some u) → Q (.ref (s.heap.objs.size + 1)) { s with heap := h2 }) :
    wpAny (model prog w) A (call (.type "enumerate") [v]) Q E s := by
  refine callType_new F.called_enumerate (by decide) (F.typeCall_enumerate_1 _) (F.newCall_enumerate_1 _) (fun obj => F.args_object_init_2 obj _) F.entry_enumerate_new (made B) ⟨h1, ?_⟩
  have sz : (s.heap.push o).objs.size = s.heap.objs.size + 1 := by rw [Heap.size_push]
  show _ ∧ _
  rw [sz]
  have en := Heap.get?_push_size (s.heap.push o) (o := { cls := .type "enumerate", data := .fields #[.none, .bool false, .ref s.heap.objs.size, rawInt 0, .none, .none] }) rfl
  rw [sz] at en
  exact ⟨⟨_, en, rfl⟩, k _ en (Heap.get?_push_of_some _ (Heap.get?_push_size _ B.free)) fun b u y => Heap.get?_push_of_some _ (Heap.get?_push_of_some _ y)⟩
end
/-- the tuple at a, each item in a new pair with its number -/
def IteT (K : PySem.W.Frag) (a : Addr) : It :=
  ⟨fun i H => ∃ (ts : List V) (x : V), SqT K H a ts ∧ ts[i]? = some x, fun i H v H' => ∃ T x, v = .ref T ∧ H T = none ∧ H' = upd H T (.tup [.int (i : Nat), x]) ∧ ∀ ts, SqT K H a ts → ts[i]? = some x, fun i H => ∃ ts : List V, SqT K H a ts ∧ ts.length = i⟩
theorem tup_inj {X : Cx} {pins : List (Addr × Obj)} {σ : L2.St} {H : Hp} {s : Shared} {a : Addr} {xs ys : List V} (I : Inv X pins σ H s) (h1 : SqT X.K H a xs) (h2 : SqT X.K H a ys) : xs = ys := by
  obtain ⟨i1, r1, ⟨o1, g1, c1, n1, d1⟩, _⟩ := I.tuple h1
  obtain ⟨i2, r2, ⟨o2, g2, c2, n2, d2⟩, _⟩ := I.tuple h2
  rw [g1] at g2
  have e := Option.some.inj g2
  subst e
  rw [d1] at d2
  injection d2 with e1 _
  have e3 : i1 = i2 := by simpa using e1
  subst e3
  exact Vals.inj r1 r2
theorem turn {P : Program} {w : World} {K : PySem.W.Frag} {elts : List Expr} {kk : Nat} {tpos : Pos} (a e it : Addr) :
    Turn P w K (.Tuple elts kk tpos) (IteT K a) [e, it] e (fun i h => (∃ old, IsEnum h e it ((i : Nat) : Int) old) ∧ h.IsTupleIter it a i ∧ e ≠ it ∧ a ≠ e ∧ a ≠ it) where
  mem := by simp
  obj := fun i h st b hb => by
    obtain ⟨⟨old, he⟩, ⟨o, ho, hc, hd⟩, _⟩ := st
    rcases (show b = e ∨ b = it by simpa using hb) with z | z
    · rw [z]
      exact ⟨_, he, fun v q => nomatch q⟩
    · rw [z]
      exact ⟨o, ho, fun v q => by rw [hd] at q; cases q⟩
  keep := fun i h h' st k => by
    obtain ⟨⟨old, he⟩, ⟨o, ho, hc, hd⟩, n1, n2, n3⟩ := st
    exact ⟨⟨old, k e (by simp) _ he⟩, ⟨o, k it (by simp) _ ho, hc, hd⟩, n1, n2, n3⟩
  item := by
    intro X hP hw hK hc i pins s σ H E I hf st hg
    subst hP hw hK
    obtain ⟨⟨old, he⟩, hit, n1, n2, n3⟩ := st
    obtain ⟨xs, x, hq, hx⟩ := hg
    obtain ⟨its, rv, p, _⟩ := I.tuple hq
    obtain ⟨u, hu, ru⟩ := rv.get hx
    have hel : e < s.heap.objs.size := Heap.lt_size he
    have hil : it < s.heap.objs.size := by
      obtain ⟨_, q, _⟩ := hit
      exact Heap.lt_size q
    have hlt : i < its.toArray.size := by
      have := (List.getElem?_eq_some_iff.mp hu).1
      simpa using this
    have hh : X.A.in1.handled = none := I.ok.hd hc
    have DT := Draws.tuple (prog := X.prog) (w := X.w) hh it a n3 its.toArray
    refine wpAny_pyNext_enum_itemD DT he ⟨hit, p⟩ hlt n1 (by simp [n1, Ne.symm n2]) fun y h1 tk hy ho hst hT hsz hk => ?_
    have ey : y = u := by
      have q : its.toArray[i]? = some u := by simpa using hu
      exact Option.some.inj (hy.symm.trans q)
    subst ey
    refine ⟨_, rfl, wpAny_letOwnedTupleGo_enum (s := { s with heap := h1, toks := tk + 1 }) ho fun h2 he2 sb => ?_⟩
    have hT2 : h2.get? s.heap.objs.size = some { cls := .type "tuple", data := .seq #[.int i tk, y] } := (sb.2 _ (Nat.ne_of_gt hel)).trans hT
    have new : ObjOk X.prog X.w (upd H s.heap.objs.size (.tup [.int (i : Nat), x])) h2 s.heap.objs.size (.tup [.int (i : Nat), x]) :=
      ⟨show 2 ≤ sizeLine by decide, [.int i tk, y], .cons ⟨_, rfl⟩ (.cons ru .nil), ⟨_, hT2, rfl, _, rfl⟩⟩
    have I1 : Inv X pins σ (upd H s.heap.objs.size (.tup [.int (i : Nat), x])) { s with heap := h2, toks := tk + 1 } :=
      I.turnedNew (ch := [e, it]) (fun b ob hb q => (sb.2 b (fun z => hb (by simp [z]))).trans (hk b ob (fun z => hb (by simp [z])) (fun z => hb (by simp [z])) q)) hf (Nat.le_refl _) new
    obtain ⟨oi, g1, g2, g3⟩ := hst.1
    refine ⟨.ref s.heap.objs.size, _, I1, rfl, ⟨_, x, rfl, I.hok.fresh (Nat.le_refl _), rfl, fun ys hys => by rw [tup_inj I hys hq]; exact hx⟩, ⟨⟨y, ?_⟩, ⟨oi, (sb.2 it (Ne.symm n1)).trans g1, g2, g3⟩, n1, n2, n3⟩, fun b hb => ?_⟩
    · rw [show ((i + 1 : Nat) : Int) = (i : Int) + 1 by omega]
      exact he2
    · have hb2 : b < s.heap.objs.size := by
        rcases (show b = e ∨ b = it by simpa using hb) with z | z
        · rw [z]
          exact hel
        · rw [z]
          exact hil
      rw [upd_ne (Nat.ne_of_lt hb2)]
      exact (hf b hb).1
  done := by
    intro X hP hw hK hc i pins s σ H E I hf st hg
    subst hP hw hK
    obtain ⟨⟨old, he⟩, hit, n1, n2, n3⟩ := st
    obtain ⟨xs, hq, hx⟩ := hg
    obtain ⟨its, rv, p, _⟩ := I.tuple hq
    obtain ⟨f0, f1, f2, f3, f4, f5⟩ := hf it (by simp)
    have hl := rv.length
    have hn : its.toArray.size = i := by
      rw [List.size_toArray]
      omega
    have hh : X.A.in1.handled = none := I.ok.hd hc
    have DT := Draws.tuple (prog := X.prog) (w := X.w) hh it a n3 its.toArray
    refine wpAny_pyNext_enum_endD DT he ⟨?_, p⟩ fun h1 eb => ⟨rfl, I.turned (t' := s.toks) (fun b o hb q => eb b o hb q) f0 f1 f3 f4 f5⟩
    rw [hn]
    exact hit
  self := fun A i s Q E st h => by
    obtain ⟨⟨_, he⟩, _⟩ := st
    exact wpAny_pyIter_enum he h
def iEnumT (K : PySem.W.Frag) (ta : TA) : TI := fun σ H R => ta σ H fun vs H1 => ∃ a xs, vs = [.ref a] ∧ SqT K H1 a xs ∧ R (IteT K a) H1
theorem pi_enumT {X : Cx} {e : Expr} {ta : TA} {p pos tpos : Pos} {elts : List Expr} {kk : Nat} (hg : Gl X "enumerate") (hm : X.mg "enumerate" = none) (ha : PA X [e] ta) (hs : starEach [e] X.env = [(false, eval e X.env)] := by rfl) :
    PI X (.Tuple elts kk tpos) (.Call (.Name "enumerate" p) [e] [] pos) (iEnumT X.K ta) := by
  refine ⟨fun pins s σ H R I h => ?_⟩
  refine Call_ (ld_blt I hg hm boot_enumerate (PyProof.Rows.callWith_type1 (thn (ha.run pos pins s σ H _ I h) fun us s1 ⟨vs, H1, I1, r1, y1⟩ => ?_) hs rfl))
  obtain ⟨a, xs, ex, hq, q⟩ := y1
  subst ex
  cases r1 with
  | cons r rr =>
    cases rr
    cases r
    obtain ⟨its, rv, p2, _⟩ := I1.tuple hq
    have hal : a < s1.heap.objs.size := by
      obtain ⟨o, g, _⟩ := p2
      exact Heap.lt_size g
    refine call_made (begins_tuple a its.toArray) p2 fun h2 he hit hk => wpAny_pyIter_enum he ?_
    have I2 : Inv X pins σ H1 { s1 with heap := h2 } := I1.kept (t' := s1.toks) hk
    refine ⟨s1.heap.objs.size + 1, [s1.heap.objs.size + 1, s1.heap.objs.size], _, _, H1, rfl, I2, turn a (s1.heap.objs.size + 1) s1.heap.objs.size, ⟨⟨.none, he⟩, ⟨_, hit, rfl, rfl⟩, Nat.succ_ne_self _, Nat.ne_of_lt (Nat.lt_succ_of_lt hal), Nat.ne_of_lt hal⟩, fun b hb => ?_, q⟩
    have hle : s1.heap.objs.size ≤ b := by
      rcases (show b = s1.heap.objs.size + 1 ∨ b = s1.heap.objs.size by simpa using hb) with z | z
      · rw [z]
        exact Nat.le_add_right _ _
      · rw [z]
        exact Nat.le_refl _
    exact I1.fpOk hle (I1.hok.fresh hle)
end EnT

namespace K1
open PySem PySem.Spec PyProof.Rows L2 Evl
def topS (i : Nat) : Stmt := PySem.Challenge.pw_ringstairs_k31_whole_tables_of_round_map.main.body.getD i (.Pass ⟨0, 0, 0, 0⟩)
abbrev sWall : Stmt := topS 1
abbrev nWall : List Str := ["k"]
theorem scWall : FnScope nWall ["k"] (defScope sWall) := ⟨rfl, rfl, rfl, by decide +kernel, rfl, by decide +kernel, by decide +kernel⟩
abbrev sIsInteger : Stmt := topS 10
abbrev nIsInteger : List Str := ["value"]
theorem scIsInteger : FnScope nIsInteger ["value"] (defScope sIsInteger) := ⟨rfl, rfl, rfl, by decide +kernel, rfl, by decide +kernel, by decide +kernel⟩
abbrev sCheckInteger : Stmt := topS 11
abbrev nCheckInteger : List Str := ["value"]
theorem scCheckInteger : FnScope nCheckInteger ["value"] (defScope sCheckInteger) := ⟨rfl, rfl, rfl, by decide +kernel, rfl, by decide +kernel, by decide +kernel⟩
abbrev sCheckDigits : Stmt := topS 12
abbrev nCheckDigits : List Str := ["numbers", "number"]
theorem scCheckDigits : FnScope nCheckDigits ["numbers"] (defScope sCheckDigits) := ⟨rfl, rfl, rfl, by decide +kernel, rfl, by decide +kernel, by decide +kernel⟩
abbrev sIsRound : Stmt := topS 15
abbrev nIsRound : List Str := ["value", "many", "number"]
theorem scIsRound : FnScope nIsRound ["value"] (defScope sIsRound) := ⟨rfl, rfl, rfl, by decide +kernel, rfl, by decide +kernel, by decide +kernel⟩
abbrev sValueIn : Stmt := topS 17
abbrev nValueIn : List Str := ["values", "i", "rest"]
theorem scValueIn : FnScope nValueIn ["values", "i"] (defScope sValueIn) := ⟨rfl, rfl, rfl, by decide +kernel, rfl, by decide +kernel, by decide +kernel⟩
abbrev sShiftIn : Stmt := topS 18
abbrev nShiftIn : List Str := ["values", "many"]
theorem scShiftIn : FnScope nShiftIn ["values"] (defScope sShiftIn) := ⟨rfl, rfl, rfl, by decide +kernel, rfl, by decide +kernel, by decide +kernel⟩
abbrev sFallsIn : Stmt := topS 19
abbrev nFallsIn : List Str := ["values", "many", "late", "early"]
theorem scFallsIn : FnScope nFallsIn ["values"] (defScope sFallsIn) := ⟨rfl, rfl, rfl, by decide +kernel, rfl, by decide +kernel, by decide +kernel⟩
abbrev sCountedIn : Stmt := topS 20
abbrev nCountedIn : List Str := ["values", "a", "b", "many", "rounds", "rest", "value", "often"]
theorem scCountedIn : FnScope nCountedIn ["values", "a", "b"] (defScope sCountedIn) := ⟨rfl, rfl, rfl, by decide +kernel, rfl, by decide +kernel, by decide +kernel⟩
abbrev sValuesBack : Stmt := topS 21
abbrev nValuesBack : List Str := ["values", "many", "spots", "spot", "value", "rest"]
theorem scValuesBack : FnScope nValuesBack ["values"] (defScope sValuesBack) := ⟨rfl, rfl, rfl, by decide +kernel, rfl, by decide +kernel, by decide +kernel⟩
abbrev sAreEqual : Stmt := topS 22
abbrev nAreEqual : List Str := ["values", "others", "places", "i"]
theorem scAreEqual : FnScope nAreEqual ["values", "others"] (defScope sAreEqual) := ⟨rfl, rfl, rfl, by decide +kernel, rfl, by decide +kernel, by decide +kernel⟩
abbrev sToldRound : Stmt := topS 23
abbrev nToldRound : List Str := ["values"]
theorem scToldRound : FnScope nToldRound ["values"] (defScope sToldRound) := ⟨rfl, rfl, rfl, by decide +kernel, rfl, by decide +kernel, by decide +kernel⟩
abbrev sLDice : Stmt := topS 25
abbrev nLDice : List Str := ["_law_script", "_law_at", "_law_cell", "_law_great", "_law_left", "_law_mixed_here"]
theorem scLDice : FnScope nLDice ["_law_script", "_law_at"] (defScope sLDice) := ⟨rfl, rfl, rfl, by decide +kernel, rfl, by decide +kernel, by decide +kernel⟩
abbrev sLRoll : Stmt := topS 26
abbrev nLRoll : List Str := ["_law_dice_here", "_law_total", "_law_size", "_law_drawn", "_law_one", "_law_two"]
theorem scLRoll : FnScope nLRoll ["_law_dice_here", "_law_total"] (defScope sLRoll) := ⟨rfl, rfl, rfl, by decide +kernel, rfl, by decide +kernel, by decide +kernel⟩
abbrev sLOneOf : Stmt := topS 27
abbrev nLOneOf : List Str := ["_law_dice_here", "_law_items"]
theorem scLOneOf : FnScope nLOneOf ["_law_dice_here", "_law_items"] (defScope sLOneOf) := ⟨rfl, rfl, rfl, by decide +kernel, rfl, by decide +kernel, by decide +kernel⟩
abbrev sLMixed : Stmt := topS 28
abbrev nLMixed : List Str := ["_law_dice_here", "_law_items", "_law_left", "_law_found"]
theorem scLMixed : FnScope nLMixed ["_law_dice_here", "_law_items"] (defScope sLMixed) := ⟨rfl, rfl, rfl, by decide +kernel, rfl, by decide +kernel, by decide +kernel⟩
abbrev sLValue : Stmt := topS 29
abbrev nLValue : List Str := ["_law_values", "_law_i", "_law_size"]
theorem scLValue : FnScope nLValue ["_law_values", "_law_i"] (defScope sLValue) := ⟨rfl, rfl, rfl, by decide +kernel, rfl, by decide +kernel, by decide +kernel⟩
abbrev sLExchanged : Stmt := topS 30
abbrev nLExchanged : List Str := ["_law_values", "_law_at", "_law_size", "_law_found"]
theorem scLExchanged : FnScope nLExchanged ["_law_values", "_law_at"] (defScope sLExchanged) := ⟨rfl, rfl, rfl, by decide +kernel, rfl, by decide +kernel, by decide +kernel⟩
abbrev sLRound : Stmt := topS 31
abbrev nLRound : List Str := ["_law_dice_here", "_law_size", "_law_steps", "_law_more", "_law_values", "_law_turn", "_law_i"]
theorem scLRound : FnScope nLRound ["_law_dice_here", "_law_size", "_law_steps"] (defScope sLRound) := ⟨rfl, rfl, rfl, by decide +kernel, rfl, by decide +kernel, by decide +kernel⟩
abbrev sLGreatRound : Stmt := topS 32
abbrev nLGreatRound : List Str := ["_law_dice_here", "_law_size", "_law_rests", "_law_wide", "_law_far", "_law_rest"]
theorem scLGreatRound : FnScope nLGreatRound ["_law_dice_here", "_law_size"] (defScope sLGreatRound) := ⟨rfl, rfl, rfl, by decide +kernel, rfl, by decide +kernel, by decide +kernel⟩
abbrev sLShift : Stmt := topS 33
abbrev nLShift : List Str := ["_law_values", "_law_i", "_law_value_here"]
theorem scLShift : FnScope nLShift ["_law_values"] (defScope sLShift) := ⟨rfl, rfl, rfl, by decide +kernel, rfl, by decide +kernel, by decide +kernel⟩
abbrev sLCounted : Stmt := topS 34
abbrev nLCounted : List Str := ["_law_values", "_law_a", "_law_b", "_law_size", "_law_found", "_law_i", "_law_last", "_law_first"]
theorem scLCounted : FnScope nLCounted ["_law_values", "_law_a", "_law_b"] (defScope sLCounted) := ⟨rfl, rfl, rfl, by decide +kernel, rfl, by decide +kernel, by decide +kernel⟩
abbrev sLByWindow : Stmt := topS 35
abbrev nLByWindow : List Str := ["_law_values", "_law_a", "_law_b", "_law_i"]
theorem scLByWindow : FnScope nLByWindow ["_law_values", "_law_a", "_law_b"] (defScope sLByWindow) := ⟨rfl, rfl, rfl, by decide +kernel, rfl, by decide +kernel, by decide +kernel⟩
abbrev sLSmallRight : Stmt := topS 36
abbrev nLSmallRight : List Str := ["_law_dice_here", "_law_one", "_law_values", "_law_more", "_law_turn", "_law_a", "_law_b", "_law_told", "_law_steps", "_law_corner", "_law_step"]
theorem scLSmallRight : FnScope nLSmallRight ["_law_dice_here", "_law_one", "_law_values"] (defScope sLSmallRight) := ⟨rfl, rfl, rfl, by decide +kernel, rfl, by decide +kernel, by decide +kernel⟩
abbrev sLRight : Stmt := topS 37
abbrev nLRight : List Str := ["_law_dice_here", "_law_size", "_law_small", "_law_great", "_law_values", "_law_one", "_law_more", "_law_value_here", "_law_wide", "_law_turn", "_law_a", "_law_b", "_law_low", "_law_high", "_law_i"]
theorem scLRight : FnScope nLRight ["_law_dice_here"] (defScope sLRight) := ⟨rfl, rfl, rfl, by decide +kernel, rfl, by decide +kernel, by decide +kernel⟩
abbrev sLaw : Stmt := topS 38
abbrev nLaw : List Str := ["_law_script", "_law_at"]
theorem scLaw : FnScope nLaw ["_law_script"] (defScope sLaw) := ⟨rfl, rfl, rfl, by decide +kernel, rfl, by decide +kernel, by decide +kernel⟩
/-- a def of the text at its place, and how its arguments bind -/
structure DefAt (K : PySem.W.Frag) (mg : Str → Option Value) (x : Str) (st : Stmt) (ps : List Str) (f : Addr) (fd : FuncData) : Prop where
  F : Fun K x x st f fd
  g : mg x = some (.ref f)
  b : Binds K fd ps []
/-- what the top has written -/
structure Txt (K : PySem.W.Frag) (mg : Str → Option Value) : Prop where
  z_abs : mg "abs" = none
  z_all : mg "all" = none
  z_bool : mg "bool" = none
  z_enumerate : mg "enumerate" = none
  z_int : mg "int" = none
  z_isinstance : mg "isinstance" = none
  z_len : mg "len" = none
  z_list : mg "list" = none
  z_max : mg "max" = none
  z_min : mg "min" = none
  z_range : mg "range" = none
  z_sorted : mg "sorted" = none
  z_sum : mg "sum" = none
  z_tuple : mg "tuple" = none
  v_BOUND : ∃ t, mg "BOUND" = some (.int (10 ^ 60) t)
  v_DIGITS : ∃ t, mg "DIGITS" = some (.int 60 t)
  v_MAX_ROUND : ∃ t, mg "MAX_ROUND" = some (.int 60 t)
  d_is_integer : ∃ f fd, DefAt K mg "is_integer" sIsInteger ["value"] f fd
  d_check_integer : ∃ f fd, DefAt K mg "check_integer" sCheckInteger ["value"] f fd
  d_check_digits : ∃ f fd, DefAt K mg "check_digits" sCheckDigits ["numbers"] f fd
  d_is_round : ∃ f fd, DefAt K mg "is_round" sIsRound ["value"] f fd
  d_value_in : ∃ f fd, DefAt K mg "value_in" sValueIn ["values", "i"] f fd
  d_counted_in : ∃ f fd, DefAt K mg "counted_in" sCountedIn ["values", "a", "b"] f fd
  d_values_back : ∃ f fd, DefAt K mg "values_back" sValuesBack ["values"] f fd
  d_told_round : ∃ f fd, DefAt K mg "told_round" sToldRound ["values"] f fd
  d_l_dice : ∃ f fd, DefAt K mg "_law_dice" sLDice ["_law_script", "_law_at"] f fd
  d_l_roll : ∃ f fd, DefAt K mg "_law_roll" sLRoll ["_law_dice_here", "_law_total"] f fd
  d_l_one_of : ∃ f fd, DefAt K mg "_law_one_of" sLOneOf ["_law_dice_here", "_law_items"] f fd
  d_l_mixed : ∃ f fd, DefAt K mg "_law_mixed" sLMixed ["_law_dice_here", "_law_items"] f fd
  d_l_value : ∃ f fd, DefAt K mg "_law_value" sLValue ["_law_values", "_law_i"] f fd
  d_l_exchanged : ∃ f fd, DefAt K mg "_law_exchanged" sLExchanged ["_law_values", "_law_at"] f fd
  d_l_round : ∃ f fd, DefAt K mg "_law_round" sLRound ["_law_dice_here", "_law_size", "_law_steps"] f fd
  d_l_great_round : ∃ f fd, DefAt K mg "_law_great_round" sLGreatRound ["_law_dice_here", "_law_size"] f fd
  d_l_shift : ∃ f fd, DefAt K mg "_law_shift" sLShift ["_law_values"] f fd
  d_l_counted : ∃ f fd, DefAt K mg "_law_counted" sLCounted ["_law_values", "_law_a", "_law_b"] f fd
  d_l_by_window : ∃ f fd, DefAt K mg "_law_by_window" sLByWindow ["_law_values", "_law_a", "_law_b"] f fd
  d_l_small_right : ∃ f fd, DefAt K mg "_law_small_right" sLSmallRight ["_law_dice_here", "_law_one", "_law_values"] f fd
  d_l_right : ∃ f fd, DefAt K mg "_law_right" sLRight ["_law_dice_here"] f fd
end K1

namespace K1
open PySem PySem.Spec PyProof.Rows L2 Evl
/-! ### great powers -/
def CPowW (i j : Int) : Prop := 0 ≤ j ∧ (Builtin.Int.intBits i : Int) * j ≤ 2 ^ 27
theorem op_powW {X : Cx} : OpR X (binaryOp .Pow) (rI CPowW fun i j => .int (i ^ j.toNat)) := opI fun _ _ _ _ _ _ _ hc q => pow_int hc.1 hc.2 q
/-! ### values that are looked at -/
/-- no int -/
inductive NotInt (K : PySem.W.Frag) (H : Hp) : V → Prop where
  | bl (b : Bool) : NotInt K H (.bl b)
  | non : NotInt K H .non
  | str (x : Str) : NotInt K H (.str x)
  | lst {a : Addr} {xs : List V} (e : H a = some (.lst xs)) : NotInt K H (.ref a)
  | tup {a : Addr} {xs : List V} (e : H a = some (.tup xs)) : NotInt K H (.ref a)
  | dK {a : Addr} {kvs : List (Key × V)} (e : H a = some (.dK kvs)) : NotInt K H (.ref a)
inductive IntB (K : PySem.W.Frag) (H : Hp) : V → Bool → Prop where
  | int (i : Int) : IntB K H (.int i) (decide (-(10 ^ 60) < i) && decide (i < 10 ^ 60))
  | no {x : V} (h : NotInt K H x) : IntB K H x false
/-- between two ints -/
inductive BtwB (K : PySem.W.Frag) (H : Hp) (lo hi : Int) : V → Bool → Prop where
  | int (i : Int) : BtwB K H lo hi (.int i) ((decide (-(10 ^ 60) < i) && decide (i < 10 ^ 60)) && (decide (lo ≤ i) && decide (i ≤ hi)))
  | no {x : V} (h : NotInt K H x) : BtwB K H lo hi x false
theorem NotInt.ty {K : PySem.W.Frag} {H : Hp} {x : V} (h : NotInt K H x) : ∃ t : Value, TyX K H x t ∧ ((PySem.W.kitOne K t (.type "int") = some false) ∨ (t = .type "bool")) := by
  cases h with
  | bl b => exact ⟨_, .base (.bl b), .inr rfl⟩
  | non => exact ⟨_, .base .non, .inl (kit_ty (by decide +kernel))⟩
  | str x => exact ⟨_, .base (.str x), .inl (kit_ty (by decide +kernel))⟩
  | lst e => exact ⟨_, .base (.lst e), .inl (kit_ty (by decide +kernel))⟩
  | tup e => exact ⟨_, .base (.tup e), .inl (kit_ty (by decide +kernel))⟩
  | dK e => exact ⟨_, .base (.dK e), .inl (kit_ty (by decide +kernel))⟩
theorem NotInt.mono {K : PySem.W.Frag} {H H' : Hp} {x : V} (e : Ex H H') (h : NotInt K H x) : NotInt K H' x := by
  cases h with
  | bl b => exact .bl b
  | non => exact .non
  | str x => exact .str x
  | lst q => exact .lst (e _ _ q)
  | tup q => exact .tup (e _ _ q)
  | dK q => exact .dK (e _ _ q)
section
variable {P : Program} {w : World} {K : PySem.W.Frag} {mg : Str → Option Value} {base : Heap}
def spIsInteger (K : PySem.W.Frag) : Sp := fun vs H Q _ => ∃ x b, vs = [x] ∧ IntB K H x b ∧ ∀ H', Ex H H' → Q (.bl b) H'
theorem ok_is_integer (T : Txt K mg) {f : Addr} {fd : FuncData} (D : DefAt K mg "is_integer" sIsInteger ["value"] f fd) : FnOk P w K mg base CX0 1 f fd ["value"] (spIsInteger K) := by
  refine D.F.ok scIsInteger (fun vs H Q E h => ?_) (fun cdv A outer s H vs Q E hr h => ?_)
  · obtain ⟨x, b, rfl, _⟩ := h
    rfl
  · obtain ⟨x, b, rfl, hb, q⟩ := h
    obtain ⟨tB, vB⟩ := T.v_BOUND
    refine ⟨_, pss_one (ps_ret (pe_and (pe_callB call_isi (by rfl) T.z_isinstance (by decide +kernel) (pa_cons (pv 0) (pa_cons (pe_bltn (v := .ty "int") (by rfl) T.z_int (by decide +kernel) rfl) pa_nil)))
      (pe_and (pe_not (pe_callB call_isi (by rfl) T.z_isinstance (by decide +kernel) (pa_cons (pv 0) (pa_cons (pe_bltn (v := .ty "bool") (by rfl) T.z_bool (by decide +kernel) rfl) pa_nil))))
      (pe_one (pe_chain op_lt op_lt (pe_un un_neg (pe_glob (v := .int (10 ^ 60)) rfl vB ⟨_, rfl⟩)) (pv 0) (pe_glob (v := .int (10 ^ 60)) rfl vB ⟨_, rfl⟩)))))), ?_⟩
    cases hb with
    | int i =>
      refine ⟨.int i, rfl, .int i, .ty "int", .type "int", .type "int", true, rfl, .ty _, .base (.int i), kit_ty (by decide +kernel), true, rfl, iteT ?_⟩
      refine ⟨.int i, rfl, .int i, .ty "bool", .type "int", .type "bool", false, rfl, .ty _, .base (.int i), kit_ty (by decide +kernel), false, rfl, true, rfl, iteT ?_⟩
      refine ⟨_, rfl, .int i, rfl, _, _, rfl, rfl, _, rfl, ite2 (fun c => ?_) (fun c => ?_)⟩
      · refine ⟨_, _, rfl, rfl, ?_⟩
        have e : decide (-(10 ^ 60) < i) = true := c
        rw [e, Bool.true_and] at q
        exact q _ (Ex.refl _)
      · have e : decide (-(10 ^ 60) < i) = false := Bool.eq_false_iff.mpr c
        rw [e, Bool.false_and] at q
        exact q _ (Ex.refl _)
    | no hn =>
      obtain ⟨t, ty, h | rfl⟩ := hn.ty
      · exact ⟨x, rfl, x, .ty "int", t, .type "int", false, rfl, .ty _, ty, h, false, rfl, iteF (q _ (Ex.refl _))⟩
      · refine ⟨x, rfl, x, .ty "int", .type "bool", .type "int", true, rfl, .ty _, ty, kit_ty (by decide +kernel), true, rfl, iteT ?_⟩
        exact ⟨x, rfl, x, .ty "bool", .type "bool", .type "bool", true, rfl, .ty _, ty, kit_ty (by decide +kernel), true, rfl, false, rfl, iteF (q _ (Ex.refl _))⟩
def spIsBetween (K : PySem.W.Frag) : Sp := fun vs H Q _ => ∃ x lo hi b, vs = [x, .int lo, .int hi] ∧ BtwB K H lo hi x b ∧ ∀ H', Ex H H' → Q (.bl b) H'
end
end K1

namespace K1
open PySem PySem.Spec PyProof.Rows L2 Evl
/-! ### the dice -/
def Dice (H : Hp) (d : Addr) : Prop := ∃ l m c : Int, H d = some (.lst [.int l, .int m, .int c])
/-- all but the dice is as it was -/
def Keep (d : Addr) (H H' : Hp) : Prop := ∀ b o, b ≠ d → H b = some o → H' b = some o
theorem Keep.refl (d : Addr) (H : Hp) : Keep d H H := fun _ _ _ h => h
theorem Keep.trans {d : Addr} {H H1 H2 : Hp} (a : Keep d H H1) (b : Keep d H1 H2) : Keep d H H2 := fun x o n h => b x o n (a x o n h)
theorem Keep.ex {d : Addr} {H H' : Hp} (e : Ex H H') : Keep d H H' := fun b o _ h => e b o h
theorem Keep.dice {d : Addr} {H : Hp} {o : HO} : Keep d H (upd H d o) := fun b u n h => by
  rw [upd_ne n]
  exact h
theorem Keep.new {d p : Addr} {H : Hp} {o : HO} (h : H p = none) : Keep d H (upd H p o) := .ex (.new h)
/-- a thing that H did not know may change -/
theorem Keep.mut {d p : Addr} {H H' : Hp} {o : HO} (e : Keep d H H') (h : H p = none) : Keep d H (upd H' p o) := fun b u n q => by
  rw [upd_ne (ne_of_none q h)]
  exact e b u n q
theorem Keep.free {d p : Addr} {H H' : Hp} (e : Keep d H H') (n : p ≠ d) (h : H' p = none) : H p = none := by
  cases q : H p with
  | none => rfl
  | some o =>
    rw [e p o n q] at h
    cases h
theorem Dice.ex {d : Addr} {H H' : Hp} (e : Ex H H') (h : Dice H d) : Dice H' d := by
  obtain ⟨l, m, c, q⟩ := h
  exact ⟨l, m, c, e _ _ q⟩
theorem Dice.upd {d p : Addr} {H : Hp} {o : HO} (n : d ≠ p) (h : Dice H d) : Dice (L2.upd H p o) d := by
  obtain ⟨l, m, c, q⟩ := h
  exact ⟨l, m, c, by rw [upd_ne n]; exact q⟩
theorem Dice.ne_new {d p : Addr} {H : Hp} (h : Dice H d) (n : H p = none) : d ≠ p := by
  obtain ⟨l, m, c, q⟩ := h
  exact ne_of_none q n
theorem Dice.ne_tup {d p : Addr} {H : Hp} {xs : List V} (h : Dice H d) (n : H p = some (.tup xs)) : p ≠ d := by
  obtain ⟨l, m, c, q⟩ := h
  exact ne_of n q (by intro z; cases z)
theorem Keep.tup {d p : Addr} {H H' : Hp} {xs : List V} (e : Keep d H H') (h : Dice H d) (n : H p = some (.tup xs)) : H' p = some (.tup xs) := e _ _ (h.ne_tup n) n
theorem wide_n {n : Int} (h : 1 ≤ n) (h2 : n ≤ 10 ^ 50) {i : Int} : CDivW i n := wide_div (b := 200) (by omega) (by omega) (by decide) (by decide)
section
variable {P : Program} {w : World} {K : PySem.W.Frag} {mg : Str → Option Value} {base : Heap}
def spRoll : Sp := fun vs H Q _ => ∃ (d : Addr) (n : Int), vs = [.ref d, .int n] ∧ Dice H d ∧ 1 ≤ n ∧ n ≤ 10 ^ 50 ∧ ∀ (r : Int) H', 0 ≤ r → r < n → Dice H' d → Keep d H H' → Q (.int r) H'
theorem ok_roll (T : Txt K mg) {f : Addr} {fd : FuncData} (D : DefAt K mg "_law_roll" sLRoll ["_law_dice_here", "_law_total"] f fd) : FnOk P w K mg base CX0 1 f fd ["_law_dice_here", "_law_total"] spRoll := by
  refine D.F.ok scLRoll (fun vs H Q E h => ?_) (fun cdv A outer s H vs Q E hr h => ?_)
  · obtain ⟨d, n, rfl, _⟩ := h
    rfl
  · obtain ⟨d, n, rfl, ⟨l, m, c, hd⟩, h1, h2, q⟩ := h
    refine ⟨_, pss_cons (ps_set (i := 2) scLRoll.nd rfl (.inl rfl) (pe_callTy call_int1 (by rfl) T.z_int (by decide +kernel) (pa_cons (pv 1) pa_nil)))
      (pss_cons (ps_if (pt_cmpR op_gt (pe_ix ix_list (pv 0) pe_int (fun _ _ => rfl)) pe_int (nomark _))
        (pss_cons (ps_set (i := 3) scLRoll.nd rfl (.inl rfl) (pe_op op_mod (pe_ix ix_list (pv 0) pe_int (fun _ _ => rfl)) (pv 2)))
        (pss_cons (ps_asg (pe_op op_fdivW (pe_ix ix_list (pv 0) pe_int (fun _ _ => rfl)) (pv 2)) (pg_sub (pv 0) pe_int set_list))
        (pss_one (ps_ret (pe_callTy call_int1 (by rfl) T.z_int (by decide +kernel) (pa_cons (pv 3) pa_nil)))))) pss_nil)
      (pss_cons (ps_asg (pe_op op_add (pe_ix ix_list (pv 0) pe_int (fun _ _ => rfl)) pe_int) (pg_sub (pv 0) pe_int set_list))
      (pss_cons (ps_set (i := 4) scLRoll.nd rfl (.inl rfl) (pe_op op_mod (pe_op op_add (pe_ix ix_list (pv 0) pe_int (fun _ _ => rfl)) (pe_op op_mul pe_int (pe_ix ix_list (pv 0) pe_int (fun _ _ => rfl)))) pe_int))
      (pss_cons (ps_set (i := 5) scLRoll.nd rfl (.inl rfl) (pe_op op_add (pe_op op_mul (pe_op op_mod (pe_op op_mul (pv 4) (pv 4)) pe_int) (pv 4)) (pe_op op_mul pe_int (pe_ix ix_list (pv 0) pe_int (fun _ _ => rfl)))))
      (pss_cons (ps_set (i := 5) scLRoll.nd rfl (.inl rfl) (pe_op op_mod (pv 5) pe_int))
      (pss_one (ps_ret (pe_callTy call_int1 (by rfl) T.z_int (by decide +kernel) (pa_cons (pe_op op_mod (pe_op op_fdiv (pv 5) pe_int) (pv 2)) pa_nil))))))))), ?_⟩
    refine ⟨.int n, rfl, .inl ⟨n, rfl, ?_⟩⟩
    have S0 : SqL K H d [.int l, .int m, .int c] := SqL.of hd
    refine ⟨.ref d, rfl, d, _, 0, .int l, rfl, rfl, S0, rfl, l, 0, rfl, rfl, _, rfl, ite2 (fun cc => ?_) (fun cc => ?_)⟩
    · refine ⟨.ref d, rfl, d, _, 0, .int l, rfl, rfl, S0, rfl, .int n, rfl, l, n, rfl, rfl, by omega, ?_⟩
      refine ⟨.ref d, rfl, d, _, 0, .int l, rfl, rfl, S0, rfl, .int n, rfl, l, n, rfl, rfl, wide_n h1 h2, .ref d, rfl, d, _, 0, 0, rfl, rfl, hd, rfl, ?_⟩
      refine ⟨_, rfl, .inl ⟨l % n, rfl, ?_⟩⟩
      exact q _ _ (Int.emod_nonneg _ (by omega)) (Int.emod_lt_of_pos _ (by omega)) ⟨_, _, _, upd_same⟩ Keep.dice
    · refine ⟨.ref d, rfl, d, _, 2, .int c, rfl, rfl, S0, rfl, c, 1, rfl, rfl, .ref d, rfl, d, _, 2, 2, rfl, rfl, hd, rfl, ?_⟩
      generalize hH1 : upd H d _ = H1
      have hd1 : H1 d = some (.lst [.int l, .int m, .int (c + 1)]) := by
        rw [← hH1]
        exact upd_same
      have k1 : Keep d H H1 := by
        rw [← hH1]
        exact Keep.dice
      have S1 : SqL K H1 d [.int l, .int m, .int (c + 1)] := SqL.of hd1
      refine ⟨.ref d, rfl, d, _, 1, .int m, rfl, rfl, S1, rfl, .ref d, rfl, d, _, 2, .int (c + 1), rfl, rfl, S1, rfl, _, _, rfl, rfl, .inl (by decide), _, _, rfl, rfl, _, _, rfl, rfl, by show (0 : Int) < _; decide, ?_⟩
      refine ⟨_, rfl, _, rfl, (m + 1000409 * (c + 1)) % 2305843009213693951, (m + 1000409 * (c + 1)) % 2305843009213693951, rfl, rfl, .inl (by constructor <;> omega), _, _, rfl, rfl, by show (0 : Int) < _; decide, _, rfl, _, (m + 1000409 * (c + 1)) % 2305843009213693951, rfl, rfl, .inr (by constructor <;> omega), ?_⟩
      refine ⟨.ref d, rfl, d, _, 2, .int (c + 1), rfl, rfl, S1, rfl, _, _, rfl, rfl, .inl (by decide), _, _, rfl, rfl, ?_⟩
      refine ⟨_, rfl, _, _, rfl, rfl, by show (0 : Int) < _; decide, ?_⟩
      refine ⟨_, rfl, _, _, rfl, rfl, ⟨by decide, by decide⟩, .int n, rfl, _, n, rfl, rfl, by omega, .inl ⟨_, rfl, ?_⟩⟩
      exact q _ _ (Int.emod_nonneg _ (by omega)) (Int.emod_lt_of_pos _ (by omega)) ⟨_, _, _, hd1⟩ k1
def spOneOf (K : PySem.W.Frag) : Sp := fun vs H Q _ => ∃ (d a : Addr) (xs : List V), vs = [.ref d, .ref a] ∧ Dice H d ∧ H a = some (.lst xs) ∧ a ≠ d ∧ 1 ≤ xs.length ∧ xs.length ≤ 1000 ∧ ∀ x H', x ∈ xs → Dice H' d → Keep d H H' → Q x H'
theorem ok_one_of (T : Txt K mg) {f : Addr} {fd : FuncData} (D : DefAt K mg "_law_one_of" sLOneOf ["_law_dice_here", "_law_items"] f fd) : FnOk P w K mg base CX0 2 f fd ["_law_dice_here", "_law_items"] (spOneOf K) := by
  refine D.F.ok scLOneOf (fun vs H Q E h => ?_) (fun cdv A outer s H vs Q E hr h => ?_)
  · obtain ⟨d, a, xs, rfl, _⟩ := h
    rfl
  · obtain ⟨d, a, xs, rfl, hd, ha, nad, h1, h2, q⟩ := h
    obtain ⟨f1, fd1, D1⟩ := T.d_l_roll
    refine ⟨_, pss_one (ps_ret (pe_ix ix_list (pv 1) (pe_call (ok_roll T D1) hr (by rfl) D1.g D1.F.kp D1.b .nil pass0 (pa_cons (pv 0) (pa_cons (pe_callB call_len_seq (by rfl) T.z_len PySem.boot_len (pa_cons (pv 1) pa_nil)) pa_nil))) (fun _ _ => rfl))), ?_⟩
    refine ⟨.ref a, rfl, .ref d, rfl, .ref a, rfl, a, xs, rfl, .inl (SqL.of ha), d, _, rfl, hd, by omega, by omega, fun r H1 r0 r1 hd1 k1 => ?_⟩
    have hx : xs[r.toNat]? = some (xs[r.toNat]'(by omega)) := List.getElem?_eq_getElem _
    refine ⟨a, xs, r, _, rfl, rfl, SqL.of (k1 _ _ nad ha), ?_, q (xs[r.toNat]'(by omega)) H1 (List.getElem_mem _) hd1 k1⟩
    exact at_of (show r = ((r.toNat : Nat) : Int) by omega) hx
/-- a drawn ring -/
def RingAt (H : Hp) (most : Int) (x : V) (n s : Int) : Prop := ∃ t, x = .ref t ∧ H t = some (.tup [.int n, .int s]) ∧ 2 ≤ n ∧ n ≤ most ∧ 1 ≤ s ∧ s < n
def spRing : Sp := fun vs H Q _ => ∃ (d : Addr) (most : Int), vs = [.ref d, .int most] ∧ Dice H d ∧ 2 ≤ most ∧ most ≤ 1000 ∧ ∀ x n s H', RingAt H' most x n s → Dice H' d → Keep d H H' → Q x H'
end
end K1

namespace K1
open PySem PySem.Spec PyProof.Rows L2 Evl
section
variable {P : Program} {w : World} {K : PySem.W.Frag} {mg : Str → Option Value} {base : Heap}
def spDice (K : PySem.W.Frag) : Sp := fun vs H Q _ => ∃ (a : Addr) (ns : List Int) (i : Nat), vs = [.ref a, .int i] ∧ SqL K H a (ns.map V.int) ∧ ∀ p H', H p = none → Ex H H' → Dice H' p → Q (.ref p) H'
theorem ok_dice (T : Txt K mg) {f : Addr} {fd : FuncData} (D : DefAt K mg "_law_dice" sLDice ["_law_script", "_law_at"] f fd) : FnOk P w K mg base CX0 1 f fd ["_law_script", "_law_at"] (spDice K) := by
  refine D.F.ok scLDice (fun vs H Q E h => ?_) (fun cdv A outer s H vs Q E hr h => ?_)
  · obtain ⟨d, n, i, rfl, _⟩ := h
    rfl
  · obtain ⟨a, ns, i, rfl, hS, q⟩ := h
    refine ⟨_, pss_cons (ps_set (i := 2) scLDice.nd rfl (.inl rfl) (pe_op op_add (pe_op op_mul pe_int (pv 1)) pe_int))
      (pss_cut (ps_if (pt_cmpR op_lt (pv 1) (pe_callB call_len_seq (by rfl) T.z_len PySem.boot_len (pa_cons (pv 0) pa_nil)) (nomark _))
        (pss_one (ps_set (i := 2) scLDice.nd rfl (.inl rfl) (pe_ix ix_list (pv 0) (pv 1) (fun _ _ => rfl)))) pss_nil)
      (pss_cons (ps_set (i := 3) scLDice.nd rfl (.inl rfl) (pe_op op_mod (pe_callTy call_int1 (by rfl) T.z_int (by decide +kernel) (pa_cons (pe_callB call_abs (by rfl) T.z_abs (by decide +kernel) (pa_cons (pv 2) pa_nil)) pa_nil)) (pe_op op_powW (pe_op op_pow pe_int pe_int) pe_int)))
      (pss_cons (ps_set (i := 4) scLDice.nd rfl (.inl rfl) (pe_op op_fdivW (pv 3) (pe_op op_pow pe_int pe_int)))
      (pss_cons (ps_set (i := 5) scLDice.nd rfl (.inl rfl) (pe_op op_add (pe_op op_add (pe_op op_add (pe_op op_mul (pe_op op_mod (pv 3) pe_int) pe_int) (pe_op op_mul pe_int (pv 1))) (pe_op op_mul pe_int (pe_callTy call_int1 (by rfl) T.z_int (by decide +kernel) (pa_cons (pe_cmpR op_lt (pv 2) pe_int (nomark _)) pa_nil)))) pe_int))
      (pss_one (ps_ret (pe_lst (pa_cons (pv 4) (pa_cons (pe_op op_mod (pv 5) pe_int) (pa_cons pe_int pa_nil))))))))) ), ?_⟩
    refine ⟨_, rfl, _, _, rfl, rfl, .inl (by decide), _, _, rfl, rfl, ?_⟩
    refine ⟨fun σ' H' => ∃ cell : Int, σ' = [some (.ref a), some (.int i), some (.int cell), none, none, none] ∧ H' = H, ?_, ?_⟩
    · refine ⟨_, rfl, .ref a, rfl, a, _, rfl, .inl hS, _, _, rfl, rfl, _, rfl, ite2 (fun c => ?_) (fun c => ⟨_, rfl, rfl⟩)⟩
      have c' : (i : Int) < ((ns.map V.int).length : Int) := of_decide_eq_true c
      rw [List.length_map] at c'
      have hx : (ns.map V.int)[i]? = some (.int (ns[i]'(by omega))) := by
        rw [List.getElem?_map, List.getElem?_eq_getElem (by omega)]
        rfl
      exact ⟨.ref a, rfl, _, rfl, a, _, _, _, rfl, rfl, hS, atI_nat hx, _, rfl, rfl⟩
    · rintro σ' H' ⟨cell, rfl, rfl⟩
      refine ⟨_, rfl, _, rfl, .inl ⟨_, rfl, _, _, rfl, rfl, ⟨by decide, by decide, by decide⟩, _, _, rfl, rfl, ⟨by decide, by decide +kernel⟩, _, _, rfl, rfl, by show (0 : Int) < (10 ^ Int.toNat 60) ^ Int.toNat 10; decide +kernel, ?_⟩⟩
      refine ⟨_, rfl, _, _, rfl, rfl, ⟨by decide, by decide, by decide⟩, _, _, rfl, rfl, wide_div (b := 60) (by decide +kernel) (by decide +kernel) (by decide) (by decide), ?_⟩
      refine ⟨_, rfl, _, _, rfl, rfl, by show (0 : Int) < _; decide, _, _, rfl, rfl, .inr (by decide), _, rfl, _, _, rfl, rfl, .inl (by decide), _, _, rfl, rfl, _, rfl, _, _, rfl, rfl, .inr ⟨_, rfl, _, _, rfl, rfl, .inl (by decide), _, _, rfl, rfl, _, _, rfl, rfl, ?_⟩⟩
      refine ⟨_, rfl, _, rfl, _, _, rfl, rfl, by show (0 : Int) < _; decide, by show 3 ≤ sizeLine; decide, fun p hp => ?_⟩
      exact q p _ hp (Ex.new hp) ⟨_, _, _, upd_same⟩
/-- the greatest common divisor -/
def spCommon : Sp := fun vs H Q _ => ∃ (a b : Nat), vs = [.int a, .int b] ∧ ∀ H', Ex H H' → Q (.int (Nat.gcd a b : Nat)) H'
/-- a drawn ring of one order -/
def spRingOf : Sp := fun vs H Q _ => ∃ (d : Addr) (k t : Int), vs = [.ref d, .int k, .int t] ∧ Dice H d ∧ 2 ≤ k ∧ k ≤ 100 ∧ 1 ≤ t ∧ t ≤ 1000 ∧ ∀ x n s H', RingAt H' (k * t) x n s → Dice H' d → Keep d H H' → Q x H'
end
end K1

namespace K1
open PySem PySem.Spec PyProof.Rows L2 Evl
/-! ### chains -/
theorem RingAt.keep {d : Addr} {H H' : Hp} {most n s : Int} {x : V} (e : Keep d H H') (h : Dice H d) (r : RingAt H most x n s) : RingAt H' most x n s := by
  obtain ⟨t, rfl, ht, q⟩ := r
  exact ⟨t, rfl, e.tup h ht, q⟩
theorem RingAt.ex {H H' : Hp} {most n s : Int} {x : V} (e : Ex H H') (r : RingAt H most x n s) : RingAt H' most x n s := by
  obtain ⟨t, rfl, ht, q⟩ := r
  exact ⟨t, rfl, e _ _ ht, q⟩
theorem RingAt.upd {H : Hp} {most n s : Int} {x : V} {p : Addr} {o : HO} (h : ∀ t, x = .ref t → t ≠ p) (r : RingAt H most x n s) : RingAt (upd H p o) most x n s := by
  obtain ⟨t, rfl, ht, q⟩ := r
  exact ⟨t, rfl, by rw [upd_ne (h t rfl)]; exact ht, q⟩
theorem RingAt.most {H : Hp} {m m' n s : Int} {x : V} (h : m ≤ m') (r : RingAt H m x n s) : RingAt H m' x n s := by
  obtain ⟨t, rfl, ht, q1, q2, q3, q4⟩ := r
  exact ⟨t, rfl, ht, q1, by omega, q3, q4⟩
/-- rings at values, one by one -/
abbrev RingsAt (H : Hp) (most : Int) (xs : List V) (rs : List (Int × Int)) : Prop := Paired (fun x (r : Int × Int) => RingAt H most x r.1 r.2) xs rs
theorem paired_snoc {α β : Type} {R : α → β → Prop} {x : α} {y : β} (h : R x y) : ∀ {xs : List α} {ys : List β}, Paired R xs ys → Paired R (xs ++ [x]) (ys ++ [y])
  | _, _, .nil => .cons h .nil
  | _, _, .cons r t => .cons r (paired_snoc h t)
theorem paired_imp {α β : Type} {R S : α → β → Prop} (h : ∀ x y, R x y → S x y) : ∀ {xs : List α} {ys : List β}, Paired R xs ys → Paired S xs ys
  | _, _, .nil => .nil
  | _, _, .cons r t => .cons (h _ _ r) (paired_imp h t)
theorem paired_append {α β : Type} {R : α → β → Prop} : ∀ {xs xs' : List α} {ys ys' : List β}, Paired R xs ys → Paired R xs' ys' → Paired R (xs ++ xs') (ys ++ ys')
  | _, _, _, _, .nil, s => s
  | _, _, _, _, .cons r t, s => .cons r (paired_append t s)
theorem paired_get {α β : Type} {R : α → β → Prop} : ∀ {xs : List α} {ys : List β} {i : Nat} {x : α}, Paired R xs ys → xs[i]? = some x → ∃ y, ys[i]? = some y ∧ R x y
  | _, _, _, _, .nil, e => by simp at e
  | _, _, 0, _, .cons r _, e => by simp at e; subst e; exact ⟨_, rfl, r⟩
  | _, _, i + 1, x, .cons _ t, e => by
    obtain ⟨u, h1, h2⟩ := paired_get (i := i) (x := x) t (by simpa using e)
    exact ⟨u, by simpa using h1, h2⟩
theorem paired_len {α β : Type} {R : α → β → Prop} {xs : List α} {ys : List β} (h : Paired R xs ys) : xs.length = ys.length := Paired.length h
section
variable {P : Program} {w : World} {K : PySem.W.Frag} {mg : Str → Option Value} {base : Heap}
def spChain : Sp := fun vs H Q _ => ∃ (d : Addr) (g most : Int), vs = [.ref d, .int g, .int most] ∧ Dice H d ∧ 1 ≤ g ∧ g ≤ 100 ∧ 2 ≤ most ∧ most ≤ 60 ∧
  ∀ p xs rs H', H' p = some (.tup xs) → RingsAt H' most xs rs → (xs.length : Int) = g → Dice H' d → Keep d H H' → Q (.ref p) H'
/-- what stands behind i rings of the list at D -/
def ChW (d Dl : Addr) (H : Hp) (most : Int) (i : Nat) (H' : Hp) : Prop := ∃ xs rs, H' Dl = some (.lst xs) ∧ RingsAt H' most xs rs ∧ xs.length = i ∧ Keep d H H' ∧ Dice H' d
theorem ChW.turn {d Dl : Addr} {H H' H2 : Hp} {most n s : Int} {x : V} {i : Nat} (W : ChW d Dl H most i H') (ndl : d ≠ Dl) (hD0 : H Dl = none) (k : Keep d H' H2) (hd : Dice H2 d) (r : RingAt H2 most x n s) (hi : i < 1000) :
    ∃ acc, H2 Dl = some (.lst acc) ∧ acc.length < sizeLine ∧ ChW d Dl H most (i + 1) (upd H2 Dl (.lst (acc ++ [x]))) := by
  obtain ⟨xs, rs, a1, a2, a3, a4, a5⟩ := W
  have e1 : H2 Dl = some (.lst xs) := k _ _ ndl.symm a1
  have nt : ∀ {y : V} {n s : Int}, RingAt H2 most y n s → RingAt (upd H2 Dl (.lst (xs ++ [x]))) most y n s := fun {y n s} q => q.upd fun t ht => by
    obtain ⟨t', rfl, ht', _⟩ := q
    cases ht
    exact ne_of ht' e1 (by intro z; cases z)
  refine ⟨xs, e1, small1000 (by omega), xs ++ [x], rs ++ [(n, s)], upd_same, paired_snoc (R := fun x (r : Int × Int) => RingAt (upd H2 Dl (.lst (xs ++ [_]))) most x r.1 r.2) (y := (n, s)) (nt r) (paired_imp (R := fun x (r : Int × Int) => RingAt H' most x r.1 r.2) (fun y r' q => nt (q.keep k a5)) a2), ?_, (a4.trans k).mut hD0, hd.upd ndl⟩
  rw [List.length_append, a3]
  rfl
end
end K1

namespace K1
open PySem PySem.Spec PyProof.Rows L2 Evl
/-! ### judges of rings and chains -/
/-- no tuple -/
inductive NotTup (K : PySem.W.Frag) (H : Hp) : V → Prop where
  | bl (b : Bool) : NotTup K H (.bl b)
  | non : NotTup K H .non
  | int (i : Int) : NotTup K H (.int i)
  | str (x : Str) : NotTup K H (.str x)
  | lst {a : Addr} {xs : List V} (e : H a = some (.lst xs)) : NotTup K H (.ref a)
  | dK {a : Addr} {kvs : List (Key × V)} (e : H a = some (.dK kvs)) : NotTup K H (.ref a)
theorem NotTup.ty {K : PySem.W.Frag} {H : Hp} {x : V} (h : NotTup K H x) : ∃ t : Value, TyX K H x t ∧ PySem.W.kitOne K t (.type "tuple") = some false := by
  cases h with
  | bl b => exact ⟨_, .base (.bl b), (kit_ty (by decide +kernel))⟩
  | non => exact ⟨_, .base .non, (kit_ty (by decide +kernel))⟩
  | int x => exact ⟨_, .base (.int x), (kit_ty (by decide +kernel))⟩
  | str x => exact ⟨_, .base (.str x), (kit_ty (by decide +kernel))⟩
  | lst e => exact ⟨_, .base (.lst e), (kit_ty (by decide +kernel))⟩
  | dK e => exact ⟨_, .base (.dK e), (kit_ty (by decide +kernel))⟩
theorem NotTup.mono {K : PySem.W.Frag} {H H' : Hp} {x : V} (e : Ex H H') (h : NotTup K H x) : NotTup K H' x := by
  cases h with
  | bl b => exact .bl b
  | non => exact .non
  | int x => exact .int x
  | str x => exact .str x
  | lst q => exact .lst (e _ _ q)
  | dK q => exact .dK (e _ _ q)
theorem BtwB.mono {K : PySem.W.Frag} {H H' : Hp} {lo hi : Int} {x : V} {b : Bool} (e : Ex H H') (h : BtwB K H lo hi x b) : BtwB K H' lo hi x b := by
  cases h with
  | int i => exact .int i
  | no h => exact .no (h.mono e)
theorem BtwB.yes {K : PySem.W.Frag} {H : Hp} {lo hi i : Int} (h1 : lo ≤ i) (h2 : i ≤ hi) (h3 : -(10 ^ 60) < i) (h4 : i < 10 ^ 60) : BtwB K H lo hi (.int i) true := by
  have := BtwB.int (K := K) (H := H) (lo := lo) (hi := hi) i
  rw [decide_eq_true h1, decide_eq_true h2, decide_eq_true h3, decide_eq_true h4] at this
  exact this
theorem BtwB.out {K : PySem.W.Frag} {H : Hp} {lo hi i : Int} (h1 : ¬ (lo ≤ i ∧ i ≤ hi)) : BtwB K H lo hi (.int i) false := by
  have := BtwB.int (K := K) (H := H) (lo := lo) (hi := hi) i
  have e : (decide (lo ≤ i) && decide (i ≤ hi)) = false := by
    by_cases c : lo ≤ i
    · have c2 : ¬ i ≤ hi := fun z => h1 ⟨c, z⟩
      rw [decide_eq_false c2, Bool.and_false]
    · rw [decide_eq_false c, Bool.false_and]
  rw [e, Bool.and_false] at this
  exact this
inductive PairB (K : PySem.W.Frag) (H : Hp) : V → Bool → Prop where
  | no {x : V} (h : NotTup K H x) : PairB K H x false
  | tup {a : Addr} {xs : List V} (e : H a = some (.tup xs)) : PairB K H (.ref a) (decide (xs.length = 2))
inductive RingB (K : PySem.W.Frag) (H : Hp) : V → Bool → Prop where
  | no {x : V} (h : NotTup K H x) : RingB K H x false
  | len {a : Addr} {xs : List V} (e : H a = some (.tup xs)) (h : xs.length ≠ 2) : RingB K H (.ref a) false
  | first {a : Addr} {x y : V} (e : H a = some (.tup [x, y])) (h : BtwB K H 2 60 x false) : RingB K H (.ref a) false
  | both {a : Addr} {n : Int} {y : V} {b : Bool} (e : H a = some (.tup [.int n, y])) (h1 : 2 ≤ n) (h2 : n ≤ 60) (h : BtwB K H 1 (n - 1) y b) : RingB K H (.ref a) b
theorem RingB.mono {K : PySem.W.Frag} {H H' : Hp} {x : V} {b : Bool} (e : Ex H H') (h : RingB K H x b) : RingB K H' x b := by
  cases h with
  | no h => exact .no (h.mono e)
  | len q h => exact .len (e _ _ q) h
  | first q h => exact .first (e _ _ q) (h.mono e)
  | both q h1 h2 h => exact .both (e _ _ q) h1 h2 (h.mono e)
inductive ChainB (K : PySem.W.Frag) (H : Hp) : V → Bool → Prop where
  | no {x : V} (h : NotTup K H x) : ChainB K H x false
  | len {a : Addr} {xs : List V} (e : H a = some (.tup xs)) (h : ¬ (1 ≤ xs.length ∧ xs.length ≤ 12)) : ChainB K H (.ref a) false
  | tup {a : Addr} {xs : List V} {bs : List Bool} (e : H a = some (.tup xs)) (h : 1 ≤ xs.length ∧ xs.length ≤ 12) (hb : Paired (RingB K H) xs bs) : ChainB K H (.ref a) (bs.all id)
theorem RingAt.ring {K : PySem.W.Frag} {H : Hp} {most n s : Int} {x : V} (h : RingAt H most x n s) (hm : most ≤ 60) : RingB K H x true := by
  obtain ⟨t, rfl, ht, h1, h2, h3, h4⟩ := h
  exact .both ht h1 (by omega) (.yes h3 (by omega) (by omega) (by omega))
section
variable {P : Program} {w : World} {K : PySem.W.Frag} {mg : Str → Option Value} {base : Heap}
def spIsPair (K : PySem.W.Frag) : Sp := fun vs H Q _ => ∃ x b, vs = [x] ∧ PairB K H x b ∧ ∀ H', Ex H H' → Q (.bl b) H'
def spIsRing (K : PySem.W.Frag) : Sp := fun vs H Q _ => ∃ x b, vs = [x] ∧ RingB K H x b ∧ ∀ H', Ex H H' → Q (.bl b) H'
def spIsChain (K : PySem.W.Frag) : Sp := fun vs H Q _ => ∃ x b, vs = [x] ∧ ChainB K H x b ∧ ∀ H', Ex H H' → Q (.bl b) H'
end
end K1

namespace K1
open PySem PySem.Spec PyProof.Rows L2 Evl
/-! ### orders and diagonals -/
section
variable {P : Program} {w : World} {K : PySem.W.Frag} {mg : Str → Option Value} {base : Heap}
def spCheckInteger (K : PySem.W.Frag) : Sp := fun vs H Q _ => ∃ i : Int, vs = [.int i] ∧ -(10 ^ 60) < i ∧ i < 10 ^ 60 ∧ ∀ H', Ex H H' → Q .non H'
theorem ok_check_integer (T : Txt K mg) {f : Addr} {fd : FuncData} (D : DefAt K mg "check_integer" sCheckInteger ["value"] f fd) : FnOk P w K mg base CX0 2 f fd ["value"] (spCheckInteger K) := by
  refine D.F.ok scCheckInteger (fun vs H Q E h => ?_) (fun cdv A outer s H vs Q E hr h => ?_)
  · obtain ⟨x, rfl, _⟩ := h
    rfl
  · obtain ⟨i, rfl, h1, h2, q⟩ := h
    obtain ⟨f1, fd1, D1⟩ := T.d_is_integer
    refine ⟨_, pss_one (ps_if (pt_not (pt_val (pe_call (ok_is_integer T D1) hr (by rfl) D1.g D1.F.kp D1.b .nil pass0 (pa_cons (pv 0) pa_nil)))) pss_never pss_nil), ?_⟩
    refine ⟨_, rfl, .int i, true, rfl, ?_, fun H1 e1 => ⟨true, rfl, iteF (q _ e1)⟩⟩
    have := IntB.int (K := K) (H := H) i
    rw [decide_eq_true h1, decide_eq_true h2] at this
    exact this
def spCheckRing (K : PySem.W.Frag) : Sp := fun vs H Q _ => ∃ x, vs = [x] ∧ RingB K H x true ∧ ∀ H', Ex H H' → Q .non H'
def spCheckChain (K : PySem.W.Frag) : Sp := fun vs H Q _ => ∃ x, vs = [x] ∧ ChainB K H x true ∧ ∀ H', Ex H H' → Q .non H'
def spOrderOf : Sp := fun vs H Q _ => ∃ x n s, vs = [x] ∧ RingAt H 60 x n s ∧ ∀ H', Ex H H' → Q (.int (K1M.ord n.natAbs s.natAbs : Nat)) H'
def spLets : Sp := fun vs H Q _ => ∃ x n s p c, vs = [x, .int p, .int c] ∧ RingAt H 60 x n s ∧ ∀ H', Ex H H' → Q (.bl (decide ((c * s - p) % n = 0))) H'
def spDoesLet : Sp := fun vs H Q _ => ∃ x n s p c, vs = [x, .int p, .int c] ∧ RingAt H 60 x n s ∧ 0 ≤ p ∧ p < n ∧ -(10 ^ 60) < c ∧ c < 10 ^ 60 ∧ ∀ H', Ex H H' → Q (.bl (decide ((c * s) % n = p))) H'
end
end K1

/-! plain mathematics of heaps: heights of columns that do not ascend -/
namespace HM
def hAt (h : List Nat) (c : Nat) : Nat := h.getD c 0
theorem hAt_lt {h : List Nat} {c : Nat} (hc : c < h.length) : h[c]? = some (hAt h c) := by
  unfold hAt
  rw [List.getD_eq_getElem?_getD, List.getElem?_eq_getElem hc]
  rfl
theorem hAt_ge {h : List Nat} {c : Nat} (hc : h.length ≤ c) : hAt h c = 0 := by
  unfold hAt
  rw [List.getD_eq_getElem?_getD, List.getElem?_eq_none hc]
  rfl
structure IsHeap (h : List Nat) : Prop where
  pos : ∀ c, c < h.length → 0 < hAt h c
  fall : ∀ c, hAt h (c + 1) ≤ hAt h c
theorem IsHeap.nil : IsHeap [] := ⟨fun c hc => absurd hc (Nat.not_lt_zero c), fun c => by rw [hAt_ge (Nat.zero_le _), hAt_ge (Nat.zero_le _)]; exact Nat.le_refl _⟩
theorem IsHeap.le {h : List Nat} (H : IsHeap h) {c : Nat} : ∀ {d : Nat}, c ≤ d → hAt h d ≤ hAt h c
  | 0, hd => by
    have : c = 0 := by omega
    rw [this]
    exact Nat.le_refl _
  | d + 1, hd => by
    by_cases e : c = d + 1
    · rw [e]
      exact Nat.le_refl _
    · exact Nat.le_trans (H.fall d) (H.le (by omega))
/-- two heaps with the same heights are one -/
theorem heap_ext {h h' : List Nat} (H : IsHeap h) (H' : IsHeap h') (e : ∀ c, hAt h c = hAt h' c) : h = h' := by
  have l : h.length = h'.length := by
    rcases Nat.lt_trichotomy h.length h'.length with q | q | q
    · have a := H'.pos _ q
      rw [← e, hAt_ge (Nat.le_refl _)] at a
      omega
    · exact q
    · have a := H.pos _ q
      rw [e, hAt_ge (Nat.le_refl _)] at a
      omega
  refine List.ext_getElem? fun c => ?_
  by_cases hc : c < h.length
  · rw [hAt_lt hc, hAt_lt (by omega), e]
  · rw [List.getElem?_eq_none (by omega), List.getElem?_eq_none (by omega)]
/-- a square can be added on top of the column -/
def opn (h : List Nat) (c : Nat) : Bool := decide (c = 0) || decide (hAt h c < hAt h (c - 1))
theorem opn_le {h : List Nat} {c : Nat} (o : opn h c = true) : c ≤ h.length := by
  unfold opn at o
  by_cases hc : c ≤ h.length
  · exact hc
  · rw [decide_eq_false (show ¬ c = 0 by omega), hAt_ge (show h.length ≤ c by omega), hAt_ge (show h.length ≤ c - 1 by omega)] at o
    exact absurd o (by decide)
theorem opn_lt {h : List Nat} {c : Nat} (o : opn h (c + 1) = true) : hAt h (c + 1) < hAt h c := by
  unfold opn at o
  rw [decide_eq_false (show ¬ c + 1 = 0 by omega), Bool.false_or] at o
  exact of_decide_eq_true o
def b2n (b : Bool) : Nat := if b = true then 1 else 0
theorem b2n_le (b : Bool) : b2n b ≤ 1 := by cases b <;> decide
def grow (h : List Nat) (g : Nat → Bool) : List Nat := (List.range h.length).map (fun c => hAt h c + b2n (g c)) ++ (if g h.length = true then [1] else [])
theorem grow_len (h : List Nat) (g : Nat → Bool) : (grow h g).length = h.length + b2n (g h.length) := by
  unfold grow b2n
  rw [List.length_append, List.length_map, List.length_range]
  split <;> rfl
theorem hAt_grow {h : List Nat} {g : Nat → Bool} (hg : ∀ c, g c = true → opn h c = true) (c : Nat) : hAt (grow h g) c = hAt h c + b2n (g c) := by
  unfold hAt
  rw [List.getD_eq_getElem?_getD, List.getD_eq_getElem?_getD]
  unfold grow
  by_cases hc : c < h.length
  · rw [List.getElem?_append_left (by rw [List.length_map, List.length_range]; exact hc), List.getElem?_map, List.getElem?_range hc, hAt_lt hc]
    rfl
  · rw [List.getElem?_append_right (by rw [List.length_map, List.length_range]; omega), List.length_map, List.length_range, List.getElem?_eq_none (show h.length ≤ c by omega)]
    by_cases e : c = h.length
    · subst e
      rw [Nat.sub_self]
      unfold b2n
      by_cases q : g h.length = true
      · rw [if_pos q, if_pos q]
        rfl
      · rw [if_neg q, if_neg q]
        rfl
    · have q : g c = false := by
        cases q : g c with
        | false => rfl
        | true => exact absurd (opn_le (hg c q)) (by omega)
      rw [q]
      have l : (if g h.length = true then [1] else []).length ≤ 1 := by split <;> decide
      rw [List.getElem?_eq_none (by omega)]
      rfl
theorem grow_heap {h : List Nat} {g : Nat → Bool} (H : IsHeap h) (hg : ∀ c, g c = true → opn h c = true) : IsHeap (grow h g) := by
  refine ⟨fun c hc => ?_, fun c => ?_⟩
  · rw [hAt_grow hg]
    rw [grow_len] at hc
    by_cases q : c < h.length
    · have := H.pos c q
      omega
    · have : c = h.length := by
        have := b2n_le (g h.length)
        omega
      subst this
      omega
  · rw [hAt_grow hg, hAt_grow hg]
    have := H.fall c
    cases q : g (c + 1) with
    | false =>
      show hAt h (c + 1) + 0 ≤ _
      omega
    | true =>
      have := opn_lt (hg _ q)
      show hAt h (c + 1) + 1 ≤ _
      omega
/-- heights and one more, 0, with some more -/
def hts (h : List Nat) (f : Nat → Nat) : List Nat := (List.range (h.length + 1)).map fun c => hAt h c + f c
theorem hts_len (h : List Nat) (f : Nat → Nat) : (hts h f).length = h.length + 1 := by
  unfold hts
  rw [List.length_map, List.length_range]
theorem hts_get {h : List Nat} {f : Nat → Nat} {c : Nat} (hc : c ≤ h.length) : (hts h f)[c]? = some (hAt h c + f c) := by
  unfold hts
  rw [List.getElem?_map, List.getElem?_range (by omega)]
  rfl
theorem hts_zero (h : List Nat) : h ++ [0] = hts h fun _ => 0 := by
  refine List.ext_getElem? fun c => ?_
  by_cases q : c < h.length
  · rw [List.getElem?_append_left q, hAt_lt q, hts_get (by omega)]
    rfl
  · by_cases e : c = h.length
    · subst e
      rw [List.getElem?_append_right (Nat.le_refl _), Nat.sub_self, hts_get (Nat.le_refl _), hAt_ge (Nat.le_refl _)]
      rfl
    · rw [List.getElem?_eq_none (by rw [List.length_append]; show h.length + 1 ≤ c; omega), List.getElem?_eq_none (by rw [hts_len]; omega)]
def cnt (cols : List Nat) (c : Nat) : Nat := (cols.filter fun d => d == c).length
theorem cnt_snoc (cols : List Nat) (d c : Nat) : cnt (cols ++ [d]) c = cnt cols c + b2n (d == c) := by
  unfold cnt
  rw [List.filter_append, List.length_append]
  cases q : (d == c) with
  | true =>
    rw [List.filter_cons, if_pos q]
    rfl
  | false =>
    rw [List.filter_cons, if_neg (by rw [q]; decide)]
    rfl
theorem hts_set {h : List Nat} {cols : List Nat} {d : Nat} (hd : d ≤ h.length) : (hts h (cnt cols)).set d (hAt h d + cnt cols d + 1) = hts h (cnt (cols ++ [d])) := by
  refine List.ext_getElem? fun c => ?_
  rw [List.getElem?_set]
  by_cases e : d = c
  · subst e
    rw [if_pos rfl, if_pos (by rw [hts_len]; omega), hts_get hd, cnt_snoc]
    show some _ = some (hAt h d + (cnt cols d + b2n (d == d)))
    rw [beq_self_eq_true]
    rfl
  · rw [if_neg e]
    by_cases q : c ≤ h.length
    · rw [hts_get q, hts_get q, cnt_snoc]
      have : (d == c) = false := by simpa using e
      rw [this]
      rfl
    · rw [List.getElem?_eq_none (by rw [hts_len]; omega), List.getElem?_eq_none (by rw [hts_len]; omega)]
theorem range_filter_cnt (n : Nat) (g : Nat → Bool) (c : Nat) : cnt ((List.range n).filter g) c = b2n (decide (c < n) && g c) := by
  induction n with
  | zero => rfl
  | succ n ih =>
    rw [List.range_succ, List.filter_append]
    have e : cnt ((List.range n).filter g ++ [n].filter g) c = cnt ((List.range n).filter g) c + cnt ([n].filter g) c := by
      unfold cnt
      rw [List.filter_append, List.length_append]
    rw [e, ih]
    by_cases q : g n = true
    · have : [n].filter g = [n] := by
        rw [List.filter_cons, if_pos q]
        rfl
      rw [this]
      unfold cnt
      by_cases z : n = c
      · subst z
        rw [List.filter_cons, if_pos (beq_self_eq_true n), decide_eq_false (Nat.lt_irrefl n), decide_eq_true (Nat.lt_succ_self n), q]
        rfl
      · rw [List.filter_cons, if_neg (show ¬ (n == c) = true by simpa using z)]
        have : decide (c < n) = decide (c < n + 1) := decide_eq_decide.mpr (by omega)
        rw [this]
        rfl
    · have : [n].filter g = [] := by
        rw [List.filter_cons, if_neg q]
        rfl
      rw [this]
      by_cases z : c = n
      · subst z
        have : g c = false := by simpa using q
        rw [this, Bool.and_false, Bool.and_false]
        rfl
      · have : decide (c < n) = decide (c < n + 1) := decide_eq_decide.mpr (by omega)
        rw [this]
        rfl
/-- what heaped makes of columns -/
theorem hts_filter {h : List Nat} (hp : ∀ c, c < h.length → 0 < hAt h c) {g : Nat → Bool} {f : Nat → Nat} (hf : ∀ c, c ≤ h.length → f c = b2n (g c)) : (hts h f).filter (fun x => decide (0 < x)) = grow h g := by
  unfold hts grow
  rw [List.range_succ, List.map_append, List.filter_append]
  have e1 : ((List.range h.length).map fun c => hAt h c + f c).filter (fun x => decide (0 < x)) = (List.range h.length).map fun c => hAt h c + b2n (g c) := by
    have e : ((List.range h.length).map fun c => hAt h c + f c) = (List.range h.length).map fun c => hAt h c + b2n (g c) := by
      refine List.map_congr_left fun c hc => ?_
      rw [hf c (Nat.le_of_lt (List.mem_range.mp hc))]
    rw [e]
    refine List.filter_eq_self.mpr fun x hx => ?_
    obtain ⟨c, hc, rfl⟩ := List.mem_map.mp hx
    have := hp c (List.mem_range.mp hc)
    exact decide_eq_true (by omega)
  rw [e1]
  congr 1
  show [hAt h h.length + f h.length].filter _ = _
  rw [hAt_ge (Nat.le_refl _), hf _ (Nat.le_refl _)]
  unfold b2n
  by_cases q : g h.length = true
  · rw [if_pos q, if_pos q]
    rfl
  · rw [if_neg q, if_neg q]
    rfl
/-- the diagonal of the square on top -/
def dg (h : List Nat) (c : Nat) : Int := (c : Int) - (hAt h c : Int)
theorem dg_lt {h : List Nat} (H : IsHeap h) {c d : Nat} (hcd : c < d) : dg h c < dg h d := by
  unfold dg
  have := H.le (Nat.le_of_lt hcd)
  omega
theorem dg_inj {h : List Nat} (H : IsHeap h) {c d : Nat} (e : dg h c = dg h d) : c = d := by
  rcases Nat.lt_trichotomy c d with q | q | q
  · have := dg_lt H q
    omega
  · exact q
  · have := dg_lt H q
    omega
theorem dg_two {h : List Nat} (H : IsHeap h) {c d : Nat} (hcd : c < d) (o : opn h d = true) : dg h c + 2 ≤ dg h d := by
  obtain ⟨e, rfl⟩ : ∃ e, d = e + 1 := ⟨d - 1, by omega⟩
  have a := opn_lt o
  have b := H.le (show c ≤ e by omega)
  unfold dg
  omega
def oc (h : List Nat) : List Nat := (List.range (h.length + 1)).filter (opn h)
theorem oc_mem {h : List Nat} {c : Nat} : c ∈ oc h ↔ opn h c = true := by
  unfold oc
  rw [List.mem_filter, List.mem_range]
  exact ⟨fun z => z.2, fun z => ⟨Nat.lt_succ_of_le (opn_le z), z⟩⟩
end HM

/-! own rules: xs[i] op= e of a list; range(n) as a value, walked later -/
namespace LX
open PySem PySem.Spec PyProof.Rows L2
section
variable {X : Cx}
/-- xs[i] by values, 0 ≤ i -/
def rGetL (K : PySem.W.Frag) : V → V → Hp → VK → Prop := fun o i H Q => ∃ (a : Addr) (ys : List V) (j : Nat) (v : V), o = .ref a ∧ i = .int (j : Int) ∧ SqL K H a ys ∧ ys[j]? = some v ∧ Q v H
theorem get_list : PGet X (rGetL X.K) := by
  intro pins s σ H o i ov iv Q I ro ri h
  obtain ⟨a, ys, j, v, rfl, rfl, hq, hv, q⟩ := h
  cases ro
  obtain ⟨t, rfl⟩ := ri
  obtain ⟨its, r, pl, hz⟩ := I.list hq
  obtain ⟨u, hu, ru⟩ := r.get hv
  have hn := line63
  have hj := (List.getElem?_eq_some_iff.mp hu).1
  have hl := r.length
  exact wpAny_getItem_list pl.isList (by omega) (by omega) (by simpa using hu) ⟨v, H, I, ru, q⟩
/-- range(n), a new range object -/
theorem cr_range1 : CallR X (.type "range") (fun vs H Q => ∃ j, vs = [V.int j] ∧ ∀ p, H p = none → Q (.ref p) (upd H p (.rng 0 j))) := by
  intro pins s σ H vs us Q I r h
  obtain ⟨j, rfl, q⟩ := h
  obtain ⟨u1, rfl, rj⟩ := vals1 r
  obtain ⟨t, rfl⟩ := rj
  have nw : ObjOk X.prog X.w (upd H s.heap.objs.size (.rng 0 j)) (s.heap.push { cls := .type "range", data := .fields #[.int 0 s.toks, .int j t, .int 1 (s.toks + 1)] }) s.heap.objs.size (.rng 0 j) := ⟨s.toks, t, s.toks + 1, Heap.get?_push_size _ rfl⟩
  exact call_range_1 ⟨.ref s.heap.objs.size, _, I.laid (t' := s.toks + 1 + 1) (fun b o e => Heap.get?_push_of_some _ e) (Nat.le_refl _) nw, rfl, q _ (I.hok.fresh (Nat.le_refl _))⟩
/-- a range object that stands, walked -/
def iRngV (te : TE) : TI := fun σ H R => te σ H fun x H1 => ∃ (p : Addr) (lo hi : Int), x = .ref p ∧ H1 p = some (.rng lo hi) ∧ (-(2 ^ 62) ≤ lo ∧ lo < 2 ^ 62 ∧ -(2 ^ 62) ≤ hi ∧ hi < 2 ^ 62) ∧ R (Itr lo (hi - lo).toNat) H1
theorem pi_rngV {tg e : Expr} {te : TE} (he : PE X e te) : PI X tg e (iRngV te) := by
  refine ⟨fun pins s σ H R I h => ?_⟩
  refine thn (he.run pins s σ H _ I h) fun u s1 ⟨x, H1, I1, r1, p, lo, hi, ex, hp, ⟨b1, b2, b3, b4⟩, q⟩ => ?_
  subst ex
  obtain rfl : u = Value.ref p := r1
  obtain ⟨t, u, v, g⟩ := (show ObjOk X.prog X.w H1 s1.heap p (.rng lo hi) from I1.hok p _ hp)
  refine wpAny_pyIter_range (s := s1) g (small_one b1 b2 b3 b4) ?_
  refine ⟨s1.heap.objs.size, [s1.heap.objs.size], _, _, H1, rfl, I1.kept (t' := s1.toks) fun b o e => Heap.get?_push_of_some _ e, turn_range _ lo (hi - lo).toNat, ?_, fun b hb => ?_, q⟩
  · have e1 : lo + ((0 : Nat) : Int) * 1 = lo := by simp
    have e2 : (((hi - lo).toNat : Nat) : Int) - ((0 : Nat) : Int) = Builtin.Range.rangeSize lo hi 1 := by
      rw [rangeSize_one]
      split <;> omega
    show IsRangeIter _ _ (lo + ((0 : Nat) : Int) * 1) ((((hi - lo).toNat : Nat) : Int) - ((0 : Nat) : Int)) 1
    rw [e1, e2]
    exact Heap.get?_push_size _ rfl
  · obtain rfl : b = s1.heap.objs.size := by simpa using hb
    exact I1.fpOk (Nat.le_refl _) (I1.hok.fresh (Nat.le_refl _))
end
end LX

namespace K1
open PySem PySem.Spec PyProof.Rows L2 Evl HM LX
/-! ### heaps -/
def hv (h : List Nat) : List V := h.map fun (n : Nat) => V.int (n : Int)
theorem hv_len (h : List Nat) : (hv h).length = h.length := List.length_map ..
theorem hv_get {h : List Nat} {c : Nat} (hc : c < h.length) : (hv h)[c]? = some (V.int (hAt h c : Int)) := by
  unfold hv
  rw [List.getElem?_map, hAt_lt hc]
  rfl
def HeapAt (H : Hp) (p : Addr) (h : List Nat) : Prop := H p = some (.tup (hv h))
/-- a heap that the package takes -/
structure Good (h : List Nat) : Prop where
  heap : IsHeap h
  len : h.length ≤ 60
  top : hAt h 0 ≤ 60
theorem Good.all {h : List Nat} (G : Good h) (c : Nat) : hAt h c ≤ 60 := Nat.le_trans (G.heap.le (Nat.zero_le c)) G.top
section
variable {P : Program} {w : World} {K : PySem.W.Frag} {mg : Str → Option Value} {base : Heap}
def spCheckBetween (K : PySem.W.Frag) : Sp := fun vs H Q _ => ∃ i lo hi : Int, vs = [.int i, .int lo, .int hi] ∧ lo ≤ i ∧ i ≤ hi ∧ -(10 ^ 60) < i ∧ i < 10 ^ 60 ∧ ∀ H', Ex H H' → Q .non H'
def spIsHeap (K : PySem.W.Frag) : Sp := fun vs H Q _ => ∃ p h, vs = [.ref p] ∧ HeapAt H p h ∧ Good h ∧ ∀ H', Ex H H' → Q (.bl true) H'
def spCheckHeap (K : PySem.W.Frag) : Sp := fun vs H Q _ => ∃ p h, vs = [.ref p] ∧ HeapAt H p h ∧ Good h ∧ ∀ H', Ex H H' → Q .non H'
def spHeightAt : Sp := fun vs H Q _ => ∃ p h, ∃ c : Nat, vs = [.ref p, .int (c : Int)] ∧ HeapAt H p h ∧ ∀ H', Ex H H' → Q (.int (hAt h c : Int)) H'
/-- the list of columns -/
def spOpenColumns : Sp := fun vs H Q _ => ∃ p h, vs = [.ref p] ∧ HeapAt H p h ∧ h.length ≤ 100 ∧ ∀ a H', Ex H H' → H a = none → H' a = some (.lst (hv (oc h))) → Q (.ref a) H'
theorem oc_snoc (h : List Nat) (i : Nat) : ((List.range (i + 1)).filter (opn h)) = ((List.range i).filter (opn h)) ++ (if opn h i = true then [i] else []) := by
  rw [List.range_succ, List.filter_append]
  by_cases q : opn h i = true
  · rw [if_pos q, List.filter_cons, if_pos q]
    rfl
  · rw [if_neg q, List.filter_cons, if_neg q]
    rfl
theorem hv_snoc (l : List Nat) (c : Nat) : hv (l ++ [c]) = hv l ++ [V.int (c : Int)] := by
  unfold hv
  rw [List.map_append]
  rfl
end
end K1

namespace K1
open PySem PySem.Spec PyProof.Rows L2 Evl HM LX
theorem hv_set {l : List Nat} {d x : Nat} : (hv l).set d (V.int (x : Int)) = hv (l.set d x) := by
  unfold hv
  rw [List.map_set]
theorem hv_at {l : List Nat} {i x : Nat} (h : l[i]? = some x) : (hv l)[i]? = some (V.int (x : Int)) := by
  unfold hv
  rw [List.getElem?_map, h]
  rfl
theorem hv_inv {l : List Nat} {i : Nat} {v : V} (h : (hv l)[i]? = some v) : ∃ x, l[i]? = some x ∧ v = V.int (x : Int) := by
  unfold hv at h
  rw [List.getElem?_map] at h
  cases e : l[i]? with
  | none =>
    rw [e] at h
    cases h
  | some x =>
    rw [e] at h
    exact ⟨x, rfl, (Option.some.inj h).symm⟩
theorem take_filter_snoc {α : Type} {l : List α} {i : Nat} {x : α} (g : α → Bool) (h : l[i]? = some x) : (l.take (i + 1)).filter g = (l.take i).filter g ++ (if g x = true then [x] else []) := by
  rw [List.take_add_one, h, List.filter_append]
  show _ ++ [x].filter g = _
  by_cases q : g x = true
  · rw [if_pos q, List.filter_cons, if_pos q]
    rfl
  · rw [if_neg q, List.filter_cons, if_neg q]
    rfl
section
variable {P : Program} {w : World} {K : PySem.W.Frag} {mg : Str → Option Value} {base : Heap}
def spHeaped : Sp := fun vs H Q _ => ∃ p a h cols, vs = [.ref p, .ref a] ∧ HeapAt H p h ∧ H a = some (.lst (hv cols)) ∧ h.length ≤ 100 ∧ (∀ c ∈ cols, c ≤ h.length) ∧
  ∀ r H', Ex H H' → HeapAt H' r ((hts h (cnt cols)).filter fun x => decide (0 < x)) → Q (.ref r) H'
/-- which columns a ring with a place adds to -/
def gl (h : List Nat) (n s q : Int) (c : Nat) : Bool := opn h c && decide ((dg h c * s - q) % n = 0)
theorem gl_opn {h : List Nat} {n s q : Int} (c : Nat) (z : gl h n s q c = true) : opn h c = true := by
  unfold gl at z
  exact (Bool.and_eq_true_iff.mp z).1
def spGrownBy : Sp := fun vs H Q _ => ∃ p h x n s q, vs = [.ref p, x, .int q] ∧ HeapAt H p h ∧ IsHeap h ∧ h.length ≤ 100 ∧ RingAt H 60 x n s ∧ ∀ r H', Ex H H' → HeapAt H' r (grow h (gl h n s q)) → Q (.ref r) H'
end
end K1

/-! own walks: comprehensions and loops over zip and enumerate of tuples, zip of lists of any lengths -/
namespace ZW
open PySem PySem.Spec PyProof.Rows L2
theorem lc_zipT {K : PySem.W.Frag} {a b : Addr} {xs ys : List V} {n : Nat} {g : TG} {tt : TT} {te : TE} {vs : List Nat} {σ : L2.St} {H1 : Hp} {D : Addr} {Qd : Hp → Prop} (hx : n ≤ xs.length) (hy : n ≤ ys.length) (hn : xs.length ≤ n ∨ ys.length ≤ n)
    (Pv : Nat → Hp → Prop) (h0 : Pv 0 (upd H1 D (.lst []))) (hq : ∀ i H, Pv i H → SqT K H a xs ∧ SqT K H b ys)
    (hs : ∀ i x y T H, i < n → xs[i]? = some x → ys[i]? = some y → Pv i H → H T = none → g (.ref T) (wipe σ vs) (upd H T (.tup [x, y])) fun σ2 H2 => wipe σ2 vs = wipe σ vs ∧ tt σ2 H2 fun c H3 =>
      if c = true then te σ2 H3 fun z H4 => ∃ acc, H4 D = some (.lst acc) ∧ acc.length < sizeLine ∧ Pv (i + 1) (upd H4 D (.lst (acc ++ [z]))) else Pv (i + 1) H3) (hd : ∀ H, Pv n H → Qd H) :
    ∃ W : Nat → Nat → Hp → Prop, (∃ m, W 0 m (upd H1 D (.lst []))) ∧ ∀ i m H, W i m H →
      ((RZ.ItzT K a b).stop i H ∧ Qd H) ∨ ((RZ.ItzT K a b).go i H ∧ ∃ Nx : Hp → Prop, (∀ H', Nx H' → ∃ m', m' < m ∧ W (i + 1) m' H') ∧ ∀ v H', (RZ.ItzT K a b).yld i H v H' → g v (wipe σ vs) H' fun σ2 H2 => wipe σ2 vs = wipe σ vs ∧ tt σ2 H2 fun c H3 =>
        if c = true then te σ2 H3 fun z H4 => ∃ acc, H4 D = some (.lst acc) ∧ acc.length < sizeLine ∧ Nx (upd H4 D (.lst (acc ++ [z]))) else Nx H3) := by
  refine ⟨fun i m H => m = n - i ∧ i ≤ n ∧ Pv i H, ⟨n, (Nat.sub_zero n).symm, Nat.zero_le _, h0⟩, ?_⟩
  rintro i m H ⟨rfl, hi, p⟩
  obtain ⟨qa, qb⟩ := hq i H p
  by_cases hlt : i < n
  · have e1 : xs[i]? = some (xs[i]'(by omega)) := List.getElem?_eq_getElem _
    have e2 : ys[i]? = some (ys[i]'(by omega)) := List.getElem?_eq_getElem _
    refine .inr ⟨⟨xs, ys, _, _, qa, qb, e1, e2⟩, Pv (i + 1), fun H' p' => ⟨n - (i + 1), by omega, rfl, hlt, p'⟩, fun v H' hy' => ?_⟩
    obtain ⟨T, x, y, rfl, nT, rfl, fx, fy⟩ := hy'
    exact hs i x y T H hlt (fx _ qa) (fy _ qb) p nT
  · have e : i = n := by omega
    subst e
    exact .inl ⟨⟨xs, ys, qa, qb, by omega⟩, hd H p⟩
theorem for_zipT {K : PySem.W.Frag} {a b : Addr} {xs ys : List V} {n : Nat} {g : TG} {tb : TS} {D : Ends} {σ : L2.St} {H : Hp} (hx : n ≤ xs.length) (hy : n ≤ ys.length) (hn : xs.length ≤ n ∨ ys.length ≤ n)
    (Pv : Nat → L2.St → Hp → Prop) (h0 : Pv 0 σ H) (hq : ∀ i σ H, Pv i σ H → SqT K H a xs ∧ SqT K H b ys)
    (hs : ∀ i x y T σ H, i < n → xs[i]? = some x → ys[i]? = some y → Pv i σ H → H T = none → g (.ref T) σ (upd H T (.tup [x, y])) fun σ2 H2 => tb { D with nx := Pv (i + 1), ct := Pv (i + 1), bk := D.nx } σ2 H2) (hd : ∀ σ H, Pv n σ H → D.nx σ H) :
    ∃ W : Nat → Nat → L2.St → Hp → Prop, (∃ m, W 0 m σ H) ∧ ∀ i m σ H, W i m σ H →
      ((RZ.ItzT K a b).stop i H ∧ D.nx σ H) ∨ ((RZ.ItzT K a b).go i H ∧ ∃ N : L2.St → Hp → Prop, (∀ σ' H', N σ' H' → ∃ m', m' < m ∧ W (i + 1) m' σ' H') ∧ ∀ v H', (RZ.ItzT K a b).yld i H v H' → g v σ H' fun σ2 H2 => tb { D with nx := N, ct := N, bk := D.nx } σ2 H2) := by
  refine ⟨fun i m σ H => m = n - i ∧ i ≤ n ∧ Pv i σ H, ⟨n, (Nat.sub_zero n).symm, Nat.zero_le _, h0⟩, ?_⟩
  rintro i m σ H ⟨rfl, hi, p⟩
  obtain ⟨qa, qb⟩ := hq i σ H p
  by_cases hlt : i < n
  · have e1 : xs[i]? = some (xs[i]'(by omega)) := List.getElem?_eq_getElem _
    have e2 : ys[i]? = some (ys[i]'(by omega)) := List.getElem?_eq_getElem _
    refine .inr ⟨⟨xs, ys, _, _, qa, qb, e1, e2⟩, Pv (i + 1), fun σ' H' p' => ⟨n - (i + 1), by omega, rfl, hlt, p'⟩, fun v H' hy' => ?_⟩
    obtain ⟨T, x, y, rfl, nT, rfl, fx, fy⟩ := hy'
    exact hs i x y T σ H hlt (fx _ qa) (fy _ qb) p nT
  · have e : i = n := by omega
    subst e
    exact .inl ⟨⟨xs, ys, qa, qb, by omega⟩, hd σ H p⟩
theorem lc_zipL {K : PySem.W.Frag} {a b : Addr} {xs ys : List V} {n : Nat} {g : TG} {tt : TT} {te : TE} {vs : List Nat} {σ : L2.St} {H1 : Hp} {D : Addr} {Qd : Hp → Prop} (hx : n ≤ xs.length) (hy : n ≤ ys.length) (hn : xs.length ≤ n ∨ ys.length ≤ n)
    (Pv : Nat → Hp → Prop) (h0 : Pv 0 (upd H1 D (.lst []))) (hq : ∀ i H, Pv i H → SqL K H a xs ∧ SqL K H b ys)
    (hs : ∀ i x y T H, i < n → xs[i]? = some x → ys[i]? = some y → Pv i H → H T = none → g (.ref T) (wipe σ vs) (upd H T (.tup [x, y])) fun σ2 H2 => wipe σ2 vs = wipe σ vs ∧ tt σ2 H2 fun c H3 =>
      if c = true then te σ2 H3 fun z H4 => ∃ acc, H4 D = some (.lst acc) ∧ acc.length < sizeLine ∧ Pv (i + 1) (upd H4 D (.lst (acc ++ [z]))) else Pv (i + 1) H3) (hd : ∀ H, Pv n H → Qd H) :
    ∃ W : Nat → Nat → Hp → Prop, (∃ m, W 0 m (upd H1 D (.lst []))) ∧ ∀ i m H, W i m H →
      ((Itz K a b).stop i H ∧ Qd H) ∨ ((Itz K a b).go i H ∧ ∃ Nx : Hp → Prop, (∀ H', Nx H' → ∃ m', m' < m ∧ W (i + 1) m' H') ∧ ∀ v H', (Itz K a b).yld i H v H' → g v (wipe σ vs) H' fun σ2 H2 => wipe σ2 vs = wipe σ vs ∧ tt σ2 H2 fun c H3 =>
        if c = true then te σ2 H3 fun z H4 => ∃ acc, H4 D = some (.lst acc) ∧ acc.length < sizeLine ∧ Nx (upd H4 D (.lst (acc ++ [z]))) else Nx H3) := by
  refine ⟨fun i m H => m = n - i ∧ i ≤ n ∧ Pv i H, ⟨n, (Nat.sub_zero n).symm, Nat.zero_le _, h0⟩, ?_⟩
  rintro i m H ⟨rfl, hi, p⟩
  obtain ⟨qa, qb⟩ := hq i H p
  by_cases hlt : i < n
  · have e1 : xs[i]? = some (xs[i]'(by omega)) := List.getElem?_eq_getElem _
    have e2 : ys[i]? = some (ys[i]'(by omega)) := List.getElem?_eq_getElem _
    refine .inr ⟨⟨xs, ys, _, _, qa, qb, e1, e2⟩, Pv (i + 1), fun H' p' => ⟨n - (i + 1), by omega, rfl, hlt, p'⟩, fun v H' hy' => ?_⟩
    obtain ⟨T, x, y, rfl, nT, rfl, fx, fy⟩ := hy'
    exact hs i x y T H hlt (fx _ qa) (fy _ qb) p nT
  · have e : i = n := by omega
    subst e
    exact .inl ⟨⟨xs, ys, qa, qb, by omega⟩, hd H p⟩
theorem for_zipL {K : PySem.W.Frag} {a b : Addr} {xs ys : List V} {n : Nat} {g : TG} {tb : TS} {D : Ends} {σ : L2.St} {H : Hp} (hx : n ≤ xs.length) (hy : n ≤ ys.length) (hn : xs.length ≤ n ∨ ys.length ≤ n)
    (Pv : Nat → L2.St → Hp → Prop) (h0 : Pv 0 σ H) (hq : ∀ i σ H, Pv i σ H → SqL K H a xs ∧ SqL K H b ys)
    (hs : ∀ i x y T σ H, i < n → xs[i]? = some x → ys[i]? = some y → Pv i σ H → H T = none → g (.ref T) σ (upd H T (.tup [x, y])) fun σ2 H2 => tb { D with nx := Pv (i + 1), ct := Pv (i + 1), bk := D.nx } σ2 H2) (hd : ∀ σ H, Pv n σ H → D.nx σ H) :
    ∃ W : Nat → Nat → L2.St → Hp → Prop, (∃ m, W 0 m σ H) ∧ ∀ i m σ H, W i m σ H →
      ((Itz K a b).stop i H ∧ D.nx σ H) ∨ ((Itz K a b).go i H ∧ ∃ N : L2.St → Hp → Prop, (∀ σ' H', N σ' H' → ∃ m', m' < m ∧ W (i + 1) m' σ' H') ∧ ∀ v H', (Itz K a b).yld i H v H' → g v σ H' fun σ2 H2 => tb { D with nx := N, ct := N, bk := D.nx } σ2 H2) := by
  refine ⟨fun i m σ H => m = n - i ∧ i ≤ n ∧ Pv i σ H, ⟨n, (Nat.sub_zero n).symm, Nat.zero_le _, h0⟩, ?_⟩
  rintro i m σ H ⟨rfl, hi, p⟩
  obtain ⟨qa, qb⟩ := hq i σ H p
  by_cases hlt : i < n
  · have e1 : xs[i]? = some (xs[i]'(by omega)) := List.getElem?_eq_getElem _
    have e2 : ys[i]? = some (ys[i]'(by omega)) := List.getElem?_eq_getElem _
    refine .inr ⟨⟨xs, ys, _, _, qa, qb, e1, e2⟩, Pv (i + 1), fun σ' H' p' => ⟨n - (i + 1), by omega, rfl, hlt, p'⟩, fun v H' hy' => ?_⟩
    obtain ⟨T, x, y, rfl, nT, rfl, fx, fy⟩ := hy'
    exact hs i x y T σ H hlt (fx _ qa) (fy _ qb) p nT
  · have e : i = n := by omega
    subst e
    exact .inl ⟨⟨xs, ys, qa, qb, by omega⟩, hd σ H p⟩
theorem for_enumT {K : PySem.W.Frag} {a : Addr} {xs : List V} {g : TG} {tb : TS} {D : Ends} {σ : L2.St} {H : Hp} (Pv : Nat → L2.St → Hp → Prop) (h0 : Pv 0 σ H) (hq : ∀ i σ H, Pv i σ H → SqT K H a xs)
    (hs : ∀ i x T σ H, xs[i]? = some x → Pv i σ H → H T = none → g (.ref T) σ (upd H T (.tup [.int (i : Nat), x])) fun σ2 H2 => tb { D with nx := Pv (i + 1), ct := Pv (i + 1), bk := D.nx } σ2 H2) (hd : ∀ σ H, Pv xs.length σ H → D.nx σ H) :
    ∃ W : Nat → Nat → L2.St → Hp → Prop, (∃ m, W 0 m σ H) ∧ ∀ i m σ H, W i m σ H →
      ((EnT.IteT K a).stop i H ∧ D.nx σ H) ∨ ((EnT.IteT K a).go i H ∧ ∃ N : L2.St → Hp → Prop, (∀ σ' H', N σ' H' → ∃ m', m' < m ∧ W (i + 1) m' σ' H') ∧ ∀ v H', (EnT.IteT K a).yld i H v H' → g v σ H' fun σ2 H2 => tb { D with nx := N, ct := N, bk := D.nx } σ2 H2) := by
  refine ⟨fun i m σ H => m = xs.length - i ∧ i ≤ xs.length ∧ Pv i σ H, ⟨xs.length, (Nat.sub_zero _).symm, Nat.zero_le _, h0⟩, ?_⟩
  rintro i m σ H ⟨rfl, hi, p⟩
  have qa := hq i σ H p
  by_cases hlt : i < xs.length
  · have e1 : xs[i]? = some (xs[i]'hlt) := List.getElem?_eq_getElem _
    refine .inr ⟨⟨xs, _, qa, e1⟩, Pv (i + 1), fun σ' H' p' => ⟨xs.length - (i + 1), by omega, rfl, hlt, p'⟩, fun v H' hy' => ?_⟩
    obtain ⟨T, x, rfl, nT, rfl, fx⟩ := hy'
    exact hs i x T σ H (fx _ qa) p nT
  · have e : i = xs.length := by omega
    subst e
    exact .inl ⟨⟨xs, qa, rfl⟩, hd σ H p⟩
theorem lc_enumT {K : PySem.W.Frag} {a : Addr} {xs : List V} {g : TG} {tt : TT} {te : TE} {vs : List Nat} {σ : L2.St} {H1 : Hp} {D : Addr} {Qd : Hp → Prop} (Pv : Nat → Hp → Prop) (h0 : Pv 0 (upd H1 D (.lst []))) (hq : ∀ i H, Pv i H → SqT K H a xs)
    (hs : ∀ i x T H, xs[i]? = some x → Pv i H → H T = none → g (.ref T) (wipe σ vs) (upd H T (.tup [.int (i : Nat), x])) fun σ2 H2 => wipe σ2 vs = wipe σ vs ∧ tt σ2 H2 fun c H3 =>
      if c = true then te σ2 H3 fun z H4 => ∃ acc, H4 D = some (.lst acc) ∧ acc.length < sizeLine ∧ Pv (i + 1) (upd H4 D (.lst (acc ++ [z]))) else Pv (i + 1) H3) (hd : ∀ H, Pv xs.length H → Qd H) :
    ∃ W : Nat → Nat → Hp → Prop, (∃ m, W 0 m (upd H1 D (.lst []))) ∧ ∀ i m H, W i m H →
      ((EnT.IteT K a).stop i H ∧ Qd H) ∨ ((EnT.IteT K a).go i H ∧ ∃ Nx : Hp → Prop, (∀ H', Nx H' → ∃ m', m' < m ∧ W (i + 1) m' H') ∧ ∀ v H', (EnT.IteT K a).yld i H v H' → g v (wipe σ vs) H' fun σ2 H2 => wipe σ2 vs = wipe σ vs ∧ tt σ2 H2 fun c H3 =>
        if c = true then te σ2 H3 fun z H4 => ∃ acc, H4 D = some (.lst acc) ∧ acc.length < sizeLine ∧ Nx (upd H4 D (.lst (acc ++ [z]))) else Nx H3) := by
  refine ⟨fun i m H => m = xs.length - i ∧ i ≤ xs.length ∧ Pv i H, ⟨xs.length, (Nat.sub_zero _).symm, Nat.zero_le _, h0⟩, ?_⟩
  rintro i m H ⟨rfl, hi, p⟩
  have qa := hq i H p
  by_cases hlt : i < xs.length
  · have e1 : xs[i]? = some (xs[i]'hlt) := List.getElem?_eq_getElem _
    refine .inr ⟨⟨xs, _, qa, e1⟩, Pv (i + 1), fun H' p' => ⟨xs.length - (i + 1), by omega, rfl, hlt, p'⟩, fun v H' hy' => ?_⟩
    obtain ⟨T, x, rfl, nT, rfl, fx⟩ := hy'
    exact hs i x T H (fx _ qa) p nT
  · have e : i = xs.length := by omega
    subst e
    exact .inl ⟨⟨xs, qa, rfl⟩, hd H p⟩
end ZW

namespace K1
open PySem PySem.Spec PyProof.Rows L2 Evl HM LX ZW
theorem grow_good {h : List Nat} {g : Nat → Bool} (G : IsHeap h) (h1 : h.length < 60) (h2 : hAt h 0 < 60) (hg : ∀ c, g c = true → opn h c = true) : Good (grow h g) := by
  refine ⟨grow_heap G hg, ?_, ?_⟩
  · rw [grow_len]
    have := b2n_le (g h.length)
    omega
  · rw [hAt_grow hg]
    have := b2n_le (g 0)
    omega
/-- ints of a tuple of places -/
def PlacesT (H : Hp) (a : Addr) (ps : List Int) : Prop := H a = some (.tup (ps.map V.int))
/-- the heaps behind each ring -/
def hseq (rs : List (Int × Int)) (ps : List Int) : Nat → List Nat
  | 0 => []
  | i + 1 => grow (hseq rs ps i) (gl (hseq rs ps i) (K1N.nAt rs i) (K1N.sAt rs i) (ps.getD i 0))
theorem hseq_ok (rs : List (Int × Int)) (ps : List Int) : ∀ i, IsHeap (hseq rs ps i) ∧ (hseq rs ps i).length ≤ i ∧ hAt (hseq rs ps i) 0 ≤ i
  | 0 => ⟨IsHeap.nil, Nat.le_refl _, Nat.le_refl _⟩
  | i + 1 => by
    obtain ⟨a, b, c⟩ := hseq_ok rs ps i
    refine ⟨grow_heap a gl_opn, ?_, ?_⟩
    · show (grow _ _).length ≤ _
      rw [grow_len]
      have := b2n_le (gl (hseq rs ps i) (K1N.nAt rs i) (K1N.sAt rs i) (ps.getD i 0) (hseq rs ps i).length)
      omega
    · show hAt (grow _ _) 0 ≤ _
      rw [hAt_grow gl_opn]
      have := b2n_le (gl (hseq rs ps i) (K1N.nAt rs i) (K1N.sAt rs i) (ps.getD i 0) 0)
      omega
theorem rings_nth4 {H : Hp} {most : Int} {xs : List V} {rs : List (Int × Int)} (h : RingsAt H most xs rs) {j : Nat} {x : V} (hx : xs[j]? = some x) : RingAt H most x (K1N.nAt rs j : Int) (K1N.sAt rs j) := by
  obtain ⟨r, hr, q⟩ := paired_get h hx
  have e : rs.getD j (0, 0) = r := by
    rw [List.getD_eq_getElem?_getD, hr]
    rfl
  obtain ⟨t, e1, e2, e3, e4, e5, e6⟩ := id q
  unfold K1N.nAt K1N.sAt
  rw [e, show ((r.1.toNat : Nat) : Int) = r.1 by omega]
  exact q
theorem rings_ex4 {H H' : Hp} {most : Int} {xs : List V} {rs : List (Int × Int)} (e : Ex H H') (h : RingsAt H most xs rs) : RingsAt H' most xs rs := paired_imp (fun _ _ z => RingAt.ex e z) h
theorem rings_chain4 {K : PySem.W.Frag} {H : Hp} {a : Addr} {xs : List V} {rs : List (Int × Int)} (h : RingsAt H 60 xs rs) (ha : H a = some (.tup xs)) (h1 : 1 ≤ xs.length) (h2 : xs.length ≤ 12) : ChainB K H (.ref a) true := by
  have p : ∀ {xs : List V} {rs : List (Int × Int)}, RingsAt H 60 xs rs → Paired (RingB K H) xs (List.replicate xs.length true) := by
    intro xs rs h
    induction h with
    | nil => exact .nil
    | cons r _ ih => exact .cons (RingAt.ring r (Int.le_refl _)) ih
  have q := ChainB.tup (K := K) ha ⟨h1, h2⟩ (p h)
  rw [show (List.replicate xs.length true).all id = true by simp] at q
  exact q
section
variable {P : Program} {w : World} {K : PySem.W.Frag} {mg : Str → Option Value} {base : Heap}
def spGrown : Sp := fun vs H Q _ => ∃ p h x n s q, vs = [.ref p, x, .int q] ∧ HeapAt H p h ∧ IsHeap h ∧ h.length < 60 ∧ hAt h 0 < 60 ∧ RingAt H 60 x n s ∧ 0 ≤ q ∧ q < n ∧ ∀ r H', Ex H H' → HeapAt H' r (grow h (gl h n s q)) → Q (.ref r) H'
def spCheckPlaces (K : PySem.W.Frag) : Sp := fun vs H Q _ => ∃ c a xs rs ps, vs = [.ref c, .ref a] ∧ H c = some (.tup xs) ∧ RingsAt H 60 xs rs ∧ xs.length ≤ 12 ∧ PlacesT H a ps ∧ ps.length = xs.length ∧ (∀ j : Nat, j < ps.length → 0 ≤ ps.getD j 0 ∧ ps.getD j 0 < (K1N.nAt rs j : Int)) ∧ ∀ H', Ex H H' → Q .non H'
def spLiesTold (K : PySem.W.Frag) : Sp := fun vs H Q E => spCheckPlaces K vs H (fun _ H' => Q (.bl true) H') E
/-- the list of the heaps -/
def spHeapsOf : Sp := fun vs H Q _ => ∃ c a xs rs ps, vs = [.ref c, .ref a] ∧ H c = some (.tup xs) ∧ RingsAt H 60 xs rs ∧ xs.length ≤ 12 ∧ PlacesT H a ps ∧ ps.length = xs.length ∧
  ∀ (p : Addr) (as : List Addr) (H' : Hp), Ex H H' → H p = none → H' p = some (.lst (as.map V.ref)) → as.length = xs.length + 1 → (∀ i b, as[i]? = some b → HeapAt H' b (hseq rs ps i)) → Q (.ref p) H'
end
end K1

namespace K1
open PySem PySem.Spec PyProof.Rows L2 Evl HM LX ZW
theorem at_end {as : List Addr} {g : Nat} (h : as.length = g + 1) : atI (as.map V.ref) (-1) = some (V.ref (as[g]'(by omega))) := by
  have e : as = as.take g ++ [as[g]'(by omega)] := by
    have := List.take_append_getElem (l := as) (i := g) (by omega)
    rw [this, List.take_of_length_le (by omega)]
  have e2 : as.map V.ref = (as.take g).map V.ref ++ [V.ref (as[g]'(by omega))] := by
    conv => lhs; rw [e]
    rw [List.map_append]
    rfl
  rw [e2]
  exact atI_last _ _
section
variable {P : Program} {w : World} {K : PySem.W.Frag} {mg : Str → Option Value} {base : Heap}
def spHeapOf : Sp := fun vs H Q _ => ∃ c a xs rs ps, vs = [.ref c, .ref a] ∧ H c = some (.tup xs) ∧ RingsAt H 60 xs rs ∧ (1 ≤ xs.length ∧ xs.length ≤ 12) ∧ PlacesT H a ps ∧ ps.length = xs.length ∧ (∀ j : Nat, j < ps.length → 0 ≤ ps.getD j 0 ∧ ps.getD j 0 < (K1N.nAt rs j : Int)) ∧
  ∀ (b : Addr) H', Ex H H' → HeapAt H' b (hseq rs ps xs.length) → Q (.ref b) H'
def spHeapsAlong : Sp := fun vs H Q _ => ∃ c a xs rs ps, vs = [.ref c, .ref a] ∧ H c = some (.tup xs) ∧ RingsAt H 60 xs rs ∧ (1 ≤ xs.length ∧ xs.length ≤ 12) ∧ PlacesT H a ps ∧ ps.length = xs.length ∧ (∀ j : Nat, j < ps.length → 0 ≤ ps.getD j 0 ∧ ps.getD j 0 < (K1N.nAt rs j : Int)) ∧
  ∀ (r : Addr) (as : List Addr) H', Ex H H' → H' r = some (.tup (as.map V.ref)) → as.length = xs.length + 1 → (∀ i b, as[i]? = some b → HeapAt H' b (hseq rs ps i)) → Q (.ref r) H'
/-- how many squares the first columns have -/
def sumT (h : List Nat) : Nat → Nat
  | 0 => 0
  | i + 1 => sumT h i + hAt h i
theorem sumT_le {h : List Nat} (G : Good h) : ∀ i, sumT h i ≤ 60 * i
  | 0 => Nat.le_refl _
  | i + 1 => by
    show sumT h i + hAt h i ≤ _
    have := sumT_le G i
    have := G.all i
    omega
def spSquares : Sp := fun vs H Q _ => ∃ p h, vs = [.ref p] ∧ HeapAt H p h ∧ Good h ∧ ∀ r ys H', Ex H H' → H' r = some (.tup ys) → ys.length = sumT h h.length → Q (.ref r) H'
end
end K1

namespace K1
open PySem PySem.Spec PyProof.Rows L2 Evl HM LX ZW
/-! ### data: ints in lists and tuples -/
theorem dp_ints {K : PySem.W.Frag} {H : Hp} : ∀ ns : List Int, DpAll K H (ns.map V.int) (ns.map PyData.int)
  | [] => .nil
  | n :: r => .cons (.int n) (dp_ints r)
theorem can_ints : ∀ l : List Int, PyData.canLayAll0 (l.map PyData.int) = true
  | [] => rfl
  | b :: r => by simp [PyData.canLayAll0, PyData.canLay0, can_ints r]
theorem shaped_intsL (ns : List Int) : SeqAt.shaped (.list (ns.map PyData.int)) = true := by
  induction ns with
  | nil => rfl
  | cons b r ih => exact ih
theorem depth_ints : ∀ l : List Int, PyData.depthAll (l.map PyData.int) ≤ 60
  | [] => by decide
  | b :: r => by
    have := depth_ints r
    simp only [List.map_cons, PyData.depthAll, PyData.depth]
    omega
theorem shaped_intsT (ns : List Int) : SeqAt.shaped (.tuple (ns.map PyData.int)) = true := by
  unfold SeqAt.shaped
  have h1 : (PyData.tuple (ns.map PyData.int)).canLay0 = true := by simp [PyData.canLay0, can_ints ns]
  have h2 : (PyData.tuple (ns.map PyData.int)).depth ≤ 64 := by
    have := depth_ints ns
    simp only [PyData.depth]
    omega
  rw [h1, decide_eq_true h2]
  rfl
theorem eqv_intsL (ns : List Int) : PyData.eqv (.list (ns.map PyData.int)) (.list (ns.map PyData.int)) = true := SeqAt.eqv_refl _ (by simp [PyData.canLay0, can_ints ns])
theorem eqv_intsT (ns : List Int) : PyData.eqv (.tuple (ns.map PyData.int)) (.tuple (ns.map PyData.int)) = true := SeqAt.eqv_refl _ (by simp [PyData.canLay0, can_ints ns])
theorem eqv_nil : PyData.eqv (.list []) (.list []) = true := eqv_intsL []
theorem eqv_consnil (d : PyData) (ds : List PyData) : PyData.eqv (.list (d :: ds)) (.list []) = false := by simp [PyData.eqv, PyData.eqvAll]
theorem erase_perm {ls : List Int} {i : Nat} {y : Int} (h : ls[i]? = some y) : ls.Perm (y :: ls.eraseIdx i) := by
  induction ls generalizing i with
  | nil => simp at h
  | cons x r ih =>
    cases i with
    | zero =>
      obtain rfl := Option.some.inj h
      exact .refl _
    | succ i =>
      have := ih (i := i) h
      exact (List.Perm.cons x this).trans (List.Perm.swap y x _)
theorem map_erase {α β : Type} (g : α → β) : ∀ (ls : List α) (i : Nat), (ls.eraseIdx i).map g = (ls.map g).eraseIdx i
  | [], _ => rfl
  | _ :: _, 0 => rfl
  | x :: r, i + 1 => congrArg (g x :: ·) (map_erase g r i)
section
variable {P : Program} {w : World} {K : PySem.W.Frag} {mg : Str → Option Value} {base : Heap}
def spMixed : Sp := fun vs H Q _ => ∃ (d a : Addr) (ns : List Int), vs = [.ref d, .ref a] ∧ Dice H d ∧ H a = some (.lst (ns.map V.int)) ∧ ns.length ≤ 1000 ∧
  ∀ (p : Addr) (ms : List Int) H', p ≠ d → ms.Perm ns → H' p = some (.lst (ms.map V.int)) → Dice H' d → Keep d H H' → Q (.ref p) H'
theorem ok_mixed (T : Txt K mg) {f : Addr} {fd : FuncData} (D : DefAt K mg "_law_mixed" sLMixed ["_law_dice_here", "_law_items"] f fd) : FnOk P w K mg base CX0 2 f fd ["_law_dice_here", "_law_items"] spMixed := by
  refine D.F.ok scLMixed (fun vs H Q E h => ?_) (fun cdv A outer s₀ H vs Q E hr h => ?_)
  · obtain ⟨d, a, ns, rfl, _⟩ := h
    rfl
  · obtain ⟨d, a, ns, rfl, hd, ha, hl, q⟩ := h
    obtain ⟨f1, fd1, D1⟩ := T.d_l_roll
    refine ⟨_, pss_cons (ps_par (i := 2) (j := 3) (by rfl) scLMixed.nd rfl rfl (by decide) rfl rfl (pa_cons (pe_callTy call_list_of (by rfl) T.z_list (by decide +kernel) (pa_cons (pv 1) pa_nil)) (pa_cons (pe_lst pa_nil) pa_nil)) (by rfl))
      (pss_cons (ps_while PassesOwn.never (pt_cmpR (op_neD hr.units) (pv 2) (pe_lst pa_nil) (nomark _))
        (pss_one (ps_expr (pe_bm PySem.F.plainAttrs_list PySem.F.slot_list_append PySem.F.type_list_append mt_append (pv 3) (pa_cons
          (pe_bm PySem.F.plainAttrs_list PySem.F.slot_list_pop PySem.F.type_list_pop mt_popAt (pv 2) (pa_cons (pe_call (ok_roll T D1) hr (by rfl) D1.g D1.F.kp D1.b .nil pass0 (pa_cons (pv 0) (pa_cons (pe_callB call_len_seq (by rfl) T.z_len PySem.boot_len (pa_cons (pv 2) pa_nil)) pa_nil))) pa_nil)) pa_nil)))))
      (pss_one (ps_ret (pv 3)))), ?_⟩
    refine ⟨_, rfl, a, _, rfl, .inl (SqL.of ha), fun l hl0 => ⟨by show 0 ≤ sizeLine; decide, fun g hg0 => ⟨_, _, rfl, ?_⟩⟩⟩
    have ndl : d ≠ l := hd.ne_new hl0
    have hd1 : Dice (upd H l (.lst (ns.map V.int))) d := hd.upd ndl
    have ndg : d ≠ g := hd1.ne_new hg0
    have nlg : l ≠ g := fun z => by
      subst z
      rw [upd_same] at hg0
      cases hg0
    have ng0 : H g = none := by
      rw [upd_ne nlg.symm] at hg0
      exact hg0
    refine ⟨fun m σ' H' => ∃ ls ms : List Int, m = ls.length ∧ σ' = [some (.ref d), some (.ref a), some (.ref l), some (.ref g)] ∧ H' l = some (.lst (ls.map V.int)) ∧ H' g = some (.lst (ms.map V.int)) ∧ (ms ++ ls).Perm ns ∧ Dice H' d ∧ Keep d H H',
      ⟨ns.length, ns, [], rfl, rfl, ?_, upd_same, .refl _, (hd.upd ndl).upd ndg, (Keep.new hl0).mut ng0⟩, fun m σ' H' hW => ?_⟩
    · rw [upd_ne nlg]
      exact upd_same
    · obtain ⟨ls, ms, rfl, rfl, w1, w2, w3, w4, w5⟩ := hW
      refine ⟨_, rfl, by show 0 ≤ sizeLine; decide, fun e he => ⟨.list _, .list [], .lst (SqL.of (Ex.new he _ _ w1)) (dp_ints ls), .lst (SqL.of upd_same) .nil, shaped_intsL _, rfl, _, rfl, ?_⟩⟩
      have v1 := Ex.new (o := .lst []) he _ _ w1
      have v2 := Ex.new (o := .lst []) he _ _ w2
      have v4 := w4.upd (o := .lst []) (w4.ne_new he)
      have v5 := w5.trans (Keep.new (o := .lst []) he)
      generalize upd H' e (.lst []) = H2 at *
      cases ls with
      | nil =>
        rw [show PyData.eqv (.list (([] : List Int).map PyData.int)) (.list []) = true from eqv_nil]
        refine iteF ?_
        refine ⟨_, rfl, ?_⟩
        rw [List.append_nil] at w3
        exact q g ms H2 ndg.symm w3 v2 v4 v5
      | cons y0 ls0 =>
        rw [show PyData.eqv (.list ((y0 :: ls0).map PyData.int)) (.list []) = false from eqv_consnil _ _]
        refine iteT ?_
        generalize hls : y0 :: ls0 = ls at *
        have hpos : 1 ≤ ls.length := by
          rw [← hls, List.length_cons]
          omega
        have hlen := w3.length_eq
        rw [List.length_append] at hlen
        refine ⟨fun σ2 H3 => ∃ ls' ms' : List Int, ls'.length < ls.length ∧ σ2 = [some (.ref d), some (.ref a), some (.ref l), some (.ref g)] ∧ H3 l = some (.lst (ls'.map V.int)) ∧ H3 g = some (.lst (ms'.map V.int)) ∧ (ms' ++ ls').Perm ns ∧ Dice H3 d ∧ Keep d H H3, fun σ2 H3 hN => ?_, ?_⟩
        · obtain ⟨ls', ms', h1, h2⟩ := hN
          exact ⟨ls'.length, h1, ls', ms', rfl, h2⟩
        · refine ⟨_, rfl, .inl ⟨rfl, _, SqL.of v2⟩, _, rfl, .inl ⟨rfl, _, SqL.of v1⟩, _, rfl, _, rfl, l, _, rfl, .inl (SqL.of v1), d, _, rfl, v4, ?_, ?_, fun r H3 r0 r1 hd3 k3 => ?_⟩
          · rw [List.length_map]
            omega
          · rw [List.length_map]
            omega
          · rw [List.length_map] at r1
            have hy : ls[r.toNat]? = some (ls[r.toNat]'(by omega)) := List.getElem?_eq_getElem _
            have u1 := k3 _ _ ndl.symm v1
            have u2 := k3 _ _ ndg.symm v2
            refine ⟨l, _, r, r.toNat, .int (ls[r.toNat]'(by omega)), rfl, rfl, u1, by omega, by omega, ?_, ?_, ?_⟩
            · rw [List.length_map]
              exact seqIndex_of r0 r1
            · rw [List.getElem?_map, hy]
              rfl
            · refine ⟨g, ms.map V.int, _, rfl, rfl, ?_, ?_, ls.eraseIdx r.toNat, ms ++ [ls[r.toNat]'(by omega)], ?_, rfl, ?_, ?_, ?_, ?_, ?_⟩
              · rw [upd_ne nlg.symm]
                exact u2
              · rw [List.length_map]
                exact small1000 (by omega)
              · rw [List.length_eraseIdx_of_lt (by omega)]
                omega
              · rw [upd_ne nlg, upd_same, map_erase]
              · rw [upd_same, List.map_append]
                rfl
              · refine List.Perm.trans ?_ w3
                rw [List.append_assoc]
                exact List.Perm.append_left ms (erase_perm hy).symm
              · exact (hd3.upd ndl).upd ndg
              · exact ((v5.trans k3).mut hl0).mut ng0
end
end K1

/-! the map of a chain: exchanges of neighbours, ring by ring; what it counts; plain mathematics -/
namespace MP
/-- exchanged where they rise -/
def stepP (M : Int → Bool) (f : Int → Int) (i : Int) : Int := if M i = true then max (f i) (f (i + 1)) else if M (i - 1) = true then min (f (i - 1)) (f i) else f i
/-- no two neighbours -/
def Sparse (M : Int → Bool) : Prop := ∀ i, M i = true → M (i + 1) = false
theorem Sparse.ahead {M : Int → Bool} (S : Sparse M) {i : Int} (h : M i = true) : M (i - 1) = false := by
  cases q : M (i - 1) with
  | false => rfl
  | true =>
    have := S _ q
    rw [show i - 1 + 1 = i by omega, h] at this
    cases this
theorem stepP_at {M : Int → Bool} {f : Int → Int} {i : Int} (h : M i = true) : stepP M f i = max (f i) (f (i + 1)) := if_pos h
theorem stepP_next {M : Int → Bool} (S : Sparse M) {f : Int → Int} {i : Int} (h : M i = true) : stepP M f (i + 1) = min (f i) (f (i + 1)) := by
  unfold stepP
  rw [if_neg (by rw [S i h]; decide), show i + 1 - 1 = i by omega, if_pos h]
theorem stepP_none {M : Int → Bool} {f : Int → Int} (h : ∀ i, M i = false) : stepP M f = f := by
  funext i
  unfold stepP
  rw [if_neg (by rw [h]; decide), if_neg (by rw [h]; decide)]
/-- the map, the last ring first -/
def pmap : List (Int → Bool) → (Int → Int) → Int → Int
  | [], f => f
  | M :: Ms, f => stepP M (pmap Ms f)
theorem pmap_bound {e : Int} : ∀ (Ms : List (Int → Bool)) (i : Int), i + e - Ms.length ≤ pmap Ms (fun i => i + e) i ∧ pmap Ms (fun i => i + e) i ≤ i + e + Ms.length
  | [], i => by
    show i + e - 0 ≤ i + e ∧ i + e ≤ i + e + 0
    omega
  | M :: Ms, i => by
    have h0 := pmap_bound (e := e) Ms i
    have h1 := pmap_bound (e := e) Ms (i + 1)
    have h2 := pmap_bound (e := e) Ms (i - 1)
    rw [List.length_cons]
    show i + e - ((Ms.length + 1 : Nat) : Int) ≤ stepP M _ i ∧ stepP M _ i ≤ i + e + ((Ms.length + 1 : Nat) : Int)
    unfold stepP
    split
    · omega
    · split
      · omega
      · omega
/-- each value once -/
def Bij (f : Int → Int) : Prop := ∀ t, ∃ i, f i = t ∧ ∀ j, f j = t → j = i
theorem Bij.inj {f : Int → Int} (B : Bij f) {i j : Int} (h : f i = f j) : i = j := by
  obtain ⟨k, _, h2⟩ := B (f i)
  rw [h2 i rfl, h2 j h.symm]
/-- where the value comes from -/
def sw (M : Int → Bool) (f : Int → Int) (i : Int) : Int := if M i = true then (if f i < f (i + 1) then i + 1 else i) else if M (i - 1) = true then (if f (i - 1) < f i then i - 1 else i) else i
theorem step_sw (M : Int → Bool) (f : Int → Int) (i : Int) : stepP M f i = f (sw M f i) := by
  unfold stepP sw
  by_cases m : M i = true
  · rw [if_pos m, if_pos m]
    split <;> omega
  · rw [if_neg m, if_neg m]
    by_cases m2 : M (i - 1) = true
    · rw [if_pos m2, if_pos m2]
      split <;> omega
    · rw [if_neg m2, if_neg m2]
theorem sw_sw {M : Int → Bool} (S : Sparse M) (f : Int → Int) (i : Int) : sw M f (sw M f i) = i := by
  by_cases m : M i = true
  · by_cases c : f i < f (i + 1)
    · have e : sw M f i = i + 1 := by
        unfold sw
        rw [if_pos m, if_pos c]
      rw [e]
      unfold sw
      rw [if_neg (by rw [S i m]; decide), show i + 1 - 1 = i by omega, if_pos m, if_pos c]
    · have e : sw M f i = i := by
        unfold sw
        rw [if_pos m, if_neg c]
      rw [e, e]
  · by_cases m2 : M (i - 1) = true
    · by_cases c : f (i - 1) < f i
      · have e : sw M f i = i - 1 := by
          unfold sw
          rw [if_neg m, if_pos m2, if_pos c]
        rw [e]
        unfold sw
        rw [if_pos m2, show i - 1 + 1 = i by omega, if_pos c]
      · have e : sw M f i = i := by
          unfold sw
          rw [if_neg m, if_pos m2, if_neg c]
        rw [e, e]
    · have e : sw M f i = i := by
        unfold sw
        rw [if_neg m, if_neg m2]
      rw [e, e]
theorem bij_step {M : Int → Bool} (S : Sparse M) {f : Int → Int} (B : Bij f) : Bij (stepP M f) := by
  intro t
  obtain ⟨i, hi, u⟩ := B t
  refine ⟨sw M f i, by rw [step_sw, sw_sw S, hi], fun j hj => ?_⟩
  rw [step_sw] at hj
  have := u _ hj
  rw [← this, sw_sw S]
theorem bij_pmap {e : Int} : ∀ Ms : List (Int → Bool), (∀ M ∈ Ms, Sparse M) → Bij (pmap Ms fun i => i + e)
  | [], _ => fun t => ⟨t - e, by show t - e + e = t; omega, fun j hj => by have : j + e = t := hj; omega⟩
  | M :: Ms, h => bij_step (h M (List.mem_cons_self ..)) (bij_pmap Ms fun N hN => h N (List.mem_cons_of_mem _ hN))
/-! ### what is counted -/
def opN (M : Int → Bool) (F : Int → Int) (v : Int) : Int := if M v = true then min (F (v - 1) + 1) (F (v + 1)) else F v
def opE (M : Int → Bool) (E : Int → Int) (v : Int) : Int := if M v = true then min (E (v + 1) + 1) (E (v - 1)) else E v
def Up (F : Int → Int) : Prop := ∀ v, F (v - 1) ≤ F v ∧ F v ≤ F (v - 1) + 1
def Down (E : Int → Int) : Prop := ∀ v, E v ≤ E (v - 1) ∧ E (v - 1) ≤ E v + 1
def ind (b : Int) (f : Int → Int) (v : Int) : Int := if -b ≤ f v then 1 else 0
/-- F counts the values of f from -b on -/
def Counts (b : Int) (f F : Int → Int) : Prop := ∀ v, F v - F (v - 1) = ind b f v
theorem Counts.up {b : Int} {f F : Int → Int} (C : Counts b f F) : Up F := fun v => by
  have := C v
  unfold ind at this
  split at this <;> omega
theorem counts_step {M : Int → Bool} (S : Sparse M) {b : Int} {f F : Int → Int} (C : Counts b f F) : Counts b (stepP M f) (opN M F) := fun v => by
  have c0 : F v - F (v - 1) = if -b ≤ f v then 1 else 0 := C v
  have c1 : F (v + 1) - F (v + 1 - 1) = if -b ≤ f (v + 1) then 1 else 0 := C (v + 1)
  have c2 : F (v - 1) - F (v - 1 - 1) = if -b ≤ f (v - 1) then 1 else 0 := C (v - 1)
  rw [show v + 1 - 1 = v by omega] at c1
  rw [show v - 1 - 1 = v - 2 by omega] at c2
  show opN M F v - opN M F (v - 1) = if -b ≤ stepP M f v then 1 else 0
  by_cases m : M v = true
  · have e1 : opN M F v = min (F (v - 1) + 1) (F (v + 1)) := if_pos m
    have e2 : opN M F (v - 1) = F (v - 1) := if_neg (by rw [S.ahead m]; decide)
    rw [e1, e2, stepP_at m]
    split at c0 <;> split at c1 <;> split <;> omega
  · have e1 : opN M F v = F v := if_neg m
    rw [e1]
    by_cases m2 : M (v - 1) = true
    · have e2 : opN M F (v - 1) = min (F (v - 1 - 1) + 1) (F (v - 1 + 1)) := if_pos m2
      have e3 := stepP_next S (f := f) m2
      rw [show v - 1 + 1 = v by omega] at e3
      rw [e2, show v - 1 - 1 = v - 2 by omega, show v - 1 + 1 = v by omega, e3]
      split at c0 <;> split at c2 <;> split <;> omega
    · have e2 : opN M F (v - 1) = F (v - 1) := if_neg m2
      have e3 : stepP M f v = f v := by
        unfold stepP
        rw [if_neg m, if_neg m2]
      rw [e2, e3]
      exact c0
def napp : List (Int → Bool) → (Int → Int) → Int → Int
  | [], F => F
  | M :: Ms, F => opN M (napp Ms F)
theorem counts_pmap {b : Int} {f F : Int → Int} (C : Counts b f F) : ∀ Ms : List (Int → Bool), (∀ M ∈ Ms, Sparse M) → Counts b (pmap Ms f) (napp Ms F)
  | [], _ => C
  | M :: Ms, h => counts_step (h M (List.mem_cons_self ..)) (counts_pmap C Ms fun N hN => h N (List.mem_cons_of_mem _ hN))
/-- the beginning: all from V + 1 on -/
def base (V v : Int) : Int := max 0 (v - V)
theorem counts_base {b e : Int} : Counts b (fun i => i + e) (base (-b - e - 1)) := fun v => by
  show max 0 (v - (-b - e - 1)) - max 0 (v - 1 - (-b - e - 1)) = if -b ≤ v + e then 1 else 0
  split <;> omega
theorem napp_low {V : Int} : ∀ (Ms : List (Int → Bool)) (v : Int), 0 ≤ napp Ms (base V) v ∧ (v ≤ V - Ms.length → napp Ms (base V) v = 0)
  | [], v => by
    show 0 ≤ base V v ∧ (v ≤ V - 0 → base V v = 0)
    unfold base
    omega
  | M :: Ms, v => by
    have h0 := napp_low (V := V) Ms v
    have h1 := napp_low (V := V) Ms (v + 1)
    have h2 := napp_low (V := V) Ms (v - 1)
    rw [List.length_cons]
    show 0 ≤ opN M _ v ∧ (v ≤ V - ((Ms.length + 1 : Nat) : Int) → opN M _ v = 0)
    unfold opN
    split
    · constructor
      · omega
      · intro h
        have := h1.2 (by omega)
        omega
    · exact ⟨h0.1, fun h => h0.2 (by omega)⟩
theorem opE_down {M : Int → Bool} (S : Sparse M) {E : Int → Int} (D : Down E) : Down (opE M E) := fun v => by
  have d0 := D v
  have d1 := D (v + 1)
  have d2 := D (v - 1)
  rw [show v + 1 - 1 = v by omega] at d1
  rw [show v - 1 - 1 = v - 2 by omega] at d2
  unfold opE
  rw [show v - 1 - 1 = v - 2 by omega, show v - 1 + 1 = v by omega]
  by_cases m : M v = true
  · rw [if_pos m, if_neg (by rw [S.ahead m]; decide)]
    omega
  · rw [if_neg m]
    split <;> omega
/-- one ring may be counted at either side -/
theorem pair {M : Int → Bool} (S : Sparse M) {E F : Int → Int} (D : Down E) (U : Up F) (B : Int) : (∀ v, B ≤ opE M E v + F v) ↔ ∀ v, B ≤ E v + opN M F v := by
  constructor
  · intro h v
    by_cases m : M v = true
    · have h1 := h (v - 1)
      have h2 := h (v + 1)
      have mp : ¬ M (v - 1) = true := by rw [S.ahead m]; decide
      have mn : ¬ M (v + 1) = true := by rw [S v m]; decide
      unfold opE at h1 h2
      rw [if_neg mp] at h1
      rw [if_neg mn] at h2
      unfold opN
      rw [if_pos m]
      have d0 := D v
      have d1 := D (v + 1)
      rw [show v + 1 - 1 = v by omega] at d1
      omega
    · have h1 := h v
      unfold opE at h1
      rw [if_neg m] at h1
      unfold opN
      rw [if_neg m]
      exact h1
  · intro h v
    by_cases m : M v = true
    · have h1 := h (v - 1)
      have h2 := h (v + 1)
      have mp : ¬ M (v - 1) = true := by rw [S.ahead m]; decide
      have mn : ¬ M (v + 1) = true := by rw [S v m]; decide
      unfold opN at h1 h2
      rw [if_neg mp] at h1
      rw [if_neg mn] at h2
      unfold opE
      rw [if_pos m]
      have d0 := U v
      have d1 := U (v + 1)
      rw [show v + 1 - 1 = v by omega] at d1
      omega
    · have h1 := h v
      unfold opN at h1
      rw [if_neg m] at h1
      unfold opE
      rw [if_neg m]
      exact h1
theorem opN_up {M : Int → Bool} (S : Sparse M) {F : Int → Int} (U : Up F) : Up (opN M F) := fun v => by
  have d0 := U v
  have d1 := U (v + 1)
  have d2 := U (v - 1)
  rw [show v + 1 - 1 = v by omega] at d1
  rw [show v - 1 - 1 = v - 2 by omega] at d2
  unfold opN
  rw [show v - 1 - 1 = v - 2 by omega, show v - 1 + 1 = v by omega]
  by_cases m : M v = true
  · rw [if_pos m, if_neg (by rw [S.ahead m]; decide)]
    omega
  · rw [if_neg m]
    split <;> omega
theorem napp_up {F : Int → Int} (U : Up F) : ∀ Ms : List (Int → Bool), (∀ M ∈ Ms, Sparse M) → Up (napp Ms F)
  | [], _ => U
  | M :: Ms, h => opN_up (h M (List.mem_cons_self ..)) (napp_up U Ms fun N hN => h N (List.mem_cons_of_mem _ hN))
def eapp : List (Int → Bool) → (Int → Int) → Int → Int
  | [], E => E
  | M :: Ms, E => eapp Ms (opE M E)
theorem pairs {F : Int → Int} (U : Up F) (B : Int) : ∀ (Ms : List (Int → Bool)) (E : Int → Int), (∀ M ∈ Ms, Sparse M) → Down E → ((∀ v, B ≤ E v + napp Ms F v) ↔ ∀ v, B ≤ eapp Ms E v + F v)
  | [], _, _, _ => Iff.rfl
  | M :: Ms, E, h, D => by
    have S := h M (List.mem_cons_self ..)
    have h' : ∀ N ∈ Ms, Sparse N := fun N hN => h N (List.mem_cons_of_mem _ hN)
    exact (pair S D (napp_up U Ms h') B).symm.trans (pairs U B Ms (opE M E) h' (opE_down S D))
theorem up_far {F : Int → Int} (U : Up F) : ∀ (n : Nat) (v : Int), F (v - n) ≤ F v ∧ F v ≤ F (v - n) + n
  | 0, v => by
    rw [show v - ((0 : Nat) : Int) = v by omega]
    omega
  | n + 1, v => by
    have h := up_far U n v
    have q := U (v - n)
    rw [show v - ((n + 1 : Nat) : Int) = v - n - 1 by omega]
    omega
theorem down_far {E : Int → Int} (D : Down E) : ∀ (n : Nat) (v : Int), E v ≤ E (v - n) ∧ E (v - n) ≤ E v + n
  | 0, v => by
    rw [show v - ((0 : Nat) : Int) = v by omega]
    omega
  | n + 1, v => by
    have h := down_far D n v
    have q := D (v - n)
    rw [show v - ((n + 1 : Nat) : Int) = v - n - 1 by omega]
    omega
theorem end_left {F : Int → Int} (U : Up F) (a B : Int) : (∀ v, B ≤ max 0 (a - v) + F v) ↔ B ≤ F a := by
  constructor
  · intro h
    have := h a
    omega
  · intro h v
    by_cases c : v ≤ a
    · have := up_far U (a - v).toNat a
      rw [show a - ((a - v).toNat : Int) = v by omega] at this
      omega
    · have := up_far U (v - a).toNat v
      rw [show v - ((v - a).toNat : Int) = a by omega] at this
      omega
theorem end_right {E : Int → Int} (D : Down E) (V B : Int) : (∀ v, B ≤ E v + base V v) ↔ B ≤ E V := by
  unfold base
  constructor
  · intro h
    have := h V
    omega
  · intro h v
    by_cases c : v ≤ V
    · have := down_far D (V - v).toNat V
      rw [show V - ((V - v).toNat : Int) = v by omega] at this
      omega
    · have := down_far D (v - V).toNat v
      rw [show v - ((v - V).toNat : Int) = V by omega] at this
      omega
theorem eapp_down : ∀ (Ms : List (Int → Bool)) (E : Int → Int), (∀ M ∈ Ms, Sparse M) → Down E → Down (eapp Ms E)
  | [], _, _, D => D
  | M :: Ms, E, h, D => eapp_down Ms (opE M E) (fun N hN => h N (List.mem_cons_of_mem _ hN)) (opE_down (h M (List.mem_cons_self ..)) D)
theorem up_base (V : Int) : Up (base V) := fun v => by
  unfold base
  omega
def start (a v : Int) : Int := max 0 (a - v)
theorem down_start (a : Int) : Down (start a) := fun v => by
  unfold start
  omega
/-- by the map, and from the other end -/
theorem both_ends (Ms : List (Int → Bool)) (h : ∀ M ∈ Ms, Sparse M) (a V : Int) : napp Ms (base V) a = eapp Ms (start a) V := by
  have U := napp_up (up_base V) Ms h
  have D := eapp_down Ms (start a) h (down_start a)
  have k : ∀ B, B ≤ napp Ms (base V) a ↔ B ≤ eapp Ms (start a) V := fun B =>
    (end_left U a B).symm.trans ((pairs (up_base V) B Ms (start a) h (down_start a)).trans (end_right D V B))
  have h1 := (k (napp Ms (base V) a)).mp (Int.le_refl _)
  have h2 := (k (eapp Ms (start a) V)).mpr (Int.le_refl _)
  omega
theorem eapp_snoc (M : Int → Bool) : ∀ (Ms : List (Int → Bool)) (E : Int → Int), eapp (Ms ++ [M]) E = opE M (eapp Ms E)
  | [], _ => rfl
  | N :: Ms, E => eapp_snoc M Ms (opE N E)
/-! ### windows -/
/-- a row of values from low on -/
def win (f : Int → Int) (low : Int) (n : Nat) : List Int := (List.range n).map fun (k : Nat) => f (low + k)
theorem win_len (f : Int → Int) (low : Int) (n : Nat) : (win f low n).length = n := by simp [win]
theorem win_get {f : Int → Int} {low : Int} {n k : Nat} (h : k < n) : (win f low n)[k]? = some (f (low + k)) := by
  unfold win
  rw [List.getElem?_map, List.getElem?_range h]
  rfl
/-- the row is that of f, but for e places at both ends -/
def Near (vs : List Int) (f : Int → Int) (low : Int) (n e : Nat) : Prop := vs.length = n ∧ ∀ k : Nat, e ≤ k → k + e < n → vs[k]? = some (f (low + k))
/-- exchanged at the places of M ahead of B -/
def part (M : Int → Bool) (low : Int) (vs : List Int) (B : Nat) : List Int := (List.range vs.length).map fun (k : Nat) =>
  if M (low + k) = true ∧ k + 1 < vs.length ∧ k < B then max (vs.getD k 0) (vs.getD (k + 1) 0)
  else if 1 ≤ k ∧ M (low + k - 1) = true ∧ k - 1 < B then min (vs.getD (k - 1) 0) (vs.getD k 0) else vs.getD k 0
theorem part_len (M : Int → Bool) (low : Int) (vs : List Int) (B : Nat) : (part M low vs B).length = vs.length := by simp [part]
theorem part_get {M : Int → Bool} {low : Int} {vs : List Int} {B k : Nat} (h : k < vs.length) : (part M low vs B).getD k 0 =
    if M (low + k) = true ∧ k + 1 < vs.length ∧ k < B then max (vs.getD k 0) (vs.getD (k + 1) 0)
    else if 1 ≤ k ∧ M (low + k - 1) = true ∧ k - 1 < B then min (vs.getD (k - 1) 0) (vs.getD k 0) else vs.getD k 0 := by
  unfold part
  rw [List.getD_eq_getElem?_getD, List.getElem?_map, List.getElem?_range h]
  rfl
theorem list_ext {a b : List Int} (h : a.length = b.length) (e : ∀ k, k < a.length → a.getD k 0 = b.getD k 0) : a = b := by
  refine List.ext_getElem h fun k h1 h2 => ?_
  have := e k h1
  rw [List.getD_eq_getElem?_getD, List.getD_eq_getElem?_getD, List.getElem?_eq_getElem h1, List.getElem?_eq_getElem h2] at this
  exact this
theorem part_zero {M : Int → Bool} {low : Int} {vs : List Int} : part M low vs 0 = vs := list_ext (part_len ..) fun k hk => by
  rw [part_len] at hk
  rw [part_get hk, if_neg (by omega), if_neg (by omega)]
/-- no place of M from B to B2 -/
theorem part_skip {M : Int → Bool} {low : Int} {vs : List Int} {B B2 : Nat} (hB : B ≤ B2) (no : ∀ k : Nat, B ≤ k → k < B2 → k + 1 < vs.length → M (low + k) = false) : part M low vs B2 = part M low vs B := list_ext (by rw [part_len, part_len]) fun k hk => by
  rw [part_len] at hk
  rw [part_get hk, part_get hk]
  have e1 : (M (low + k) = true ∧ k + 1 < vs.length ∧ k < B2) ↔ (M (low + k) = true ∧ k + 1 < vs.length ∧ k < B) := by
    constructor
    · intro c
      refine ⟨c.1, c.2.1, Nat.lt_of_not_le fun q => ?_⟩
      have := no k q c.2.2 c.2.1
      rw [c.1] at this
      cases this
    · intro c
      exact ⟨c.1, c.2.1, by omega⟩
  have e2 : (1 ≤ k ∧ M (low + k - 1) = true ∧ k - 1 < B2) ↔ (1 ≤ k ∧ M (low + k - 1) = true ∧ k - 1 < B) := by
    constructor
    · intro c
      refine ⟨c.1, c.2.1, Nat.lt_of_not_le fun q => ?_⟩
      have h1 := c.1
      have := no (k - 1) q c.2.2 (by omega)
      rw [show low + ((k - 1 : Nat) : Int) = low + k - 1 by omega, c.2.1] at this
      cases this
    · intro c
      exact ⟨c.1, c.2.1, by omega⟩
  simp only [e1, e2]
theorem getD_set {l : List Int} {i k : Nat} {v : Int} (hi : i < l.length) : (l.set i v).getD k 0 = if k = i then v else l.getD k 0 := by
  rw [List.getD_eq_getElem?_getD, List.getElem?_set]
  by_cases c : i = k
  · subst c
    rw [if_pos rfl, if_pos rfl, if_pos hi]
    rfl
  · rw [if_neg c, if_neg (Ne.symm c), List.getD_eq_getElem?_getD]
/-- one exchange, at a place of M -/
theorem part_next {M : Int → Bool} (S : Sparse M) {low : Int} {vs : List Int} {B : Nat} (hB : B + 1 < vs.length) (m : M (low + B) = true) :
    (part M low vs B).getD B 0 = vs.getD B 0 ∧ (part M low vs B).getD (B + 1) 0 = vs.getD (B + 1) 0 ∧
    part M low vs (B + 1) = ((part M low vs B).set B (max (vs.getD B 0) (vs.getD (B + 1) 0))).set (B + 1) (min (vs.getD B 0) (vs.getD (B + 1) 0)) := by
  have mp : ¬ M (low + B - 1) = true := by rw [S.ahead m]; decide
  have mn : ¬ M (low + B + 1) = true := by rw [S _ m]; decide
  refine ⟨?_, ?_, list_ext (by rw [part_len, List.length_set, List.length_set, part_len]) fun k hk => ?_⟩
  · rw [part_get (by omega), if_neg (by omega), if_neg (fun q => mp q.2.1)]
  · rw [part_get hB, if_neg (by omega), if_neg (by omega)]
  · rw [part_len] at hk
    rw [getD_set (by rw [List.length_set, part_len]; exact hB), getD_set (by rw [part_len]; omega), part_get hk]
    by_cases k1 : k = B + 1
    · subst k1
      rw [if_pos rfl, if_neg (fun q => by omega), if_pos ⟨by omega, by rw [show low + ((B + 1 : Nat) : Int) - 1 = low + B by omega]; exact m, by omega⟩]
      rfl
    · rw [if_neg k1]
      by_cases k2 : k = B
      · subst k2
        rw [if_pos rfl, if_pos ⟨m, hB, by omega⟩]
      · rw [if_neg k2, part_get hk]
        have e1 : (M (low + k) = true ∧ k + 1 < vs.length ∧ k < B + 1) ↔ (M (low + k) = true ∧ k + 1 < vs.length ∧ k < B) := by
          constructor
          · intro c
            exact ⟨c.1, c.2.1, by omega⟩
          · intro c
            exact ⟨c.1, c.2.1, by omega⟩
        have e2 : (1 ≤ k ∧ M (low + k - 1) = true ∧ k - 1 < B + 1) ↔ (1 ≤ k ∧ M (low + k - 1) = true ∧ k - 1 < B) := by
          constructor
          · intro c
            exact ⟨c.1, c.2.1, by omega⟩
          · intro c
            exact ⟨c.1, c.2.1, by omega⟩
        simp only [e1, e2]
/-- a whole ring -/
theorem near_step {M : Int → Bool} {vs : List Int} {f : Int → Int} {low : Int} {n e : Nat} (h : Near vs f low n e) {B : Nat} (hB : n ≤ B + 1) : Near (part M low vs B) (stepP M f) low n (e + 1) := by
  obtain ⟨h1, h2⟩ := h
  refine ⟨by rw [part_len, h1], fun k k1 k2 => ?_⟩
  have gd : ∀ j : Nat, e ≤ j → j + e < n → vs.getD j 0 = f (low + j) := fun j a b => by
    rw [List.getD_eq_getElem?_getD, h2 j a b]
    rfl
  have hk : k < (part M low vs B).length := by rw [part_len]; omega
  have e1 : (part M low vs B)[k]? = some ((part M low vs B).getD k 0) := by
    rw [List.getD_eq_getElem?_getD, List.getElem?_eq_getElem hk]
    rfl
  rw [e1, part_get (by omega)]
  congr 1
  rw [gd k (by omega) (by omega), gd (k + 1) (by omega) (by omega), gd (k - 1) (by omega) (by omega)]
  unfold stepP
  rw [show low + ((k + 1 : Nat) : Int) = low + k + 1 by omega, show low + ((k - 1 : Nat) : Int) = low + k - 1 by omega]
  by_cases m : M (low + k) = true
  · rw [if_pos ⟨m, by omega, by omega⟩, if_pos m]
  · rw [if_neg (fun q => m q.1), if_neg m]
    by_cases m2 : M (low + k - 1) = true
    · rw [if_pos ⟨by omega, m2, by omega⟩, if_pos m2]
    · rw [if_neg (fun q => m2 q.2.1), if_neg m2]
theorem near_more {vs : List Int} {f : Int → Int} {low : Int} {n e e2 : Nat} (h : Near vs f low n e) (he : e ≤ e2) : Near vs f low n e2 := ⟨h.1, fun k a b => h.2 k (by omega) (by omega)⟩
theorem near_win (f : Int → Int) (low : Int) (n : Nat) : Near (win f low n) f low n 0 := ⟨win_len .., fun k _ h => win_get (by omega)⟩
/-- the inner part -/
theorem near_cut {vs : List Int} {f : Int → Int} {low : Int} {n e : Nat} (h : Near vs f low n e) (hn : 2 * e ≤ n) : (vs.drop e).take (n - 2 * e) = win f (low + e) (n - 2 * e) := by
  refine List.ext_getElem? fun k => ?_
  by_cases c : k < n - 2 * e
  · rw [List.getElem?_take_of_lt c, List.getElem?_drop, h.2 (e + k) (by omega) (by omega), win_get c]
    congr 2
    omega
  · rw [List.getElem?_eq_none (by rw [List.length_take]; omega), List.getElem?_eq_none (by rw [win_len]; omega)]
/-- how many of a row are from -b on -/
theorem count_win {b : Int} {f F : Int → Int} (C : Counts b f F) (low : Int) : ∀ n : Nat, (((win f low n).filter fun x => decide (x ≥ -b)).length : Int) = F (low + n - 1) - F (low - 1)
  | 0 => by
    rw [show low + ((0 : Nat) : Int) - 1 = low - 1 by omega]
    show ((0 : Nat) : Int) = _
    omega
  | n + 1 => by
    have ih := count_win C low n
    have c := C (low + n)
    have e : win f low (n + 1) = win f low n ++ [f (low + n)] := by
      unfold win
      rw [List.range_succ, List.map_append]
      rfl
    rw [e, List.filter_append, List.length_append, show low + ((n + 1 : Nat) : Int) - 1 = low + n by omega]
    unfold ind at c
    by_cases q : -b ≤ f (low + n)
    · rw [if_pos q] at c
      rw [List.filter_cons_of_pos (by simpa using q), List.filter_nil, List.length_singleton]
      omega
    · rw [if_neg q] at c
      rw [List.filter_cons_of_neg (by simpa using q), List.filter_nil, List.length_nil]
      omega
/-- two ascending rows with the same members -/
theorem asc_ext : ∀ {a b : List Int}, a.Pairwise (· < ·) → b.Pairwise (· < ·) → (∀ x, x ∈ a ↔ x ∈ b) → a = b
  | [], [], _, _, _ => rfl
  | [], y :: _, _, _, h => absurd ((h y).mpr (List.mem_cons_self ..)) (by simp)
  | x :: _, [], _, _, h => absurd ((h x).mp (List.mem_cons_self ..)) (by simp)
  | x :: a, y :: b, ha, hb, h => by
    obtain ⟨ha1, ha2⟩ := List.pairwise_cons.mp ha
    obtain ⟨hb1, hb2⟩ := List.pairwise_cons.mp hb
    have e : x = y := by
      have h1 := (h x).mp (List.mem_cons_self ..)
      have h2 := (h y).mpr (List.mem_cons_self ..)
      rcases List.mem_cons.mp h1 with e | h1
      · exact e
      · rcases List.mem_cons.mp h2 with e | h2
        · exact e.symm
        · have := hb1 x h1
          have := ha1 y h2
          omega
    subst e
    refine congrArg (x :: ·) (asc_ext ha2 hb2 fun z => ⟨fun q => ?_, fun q => ?_⟩)
    · rcases List.mem_cons.mp ((h z).mp (List.mem_cons_of_mem _ q)) with e | q2
      · subst e
        have := ha1 z q
        omega
      · exact q2
    · rcases List.mem_cons.mp ((h z).mpr (List.mem_cons_of_mem _ q)) with e | q2
      · subst e
        have := hb1 z q
        omega
      · exact q2
theorem asc_of_sorted {a : List Int} (h : a.Pairwise (· ≤ ·)) (n : a.Nodup) : a.Pairwise (· < ·) := by
  refine List.Pairwise.imp₂ (fun x y (h1 : x ≤ y) (h2 : x ≠ y) => by omega) h n
end MP

set_option exponentiation.threshold 400
namespace K1
open MP
section
def sumL {α : Type} (l : List α) (f : α → Int) : Int := (l.map f).sum
theorem sumL_nil {α : Type} (f : α → Int) : sumL [] f = 0 := rfl
theorem sumL_cons {α : Type} (x : α) (l : List α) (f : α → Int) : sumL (x :: l) f = f x + sumL l f := by
  unfold sumL
  rw [List.map_cons, List.sum_cons]
theorem sumL_app {α : Type} : ∀ (l m : List α) (f : α → Int), sumL (l ++ m) f = sumL l f + sumL m f
  | [], m, f => by rw [List.nil_append, sumL_nil, Int.zero_add]
  | x :: l, m, f => by rw [List.cons_append, sumL_cons, sumL_cons, sumL_app l m f, Int.add_assoc]
theorem sumL_congr {α : Type} {f g : α → Int} : ∀ {l : List α}, (∀ x ∈ l, f x = g x) → sumL l f = sumL l g
  | [], _ => rfl
  | x :: l, h => by rw [sumL_cons, sumL_cons, h x (List.mem_cons_self ..), sumL_congr fun y hy => h y (List.mem_cons_of_mem _ hy)]
theorem sumL_perm {α : Type} {l m : List α} (f : α → Int) (h : l.Perm m) : sumL l f = sumL m f := by
  induction h with
  | nil => rfl
  | cons x _ ih => rw [sumL_cons, sumL_cons, ih]
  | swap x y l => rw [sumL_cons, sumL_cons, sumL_cons, sumL_cons]; omega
  | trans _ _ i1 i2 => exact i1.trans i2
theorem sumL_add {α : Type} (f g : α → Int) : ∀ l : List α, sumL l (fun x => f x + g x) = sumL l f + sumL l g
  | [] => rfl
  | x :: l => by rw [sumL_cons, sumL_cons, sumL_cons, sumL_add f g l]; omega
theorem sumL_zero {α : Type} : ∀ l : List α, sumL l (fun _ => 0) = 0
  | [] => rfl
  | x :: l => by rw [sumL_cons, sumL_zero l]; rfl
theorem sumL_mul {α : Type} (c : Int) (f : α → Int) : ∀ l : List α, sumL l (fun x => c * f x) = c * sumL l f
  | [] => by rw [sumL_nil, sumL_nil, Int.mul_zero]
  | x :: l => by rw [sumL_cons, sumL_cons, sumL_mul c f l, Int.mul_add]
theorem sumL_swap {α β : Type} (f : α → β → Int) (m : List β) : ∀ l : List α, sumL l (fun x => sumL m fun y => f x y) = sumL m fun y => sumL l fun x => f x y
  | [] => by
    rw [sumL_nil]
    exact (sumL_zero m).symm
  | x :: l => by
    rw [sumL_cons, sumL_swap f m l, ← sumL_add]
    exact sumL_congr fun y _ => (sumL_cons x l (fun x => f x y)).symm
theorem sumL_map {α β : Type} (f : β → Int) (g : α → β) (l : List α) : sumL (l.map g) f = sumL l fun x => f (g x) := by
  unfold sumL
  rw [List.map_map]
  rfl
theorem sumL_if {α : Type} (p : α → Bool) (c : Int) : ∀ l : List α, sumL l (fun x => if p x = true then c else 0) = ((l.filter p).length : Int) * c
  | [] => by simp [sumL_nil]
  | x :: l => by
    rw [sumL_cons, sumL_if p c l, List.filter_cons]
    split
    · rw [List.length_cons, Int.natCast_succ, Int.add_mul]
      omega
    · omega
theorem sumL_one {α : Type} : ∀ l : List α, sumL l (fun _ => 1) = (l.length : Int)
  | [] => rfl
  | x :: l => by rw [sumL_cons, sumL_one l, List.length_cons]; omega
theorem sumL_nn {α : Type} {f : α → Int} : ∀ {l : List α}, (∀ x ∈ l, 0 ≤ f x) → 0 ≤ sumL l f
  | [], _ => Int.le_refl _
  | x :: l, h => by
    rw [sumL_cons]
    have := h x (List.mem_cons_self ..)
    have := sumL_nn (l := l) fun y hy => h y (List.mem_cons_of_mem _ hy)
    omega
end
end K1

/-! round maps: periodic maps, their sums, their counts; plain mathematics -/
namespace K1
open MP
def Per (m : Int) (f : Int → Int) : Prop := ∀ i, f (i + m) = f i + m
def PerM (m : Int) (M : Int → Bool) : Prop := ∀ i, M (i + m) = M i
theorem per_step {m : Int} {M : Int → Bool} {f : Int → Int} (pM : PerM m M) (pf : Per m f) : Per m (stepP M f) := fun i => by
  unfold stepP
  rw [pM i, show i + m + 1 = (i + 1) + m by omega, show i + m - 1 = (i - 1) + m by omega, pM (i - 1), pf i, pf (i + 1), pf (i - 1)]
  split
  · omega
  · split <;> omega
theorem per_pmap {m e : Int} : ∀ Ms : List (Int → Bool), (∀ M ∈ Ms, PerM m M) → Per m (pmap Ms fun i => i + e)
  | [], _ => fun i => by
    show i + m + e = i + e + m
    omega
  | M :: Ms, h => per_step (h M (List.mem_cons_self ..)) (per_pmap Ms fun N hN => h N (List.mem_cons_of_mem _ hN))
/-- what an exchange gives to the right -/
def gx (M : Int → Bool) (f : Int → Int) (i : Int) : Int := if M i = true then max 0 (f (i + 1) - f i) else 0
theorem step_diff {M : Int → Bool} (S : Sparse M) (f : Int → Int) (i : Int) : stepP M f i = f i + (gx M f i - gx M f (i - 1)) := by
  unfold stepP gx
  rw [show i - 1 + 1 = i by omega]
  by_cases m : M i = true
  · rw [if_pos m, if_pos m, if_neg (by rw [S.ahead m]; decide)]
    omega
  · rw [if_neg m, if_neg m]
    by_cases m2 : M (i - 1) = true
    · rw [if_pos m2, if_pos m2]
      omega
    · rw [if_neg m2, if_neg m2]
      omega
theorem tele (g : Int → Int) : ∀ n : Nat, sumL (List.range n) (fun (i : Nat) => g (i : Int) - g ((i : Int) - 1)) = g ((n : Int) - 1) - g (-1)
  | 0 => by
    show (0 : Int) = g (0 - 1) - g (-1)
    rw [show (0 : Int) - 1 = -1 by omega]
    omega
  | n + 1 => by
    rw [List.range_succ, sumL_app, tele g n, sumL_cons, sumL_nil, show ((n + 1 : Nat) : Int) - 1 = (n : Int) by omega]
    omega
theorem sum_step {m : Nat} {M : Int → Bool} {f : Int → Int} (S : Sparse M) (pM : PerM m M) (pf : Per m f) : sumL (List.range m) (fun (i : Nat) => stepP M f (i : Int)) = sumL (List.range m) fun (i : Nat) => f (i : Int) := by
  rw [show sumL (List.range m) (fun (i : Nat) => stepP M f (i : Int)) = sumL (List.range m) (fun (i : Nat) => f (i : Int) + (gx M f (i : Int) - gx M f ((i : Int) - 1))) from sumL_congr fun i _ => step_diff S f i, sumL_add, tele]
  have : gx M f ((m : Int) - 1) = gx M f (-1) := by
    unfold gx
    have p1 := pM (-1)
    have p2 := pf (-1)
    have p3 := pf (-1 + 1)
    rw [show (m : Int) - 1 = -1 + m by omega, p1, show (-1 : Int) + m + 1 = -1 + 1 + m by omega, p2, p3]
    split <;> omega
  omega
theorem sum_pmap {m : Nat} {e : Int} : ∀ Ms : List (Int → Bool), (∀ M ∈ Ms, Sparse M ∧ PerM m M) → sumL (List.range m) (fun (i : Nat) => pmap Ms (fun i => i + e) (i : Int)) = sumL (List.range m) fun (i : Nat) => (i : Int) + e
  | [], _ => rfl
  | M :: Ms, h => by
    obtain ⟨h1, h2⟩ := h M (List.mem_cons_self ..)
    have hr := fun N hN => h N (List.mem_cons_of_mem _ hN)
    show sumL (List.range m) (fun (i : Nat) => stepP M (pmap Ms fun i => i + e) (i : Int)) = _
    rw [sum_step h1 h2 (per_pmap Ms fun N hN => (hr N hN).2)]
    exact sum_pmap Ms hr
theorem qle {m p q : Int} (hm : 0 < m) (h : m * p < m * q + m) : p ≤ q := by
  have : m * p < m * (q + 1) := by rw [Int.mul_add, Int.mul_one]; exact h
  have := Int.lt_of_mul_lt_mul_left this (Int.le_of_lt hm)
  omega
theorem qlo {m : Int} (hm : 0 < m) (x : Int) : m * (x / m) ≤ x := Int.mul_ediv_self_le (by omega)
theorem qhi {m : Int} (hm : 0 < m) (x : Int) : x < m * (x / m) + m := Int.lt_mul_ediv_self_add hm
theorem q_eq {m x q : Int} (hm : 0 < m) (h1 : m * q ≤ x) (h2 : x < m * q + m) : x / m = q := by
  have a := qlo hm x
  have b := qhi hm x
  exact Int.le_antisymm (qle hm (by omega)) (qle hm (by omega))
/-- how many are counted -/
def cntR (m : Nat) (f : Int → Int) (a b : Int) : Int := sumL (List.range m) fun (r : Nat) => max 0 ((a - (r : Int)) / (m : Int) + (b + f (r : Int)) / (m : Int) + 1)
theorem per_mul {m : Int} {f : Int → Int} (pf : Per m f) : ∀ (n : Nat) (i : Int), f (i + m * (n : Int)) = f i + m * (n : Int)
  | 0, i => by
    show f (i + m * 0) = f i + m * 0
    rw [Int.mul_zero, Int.add_zero, Int.add_zero]
  | n + 1, i => by
    rw [show i + m * ((n + 1 : Nat) : Int) = (i + m * (n : Int)) + m by rw [Int.natCast_add, Int.mul_add]; show i + (m * n + m * 1) = _; omega, pf, per_mul pf n, Int.natCast_add, Int.mul_add]
    show _ = f i + (m * n + m * 1)
    omega
theorem per_q {m : Int} {f : Int → Int} (pf : Per m f) (i q : Int) : f (i + m * q) = f i + m * q := by
  rcases Int.le_total 0 q with h | h
  · obtain ⟨n, rfl⟩ : ∃ n : Nat, q = n := ⟨q.toNat, by omega⟩
    exact per_mul pf n i
  · obtain ⟨n, rfl⟩ : ∃ n : Nat, q = -(n : Int) := ⟨(-q).toNat, by omega⟩
    have := per_mul pf n (i + m * -(n : Int))
    rw [show i + m * -(n : Int) + m * (n : Int) = i by rw [Int.mul_neg]; omega] at this
    rw [Int.mul_neg] at this ⊢
    omega
theorem sumL_one_at {f g : Nat → Int} {j : Nat} {v : Int} : ∀ {n : Nat}, j < n → (∀ x, x < n → f x = g x + if x = j then v else 0) → sumL (List.range n) f = sumL (List.range n) g + v
  | 0, h, _ => absurd h (Nat.not_lt_zero _)
  | n + 1, h, e => by
    rw [List.range_succ, sumL_app, sumL_app, sumL_cons, sumL_cons, sumL_nil, sumL_nil, e n (by omega)]
    by_cases z : n = j
    · rw [if_pos z, show sumL (List.range n) f = sumL (List.range n) g from sumL_congr fun x hx => by
        have := List.mem_range.mp hx
        rw [e x (by omega), if_neg (by omega), Int.add_zero]]
      omega
    · rw [if_neg z, sumL_one_at (n := n) (by omega) fun x hx => e x (by omega)]
      omega
theorem cnt_step {m : Nat} (hm : 1 ≤ m) {f : Int → Int} (pf : Per m f) (a b : Int) : cntR m f a b - cntR m f (a - 1) b = if -b ≤ f a then 1 else 0 := by
  have m0 : (0 : Int) < m := by omega
  have ra := Int.emod_nonneg a (show (m : Int) ≠ 0 by omega)
  have rb := Int.emod_lt_of_pos a m0
  obtain ⟨r, hr⟩ : ∃ r : Nat, (r : Int) = a % (m : Int) := ⟨(a % (m : Int)).toNat, by omega⟩
  obtain ⟨q, hq⟩ : ∃ q, q = a / (m : Int) := ⟨_, rfl⟩
  have ea : a = (r : Int) + m * q := by
    rw [hr, hq]
    have := Int.mul_ediv_add_emod a m
    omega
  have fa : f a = f (r : Int) + m * q := by
    rw [ea, per_q pf]
  unfold cntR
  rw [sumL_one_at (j := r) (v := if -b ≤ f a then 1 else 0) (show r < m by omega) (g := fun (r : Nat) => max 0 ((a - 1 - (r : Int)) / (m : Int) + (b + f (r : Int)) / (m : Int) + 1)) fun x hx => ?_]
  · omega
  · obtain ⟨t, ht⟩ : ∃ t, t = (b + f (x : Int)) / (m : Int) := ⟨_, rfl⟩
    rw [← ht]
    by_cases z : x = r
    · subst z
      rw [if_pos rfl]
      have e1 : (a - (x : Int)) / (m : Int) = q := q_eq m0 (by omega) (by omega)
      have e2 : (a - 1 - (x : Int)) / (m : Int) = q - 1 := q_eq m0 (by rw [Int.mul_sub]; omega) (by rw [Int.mul_sub]; omega)
      rw [e1, e2]
      have l := qlo m0 (b + f (x : Int))
      have h := qhi m0 (b + f (x : Int))
      rw [← ht] at l h
      by_cases y : -b ≤ f a
      · rw [if_pos y]
        have : 0 ≤ q + t := by
          refine qle m0 ?_
          rw [Int.mul_zero, Int.mul_add]
          omega
        omega
      · rw [if_neg y]
        have : q + t ≤ -1 := by
          refine qle m0 ?_
          rw [Int.mul_add]
          omega
        omega
    · rw [if_neg z]
      have e : (a - (x : Int)) / (m : Int) = (a - 1 - (x : Int)) / (m : Int) := by
        have l := qlo m0 (a - (x : Int))
        have h := qhi m0 (a - (x : Int))
        symm
        refine q_eq m0 ?_ (by omega)
        rcases Int.lt_or_le (m * ((a - (x : Int)) / m)) (a - x) with y | y
        · omega
        · exfalso
          have e3 : (r : Int) - x = m * ((a - (x : Int)) / m - q) := by rw [Int.mul_sub]; omega
          rcases Int.lt_trichotomy ((a - (x : Int)) / m - q) 0 with w | w | w
          · have := Int.mul_le_mul_of_nonneg_left (show (a - (x : Int)) / m - q ≤ -1 by omega) (Int.le_of_lt m0)
            omega
          · rw [w, Int.mul_zero] at e3
            omega
          · have := Int.mul_le_mul_of_nonneg_left (show 1 ≤ (a - (x : Int)) / m - q by omega) (Int.le_of_lt m0)
            omega
      rw [e]
      omega
theorem cnt_low {m : Nat} (hm : 1 ≤ m) {f : Int → Int} {tot : Int} (fb : ∀ i, f i ≤ i + tot) {a b : Int} (h : a + b + tot + m < 0) : cntR m f a b = 0 := by
  have m0 : (0 : Int) < m := by omega
  unfold cntR
  rw [show sumL (List.range m) (fun (r : Nat) => max 0 ((a - (r : Int)) / (m : Int) + (b + f (r : Int)) / (m : Int) + 1)) = sumL (List.range m) fun _ => 0 from sumL_congr fun r _ => ?_, sumL_zero]
  have l1 := qlo m0 (a - (r : Int))
  have l2 := qlo m0 (b + f (r : Int))
  have := fb (r : Int)
  have : (a - (r : Int)) / (m : Int) + (b + f (r : Int)) / (m : Int) ≤ -2 := by
    refine qle m0 ?_
    rw [Int.mul_add]
    omega
  omega
theorem cnt_all {m : Nat} (hm : 1 ≤ m) {f : Int → Int} (pf : Per m f) {tot : Int} (fb : ∀ i, f i ≤ i + tot) {b : Int} {h : Int → Int} (hs : ∀ a, h a - h (a - 1) = if -b ≤ f a then 1 else 0) (hl : ∀ a, a < -tot - b → h a = 0) (a : Int) : cntR m f a b = h a := by
  have go : ∀ n : Nat, cntR m f (-tot - b - m - 1 + n) b = h (-tot - b - m - 1 + n) := fun n => by
    induction n with
    | zero => rw [cnt_low hm fb (by omega), hl _ (by omega)]
    | succ n ih =>
      have s1 := cnt_step hm pf (-tot - b - m - 1 + ((n + 1 : Nat) : Int)) b
      have s2 := hs (-tot - b - m - 1 + ((n + 1 : Nat) : Int))
      rw [show -tot - b - m - 1 + ((n + 1 : Nat) : Int) - 1 = -tot - b - m - 1 + (n : Int) by omega] at s1 s2
      omega
  by_cases z : -tot - b - m - 1 ≤ a
  · obtain ⟨n, hn⟩ : ∃ n : Nat, a = -tot - b - m - 1 + n := ⟨(a - (-tot - b - m - 1)).toNat, by omega⟩
    rw [hn]
    exact go n
  · rw [cnt_low hm fb (by omega), hl _ (by omega)]
end K1

/-! how often a round map falls: one exchange adds one at the most; plain mathematics -/
namespace K1
open MP
/-- falls of two classes -/
def dd (m : Int) (f : Int → Int) (i j : Int) : Int := (f j - f i) / m - (j - i) / m
theorem div_q {m : Int} (hm : 0 < m) (x q : Int) : (x + m * q) / m = x / m + q := by
  rw [Int.add_mul_ediv_left _ _ (by omega)]
theorem dd_mod {m : Int} (hm : 0 < m) {f : Int → Int} (pf : Per m f) (i j p q : Int) : dd m f (i + m * p) (j + m * q) = dd m f i j := by
  unfold dd
  rw [per_q pf, per_q pf, show f j + m * q - (f i + m * p) = (f j - f i) + m * (q - p) by rw [Int.mul_sub]; omega, show j + m * q - (i + m * p) = (j - i) + m * (q - p) by rw [Int.mul_sub]; omega, div_q hm, div_q hm]
  omega
theorem neg_div {m x : Int} (hm : 0 < m) (h : x % m ≠ 0) : (-x) / m = -(x / m) - 1 := by
  have a := Int.mul_ediv_add_emod x m
  have b := Int.emod_nonneg x (show m ≠ 0 by omega)
  have c := Int.emod_lt_of_pos x hm
  refine q_eq hm ?_ ?_
  · rw [Int.mul_sub, Int.mul_neg]
    omega
  · rw [Int.mul_sub, Int.mul_neg]
    omega
theorem dd_sym {m : Int} (hm : 0 < m) {f : Int → Int} {i j : Int} (h1 : (f j - f i) % m ≠ 0) (h2 : (j - i) % m ≠ 0) : dd m f j i = -dd m f i j := by
  unfold dd
  rw [show f i - f j = -(f j - f i) by omega, show i - j = -(j - i) by omega, neg_div hm h1, neg_div hm h2]
  omega
def ab (x : Int) : Int := (x.natAbs : Int)
theorem ab_neg (x : Int) : ab (-x) = ab x := by unfold ab; rw [Int.natAbs_neg]
theorem ab_add (x y : Int) : ab (x + y) ≤ ab x + ab y := by unfold ab; omega
/-- a sum over a triangle -/
def tri (m : Nat) (h : Nat → Nat → Int) : Int := sumL (List.range m) fun j => sumL (List.range j) fun i => h i j
def sqr (m : Nat) (h : Nat → Nat → Int) : Int := sumL (List.range m) fun i => sumL (List.range m) fun j => if i = j then 0 else h i j
theorem sqr_tri {h : Nat → Nat → Int} : ∀ m : Nat, (∀ i j, i < m → j < m → i ≠ j → h i j = h j i) → sqr m h = 2 * tri m h
  | 0, _ => rfl
  | m + 1, s => by
    have ih := sqr_tri m fun i j hi hj => s i j (by omega) (by omega)
    unfold sqr tri at ih ⊢
    rw [List.range_succ, sumL_app, sumL_app, sumL_cons, sumL_cons, sumL_nil, sumL_nil]
    rw [show sumL (List.range m) (fun i => sumL (List.range m ++ [m]) fun j => if i = j then 0 else h i j) = sumL (List.range m) (fun i => (sumL (List.range m) fun j => if i = j then 0 else h i j) + h i m) from sumL_congr fun i hi => by
      have := List.mem_range.mp hi
      rw [sumL_app, sumL_cons, sumL_nil, if_neg (by omega), Int.add_zero]]
    rw [sumL_add, ih, sumL_app, sumL_cons, sumL_nil, if_pos rfl]
    rw [show sumL (List.range m) (fun j => if m = j then 0 else h m j) = sumL (List.range m) (fun j => h j m) from sumL_congr fun j hj => by
      have := List.mem_range.mp hj
      rw [if_neg (by omega), s m j (by omega) (by omega) (by omega)]]
    omega
/-- the program's count -/
def fallsR (m : Nat) (f : Int → Int) : Int := tri m fun i j => ab ((f (j : Int) - f (i : Int)) / (m : Int))
theorem dd_in {m : Nat} {f : Int → Int} {i j : Nat} (hij : i < j) (hj : j < m) : dd m f i j = (f (j : Int) - f (i : Int)) / (m : Int) := by
  unfold dd
  rw [Int.ediv_eq_zero_of_lt (a := (j : Int) - (i : Int)) (by omega) (by omega)]
  omega
/-- no two places of a class -/
def Inj (m : Int) (f : Int → Int) : Prop := ∀ i j, (f j - f i) % m = 0 → (j - i) % m = 0
theorem inj_of {m : Int} {f : Int → Int} (pf : Per m f) (hi : ∀ i j, f i = f j → i = j) : Inj m f := fun i j h => by
  obtain ⟨q, hq⟩ := Int.dvd_of_emod_eq_zero h
  have := hi j (i + m * q) (by rw [per_q pf]; omega)
  rw [this, show i + m * q - i = m * q by omega]
  exact Int.mul_emod_right m q
theorem small_mod {m : Nat} {i j : Nat} (hi : i < m) (hj : j < m) (h : i ≠ j) : ((j : Int) - (i : Int)) % (m : Int) ≠ 0 := fun z => by
  obtain ⟨q, hq⟩ := Int.dvd_of_emod_eq_zero z
  rcases Int.lt_trichotomy q 0 with w | w | w
  · have := Int.mul_le_mul_of_nonneg_left (show q ≤ -1 by omega) (show (0 : Int) ≤ m by omega)
    omega
  · rw [w, Int.mul_zero] at hq
    omega
  · have := Int.mul_le_mul_of_nonneg_left (show 1 ≤ q by omega) (show (0 : Int) ≤ m by omega)
    omega
def sq2 (m : Nat) (f : Int → Int) : Int := sqr m fun i j => ab (dd m f i j)
theorem sq2_falls {m : Nat} (hm : 1 ≤ m) {f : Int → Int} (I : Inj m f) : sq2 m f = 2 * fallsR m f := by
  unfold sq2
  rw [sqr_tri m fun i j hi hj ne => by
    have h2 := small_mod hi hj ne
    have h1 : (f (j : Int) - f (i : Int)) % (m : Int) ≠ 0 := fun z => h2 (I _ _ z)
    rw [dd_sym (by omega) h1 h2, ab_neg]]
  congr 1
  unfold tri fallsR tri
  refine sumL_congr fun j hj => sumL_congr fun i hi => ?_
  have := List.mem_range.mp hj
  have := List.mem_range.mp hi
  show ab (dd m f i j) = ab _
  rw [dd_in (by omega) (by omega)]
theorem nodup_perm2 {l m : List Nat} (hl : l.Nodup) (hm : m.Nodup) (h : ∀ x, x ∈ l ↔ x ∈ m) : l.Perm m := (List.perm_ext_iff_of_nodup hl hm).mpr h
theorem invol_perm {n : Nat} {s : Nat → Nat} (h1 : ∀ i, i < n → s i < n) (h2 : ∀ i, i < n → s (s i) = i) : ((List.range n).map s).Perm (List.range n) := by
  refine nodup_perm2 ?_ List.nodup_range fun q => ?_
  · refine List.pairwise_map.mpr (List.Pairwise.imp_of_mem (fun {a b} ha hb ne e => ne ?_) List.nodup_range)
    have ha := h2 a (List.mem_range.mp ha)
    have hb := h2 b (List.mem_range.mp hb)
    rw [e] at ha
    omega
  · rw [List.mem_map, List.mem_range]
    constructor
    · rintro ⟨p, hp, rfl⟩
      exact h1 p (List.mem_range.mp hp)
    · intro hq
      exact ⟨s q, List.mem_range.mpr (h1 q hq), h2 q hq⟩
theorem sw_per {m : Int} {M : Int → Bool} {f : Int → Int} (pM : PerM m M) (pf : Per m f) : Per m (sw M f) := fun i => by
  unfold sw
  rw [pM i, show i + m + 1 = (i + 1) + m by omega, show i + m - 1 = (i - 1) + m by omega, pM (i - 1), pf i, pf (i + 1), pf (i - 1)]
  split
  · split <;> split <;> omega
  · split
    · split <;> split <;> omega
    · omega
theorem sw_near (M : Int → Bool) (f : Int → Int) (i : Int) : i - 1 ≤ sw M f i ∧ sw M f i ≤ i + 1 := by
  unfold sw
  split
  · split <;> omega
  · split
    · split <;> omega
    · omega
theorem sw_moved {M : Int → Bool} {f : Int → Int} {i : Int} (h : sw M f i ≠ i) : M i = true ∨ M (i - 1) = true := by
  unfold sw at h
  by_cases a : M i = true
  · exact .inl a
  · rw [if_neg a] at h
    by_cases b : M (i - 1) = true
    · exact .inr b
    · rw [if_neg b] at h
      exact absurd rfl h
theorem at_most {l : List Nat} (nd : l.Nodup) (p : Nat → Prop) [DecidablePred p] (h : ∀ x ∈ l, ∀ y ∈ l, p x → p y → x = y) : sumL l (fun x => if p x then 1 else 0) ≤ 1 := by
  induction l with
  | nil => exact (by decide : (0 : Int) ≤ 1)
  | cons x l ih =>
    rw [sumL_cons]
    rw [List.nodup_cons] at nd
    by_cases z : p x
    · rw [if_pos z, show sumL l (fun x => if p x then (1 : Int) else 0) = sumL l fun _ => 0 from sumL_congr fun y hy => if_neg fun w => nd.1 (by rw [h x (List.mem_cons_self ..) y (List.mem_cons_of_mem _ hy) z w]; exact hy), sumL_zero]
      omega
    · rw [if_neg z]
      have := ih nd.2 fun a ha b hb => h a (List.mem_cons_of_mem _ ha) b (List.mem_cons_of_mem _ hb)
      omega
theorem sumL_le {α : Type} {f g : α → Int} : ∀ {l : List α}, (∀ x ∈ l, f x ≤ g x) → sumL l f ≤ sumL l g
  | [], _ => Int.le_refl _
  | x :: l, h => by
    rw [sumL_cons, sumL_cons]
    have := h x (List.mem_cons_self ..)
    have := sumL_le (l := l) fun y hy => h y (List.mem_cons_of_mem _ hy)
    omega
/-- the places of a period at which an exchange may be -/
def cntM (m : Nat) (M : Int → Bool) : Int := sumL (List.range m) fun (i : Nat) => if M (i : Int) = true then 1 else 0
theorem cntM_back {m : Nat} (hm : 1 ≤ m) {M : Int → Bool} (pM : PerM m M) : sumL (List.range m) (fun (i : Nat) => if M ((i : Int) - 1) = true then (1 : Int) else 0) = cntM m M := by
  have t := tele (fun i => if M i = true then (1 : Int) else 0) m
  have p := pM (-1)
  rw [show (-1 : Int) + m = (m : Int) - 1 by omega] at p
  rw [p] at t
  have e : sumL (List.range m) (fun (i : Nat) => if M (i : Int) = true then (1 : Int) else 0) = sumL (List.range m) (fun (i : Nat) => (if M ((i : Int) - 1) = true then (1 : Int) else 0) + ((if M (i : Int) = true then (1 : Int) else 0) - if M ((i : Int) - 1) = true then (1 : Int) else 0)) := sumL_congr fun i _ => by omega
  unfold cntM
  rw [e, sumL_add, t]
  omega
theorem div_near {m : Int} (hm : 2 ≤ m) {x y : Int} (h1 : x - 2 ≤ y) (h2 : y ≤ x + 2) : x / m - 1 ≤ y / m ∧ y / m ≤ x / m + 1 := by
  have m0 : 0 < m := by omega
  have a := qlo m0 x
  have b := qhi m0 x
  have c := qlo m0 y
  have d := qhi m0 y
  constructor
  · refine qle m0 ?_
    rw [Int.mul_sub]
    omega
  · refine qle m0 ?_
    rw [Int.mul_add]
    omega
/-- the order of two classes changes only where they are exchanged -/
theorem swap_only {m : Int} (hm : 2 ≤ m) {M : Int → Bool} {f : Int → Int} (I : Inj m (sw M f)) {i j : Int} (hij : (j - i) % m ≠ 0) :
    ab ((sw M f j - sw M f i) / m - (j - i) / m) ≤ if sw M f i ≠ i ∧ (j - sw M f i) % m = 0 then 1 else 0 := by
  have m0 : 0 < m := by omega
  have n1 := sw_near M f i
  have n2 := sw_near M f j
  have dn := div_near hm (x := j - i) (y := sw M f j - sw M f i) (by omega) (by omega)
  have hs : (sw M f j - sw M f i) % m ≠ 0 := fun z => hij (I _ _ z)
  by_cases e : (sw M f j - sw M f i) / m = (j - i) / m
  · rw [e, show (j - i) / m - (j - i) / m = 0 by omega]
    show (0 : Int) ≤ _
    split <;> omega
  · have one : ab ((sw M f j - sw M f i) / m - (j - i) / m) ≤ 1 := by
      unfold ab
      omega
    have a := qlo m0 (j - i)
    have b := qhi m0 (j - i)
    have c := qlo m0 (sw M f j - sw M f i)
    have d := qhi m0 (sw M f j - sw M f i)
    have nz : m * ((j - i) / m) ≠ j - i := fun z => hij (by rw [← z]; exact Int.mul_emod_right _ _)
    have nz2 : m * ((sw M f j - sw M f i) / m) ≠ sw M f j - sw M f i := fun z => hs (by rw [← z]; exact Int.mul_emod_right _ _)
    have fin : sw M f i ≠ i ∧ (j - sw M f i) % m = 0 := by
      rcases Int.lt_or_lt_of_ne e with w | w
      · have e2 : (sw M f j - sw M f i) / m = (j - i) / m - 1 := by omega
        rw [e2, Int.mul_sub, Int.mul_one] at d
        have : sw M f i = i + 1 ∧ m * ((j - i) / m) = j - (i + 1) := by omega
        refine ⟨by omega, ?_⟩
        rw [this.1, ← this.2]
        exact Int.mul_emod_right _ _
      · have e2 : (sw M f j - sw M f i) / m = (j - i) / m + 1 := by omega
        rw [e2, Int.mul_add, Int.mul_one] at c nz2
        have : sw M f i = i - 1 ∧ m * ((j - i) / m) + m = j - (i - 1) := by omega
        refine ⟨by omega, ?_⟩
        rw [this.1, ← this.2, show m * ((j - i) / m) + m = m * ((j - i) / m + 1) by rw [Int.mul_add, Int.mul_one]]
        exact Int.mul_emod_right _ _
    rw [if_pos fin]
    exact one
/-- one ring adds so much at the most -/
theorem falls_step {m : Nat} (hm : 2 ≤ m) {M : Int → Bool} {f : Int → Int} (S : Sparse M) (pM : PerM m M) (pf : Per m f) (hi : ∀ i j, f i = f j → i = j) (hi2 : ∀ i j, stepP M f i = stepP M f j → i = j) : fallsR m (stepP M f) ≤ fallsR m f + cntM m M := by
  have m0 : (0 : Int) < m := by omega
  have I1 := inj_of pf hi
  have I2 := inj_of (per_step pM pf) hi2
  have sp := sw_per pM pf
  have I3 : Inj m (sw M f) := inj_of sp fun i j e => by
    have := sw_sw S f i
    rw [e, sw_sw S f j] at this
    exact this.symm
  have r1 := sq2_falls (by omega) I1
  have r2 := sq2_falls (by omega) I2
  -- the places, changed
  obtain ⟨s, hs⟩ : ∃ s : Nat → Nat, ∀ i, s i = (sw M f (i : Int) % (m : Int)).toNat := ⟨fun i => (sw M f (i : Int) % (m : Int)).toNat, fun _ => rfl⟩
  have sv : ∀ i, (s i : Int) = sw M f (i : Int) + m * (-(sw M f (i : Int) / (m : Int))) := fun i => by
    have a := Int.emod_nonneg (sw M f (i : Int)) (show (m : Int) ≠ 0 by omega)
    have b := Int.mul_ediv_add_emod (sw M f (i : Int)) m
    rw [hs, Int.toNat_of_nonneg a, Int.mul_neg]
    omega
  have s1 : ∀ i, i < m → s i < m := fun i _ => by
    have a := Int.emod_nonneg (sw M f (i : Int)) (show (m : Int) ≠ 0 by omega)
    have b := Int.emod_lt_of_pos (sw M f (i : Int)) m0
    rw [hs]
    omega
  have s2 : ∀ i, i < m → s (s i) = i := fun i hi => by
    rw [hs, sv i, per_q sp, sw_sw S, Int.add_mul_emod_self_left, Int.emod_eq_of_lt (by omega) (by omega)]
    rfl
  have pm := invol_perm s1 s2
  have sne : ∀ i j, i < m → j < m → i ≠ j → s i ≠ s j := fun i j a b c d => c (by rw [← s2 i a, d, s2 j b])
  have same : sqr m (fun i j => ab (dd m f (s i) (s j))) = sq2 m f := by
    unfold sq2 sqr
    refine Eq.trans ?_ (sumL_perm _ pm)
    rw [sumL_map]
    refine sumL_congr fun i hi => ?_
    refine Eq.trans ?_ (sumL_perm _ pm)
    rw [sumL_map]
    refine sumL_congr fun j hj => ?_
    have hi := List.mem_range.mp hi
    have hj := List.mem_range.mp hj
    by_cases e : i = j
    · rw [if_pos e, if_pos (by rw [e])]
    · rw [if_neg e, if_neg (sne i j hi hj e)]
  have key : sq2 m (stepP M f) ≤ sq2 m f + sumL (List.range m) (fun (i : Nat) => sumL (List.range m) fun (j : Nat) => if sw M f (i : Int) ≠ i ∧ ((j : Int) - sw M f (i : Int)) % (m : Int) = 0 then 1 else 0) := by
    rw [← same]
    unfold sq2 sqr
    rw [← sumL_add]
    refine sumL_le fun i hi => ?_
    rw [← sumL_add]
    refine sumL_le fun j hj => ?_
    have hi := List.mem_range.mp hi
    have hj := List.mem_range.mp hj
    by_cases e : i = j
    · rw [if_pos e, if_pos e]
      split <;> omega
    · rw [if_neg e, if_neg e]
      have sm := small_mod hi hj e
      have so := swap_only (show (2 : Int) ≤ m by omega) I3 sm
      have e2 : dd m (stepP M f) i j = dd m f (s i) (s j) + ((sw M f (j : Int) - sw M f (i : Int)) / (m : Int) - ((j : Int) - (i : Int)) / (m : Int)) := by
        rw [sv i, sv j, dd_mod m0 pf]
        unfold dd
        rw [step_sw, step_sw]
        omega
      have := ab_add (dd m f (s i) (s j)) ((sw M f (j : Int) - sw M f (i : Int)) / (m : Int) - ((j : Int) - (i : Int)) / (m : Int))
      rw [← e2] at this
      dsimp only
      omega
  have cnt : sumL (List.range m) (fun (i : Nat) => sumL (List.range m) fun (j : Nat) => if sw M f (i : Int) ≠ i ∧ ((j : Int) - sw M f (i : Int)) % (m : Int) = 0 then (1 : Int) else 0) ≤ 2 * cntM m M := by
    have b := cntM_back (by omega) pM
    have : sumL (List.range m) (fun (i : Nat) => sumL (List.range m) fun (j : Nat) => if sw M f (i : Int) ≠ i ∧ ((j : Int) - sw M f (i : Int)) % (m : Int) = 0 then (1 : Int) else 0) ≤ sumL (List.range m) (fun (i : Nat) => (if M (i : Int) = true then (1 : Int) else 0) + if M ((i : Int) - 1) = true then (1 : Int) else 0) := sumL_le fun i hi => by
      by_cases mv : sw M f (i : Int) ≠ i
      · have le1 := at_most List.nodup_range (fun (j : Nat) => sw M f (i : Int) ≠ i ∧ ((j : Int) - sw M f (i : Int)) % (m : Int) = 0) (l := List.range m) fun x hx y hy px py => by
          refine Classical.byContradiction fun ne => small_mod (List.mem_range.mp hx) (List.mem_range.mp hy) ne ?_
          obtain ⟨p, hp⟩ := Int.dvd_of_emod_eq_zero px.2
          obtain ⟨q, hq⟩ := Int.dvd_of_emod_eq_zero py.2
          rw [show (y : Int) - (x : Int) = m * (q - p) by rw [Int.mul_sub]; omega]
          exact Int.mul_emod_right _ _
        rcases sw_moved mv with z | z
        · rw [if_pos z]
          split <;> omega
        · rw [if_pos z]
          split <;> omega
      · rw [show sumL (List.range m) (fun (j : Nat) => if sw M f (i : Int) ≠ i ∧ ((j : Int) - sw M f (i : Int)) % (m : Int) = 0 then (1 : Int) else 0) = sumL (List.range m) fun _ => 0 from sumL_congr fun j _ => if_neg fun z => mv z.1, sumL_zero]
        split <;> split <;> omega
    rw [sumL_add, b] at this
    unfold cntM at this b ⊢
    omega
  omega
theorem ab_zero {m : Nat} (e : Int) : fallsR m (fun i => i + e) = 0 := by
  unfold fallsR tri
  rw [show sumL (List.range m) (fun (j : Nat) => sumL (List.range j) fun (i : Nat) => ab (((j : Int) + e - ((i : Int) + e)) / (m : Int))) = sumL (List.range m) fun _ => 0 from sumL_congr fun j hj => by
    rw [show sumL (List.range j) (fun (i : Nat) => ab (((j : Int) + e - ((i : Int) + e)) / (m : Int))) = sumL (List.range j) fun _ => 0 from sumL_congr fun i hi => by
      have := List.mem_range.mp hj
      have := List.mem_range.mp hi
      rw [show (j : Int) + e - ((i : Int) + e) = (j : Int) - i by omega, Int.ediv_eq_zero_of_lt (by omega) (by omega)]
      rfl, sumL_zero], sumL_zero]
theorem bij_inj {f : Int → Int} (B : Bij f) : ∀ i j, f i = f j → i = j := fun _ _ h => B.inj h
theorem falls_pmap {m : Nat} (hm : 2 ≤ m) {e : Int} : ∀ Ms : List (Int → Bool), (∀ M ∈ Ms, Sparse M ∧ PerM m M) → fallsR m (pmap Ms fun i => i + e) ≤ sumL Ms (cntM m)
  | [], _ => by
    show fallsR m (fun i => i + e) ≤ 0
    rw [ab_zero]
    omega
  | M :: Ms, h => by
    obtain ⟨h1, h2⟩ := h M (List.mem_cons_self ..)
    have hr := fun N hN => h N (List.mem_cons_of_mem _ hN)
    have ih := falls_pmap hm (e := e) Ms hr
    have b1 := bij_pmap (e := e) Ms fun N hN => (hr N hN).1
    have st := falls_step hm h1 h2 (per_pmap (e := e) Ms fun N hN => (hr N hN).2) (bij_inj b1) (bij_inj (bij_step h1 b1))
    rw [sumL_cons]
    show fallsR m (stepP M (pmap Ms fun i => i + e)) ≤ _
    omega
/-- steps of k: so many in a period -/
theorem cnt_steps {M : Int → Bool} {c : Int} {k : Nat} (hk : 1 ≤ k) (per : ∀ i, M i = true → (i - c) % (k : Int) = 0) : ∀ q : Nat, cntM (k * q) M ≤ q
  | 0 => by
    rw [Nat.mul_zero]
    exact Int.le_refl _
  | q + 1 => by
    have ih := cnt_steps hk per q
    unfold cntM at ih ⊢
    rw [Nat.mul_add, Nat.mul_one, List.range_add, sumL_app, sumL_map]
    have := at_most (l := List.range k) List.nodup_range (fun (x : Nat) => M (((k * q + x : Nat)) : Int) = true) fun x hx y hy px py => by
      refine Classical.byContradiction fun ne => small_mod (List.mem_range.mp hx) (List.mem_range.mp hy) ne ?_
      obtain ⟨p, hp⟩ := Int.dvd_of_emod_eq_zero (per _ px)
      obtain ⟨t, ht⟩ := Int.dvd_of_emod_eq_zero (per _ py)
      rw [show (y : Int) - (x : Int) = k * (t - p) by rw [Int.mul_sub]; omega]
      exact Int.mul_emod_right _ _
    omega
end K1

/-! tables of round maps: sums of floors, inverses, Riemann-Roch of a round map; plain mathematics -/
namespace K1
open MP
/-- a row of values as a round map -/
def fOf (vs : List Int) (i : Int) : Int := vs.getD (i % (vs.length : Int)).toNat 0 + i - i % (vs.length : Int)
theorem fOf_per (vs : List Int) : Per (vs.length : Int) (fOf vs) := fun i => by
  unfold fOf
  rw [Int.add_emod_right]
  omega
theorem fOf_nat {vs : List Int} {i : Nat} (h : i < vs.length) : fOf vs (i : Int) = vs.getD i 0 := by
  unfold fOf
  rw [Int.emod_eq_of_lt (by omega) (by omega), Int.toNat_natCast]
  omega
theorem row_fOf (vs : List Int) : (List.range vs.length).map (fun (i : Nat) => fOf vs (i : Int)) = vs := by
  refine List.ext_getElem? fun i => ?_
  rw [List.getElem?_map]
  by_cases h : i < vs.length
  · rw [List.getElem?_range h, List.getElem?_eq_getElem h]
    show some (fOf vs (i : Int)) = _
    rw [fOf_nat h, List.getD_eq_getElem?_getD, List.getElem?_eq_getElem h]
    rfl
  · rw [List.getElem?_eq_none (by rw [List.length_range]; omega), List.getElem?_eq_none (by omega)]
    rfl
/-- its rests are all rests -/
def PermR (m : Nat) (f : Int → Int) : Prop := ((List.range m).map fun (i : Nat) => f (i : Int) % (m : Int)).Perm ((List.range m).map fun (i : Nat) => (i : Int))
theorem bij_of_perm {m : Nat} (hm : 1 ≤ m) {f : Int → Int} (pf : Per m f) (p : PermR m f) : Bij f := fun t => by
  have m0 : (0 : Int) < m := by omega
  have a := Int.emod_nonneg t (show (m : Int) ≠ 0 by omega)
  have b := Int.emod_lt_of_pos t m0
  have mem : t % (m : Int) ∈ (List.range m).map fun (i : Nat) => f (i : Int) % (m : Int) := p.mem_iff.mpr (List.mem_map.mpr ⟨(t % (m : Int)).toNat, List.mem_range.mpr (by omega), by omega⟩)
  obtain ⟨r, hr, e⟩ := List.mem_map.mp mem
  have hr := List.mem_range.mp hr
  obtain ⟨q, hq⟩ := Int.dvd_of_emod_eq_zero (Int.emod_eq_emod_iff_emod_sub_eq_zero.mp e.symm)
  refine ⟨(r : Int) + m * q, by rw [per_q pf]; omega, fun j hj => ?_⟩
  have aj := Int.emod_nonneg j (show (m : Int) ≠ 0 by omega)
  have bj := Int.emod_lt_of_pos j m0
  have cj := Int.mul_ediv_add_emod j m
  obtain ⟨s, hs⟩ : ∃ s : Nat, (s : Int) = j % (m : Int) := ⟨(j % (m : Int)).toNat, by omega⟩
  have ej : j = (s : Int) + m * (j / (m : Int)) := by omega
  have fj : f j = f (s : Int) + m * (j / (m : Int)) := by
    have := per_q pf (s : Int) (j / (m : Int))
    rw [← ej] at this
    exact this
  have nd : ((List.range m).map fun (i : Nat) => f (i : Int) % (m : Int)).Nodup := (p.nodup_iff).mpr (List.pairwise_map.mpr (List.Pairwise.imp (fun {a b} ne e => ne (by omega)) List.nodup_range))
  have rs : r = s := by
    have e2 : f (r : Int) % (m : Int) = f (s : Int) % (m : Int) := by
      rw [e, ← hj, fj, Int.add_mul_emod_self_left]
    have h1 : ((List.range m).map fun (i : Nat) => f (i : Int) % (m : Int))[r]? = some (f (r : Int) % (m : Int)) := by
      rw [List.getElem?_map, List.getElem?_range hr]
      rfl
    have h2 : ((List.range m).map fun (i : Nat) => f (i : Int) % (m : Int))[s]? = some (f (r : Int) % (m : Int)) := by
      rw [List.getElem?_map, List.getElem?_range (show s < m by omega), e2]
      rfl
    refine (List.getElem?_inj (by rw [List.length_map, List.length_range]; exact hr) nd).mp (h1.trans h2.symm)
  rw [ej, ← rs]
  have : m * (j / (m : Int)) = m * q := by
    rw [hj, ← rs] at fj
    omega
  omega
theorem rests_of {m : Nat} (hm : 1 ≤ m) {f : Int → Int} (pf : Per m f) (B : Bij f) : PermR m f := by
  have m0 : (0 : Int) < m := by omega
  have I := inj_of pf (bij_inj B)
  have nd : ((List.range m).map fun (i : Nat) => f (i : Int) % (m : Int)).Nodup := by
    refine List.pairwise_map.mpr (List.Pairwise.imp_of_mem (fun {a b} ha hb ne e => ?_) List.nodup_range)
    refine small_mod (List.mem_range.mp ha) (List.mem_range.mp hb) ne (I _ _ ?_)
    rw [Int.sub_emod, e, Int.sub_self]
    rfl
  refine (List.perm_ext_iff_of_nodup nd (List.pairwise_map.mpr (List.Pairwise.imp (fun {a b} ne e => ne (by omega)) List.nodup_range))).mpr fun x => ⟨fun hx => ?_, fun hx => ?_⟩
  · obtain ⟨i, _, rfl⟩ := List.mem_map.mp hx
    have a := Int.emod_nonneg (f (i : Int)) (show (m : Int) ≠ 0 by omega)
    have b := Int.emod_lt_of_pos (f (i : Int)) m0
    exact List.mem_map.mpr ⟨(f (i : Int) % (m : Int)).toNat, List.mem_range.mpr (by omega), by omega⟩
  obtain ⟨r, hr, rfl⟩ := List.mem_map.mp hx
  have hr := List.mem_range.mp hr
  obtain ⟨i, hi, _⟩ := B (r : Int)
  have a := Int.emod_nonneg i (show (m : Int) ≠ 0 by omega)
  have b := Int.emod_lt_of_pos i m0
  have c := Int.mul_ediv_add_emod i m
  refine List.mem_map.mpr ⟨(i % (m : Int)).toNat, List.mem_range.mpr (by omega), ?_⟩
  rw [Int.toNat_of_nonneg a, show i % (m : Int) = i + m * (-(i / (m : Int))) by rw [Int.mul_neg]; omega, per_q pf, hi, Int.add_mul_emod_self_left, Int.emod_eq_of_lt (by omega) (by omega)]
/-- sums of floors -/
theorem floor_up {m : Nat} (hm : 1 ≤ m) (x : Int) : sumL (List.range m) (fun (r : Nat) => (x + (r : Int)) / (m : Int)) = x := by
  have m0 : (0 : Int) < m := by omega
  have step : ∀ y : Int, sumL (List.range m) (fun (r : Nat) => (y + 1 + (r : Int)) / (m : Int)) = sumL (List.range m) (fun (r : Nat) => (y + (r : Int)) / (m : Int)) + 1 := fun y => by
    have t := tele (fun i => (y + 1 + i) / (m : Int)) m
    rw [show sumL (List.range m) (fun (r : Nat) => (y + 1 + (r : Int)) / (m : Int)) = sumL (List.range m) (fun (r : Nat) => (y + (r : Int)) / (m : Int) + ((y + 1 + (r : Int)) / (m : Int) - (y + 1 + ((r : Int) - 1)) / (m : Int))) from sumL_congr fun r _ => by
      rw [show y + 1 + ((r : Int) - 1) = y + (r : Int) by omega]
      omega, sumL_add, t, show y + 1 + ((m : Int) - 1) = y + m * 1 by omega, div_q m0, show y + 1 + -1 = y by omega]
    omega
  have zero : sumL (List.range m) (fun (r : Nat) => ((0 : Int) + (r : Int)) / (m : Int)) = 0 := by
    rw [show sumL (List.range m) (fun (r : Nat) => ((0 : Int) + (r : Int)) / (m : Int)) = sumL (List.range m) fun _ => 0 from sumL_congr fun r hr => by
      have := List.mem_range.mp hr
      rw [Int.zero_add, Int.ediv_eq_zero_of_lt (by omega) (by omega)], sumL_zero]
  have up : ∀ n : Nat, sumL (List.range m) (fun (r : Nat) => ((n : Int) + (r : Int)) / (m : Int)) = n := fun n => by
    induction n with
    | zero => exact zero
    | succ n ih =>
      have := step (n : Int)
      rw [ih] at this
      rw [show ((n + 1 : Nat) : Int) = (n : Int) + 1 by omega]
      exact this
  have dn : ∀ n : Nat, sumL (List.range m) (fun (r : Nat) => (-(n : Int) + (r : Int)) / (m : Int)) = -(n : Int) := fun n => by
    induction n with
    | zero => exact zero
    | succ n ih =>
      have := step (-((n + 1 : Nat) : Int))
      rw [show -((n + 1 : Nat) : Int) + 1 = -(n : Int) by omega, ih] at this
      omega
  rcases Int.le_total 0 x with h | h
  · obtain ⟨n, rfl⟩ : ∃ n : Nat, x = n := ⟨x.toNat, by omega⟩
    exact up n
  · obtain ⟨n, rfl⟩ : ∃ n : Nat, x = -(n : Int) := ⟨(-x).toNat, by omega⟩
    exact dn n
theorem sumL_rev (f : Nat → Int) : ∀ m : Nat, sumL (List.range m) (fun r => f (m - 1 - r)) = sumL (List.range m) f
  | 0 => rfl
  | m + 1 => by
    have ih := sumL_rev f m
    rw [List.range_succ_eq_map, sumL_cons, sumL_map, ← List.range_succ_eq_map, List.range_succ, sumL_app, sumL_cons, sumL_nil]
    rw [show sumL (List.range m) (fun r => f (m + 1 - 1 - (r + 1))) = sumL (List.range m) (fun r => f (m - 1 - r)) from sumL_congr fun r _ => by rw [show m + 1 - 1 - (r + 1) = m - 1 - r by omega], ih, show m + 1 - 1 - 0 = m by omega]
    omega
theorem floor_dn {m : Nat} (hm : 1 ≤ m) (a : Int) : sumL (List.range m) (fun (r : Nat) => (a - (r : Int)) / (m : Int)) = a - m + 1 := by
  rw [← floor_up hm (a - m + 1), ← sumL_rev (fun (r : Nat) => (a - (m : Int) + 1 + (r : Int)) / (m : Int))]
  refine sumL_congr fun r hr => ?_
  have := List.mem_range.mp hr
  rw [show a - (m : Int) + 1 + ((m - 1 - r : Nat) : Int) = a - (r : Int) by omega]
/-- the shift -/
def shf (m : Nat) (f : Int → Int) : Int := sumL (List.range m) fun (r : Nat) => f (r : Int) / (m : Int)
theorem sum_perm {m : Nat} {f : Int → Int} (p : PermR m f) (h : Int → Int) : sumL (List.range m) (fun (r : Nat) => h (f (r : Int) % (m : Int))) = sumL (List.range m) fun (r : Nat) => h (r : Int) := by
  have a := sumL_perm h p
  rw [sumL_map, sumL_map] at a
  exact a
theorem shf_sum {m : Nat} {f : Int → Int} (p : PermR m f) : (sumL (List.range m) fun (r : Nat) => f (r : Int)) = (sumL (List.range m) fun (r : Nat) => (r : Int)) + m * shf m f := by
  have a := sum_perm p (fun x => x)
  unfold shf
  rw [← a, ← sumL_mul, ← sumL_add]
  refine sumL_congr fun r _ => ?_
  have := Int.mul_ediv_add_emod (f (r : Int)) m
  omega
theorem floor_f {m : Nat} (hm : 1 ≤ m) {f : Int → Int} (p : PermR m f) (b : Int) : sumL (List.range m) (fun (r : Nat) => (b + f (r : Int)) / (m : Int)) = b + shf m f := by
  have m0 : (0 : Int) < m := by omega
  have a := sum_perm p (fun x => (b + x) / (m : Int))
  rw [floor_up hm b] at a
  unfold shf
  rw [← a, ← sumL_add]
  refine sumL_congr fun r _ => ?_
  have := Int.mul_ediv_add_emod (f (r : Int)) m
  rw [← div_q m0]
  congr 1
  omega
/-- far on, all are counted -/
theorem cnt_high {m : Nat} (hm : 1 ≤ m) {f : Int → Int} (p : PermR m f) {a b : Int} (h : ∀ r : Nat, r < m → -1 ≤ a + b + f (r : Int) - (r : Int)) : cntR m f a b = a + b + 1 + shf m f := by
  have m0 : (0 : Int) < m := by omega
  unfold cntR
  rw [show sumL (List.range m) (fun (r : Nat) => max 0 ((a - (r : Int)) / (m : Int) + (b + f (r : Int)) / (m : Int) + 1)) = sumL (List.range m) (fun (r : Nat) => (a - (r : Int)) / (m : Int) + ((b + f (r : Int)) / (m : Int) + 1)) from sumL_congr fun r hr => ?_]
  · rw [sumL_add, sumL_add, floor_dn hm, floor_f hm p, sumL_one, List.length_range]
    omega
  · have hr := List.mem_range.mp hr
    have h1 := h r hr
    have a1 := qhi m0 (a - (r : Int))
    have a2 := qhi m0 (b + f (r : Int))
    have : -1 ≤ (a - (r : Int)) / (m : Int) + (b + f (r : Int)) / (m : Int) := by
      refine qle m0 ?_
      rw [Int.mul_add]
      omega
    omega
theorem cnt_none {m : Nat} (hm : 1 ≤ m) {f : Int → Int} {a b : Int} (h : ∀ r : Nat, r < m → a + b + f (r : Int) - (r : Int) ≤ -1) : cntR m f a b = 0 := by
  have m0 : (0 : Int) < m := by omega
  unfold cntR
  rw [show sumL (List.range m) (fun (r : Nat) => max 0 ((a - (r : Int)) / (m : Int) + (b + f (r : Int)) / (m : Int) + 1)) = sumL (List.range m) fun _ => 0 from sumL_congr fun r hr => ?_, sumL_zero]
  have h1 := h r (List.mem_range.mp hr)
  have l1 := qlo m0 (a - (r : Int))
  have l2 := qlo m0 (b + f (r : Int))
  have : (a - (r : Int)) / (m : Int) + (b + f (r : Int)) / (m : Int) ≤ -1 := by
    refine qle m0 ?_
    rw [Int.mul_add]
    omega
  omega
/-- one step up -/
theorem cnt_bstep {m : Nat} (hm : 1 ≤ m) {f : Int → Int} (pf : Per m f) (I : Inj m f) {a b i : Int} (hi : f i = -b) : cntR m f a b - cntR m f a (b - 1) = if i ≤ a then 1 else 0 := by
  have m0 : (0 : Int) < m := by omega
  have ra := Int.emod_nonneg i (show (m : Int) ≠ 0 by omega)
  have rb := Int.emod_lt_of_pos i m0
  have rc := Int.mul_ediv_add_emod i m
  obtain ⟨r, hr⟩ : ∃ r : Nat, (r : Int) = i % (m : Int) := ⟨(i % (m : Int)).toNat, by omega⟩
  obtain ⟨q, hq⟩ : ∃ q, q = i / (m : Int) := ⟨_, rfl⟩
  rw [← hq] at rc
  have ei : i = (r : Int) + m * q := by omega
  have fr : f (r : Int) = -b - m * q := by
    rw [ei, per_q pf] at hi
    omega
  unfold cntR
  rw [sumL_one_at (j := r) (v := if i ≤ a then 1 else 0) (show r < m by omega) (g := fun (r : Nat) => max 0 ((a - (r : Int)) / (m : Int) + (b - 1 + f (r : Int)) / (m : Int) + 1)) fun x hx => ?_]
  · omega
  · obtain ⟨t, ht⟩ : ∃ t, t = (a - (x : Int)) / (m : Int) := ⟨_, rfl⟩
    rw [← ht]
    by_cases z : x = r
    · subst z
      rw [if_pos rfl]
      have e1 : (b + f (x : Int)) / (m : Int) = -q := q_eq m0 (by rw [Int.mul_neg]; omega) (by rw [Int.mul_neg]; omega)
      have e2 : (b - 1 + f (x : Int)) / (m : Int) = -q - 1 := q_eq m0 (by rw [Int.mul_sub, Int.mul_neg]; omega) (by rw [Int.mul_sub, Int.mul_neg]; omega)
      rw [e1, e2]
      have l := qlo m0 (a - (x : Int))
      have h := qhi m0 (a - (x : Int))
      rw [← ht] at l h
      by_cases y : i ≤ a
      · rw [if_pos y]
        have : q ≤ t := qle m0 (by omega)
        omega
      · rw [if_neg y]
        have : t ≤ q - 1 := by
          refine qle m0 ?_
          rw [Int.mul_sub]
          omega
        omega
    · rw [if_neg z]
      have e : (b + f (x : Int)) / (m : Int) = (b - 1 + f (x : Int)) / (m : Int) := by
        have l := qlo m0 (b + f (x : Int))
        have h := qhi m0 (b + f (x : Int))
        symm
        refine q_eq m0 ?_ (by omega)
        rcases Int.lt_or_le (m * ((b + f (x : Int)) / m)) (b + f (x : Int)) with y | y
        · omega
        · exfalso
          have e3 : f (x : Int) - f (r : Int) = m * ((b + f (x : Int)) / m + q) := by rw [Int.mul_add]; omega
          have e4 := I (r : Int) (x : Int) (by rw [e3]; exact Int.mul_emod_right _ _)
          exact small_mod (show r < m by omega) hx (fun e => z e.symm) e4
      rw [e]
      omega
/-- Riemann-Roch of a round map and its inverse -/
theorem cnt_inv {m : Nat} (hm : 1 ≤ m) {f g : Int → Int} (pf : Per m f) (p : PermR m f) (pg : Per m g) (inv : ∀ x, f (g x) = x) (a b : Int) : cntR m g a b = cntR m f (-b - 1) (-a - 1) + a + b + 1 - shf m f := by
  have B := bij_of_perm hm pf p
  have I := inj_of pf (bij_inj B)
  have st : ∀ a : Int, (cntR m f (-b - 1) (-a - 1) + a + b + 1 - shf m f) - (cntR m f (-b - 1) (-(a - 1) - 1) + (a - 1) + b + 1 - shf m f) = if -b ≤ g a then 1 else 0 := fun a => by
    have h := cnt_bstep hm pf I (a := -b - 1) (b := -a) (i := g a) (by rw [inv]; omega)
    rw [show -(a - 1) - 1 = -a by omega]
    by_cases z : g a ≤ -b - 1
    · rw [if_pos z] at h
      rw [if_neg (show ¬ -b ≤ g a by omega)]
      omega
    · rw [if_neg z] at h
      rw [if_pos (show -b ≤ g a by omega)]
      omega
  -- far to the left
  have bd : ∀ (h : Int → Int), ∃ W : Int, 0 ≤ W ∧ ∀ r : Nat, r < m → -W ≤ h (r : Int) - (r : Int) ∧ h (r : Int) - (r : Int) ≤ W := fun h => by
    refine ⟨sumL (List.range m) fun (r : Nat) => ab (h (r : Int) - (r : Int)), sumL_nn fun _ _ => by unfold ab; omega, fun r hr => ?_⟩
    have : ab (h (r : Int) - (r : Int)) ≤ sumL (List.range m) fun (r : Nat) => ab (h (r : Int) - (r : Int)) := by
      obtain ⟨u, hu⟩ : ∃ u : Nat → Int, u = fun (x : Nat) => if x = r then 0 else ab (h (x : Int) - (x : Int)) := ⟨_, rfl⟩
      have := sumL_one_at (f := fun (x : Nat) => ab (h (x : Int) - (x : Int))) (g := u) (v := ab (h (r : Int) - (r : Int))) hr fun x _ => by
        rw [hu]
        by_cases z : x = r
        · subst z
          dsimp only
          rw [if_pos rfl, if_pos rfl, Int.zero_add]
        · dsimp only
          rw [if_neg z, if_neg z, Int.add_zero]
      have nn : 0 ≤ sumL (List.range m) u := sumL_nn fun x _ => by
        rw [hu]
        dsimp only
        split
        · omega
        · unfold ab; omega
      omega
    have k : ∀ y : Int, -ab y ≤ y ∧ y ≤ ab y := fun y => by unfold ab; omega
    have := k (h (r : Int) - (r : Int))
    omega
  obtain ⟨W1, w10, hW1⟩ := bd f
  obtain ⟨W2, w20, hW2⟩ := bd g
  have far : ∀ a : Int, a + b + W1 + W2 + 1 < 0 → cntR m g a b = cntR m f (-b - 1) (-a - 1) + a + b + 1 - shf m f := fun a ha => by
    rw [cnt_none hm fun r hr => by have := hW2 r hr; omega, cnt_high hm p fun r hr => by have := hW1 r hr; omega]
    omega
  have go : ∀ n : Nat, cntR m g (-b - W1 - W2 - 2 + n) b = cntR m f (-b - 1) (-(-b - W1 - W2 - 2 + n) - 1) + (-b - W1 - W2 - 2 + n) + b + 1 - shf m f := fun n => by
    induction n with
    | zero => exact far _ (by omega)
    | succ n ih =>
      have s1 := cnt_step hm pg (-b - W1 - W2 - 2 + ((n + 1 : Nat) : Int)) b
      have s2 := st (-b - W1 - W2 - 2 + ((n + 1 : Nat) : Int))
      rw [show -b - W1 - W2 - 2 + ((n + 1 : Nat) : Int) - 1 = -b - W1 - W2 - 2 + (n : Int) by omega] at s1 s2
      omega
  by_cases z : -b - W1 - W2 - 2 ≤ a
  · obtain ⟨n, hn⟩ : ∃ n : Nat, a = -b - W1 - W2 - 2 + n := ⟨(a - (-b - W1 - W2 - 2)).toNat, by omega⟩
    rw [hn]
    exact go n
  · exact far _ (by omega)
end K1

/-! plain mathematics of heaps, continued: growing column by column, tries, squares added in any order -/
namespace HM
theorem range_hAt (h : List Nat) : (List.range h.length).map (hAt h) = h := by
  refine List.ext_getElem? fun c => ?_
  by_cases q : c < h.length
  · rw [List.getElem?_map, List.getElem?_range q, hAt_lt q]
    rfl
  · rw [List.getElem?_eq_none (by rw [List.length_map, List.length_range]; omega), List.getElem?_eq_none (by omega)]
/-- grown at the first columns -/
def fr (h : List Nat) (g : Nat → Bool) (i : Nat) : List Nat := (List.range h.length).map (fun c => hAt h c + b2n (decide (c < i) && g c)) ++ (if (decide (h.length < i) && g h.length) = true then [1] else [])
theorem fr_zero (h : List Nat) (g : Nat → Bool) : fr h g 0 = h := by
  unfold fr
  rw [decide_eq_false (Nat.not_lt_zero _), Bool.false_and, if_neg (by decide), List.append_nil]
  conv => rhs; rw [← range_hAt h]
  refine List.map_congr_left fun c _ => ?_
  rw [decide_eq_false (Nat.not_lt_zero _), Bool.false_and]
  rfl
theorem fr_end (h : List Nat) (g : Nat → Bool) : fr h g (h.length + 1) = grow h g := by
  unfold fr grow
  rw [decide_eq_true (Nat.lt_succ_self _), Bool.true_and]
  congr 1
  refine List.map_congr_left fun c hc => ?_
  rw [decide_eq_true (show c < h.length + 1 from Nat.lt_succ_of_lt (List.mem_range.mp hc)), Bool.true_and]
theorem fr_skip {h : List Nat} {g : Nat → Bool} {i : Nat} (q : g i = false) : fr h g (i + 1) = fr h g i := by
  have e : ∀ c, (decide (c < i + 1) && g c) = (decide (c < i) && g c) := fun c => by
    by_cases z : c = i
    · subst z
      rw [q, Bool.and_false, Bool.and_false]
    · have : decide (c < i + 1) = decide (c < i) := decide_eq_decide.mpr (by omega)
      rw [this]
  unfold fr
  rw [e]
  congr 1
  exact List.map_congr_left fun c _ => by rw [e]
theorem fr_low {h : List Nat} {g : Nat → Bool} {i : Nat} (hi : i ≤ h.length) : fr h g i = (List.range h.length).map (fun c => hAt h c + b2n (decide (c < i) && g c)) := by
  unfold fr
  rw [decide_eq_false (show ¬ h.length < i by omega), Bool.false_and, if_neg (by decide), List.append_nil]
theorem fr_low_len {h : List Nat} {g : Nat → Bool} {i : Nat} (hi : i ≤ h.length) : (fr h g i).length = h.length := by
  rw [fr_low hi, List.length_map, List.length_range]
theorem fr_set {h : List Nat} {g : Nat → Bool} {i : Nat} (hi : i < h.length) (q : g i = true) : (fr h g i).set i (hAt h i + 1) = fr h g (i + 1) := by
  rw [fr_low (show i ≤ h.length by omega), fr_low (show i + 1 ≤ h.length by omega)]
  refine List.ext_getElem? fun c => ?_
  rw [List.getElem?_set]
  by_cases e : i = c
  · subst e
    rw [if_pos rfl, if_pos (by rw [List.length_map, List.length_range]; exact hi), List.getElem?_map, List.getElem?_range hi]
    show some _ = some (hAt h i + b2n (decide (i < i + 1) && g i))
    rw [decide_eq_true (Nat.lt_succ_self i), q]
    rfl
  · rw [if_neg e, List.getElem?_map, List.getElem?_map]
    have : decide (c < i + 1) = decide (c < i) := decide_eq_decide.mpr (by omega)
    by_cases l : c < h.length
    · rw [List.getElem?_range l]
      show some (hAt h c + b2n (decide (c < i) && g c)) = some (hAt h c + b2n (decide (c < i + 1) && g c))
      rw [this]
    · rw [List.getElem?_eq_none (by rw [List.length_range]; omega)]
      rfl
theorem fr_app {h : List Nat} {g : Nat → Bool} (q : g h.length = true) : fr h g h.length ++ [1] = fr h g (h.length + 1) := by
  rw [fr_end, fr_low (Nat.le_refl _)]
  unfold grow
  rw [if_pos q]
  congr 1
  refine List.map_congr_left fun c hc => ?_
  rw [decide_eq_true (List.mem_range.mp hc), Bool.true_and]
/-! ### tries -/
def Falls (ns : List Int) : Prop := (∀ j, j + 1 < ns.length → ns.getD (j + 1) 0 ≤ ns.getD j 0) ∧ ∀ y ∈ ns, (0 : Int) ≤ y
/-- heights with 0 behind them, one changed -/
def chg (h : List Nat) (st : Int) (c : Nat) : List Int := (List.range (h.length + 1)).map fun x => (hAt h x : Int) + (if x = c then st else 0)
theorem chg_len (h : List Nat) (st : Int) (c : Nat) : (chg h st c).length = h.length + 1 := by
  unfold chg
  rw [List.length_map, List.length_range]
theorem chg_get {h : List Nat} {st : Int} {c x : Nat} (hx : x ≤ h.length) : (chg h st c).getD x 0 = (hAt h x : Int) + (if x = c then st else 0) := by
  unfold chg
  rw [List.getD_eq_getElem?_getD, List.getElem?_map, List.getElem?_range (by omega)]
  rfl
/-- columns at which a try leaves a heap -/
def tr (h : List Nat) (st : Int) (c : Nat) : Bool := if st = 1 then opn h c else decide (hAt h (c + 1) < hAt h c)
theorem chg_falls {h : List Nat} (H : IsHeap h) {st : Int} (hst : st = 1 ∨ st = -1) {c : Nat} (hc : c ≤ h.length) : Falls (chg h st c) ↔ tr h st c = true := by
  have hm : ∀ y, y ∈ chg h st c → ∃ x, x ≤ h.length ∧ y = (hAt h x : Int) + (if x = c then st else 0) := fun y hy => by
    unfold chg at hy
    obtain ⟨x, hx, rfl⟩ := List.mem_map.mp hy
    exact ⟨x, Nat.le_of_lt_succ (List.mem_range.mp hx), rfl⟩
  have hm2 : ∀ x, x ≤ h.length → (hAt h x : Int) + (if x = c then st else 0) ∈ chg h st c := fun x hx => List.mem_map.mpr ⟨x, List.mem_range.mpr (Nat.lt_succ_of_le hx), rfl⟩
  rcases hst with rfl | rfl
  · unfold tr
    rw [if_pos rfl]
    constructor
    · rintro ⟨f1, f2⟩
      unfold opn
      by_cases z : c = 0
      · rw [decide_eq_true z, Bool.true_or]
      · have a := f1 (c - 1) (by rw [chg_len]; omega)
        rw [show c - 1 + 1 = c by omega, chg_get hc, chg_get (by omega), if_pos rfl, if_neg (by omega)] at a
        rw [decide_eq_true (show hAt h c < hAt h (c - 1) by omega), Bool.or_true]
    · intro o
      refine ⟨fun j hj => ?_, fun y hy => ?_⟩
      · rw [chg_len] at hj
        rw [chg_get (show j + 1 ≤ h.length by omega), chg_get (show j ≤ h.length by omega)]
        have := H.fall j
        by_cases z : j + 1 = c
        · subst z
          have := opn_lt o
          rw [if_pos rfl, if_neg (by omega)]
          omega
        · rw [if_neg z]
          split <;> omega
      · obtain ⟨x, _, rfl⟩ := hm y hy
        split <;> omega
  · unfold tr
    rw [if_neg (by decide)]
    constructor
    · rintro ⟨f1, f2⟩
      by_cases z : c = h.length
      · have := f2 _ (hm2 c hc)
        rw [if_pos rfl, z, hAt_ge (Nat.le_refl _)] at this
        exact absurd this (by decide)
      · have a := f1 c (by rw [chg_len]; omega)
        rw [chg_get (by omega), chg_get hc, if_pos rfl, if_neg (by omega)] at a
        exact decide_eq_true (by omega)
    · intro o
      have o' := of_decide_eq_true o
      refine ⟨fun j hj => ?_, fun y hy => ?_⟩
      · rw [chg_len] at hj
        rw [chg_get (show j + 1 ≤ h.length by omega), chg_get (show j ≤ h.length by omega)]
        have := H.fall j
        by_cases z : j = c
        · subst z
          rw [if_pos rfl, if_neg (by omega)]
          omega
        · rw [if_neg z]
          split <;> omega
      · obtain ⟨x, _, rfl⟩ := hm y hy
        split
        · next z =>
          subst z
          omega
        · omega
def tv (h : List Nat) (st : Int) (c : Nat) : Int := if st = 1 then dg h c else dg h c + 1
def trs (h : List Nat) (st : Int) (i : Nat) : List Int := ((List.range i).filter (tr h st)).map (tv h st)
theorem tv_lt {h : List Nat} (H : IsHeap h) {st : Int} {c d : Nat} (hcd : c < d) : tv h st c < tv h st d := by
  have := dg_lt H hcd
  unfold tv
  split <;> omega
theorem range_lt (n : Nat) : (List.range n).Pairwise (· < ·) := List.pairwise_lt_range
theorem trs_sorted {h : List Nat} (H : IsHeap h) (st : Int) (i : Nat) : (trs h st i).Pairwise (· ≤ ·) := by
  unfold trs
  refine List.pairwise_map.mpr ?_
  refine ((range_lt i).filter _).imp fun {a b} hab => ?_
  have := tv_lt H (st := st) hab
  omega
theorem sorted_eq : ∀ {a b : List Int}, a.Perm b → a.Pairwise (· ≤ ·) → b.Pairwise (· ≤ ·) → a = b
  | [], b, p, _, _ => (List.nil_perm.mp p).symm
  | x :: a, [], p, _, _ => absurd p.length_eq (by simp)
  | x :: a, y :: b, p, ha, hb => by
    have e : x = y := by
      have h1 : y ∈ x :: a := p.mem_iff.mpr List.mem_cons_self
      have h2 : x ∈ y :: b := p.mem_iff.mp List.mem_cons_self
      rcases List.mem_cons.mp h1 with z | z
      · exact z.symm
      · rcases List.mem_cons.mp h2 with u | u
        · exact u
        · have q1 := (List.pairwise_cons.mp ha).1 y z
          have q2 := (List.pairwise_cons.mp hb).1 x u
          omega
    subst e
    rw [sorted_eq ((List.perm_cons x).mp p) (List.pairwise_cons.mp ha).2 (List.pairwise_cons.mp hb).2]
theorem trs_add (h : List Nat) : trs h 1 (h.length + 1) = (oc h).map (dg h) := by
  have e : tr h 1 = opn h := funext fun c => if_pos rfl
  have e2 : tv h 1 = dg h := funext fun c => if_pos rfl
  unfold trs oc
  rw [e, e2]
theorem trs_sub (h : List Nat) : trs h (-1) (h.length + 1) = ((List.range h.length).filter fun c => decide (hAt h (c + 1) < hAt h c)).map fun c => dg h c + 1 := by
  have e : tr h (-1) = fun c => decide (hAt h (c + 1) < hAt h c) := funext fun c => if_neg (by decide)
  have e2 : tv h (-1) = fun c => dg h c + 1 := funext fun c => if_neg (by decide)
  unfold trs
  rw [e, e2, List.range_succ, List.filter_append, List.filter_cons, if_neg (by rw [hAt_ge (Nat.le_refl h.length)]; simp)]
  simp
theorem oc_two {h : List Nat} (H : IsHeap h) : ((oc h).map (dg h)).Pairwise (fun a b => a + 2 ≤ b) := by
  refine List.pairwise_map.mpr ?_
  unfold oc
  have : ((List.range (h.length + 1)).filter (opn h)).Pairwise (fun a b => a < b) := (range_lt _).filter _
  refine (List.Pairwise.and_mem.mp this).imp fun {a b} hab => ?_
  exact dg_two H hab.2.2 (List.mem_filter.mp hab.2.1).2
theorem two_next {l : List Int} (h : l.Pairwise (fun a b => a + 2 ≤ b)) {i : Nat} {x y : Int} (hx : l[i]? = some x) (hy : l[i + 1]? = some y) : x + 2 ≤ y := by
  obtain ⟨h1, rfl⟩ := List.getElem?_eq_some_iff.mp hx
  obtain ⟨h2, rfl⟩ := List.getElem?_eq_some_iff.mp hy
  exact List.pairwise_iff_getElem.mp h i (i + 1) h1 h2 (by omega)
/-! ### squares added in any order -/
def adm (h : List Nat) (ms : List Int) (i : Nat) (c : Nat) : Bool := opn h c && decide (dg h c ∈ ms.take i)
theorem adm_opn {h : List Nat} {ms : List Int} {i : Nat} (c : Nat) (z : adm h ms i c = true) : opn h c = true := by
  unfold adm at z
  exact (Bool.and_eq_true_iff.mp z).1
theorem adm_zero (h : List Nat) (ms : List Int) : grow h (adm h ms 0) = h := by
  have e : adm h ms 0 = fun _ => false := funext fun c => by
    unfold adm
    rw [List.take_zero, decide_eq_false (by simp), Bool.and_false]
  rw [e]
  unfold grow
  rw [if_neg (show ¬ false = true by decide), List.append_nil]
  exact range_hAt h
theorem grow_opn {h : List Nat} {g : Nat → Bool} (hg : ∀ c, g c = true → opn h c = true) {c : Nat} (o : opn h c = true) (q : g c = false) : opn (grow h g) c = true := by
  unfold opn
  by_cases z : c = 0
  · rw [decide_eq_true z, Bool.true_or]
  · obtain ⟨e, rfl⟩ : ∃ e, c = e + 1 := ⟨c - 1, by omega⟩
    have a := opn_lt o
    have b : hAt (grow h g) (e + 1) < hAt (grow h g) (e + 1 - 1) := by
      rw [hAt_grow hg, hAt_grow hg, q, show e + 1 - 1 = e by omega]
      have : b2n false = 0 := rfl
      omega
    rw [decide_eq_true b, Bool.or_true]
theorem grow_dg {h : List Nat} {g : Nat → Bool} (hg : ∀ c, g c = true → opn h c = true) {c : Nat} (q : g c = false) : dg (grow h g) c = dg h c := by
  unfold dg
  rw [hAt_grow hg, q]
  rfl
theorem adm_no {h : List Nat} (_ : IsHeap h) {ms : List Int} (nd : ms.Nodup) {i c : Nat} (hi : ms[i]? = some (dg h c)) : adm h ms i c = false := by
  unfold adm
  have : ¬ dg h c ∈ ms.take i := fun z => by
    obtain ⟨j, hj, e⟩ := List.getElem_of_mem z
    rw [List.length_take] at hj
    obtain ⟨hi', e'⟩ := List.getElem?_eq_some_iff.mp hi
    rw [List.getElem_take] at e
    have := (List.nodup_iff_pairwise_ne.mp nd)
    have := List.pairwise_iff_getElem.mp this j i (by omega) hi' (by omega)
    exact this (e.trans e'.symm)
  rw [decide_eq_false this, Bool.and_false]
theorem adm_next {h : List Nat} (H : IsHeap h) {ms : List Int} (nd : ms.Nodup) {i c : Nat} (o : opn h c = true) (hi : ms[i]? = some (dg h c)) {g1 : Nat → Bool} (hg1 : ∀ x, g1 x = (c == x)) :
    grow (grow h (adm h ms i)) g1 = grow h (adm h ms (i + 1)) := by
  have no := adm_no H nd hi
  have h1 : IsHeap (grow h (adm h ms i)) := grow_heap H adm_opn
  have o1 : ∀ x, g1 x = true → opn (grow h (adm h ms i)) x = true := fun x z => by
    rw [hg1] at z
    have e : c = x := by simpa using z
    subst e
    exact grow_opn adm_opn o no
  refine heap_ext (grow_heap h1 o1) (grow_heap H adm_opn) fun x => ?_
  rw [hAt_grow o1, hAt_grow adm_opn, hAt_grow adm_opn, hg1]
  by_cases e : c = x
  · subst e
    have yes : adm h ms (i + 1) c = true := by
      unfold adm
      rw [o, List.take_add_one, hi, decide_eq_true (by simp)]
      rfl
    rw [no, yes, beq_self_eq_true]
    rfl
  · have e2 : (c == x) = false := by simpa using e
    have e3 : adm h ms (i + 1) x = adm h ms i x := by
      unfold adm
      have : (dg h x ∈ ms.take (i + 1)) ↔ dg h x ∈ ms.take i := by
        rw [List.take_add_one, hi, List.mem_append]
        constructor
        · rintro (z | z)
          · exact z
          · have : dg h x = dg h c := by simpa using z
            exact absurd (dg_inj H this).symm e
        · exact Or.inl
      rw [decide_eq_decide.mpr this]
    rw [e2, e3]
    rfl
end HM

/-! own rule: sum of a tuple of ints -/
namespace ST
open PySem PySem.Spec PyProof.Rows L2
section
variable {prog : Program} {w : World} {A : Around} {E : Value → Shared → Prop} {s : Shared} {l : Addr}
theorem sum_tup {xs : Array (Int × Tok)} {Q : Value → Shared → Prop} (hh : A.handled = none) (hl : s.heap.IsTuple l (intItems xs))
    (h : ∀ h' tk t', (∀ b o, s.heap.get? b = some o → h'.get? b = some o) → Q (.int (preSum (numAt xs) xs.size) t') { s with heap := h', toks := tk }) :
    wpAny (model prog w) A (call (.builtin "sum") [.ref l]) Q E s := by
  have hlt : l < s.heap.objs.size := by
    obtain ⟨_, e, _⟩ := hl
    exact Heap.lt_size e
  refine call_sum_walkG (wpAny_pyIter_tuple hl ?_)
  refine ⟨_, _, _, _, _, _, numAt xs, rfl, Walks.tuple (A := A.in1) hh s.heap.objs.size l (Nat.ne_of_lt hlt) (intItems xs), ⟨⟨_, Heap.get?_push_size _ rfl, rfl, rfl⟩, hl.push _⟩, fun b hb => ?_, (fun _ _ => intItems_at), fun h' tk t' hk => ?_⟩
  · show b < (s.heap.push _).objs.size
    rw [Heap.size_push]
    rcases List.mem_cons.mp hb with rfl | hb
    · exact Nat.lt_succ_self _
    · rcases List.mem_cons.mp hb with rfl | hb
      · exact Nat.lt_succ_of_lt hlt
      · cases hb
  · have := h h' tk t' fun b o e => by
      refine hk b o (fun hm => ?_) (Heap.get?_push_of_some _ e)
      rcases List.mem_cons.mp hm with e1 | hm
      · exact absurd (e1 ▸ Heap.lt_size e) (Nat.lt_irrefl _)
      · cases hm
    simpa [intItems] using this
theorem sum_tupR {its : List Value} {ns : List Int} {Q : Value → Shared → Prop} (hh : A.handled = none) (hl : s.heap.IsTuple l its.toArray) (hi : IntsAre its ns)
    (h : ∀ h' tk t', (∀ b o, s.heap.get? b = some o → h'.get? b = some o) → Q (.int ns.sum t') { s with heap := h', toks := tk }) : wpAny (model prog w) A (call (.builtin "sum") [.ref l]) Q E s := by
  obtain ⟨xs, e⟩ := hi.allInts.items
  have hn : numsOf (intItems xs).toList = ns := by rw [← e]; exact hi.numsOf
  rw [nums_intItems] at hn
  rw [e] at hl
  refine sum_tup hh hl fun h' tk t' hk => ?_
  have := h h' tk t' hk
  rw [preSum_eq, List.take_of_length_le (by simp), hn]
  exact this
end
section
variable {X : Cx}
def rSumT (K : PySem.W.Frag) : List V → Hp → VK → Prop := fun vs H Q => ∃ (a : Addr) (ns : List Int), vs = [V.ref a] ∧ SqT K H a (ns.map V.int) ∧ Q (.int ns.sum) H
theorem cr_sumT (hc : X.calm = true) : CallR X (.builtin "sum") (rSumT X.K) := by
  intro pins s σ H vs us Q I r h
  obtain ⟨a, ns, rfl, hs, q⟩ := h
  obtain ⟨its, rv, hl, _⟩ := I.tuple hs
  rw [Vals.ref1 r]
  exact sum_tupR (I.ok.hd hc) hl rv.ints fun h' tk t' hk => ⟨.int _, H, I.kept hk, ⟨_, rfl⟩, q⟩
end
end ST

/-! own rule: sum of a range object from 0 on -/
namespace SR
open PySem PySem.Spec PyProof.Rows L2
theorem size0 {n : Nat} (h : n ≤ 1000) : Builtin.Range.rangeSize 0 n 1 = n := by
  unfold Builtin.Range.rangeSize
  split <;> omega
theorem pre_list : ∀ n : Nat, preSum (fun i => (i : Int)) n = ((List.range n).map fun (i : Nat) => (i : Int)).sum
  | 0 => rfl
  | n + 1 => by
    rw [List.range_succ, List.map_append, List.sum_append, ← pre_list n]
    show preSum (fun i => (i : Int)) n + (n : Int) = preSum (fun i => (i : Int)) n + ((n : Int) + 0)
    omega
section
variable {prog : Program} {w : World} {A : Around} {E : Value → Shared → Prop} {s : Shared} {a : Addr}
theorem sum_rng {n : Nat} {t u v : Tok} {Q : Value → Shared → Prop} (hh : A.handled = none) (hn : n ≤ 1000) (hl : IsRange s.heap a 0 n 1 t u v)
    (h : ∀ h' tk t', (∀ b o, s.heap.get? b = some o → h'.get? b = some o) → Q (.int (preSum (fun i => (i : Int)) n) t') { s with heap := h', toks := tk }) :
    wpAny (model prog w) A (call (.builtin "sum") [.ref a]) Q E s := by
  refine call_sum_walkG (wpAny_pyIter_range hl ?_ ?_)
  · unfold Builtin.Range.small
    rw [size0 hn]
    unfold Builtin.Range.rangeFitsLong
    simp only [Bool.and_eq_true, decide_eq_true_eq, Bool.or_eq_true, beq_iff_eq, gt_iff_lt]
    refine ⟨⟨⟨⟨?_, ?_⟩, ?_⟩, ?_⟩, ?_⟩
    all_goals first | omega | (right; rw [if_pos (by decide)]; simp only [Bool.and_eq_true, decide_eq_true_eq]; omega) | decide
  · refine ⟨_, _, _, _, _, _, fun i => (i : Int), rfl, Walks.range (A := A.in1) hh s.heap.objs.size 0 1 n, ?_, fun b hb => ?_, fun i v hv => ?_, fun h' tk t' hk => ?_⟩
    · show Heap.get? _ _ = _
      rw [size0 hn]
      rw [Heap.get?_push_size _ rfl]
      congr 5
    · show b < (s.heap.push _).objs.size
      rw [Heap.size_push, List.mem_singleton.mp hb]
      exact Nat.lt_succ_self _
    · obtain ⟨t, rfl⟩ := hv
      exact ⟨t, by rw [Int.mul_one, Int.zero_add]⟩
    · refine h h' tk t' fun b o e => ?_
      refine hk b o (fun hm => ?_) (Heap.get?_push_of_some _ e)
      exact absurd (List.mem_singleton.mp hm ▸ Heap.lt_size e) (Nat.lt_irrefl _)
end
section
variable {X : Cx}
def rSumR : List V → Hp → VK → Prop := fun vs H Q => ∃ (a : Addr) (n : Nat), vs = [V.ref a] ∧ H a = some (.rng 0 (n : Int)) ∧ n ≤ 1000 ∧ Q (.int ((List.range n).map fun (i : Nat) => (i : Int)).sum) H
theorem cr_sumR (hc : X.calm = true) : CallR X (.builtin "sum") rSumR := by
  intro pins s σ H vs us Q I r h
  obtain ⟨a, n, rfl, ha, hn, q⟩ := h
  obtain ⟨t, u, v, e⟩ := (show ObjOk X.prog X.w H s.heap a (.rng 0 (n : Int)) from I.hok a _ ha)
  rw [Vals.ref1 r]
  refine sum_rng (I.ok.hd hc) hn e fun h' tk t' hk => ⟨.int _, H, I.kept hk, ⟨_, rfl⟩, ?_⟩
  rw [pre_list]
  exact q
end
end SR

/-! own rules: a comprehension of two clauses, by two walks -/
namespace L2
open PySem PySem.Spec PyProof.Rows
section
variable {J : It} {n : Nat} {G : Hp → Prop} {Y : Nat → Hp → V → Hp → Prop}
/-- the outer clause: Pv by the turn and the heap (the new list at D within) -/
theorem lc2_out (w : Walk J n G Y) {g g1 : TG} {tt tt1 : TT} {wi1 : TI} {te : TE} {vs vs1 : List Nat} {σ : St} {H1 : Hp} {D : Addr} {Qd : Hp → Prop} (Pv : Nat → Hp → Prop) (h0 : Pv 0 (upd H1 D (.lst []))) (hG : ∀ i H, i ≤ n → Pv i H → G H)
    (hs : ∀ i x H H', i < n → Pv i H → Y i H x H' → g x (wipe σ vs) H' fun σ2 H2 => wipe σ2 vs = wipe σ vs ∧ tt σ2 H2 fun b H3 =>
      if b = true then wi1 σ2 H3 fun J1 H4 => ∃ W1 : Nat → Nat → Hp → Prop, (∃ m, W1 0 m H4) ∧ ∀ j k H, W1 j k H →
      (J1.stop j H ∧ Pv (i + 1) H) ∨ (J1.go j H ∧ ∃ Nx1 : Hp → Prop, (∀ H', Nx1 H' → ∃ k', k' < k ∧ W1 (j + 1) k' H') ∧ ∀ x H', J1.yld j H x H' → g1 x (wipe σ2 vs1) H' fun σ3 H5 => wipe σ3 vs1 = wipe σ2 vs1 ∧ tt1 σ3 H5 fun b H6 =>
        if b = true then te σ3 H6 fun y H7 => ∃ acc, H7 D = some (.lst acc) ∧ acc.length < sizeLine ∧ Nx1 (upd H7 D (.lst (acc ++ [y]))) else Nx1 H6)
      else Pv (i + 1) H3) (hd : ∀ H, Pv n H → Qd H) :
    ∃ W : Nat → Nat → Hp → Prop, (∃ m, W 0 m (upd H1 D (.lst []))) ∧ ∀ i m H, W i m H →
      (J.stop i H ∧ Qd H) ∨ (J.go i H ∧ ∃ Nx : Hp → Prop, (∀ H', Nx H' → ∃ m', m' < m ∧ W (i + 1) m' H') ∧ ∀ x H', J.yld i H x H' → g x (wipe σ vs) H' fun σ2 H2 => wipe σ2 vs = wipe σ vs ∧ tt σ2 H2 fun b H3 =>
        if b = true then wi1 σ2 H3 fun J1 H4 => ∃ W1 : Nat → Nat → Hp → Prop, (∃ m, W1 0 m H4) ∧ ∀ j k H, W1 j k H →
      (J1.stop j H ∧ Nx H) ∨ (J1.go j H ∧ ∃ Nx1 : Hp → Prop, (∀ H', Nx1 H' → ∃ k', k' < k ∧ W1 (j + 1) k' H') ∧ ∀ x H', J1.yld j H x H' → g1 x (wipe σ2 vs1) H' fun σ3 H5 => wipe σ3 vs1 = wipe σ2 vs1 ∧ tt1 σ3 H5 fun b H6 =>
        if b = true then te σ3 H6 fun y H7 => ∃ acc, H7 D = some (.lst acc) ∧ acc.length < sizeLine ∧ Nx1 (upd H7 D (.lst (acc ++ [y]))) else Nx1 H6)
        else Nx H3) := by
  refine ⟨fun i m H => m = n - i ∧ i ≤ n ∧ Pv i H, ⟨n, by simp, Nat.zero_le _, h0⟩, ?_⟩
  rintro i m H ⟨rfl, hi, p⟩
  have q := hG i H hi p
  by_cases hlt : i < n
  · refine .inr ⟨w.goes i H hlt q, Pv (i + 1), fun H' p' => ⟨n - (i + 1), by omega, rfl, hlt, p'⟩, fun x H' y => hs i x H H' hlt p (w.yields i H x H' hlt q y)⟩
  · have e : i = n := by omega
    subst e
    exact .inl ⟨w.stops H q, hd H p⟩
/-- the inner clause -/
theorem lc2_in {J1 : It} {n1 : Nat} {G1 : Hp → Prop} {Y1 : Nat → Hp → V → Hp → Prop} (w : Walk J1 n1 G1 Y1) {g1 : TG} {tt1 : TT} {te : TE} {vs1 : List Nat} {σ2 : St} {H4 : Hp} {D : Addr} {Nx : Hp → Prop} (Pv : Nat → Hp → Prop) (h0 : Pv 0 H4) (hG : ∀ i H, i ≤ n1 → Pv i H → G1 H)
    (hs : ∀ j x H H', j < n1 → Pv j H → Y1 j H x H' → g1 x (wipe σ2 vs1) H' fun σ3 H5 => wipe σ3 vs1 = wipe σ2 vs1 ∧ tt1 σ3 H5 fun b H6 =>
        if b = true then te σ3 H6 fun y H7 => ∃ acc, H7 D = some (.lst acc) ∧ acc.length < sizeLine ∧ Pv (j + 1) (upd H7 D (.lst (acc ++ [y]))) else Pv (j + 1) H6) (hd : ∀ H, Pv n1 H → Nx H) :
    ∃ W1 : Nat → Nat → Hp → Prop, (∃ m, W1 0 m H4) ∧ ∀ j k H, W1 j k H →
      (J1.stop j H ∧ Nx H) ∨ (J1.go j H ∧ ∃ Nx1 : Hp → Prop, (∀ H', Nx1 H' → ∃ k', k' < k ∧ W1 (j + 1) k' H') ∧ ∀ x H', J1.yld j H x H' → g1 x (wipe σ2 vs1) H' fun σ3 H5 => wipe σ3 vs1 = wipe σ2 vs1 ∧ tt1 σ3 H5 fun b H6 =>
        if b = true then te σ3 H6 fun y H7 => ∃ acc, H7 D = some (.lst acc) ∧ acc.length < sizeLine ∧ Nx1 (upd H7 D (.lst (acc ++ [y]))) else Nx1 H6) := by
  refine ⟨fun i m H => m = n1 - i ∧ i ≤ n1 ∧ Pv i H, ⟨n1, by simp, Nat.zero_le _, h0⟩, ?_⟩
  rintro i m H ⟨rfl, hi, p⟩
  have q := hG i H hi p
  by_cases hlt : i < n1
  · refine .inr ⟨w.goes i H hlt q, Pv (i + 1), fun H' p' => ⟨n1 - (i + 1), by omega, rfl, hlt, p'⟩, fun x H' y => hs i x H H' hlt p (w.yields i H x H' hlt q y)⟩
  · have e : i = n1 := by omega
    subst e
    exact .inl ⟨w.stops H q, hd H p⟩
/-- both clauses without tests -/
theorem lc2_outY (w : Walk J n G Y) {g g1 : TG} {tt1 : TT} {wi1 : TI} {te : TE} {vs vs1 : List Nat} {σ : St} {H1 : Hp} {D : Addr} {Qd : Hp → Prop} (Pv : Nat → Hp → Prop) (h0 : Pv 0 (upd H1 D (.lst []))) (hG : ∀ i H, i ≤ n → Pv i H → G H)
    (hs : ∀ i x H H', i < n → Pv i H → Y i H x H' → g x (wipe σ vs) H' fun σ2 H2 => wipe σ2 vs = wipe σ vs ∧ wi1 σ2 H2 fun J1 H4 => ∃ W1 : Nat → Nat → Hp → Prop, (∃ m, W1 0 m H4) ∧ ∀ j k H, W1 j k H →
      (J1.stop j H ∧ Pv (i + 1) H) ∨ (J1.go j H ∧ ∃ Nx1 : Hp → Prop, (∀ H', Nx1 H' → ∃ k', k' < k ∧ W1 (j + 1) k' H') ∧ ∀ x H', J1.yld j H x H' → g1 x (wipe σ2 vs1) H' fun σ3 H5 => wipe σ3 vs1 = wipe σ2 vs1 ∧ tt1 σ3 H5 fun b H6 =>
        if b = true then te σ3 H6 fun y H7 => ∃ acc, H7 D = some (.lst acc) ∧ acc.length < sizeLine ∧ Nx1 (upd H7 D (.lst (acc ++ [y]))) else Nx1 H6)) (hd : ∀ H, Pv n H → Qd H) :
    ∃ W : Nat → Nat → Hp → Prop, (∃ m, W 0 m (upd H1 D (.lst []))) ∧ ∀ i m H, W i m H →
      (J.stop i H ∧ Qd H) ∨ (J.go i H ∧ ∃ Nx : Hp → Prop, (∀ H', Nx H' → ∃ m', m' < m ∧ W (i + 1) m' H') ∧ ∀ x H', J.yld i H x H' → g x (wipe σ vs) H' fun σ2 H2 => wipe σ2 vs = wipe σ vs ∧ tYes σ2 H2 fun b H3 =>
        if b = true then wi1 σ2 H3 fun J1 H4 => ∃ W1 : Nat → Nat → Hp → Prop, (∃ m, W1 0 m H4) ∧ ∀ j k H, W1 j k H →
      (J1.stop j H ∧ Nx H) ∨ (J1.go j H ∧ ∃ Nx1 : Hp → Prop, (∀ H', Nx1 H' → ∃ k', k' < k ∧ W1 (j + 1) k' H') ∧ ∀ x H', J1.yld j H x H' → g1 x (wipe σ2 vs1) H' fun σ3 H5 => wipe σ3 vs1 = wipe σ2 vs1 ∧ tt1 σ3 H5 fun b H6 =>
        if b = true then te σ3 H6 fun y H7 => ∃ acc, H7 D = some (.lst acc) ∧ acc.length < sizeLine ∧ Nx1 (upd H7 D (.lst (acc ++ [y]))) else Nx1 H6)
        else Nx H3) := lc2_out (tt := tYes) w Pv h0 hG hs hd
theorem lc2_inY {J1 : It} {n1 : Nat} {G1 : Hp → Prop} {Y1 : Nat → Hp → V → Hp → Prop} (w : Walk J1 n1 G1 Y1) {g1 : TG} {te : TE} {vs1 : List Nat} {σ2 : St} {H4 : Hp} {D : Addr} {Nx : Hp → Prop} (Pv : Nat → Hp → Prop) (h0 : Pv 0 H4) (hG : ∀ i H, i ≤ n1 → Pv i H → G1 H)
    (hs : ∀ j x H H', j < n1 → Pv j H → Y1 j H x H' → g1 x (wipe σ2 vs1) H' fun σ3 H5 => wipe σ3 vs1 = wipe σ2 vs1 ∧ te σ3 H5 fun y H7 => ∃ acc, H7 D = some (.lst acc) ∧ acc.length < sizeLine ∧ Pv (j + 1) (upd H7 D (.lst (acc ++ [y])))) (hd : ∀ H, Pv n1 H → Nx H) :
    ∃ W1 : Nat → Nat → Hp → Prop, (∃ m, W1 0 m H4) ∧ ∀ j k H, W1 j k H →
      (J1.stop j H ∧ Nx H) ∨ (J1.go j H ∧ ∃ Nx1 : Hp → Prop, (∀ H', Nx1 H' → ∃ k', k' < k ∧ W1 (j + 1) k' H') ∧ ∀ x H', J1.yld j H x H' → g1 x (wipe σ2 vs1) H' fun σ3 H5 => wipe σ3 vs1 = wipe σ2 vs1 ∧ tYes σ3 H5 fun b H6 =>
        if b = true then te σ3 H6 fun y H7 => ∃ acc, H7 D = some (.lst acc) ∧ acc.length < sizeLine ∧ Nx1 (upd H7 D (.lst (acc ++ [y]))) else Nx1 H6) := lc2_in (tt1 := tYes) w Pv h0 hG hs hd
/-- one clause without a test -/
theorem lc_itY (w : Walk J n G Y) {g : TG} {te : TE} {vs : List Nat} {σ : St} {H1 : Hp} {D : Addr} {Qd : Hp → Prop} (Pv : Nat → Hp → Prop) (h0 : Pv 0 (upd H1 D (.lst []))) (hG : ∀ i H, i ≤ n → Pv i H → G H)
    (hs : ∀ i x H H', i < n → Pv i H → Y i H x H' → g x (wipe σ vs) H' fun σ2 H2 => wipe σ2 vs = wipe σ vs ∧ te σ2 H2 fun y H4 => ∃ acc, H4 D = some (.lst acc) ∧ acc.length < sizeLine ∧ Pv (i + 1) (upd H4 D (.lst (acc ++ [y])))) (hd : ∀ H, Pv n H → Qd H) :
    ∃ W : Nat → Nat → Hp → Prop, (∃ m, W 0 m (upd H1 D (.lst []))) ∧ ∀ i m H, W i m H →
      (J.stop i H ∧ Qd H) ∨ (J.go i H ∧ ∃ Nx : Hp → Prop, (∀ H', Nx H' → ∃ m', m' < m ∧ W (i + 1) m' H') ∧ ∀ x H', J.yld i H x H' → g x (wipe σ vs) H' fun σ2 H2 => wipe σ2 vs = wipe σ vs ∧ tYes σ2 H2 fun b H3 =>
        if b = true then te σ2 H3 fun y H4 => ∃ acc, H4 D = some (.lst acc) ∧ acc.length < sizeLine ∧ Nx (upd H4 D (.lst (acc ++ [y]))) else Nx H3) := lc_it (tt := tYes) w Pv h0 hG hs hd
end
end L2

/-! own rules: slices of a tuple and sums of tuples, whole or empty ones too, by what stands afterwards -/
namespace TE
open PySem PySem.Spec PyProof.Rows L2 Evl
section
variable {X : Cx}
def rSlE : V → Option Int → Option Int → Hp → VK → Prop := fun x lo hi H Q => ∃ a xs, x = .ref a ∧ H a = some (.tup xs) ∧ ∀ p H', Ex H H' → H' p = some (.tup (cutV xs lo hi)) → Q (.ref p) H'
theorem sl_tupE : SlR X rSlE := by
  intro pins s σ H x v vl vu lo hi sl Q I rx hs pl pu h
  obtain ⟨a, xs, rfl, hx, q⟩ := h
  refine sl_tupA pins s σ H _ v vl vu lo hi sl Q I rx hs pl pu ⟨a, xs, rfl, SqT.of hx, fun w => q a H (Ex.refl _) ?_, fun _ p hp => q p _ (Ex.new hp) upd_same⟩
  obtain ⟨w1, w2⟩ := w
  have e : cutV xs lo hi = xs := by
    unfold cutV
    rw [w1, w2, List.drop_zero, Nat.sub_zero, List.take_length]
  rw [e]
  exact hx
def rCatE : R2 := fun x y H Q => ∃ a b xs ys, x = .ref a ∧ y = .ref b ∧ H a = some (.tup xs) ∧ H b = some (.tup ys) ∧ xs.length + ys.length ≤ sizeLine ∧ ∀ p H', Ex H H' → H' p = some (.tup (xs ++ ys)) → Q (.ref p) H'
theorem op_catE : OpR X (binaryOp .Add) rCatE := by
  intro pins s σ H x y v u Q I rx ry h
  obtain ⟨a, b, xs, ys, rfl, rfl, ha, hb, hz, q⟩ := h
  refine op_catA pins s σ H _ _ v u Q I rx ry ⟨a, b, xs, ys, rfl, rfl, SqT.of ha, SqT.of hb, hz, fun e => q b H (Ex.refl _) ?_, fun _ e => q a H (Ex.refl _) ?_, fun _ _ p hp => q p _ (Ex.new hp) upd_same⟩
  · rw [e, List.nil_append]
    exact hb
  · rw [e, List.append_nil]
    exact ha
end
end TE

set_option exponentiation.threshold 400
namespace K1
open PySem PySem.Spec PyProof.Rows L2 Evl HM LX MP
def rowF (m : Nat) (f : Int → Int) : List Int := (List.range m).map fun (i : Nat) => f (i : Int)
theorem rowF_len (m : Nat) (f : Int → Int) : (rowF m f).length = m := by simp [rowF]
theorem rowF_get {m : Nat} {f : Int → Int} {i : Nat} (h : i < m) : ((rowF m f).map V.int)[i]? = some (.int (f (i : Int))) := by
  unfold rowF
  rw [List.map_map, List.getElem?_map, List.getElem?_range h]
  rfl
theorem rowF_sum (m : Nat) (f : Int → Int) : (rowF m f).sum = sumL (List.range m) fun (i : Nat) => f (i : Int) := rfl
def fac (F : Nat → Nat → Int) (i j : Nat) : List Int := ((List.range i).map fun l => (List.range l).map (F l)).flatten ++ (List.range j).map (F i)
theorem fac0 (F : Nat → Nat → Int) (i : Nat) : fac F i 0 = ((List.range i).map fun l => (List.range l).map (F l)).flatten := List.append_nil _
theorem facS (F : Nat → Nat → Int) (i : Nat) : fac F i i = fac F (i + 1) 0 := by
  rw [fac0, List.range_succ, List.map_append, List.flatten_append]
  show _ = _ ++ ((List.range i).map (F i) ++ [])
  rw [List.append_nil]
  rfl
theorem facN (F : Nat → Nat → Int) (i j : Nat) : fac F i (j + 1) = fac F i j ++ [F i j] := by
  unfold fac
  rw [List.range_succ, List.map_append, ← List.append_assoc]
  rfl
theorem facL (F : Nat → Nat → Int) : ∀ i, i ≤ 60 → (fac F i 0).length ≤ 60 * i
  | 0, _ => Nat.le_refl _
  | i + 1, hi => by
    have h1 := facL F i (by omega)
    rw [← facS]
    rw [fac0] at h1
    unfold fac
    rw [List.length_append, List.length_map, List.length_range]
    omega
theorem facLj (F : Nat → Nat → Int) (i j : Nat) (hi : i ≤ 60) (hj : j ≤ 60) : (fac F i j).length ≤ 60 * i + j := by
  have h1 := facL F i hi
  rw [fac0] at h1
  unfold fac
  rw [List.length_append, List.length_map, List.length_range]
  omega
theorem fac_sumL (F : Nat → Nat → Int) : ∀ n : Nat, (fac F n 0).sum = sumL (List.range n) fun i => sumL (List.range i) (F i)
  | 0 => rfl
  | n + 1 => by
    have ih := fac_sumL F n
    rw [fac0] at ih
    rw [← facS]
    unfold fac
    rw [List.sum_append, ih, List.range_succ, sumL_app, sumL_cons, sumL_nil, Int.add_zero]
    rfl
theorem ab_if (x : Int) : ab x = if x < 0 then -x else x := by
  unfold ab
  split <;> omega
section
variable {P : Program} {w : World} {K : PySem.W.Frag} {mg : Str → Option Value} {base : Heap}
def RowAt (H : Hp) (p : Addr) (m : Nat) (f : Int → Int) : Prop := H p = some (.tup ((rowF m f).map V.int)) ∧ 1 ≤ m ∧ m ≤ 60
end
end K1

set_option exponentiation.threshold 400
namespace K1
open PySem PySem.Spec PyProof.Rows L2 Evl HM LX MP ZW
theorem row_snoc (m : Nat) (f : Int → Int) : (List.range (m + 1)).map (fun (i : Nat) => f (i : Int)) = (List.range m).map (fun (i : Nat) => f (i : Int)) ++ [f (m : Int)] := by
  rw [List.range_succ, List.map_append]
  rfl
section
variable {P : Program} {w : World} {K : PySem.W.Frag} {mg : Str → Option Value} {base : Heap}
def spCountedIn : Sp := fun vs H Q _ => ∃ (p : Addr) (m : Nat) (f : Int → Int) (a b : Int), vs = [.ref p, .int a, .int b] ∧ RowAt H p m f ∧ ∀ H', Ex H H' → Q (.int (cntR m f a b)) H'
theorem ok_counted_in (T : Txt K mg) {f : Addr} {fd : FuncData} (D : DefAt K mg "counted_in" sCountedIn ["values", "a", "b"] f fd) : FnOk P w K mg base CX0 1 f fd ["values", "a", "b"] spCountedIn := by
  refine D.F.ok scCountedIn (fun vs H Q E h => ?_) (fun cdv A outer s₀ H vs Q E hr h => ?_)
  · obtain ⟨p, m, f, a, b, rfl, _⟩ := h
    rfl
  · obtain ⟨p, m, f, a, b, rfl, ⟨hp, m1, m60⟩, kQ⟩ := h
    refine ⟨_, pss_cons (ps_set (i := 3) scCountedIn.nd rfl (.inr rfl) (pe_callB call_len_seq (by rfl) T.z_len PySem.boot_len (pa_cons (pv 0) pa_nil)))
      (pss_cons (ps_setLc (i := 4) (own := [("rest", 5), ("value", 6)]) (g := gTup K 2 (gCons (gName 5) (gCons (gName 6) gNil))) (tt := tYes) (by rfl) scCountedIn.nd rfl rfl (sw_true rfl rfl rfl (by decide +kernel)) (EnT.pi_enumT (by rfl) T.z_enumerate (pa_cons (pv 0) pa_nil))
        (blkOk_by (N := nCountedIn) (sc := defScope sCountedIn) (by decide +kernel)) (fun _ _ _ _ _ => (pg_tup (by rfl) (pgs_cons (pg_name (i := 5) scCountedIn.nd rfl (.inl rfl)) (pgs_cons (pg_name (i := 6) scCountedIn.nd rfl (.inl rfl)) pgs_nil)))) (fun _ _ _ _ _ => pts_nil)
        (fun _ _ _ _ _ => (pe_op op_add (pe_op op_add (pe_op op_fdiv (pe_op op_sub (pv 1) (pv 5)) (pv 3)) (pe_op op_fdiv (pe_op op_add (pv 2) (pv 6)) (pv 3))) pe_int)))
      (pss_one (ps_ret (pe_callB (cr_sum rfl) (by rfl) T.z_sum (by decide +kernel) (pa_cons (pe_lc (own := [("often", 7)]) (g := gName 7) (tt := tYes) rfl scCountedIn.nd (pi_list (pv 4))
        (blkOk_by (N := nCountedIn) (sc := defScope sCountedIn) (by decide +kernel)) (fun _ _ _ _ _ => (pg_name (i := 7) scCountedIn.nd rfl (.inl rfl))) (fun _ _ _ _ _ => pts_nil)
        (fun _ _ _ _ _ => (pe_callB (call_max2 rfl) (by rfl) T.z_max (by decide +kernel) (pa_cons pe_int (pa_cons (pv 7) pa_nil))))) pa_nil))))), ?_⟩
    have ll : ((rowF m f).map V.int).length = m := by rw [List.length_map, rowF_len]
    refine ⟨_, rfl, p, _, rfl, .inr (SqT.of hp), ?_⟩
    rw [ll]
    obtain ⟨g, hg⟩ : ∃ g : Int → Int, g = fun x => (a - x) / (m : Int) + (b + f x) / (m : Int) + 1 := ⟨_, rfl⟩
    refine ⟨_, rfl, p, _, rfl, SqT.of hp, fun Dl hD => ?_⟩
    refine lc_enumT (K := K) (a := p) (xs := (rowF m f).map V.int) (fun i H' => H' Dl = some (.lst (((List.range i).map fun (x : Nat) => g (x : Int)).map V.int)) ∧ Ex H H') ⟨upd_same, Ex.new hD⟩ (fun i H' hp2 => SqT.of (hp2.2 _ _ hp)) (fun i x Tp H' hx hp2 nT => ?_) (fun H' hp2 => ?_)
    · obtain ⟨w1, w2⟩ := hp2
      have hi : i < m := by
        have := (List.getElem?_eq_some_iff.mp hx).1
        rw [ll] at this
        exact this
      rw [rowF_get hi] at hx
      obtain rfl := Option.some.inj hx
      have eT := Ex.new (o := .tup [.int (i : Nat), .int (f (i : Int))]) nT
      refine ⟨Tp, _, rfl, SqT.of upd_same, rfl, .int (i : Nat), [_], rfl, _, [], rfl, rfl, rfl, ?_⟩
      dsimp only [tYes]
      rw [if_pos rfl]
      refine ⟨_, rfl, _, rfl, _, _, rfl, rfl, _, rfl, _, _, rfl, rfl, ⟨by omega, by omega⟩, _, rfl, _, rfl, _, _, rfl, rfl, _, rfl, _, _, rfl, rfl, ⟨by omega, by omega⟩, _, _, rfl, rfl, _, _, rfl, rfl, _, eT _ _ w1, ?_, ?_, Ex.mut (w2.trans eT) hD⟩
      · rw [List.length_map, List.length_map, List.length_range]
        exact small1000 (by omega)
      · rw [upd_same, row_snoc, List.map_append, hg]
        rfl
    obtain ⟨w1, w2⟩ := hp2
    rw [ll] at w1
    refine ⟨_, rfl, Dl, rfl, ⟨_, SqL.of w1⟩, fun D2 hD2 => ?_⟩
    refine lc_list (K := K) (a := Dl) (xs := ((List.range m).map fun (x : Nat) => g (x : Int)).map V.int) (fun i H2 => H2 D2 = some (.lst (((List.range i).map fun (x : Nat) => max 0 (g (x : Int))).map V.int)) ∧ Ex H' H2) ⟨upd_same, Ex.new hD2⟩ (fun i H2 _ hp2 => SqL.of (hp2.2 _ _ w1)) (fun i x H2 hx hp2 => ?_) (fun H2 hp2 => ?_)
    · obtain ⟨v1, v2⟩ := hp2
      have hi : i < m := by
        have := (List.getElem?_eq_some_iff.mp hx).1
        rw [List.length_map, List.length_map, List.length_range] at this
        exact this
      have hx2 : (some (V.int (g (i : Int)))) = some x := by
        rw [← hx, List.map_map, List.getElem?_map, List.getElem?_range hi]
        rfl
      obtain rfl := Option.some.inj hx2
      refine ⟨rfl, ?_⟩
      dsimp only [tYes]
      rw [if_pos rfl]
      refine ⟨_, rfl, _, _, rfl, _, v1, ?_, ?_, Ex.mut v2 hD2⟩
      · rw [List.length_map, List.length_map, List.length_range]
        exact small1000 (by omega)
      · rw [upd_same, row_snoc (f := fun x => max 0 (g x)), List.map_append]
        have : (if g (i : Int) > 0 then g (i : Int) else 0) = max 0 (g (i : Int)) := by split <;> omega
        rw [this]
        rfl
    obtain ⟨v1, v2⟩ := hp2
    rw [List.length_map, List.length_map, List.length_range] at v1
    refine ⟨D2, _, rfl, SqL.of v1, ?_⟩
    rw [hg]
    exact kQ _ (w2.trans v2)
def spIsRound (K : PySem.W.Frag) : Sp := fun vs H Q _ => ∃ (p : Addr) (m : Nat) (f : Int → Int), vs = [.ref p] ∧ RowAt H p m f ∧ (∀ i : Nat, i < m → -(10 ^ 60) < f (i : Int) ∧ f (i : Int) < 10 ^ 60) ∧ ((List.range m).map fun (i : Nat) => f (i : Int) % (m : Int)).Perm ((List.range m).map fun (i : Nat) => (i : Int)) ∧ ∀ H', Ex H H' → Q (.bl true) H'
theorem ok_is_round (T : Txt K mg) {f : Addr} {fd : FuncData} (D : DefAt K mg "is_round" sIsRound ["value"] f fd) : FnOk P w K mg base CX0 2 f fd ["value"] (spIsRound K) := by
  refine D.F.ok scIsRound (fun vs H Q E h => ?_) (fun cdv A outer s₀ H vs Q E hr h => ?_)
  · obtain ⟨p, m, f, rfl, _⟩ := h
    rfl
  · obtain ⟨p, m, f, rfl, ⟨hp, m1, m60⟩, fb, pm, kQ⟩ := h
    obtain ⟨f1, fd1, D1⟩ := T.d_is_integer
    obtain ⟨tMAX_ROUND, vMAX_ROUND⟩ := T.v_MAX_ROUND
    have hr1 : Room 1 _ := hr.mono (by decide)
    refine ⟨_, pss_cons (ps_if (PW.pt (pw_or (pt_not (pt_val (pe_callB call_isi (by rfl) T.z_isinstance (by decide +kernel) (pa_cons (pv 0) (pa_cons (pe_bltn (v := .ty "tuple") (by rfl) T.z_tuple (by decide +kernel) rfl) pa_nil)))))
          (pw_or1 (pt_not (pt_chain op_le op_le pe_int (pe_callB call_len_seq (by rfl) T.z_len PySem.boot_len (pa_cons (pv 0) pa_nil)) (pe_glob (v := .int 60) rfl vMAX_ROUND ⟨_, rfl⟩)))))) (pss_one (ps_ret pe_bl)) pss_nil)
      (pss_cons (ps_if (pt_not (pt_val (pe_callB (cr_all rfl) (by rfl) T.z_all (by decide +kernel) (pa_cons (pe_lc (own := [("number", 2)]) (g := gName 2) (tt := tYes) rfl scIsRound.nd (pi_tup (pv 0))
        (blkOk_by (N := nIsRound) (sc := defScope sIsRound) (by decide +kernel)) (fun _ _ _ _ _ => (pg_name (i := 2) scIsRound.nd rfl (.inl rfl))) (fun _ _ _ _ _ => pts_nil)
        (fun _ _ _ _ _ => (pe_call (ok_is_integer T D1) hr1 (by rfl) D1.g D1.F.kp D1.b .nil pass0 (pa_cons (pv 2) pa_nil)))) pa_nil)))) (pss_one (ps_ret pe_bl)) pss_nil)
      (pss_cons (ps_set (i := 1) scIsRound.nd rfl (.inr rfl) (pe_callB call_len_seq (by rfl) T.z_len PySem.boot_len (pa_cons (pv 0) pa_nil)))
      (pss_one (ps_ret (pe_cmpR (op_eqD hr.units) (pe_callB (cr_sortedI) (by rfl) T.z_sorted (by decide +kernel) (pa_cons (pe_lc (own := [("number", 2)]) (g := gName 2) (tt := tYes) rfl scIsRound.nd (pi_tup (pv 0))
        (blkOk_by (N := nIsRound) (sc := defScope sIsRound) (by decide +kernel)) (fun _ _ _ _ _ => (pg_name (i := 2) scIsRound.nd rfl (.inl rfl))) (fun _ _ _ _ _ => pts_nil)
        (fun _ _ _ _ _ => (pe_op op_mod (pv 2) (pv 1)))) pa_nil)) (pe_listRg rfl (by rfl) T.z_list (prg_1 (by rfl) T.z_range (pv 1))) (nomark _)))))), ?_⟩
    have ll : ((rowF m f).map V.int).length = m := by rw [List.length_map, rowF_len]
    refine ⟨_, rfl, .ref p, .ty "tuple", .type "tuple", .type "tuple", true, rfl, .ty _, .base (.tup hp), kit_ty (by decide +kernel), true, rfl, iteF ?_⟩
    refine ⟨_, rfl, p, _, rfl, .inr (SqT.of hp), _, _, rfl, rfl, _, rfl, ?_⟩
    rw [ll, decide_eq_true (show (1 : Int) ≤ (m : Int) by omega)]
    refine iteT ⟨_, _, rfl, rfl, _, rfl, ?_⟩
    rw [decide_eq_true (show (m : Int) ≤ 60 by omega)]
    refine iteF ?_
    refine ⟨_, rfl, p, rfl, ⟨_, SqT.of hp⟩, fun Dl hD => ?_⟩
    refine lc_tup (K := K) (a := p) (xs := (rowF m f).map V.int) (fun i H' => H' Dl = some (.lst ((List.replicate i true).map V.bl)) ∧ Ex H H') ⟨upd_same, Ex.new hD⟩ (fun i H' _ hp2 => SqT.of (hp2.2 _ _ hp)) (fun i x H' hx hp2 => ?_) (fun H1 hp2 => ?_)
    · obtain ⟨w1, w2⟩ := hp2
      have hi : i < m := by
        have := (List.getElem?_eq_some_iff.mp hx).1
        rw [ll] at this
        exact this
      rw [rowF_get hi] at hx
      obtain rfl := Option.some.inj hx
      obtain ⟨b1, b2⟩ := fb i hi
      have ib : IntB K H' (.int (f (i : Int))) true := by
        have := IntB.int (K := K) (H := H') (f (i : Int))
        rw [decide_eq_true b1, decide_eq_true b2] at this
        exact this
      refine ⟨rfl, ?_⟩
      dsimp only [tYes]
      rw [if_pos rfl]
      refine ⟨_, rfl, _, true, rfl, ib, fun H3 e3 => ⟨_, e3 _ _ w1, ?_, ?_, Ex.mut (w2.trans e3) hD⟩⟩
      · rw [List.length_map, List.length_replicate]
        exact small1000 (by omega)
      · rw [upd_same, List.replicate_succ', List.map_append]
        rfl
    obtain ⟨w1, w2⟩ := hp2
    rw [ll] at w1
    refine ⟨Dl, _, rfl, SqL.of w1, true, ?_, iteF ?_⟩
    · rw [List.all_eq_true.mpr (fun x hx => by rw [(List.mem_replicate.mp hx).2]; rfl)]
    have hp1 := w2 _ _ hp
    refine ⟨_, rfl, p, _, rfl, .inr (SqT.of hp1), ?_⟩
    rw [ll]
    refine ⟨_, rfl, p, rfl, ⟨_, SqT.of hp1⟩, fun D2 hD2 => ?_⟩
    refine lc_tup (K := K) (a := p) (xs := (rowF m f).map V.int) (fun i H' => H' D2 = some (.lst (((List.range i).map fun (x : Nat) => f (x : Int) % (m : Int)).map V.int)) ∧ Ex H1 H') ⟨upd_same, Ex.new hD2⟩ (fun i H' _ hp2 => SqT.of (hp2.2 _ _ hp1)) (fun i x H' hx hp2 => ?_) (fun H2 hp2 => ?_)
    · obtain ⟨v1, v2⟩ := hp2
      have hi : i < m := by
        have := (List.getElem?_eq_some_iff.mp hx).1
        rw [ll] at this
        exact this
      rw [rowF_get hi] at hx
      obtain rfl := Option.some.inj hx
      refine ⟨rfl, ?_⟩
      dsimp only [tYes]
      rw [if_pos rfl]
      refine ⟨_, rfl, _, rfl, _, _, rfl, rfl, (show (0 : Int) < m by omega), _, v1, ?_, ?_, Ex.mut v2 hD2⟩
      · rw [List.length_map, List.length_map, List.length_range]
        exact small1000 (by omega)
      · rw [upd_same, row_snoc (f := fun x => f x % (m : Int)), List.map_append]
        rfl
    obtain ⟨v1, v2⟩ := hp2
    rw [ll] at v1
    refine ⟨D2, _, rfl, SqL.of v1, fun ns q pns asc hq => ?_⟩
    have xq := Ex.new (o := .lst (ns.map V.int)) hq
    have nse : ns = (List.range m).map fun (i : Nat) => (i : Int) := sorted_eq (pns.trans pm) asc (List.pairwise_map.mpr (List.Pairwise.imp (fun {a b} h => by omega) List.pairwise_lt_range))
    have gq : (upd H2 q (.lst (ns.map V.int))) q = some (.lst (((List.range m).map fun (i : Nat) => (i : Int)).map V.int)) := by rw [upd_same, nse]
    refine ⟨_, rfl, (m : Int), rfl, RgOk.of_le (by omega) (by omega) (by omega) (by omega), fun g hg => ?_⟩
    have xg := Ex.new (o := .lst (rgV 0 (m : Int))) hg
    have eg : rgV 0 (m : Int) = ((List.range m).map fun (i : Nat) => (i : Int)).map V.int := by
      unfold rgV
      rw [show ((m : Int) - 0).toNat = m by omega, List.map_map]
      refine List.map_congr_left fun i _ => ?_
      show V.int (0 + (i : Int)) = V.int (i : Int)
      rw [Int.zero_add]
    have gg : (upd (upd H2 q (.lst (ns.map V.int))) g (.lst (rgV 0 (m : Int)))) g = some (.lst (((List.range m).map fun (i : Nat) => (i : Int)).map V.int)) := by rw [upd_same, eg]
    refine ⟨_, _, .lst (SqL.of (xg _ _ gq)) (dp_ints _), .lst (SqL.of gg) (dp_ints _), shaped_intsL _, shaped_intsL _, ?_⟩
    rw [eqv_intsL]
    exact kQ _ (((w2.trans v2).trans xq).trans xg)
end
end K1

/-! own rule: name = {k: v for ..}, keys ints or texts -/
namespace DI
open PySem PySem.Spec PyProof.Rows L2
theorem ps_setDcK {X : Cx} {i : Nat} {y : Str} {py : Pos} {kx vx tg iter : Expr} {ifs : List Expr} {scope : Scope} {own : List (Str × Nat)} {pos spos : Pos} {wi : TI} {g : TG} {tt : TT} {tk tv : TE} (hc : X.calm = true) (hN : X.N.Nodup) (hy : X.N[i]? = some y) (hyl : X.env.scope.names.lookup y = some .local)
    (hsw : swapsWith (.DictComp kx vx [⟨tg, iter, ifs, 0⟩] scope pos) (some (.Name y py)) spos.line X.env = pure true) (hi : PI X tg iter wi) (ok : BlkOk X.N X.env.scope scope own)
    (hg : ∀ (s : Shared) (H : Hp) (C : Addr) (cl : List (Str × Addr)) (fp : List Addr), PG (X.blk s H scope (compEnvC scope cl C X.env) fp) tg g) (ht : ∀ (s : Shared) (H : Hp) (C : Addr) (cl : List (Str × Addr)) (fp : List Addr), PTs (X.blk s H scope (compEnvC scope cl C X.env) fp) ifs tt)
    (hk : ∀ (s : Shared) (H : Hp) (C : Addr) (cl : List (Str × Addr)) (fp : List Addr), PE (X.blk s H scope (compEnvC scope cl C X.env) fp) kx tk)
    (he : ∀ (s : Shared) (H : Hp) (C : Addr) (cl : List (Str × Addr)) (fp : List Addr), PE (X.blk s H scope (compEnvC scope cl C X.env) fp) vx tv) (hs : ∀ x, foldedSetIterable iter X.env x = pure x := by intro _; rfl) :
    PS X (.Assign [.Name y py] (.DictComp kx vx [⟨tg, iter, ifs, 0⟩] scope pos) spos) (tAsg (tDc wi g tt tk tv (own.map (·.2))) (gName i)) := by
  refine ⟨fun pins s σ H D I h => ?_⟩
  rw [exec_Assign_Name_used _ _ _ _ hsw]
  refine wpAny_bind (wpAny_standAt (wpAny_bind ?_))
  show wpAny _ X.A (do let _ ← comprehension (.DictComp kx vx [⟨tg, iter, ifs, 0⟩] scope pos) scope X.env (firstIterPos [⟨tg, iter, ifs, 0⟩] pos) newDict false (eval iter X.env) (some (assign (.Name y py) X.env))) _ _ s
  have h : tDc wi g tt tk tv (own.map (·.2)) σ H (fun x H1 => gName i x σ H1 D.nx) := h
  refine wpAny_bind (thn (dc_core (Qf := fun _ s' => SP X pins D .next s') hc hN I hi ok hg ht hk he hs h fun L C s' m H' I' q hn f => ?_) fun _ s' hq => wpAny_pure (wpAny_pure hq))
  show wpAny _ _ (assign (.Name y py) X.env (.ref L)) _ _ _
  refine wpAny_assign_Name (store_ok2 (v := V.ref L) I' hN hy (.inl hyl) rfl (fun s2 I2 ⟨a, sb, ha⟩ => ?_) (.inr hyl))
  obtain ⟨f0, f1, f2, f3, f4, f5⟩ := f
  have haC : C ≠ a := by
    rcases ha with z | z
    · rw [z]; exact f1
    · exact fun e => f4 y a z e.symm
  refine ⟨m, hn.sameBut sb haC, fun h3 sb3 => ?_⟩
  exact ⟨_, H', I2.turned (t' := s2.toks) (fun b o hb e => (sb3.2 b hb).trans e) f0 f1 f3 f4 f5, q⟩
theorem swd_true {kx vx : Expr} {gs : List Comprehension} {scope : Scope} {pos py : Pos} {y : Str} {l : Nat} {env : Env} (hk : env.scope.kind = .function) (hy : env.scope.names.lookup y = some .local) (hl : (py.line == pos.line) = true)
    (ha : (scope.names.any fun (n, k) => n == y && (k == .local || k == .cell)) = false) : swapsWith (.DictComp kx vx gs scope pos) (some (.Name y py)) l env = pure true := by
  have ky : env.kindOf y = some .local := hy
  have hb : env.blockKind = .function := by unfold Env.blockKind; rw [hk]; rfl
  unfold swapsWith
  simp only [hb, ky, ha, Expr.pos, hl]
  rfl
end DI
namespace DI
open PySem PySem.Spec PyProof.Rows L2
theorem dcK_it {J : It} {n : Nat} {G : Hp → Prop} {Y : Nat → Hp → V → Hp → Prop} (w : Walk J n G Y) {g : TG} {tt : TT} {tk tv : TE} {vs : List Nat} {σ : L2.St} {H1 : Hp} {D : Addr} {Qd : Hp → Prop} (Pv : Nat → Hp → Prop) (h0 : Pv 0 (upd H1 D (.dK []))) (hG : ∀ i H, i ≤ n → Pv i H → G H)
    (hs : ∀ i x H H', i < n → Pv i H → Y i H x H' → g x (wipe σ vs) H' fun σ2 H2 => wipe σ2 vs = wipe σ vs ∧ tt σ2 H2 fun b H3 =>
      if b = true then tk σ2 H3 fun y H4 => tv σ2 H4 fun z H5 => ∃ kvs k, y = kV k ∧ H5 D = some (.dK kvs) ∧ kvs.length < sizeLine ∧ Pv (i + 1) (upd H5 D (.dK (putK kvs k z))) else Pv (i + 1) H3) (hd : ∀ H, Pv n H → Qd H) :
    ∃ W : Nat → Nat → Hp → Prop, (∃ m, W 0 m (upd H1 D (.dK []))) ∧ ∀ i m H, W i m H →
      (J.stop i H ∧ Qd H) ∨ (J.go i H ∧ ∃ Nx : Hp → Prop, (∀ H', Nx H' → ∃ m', m' < m ∧ W (i + 1) m' H') ∧ ∀ x H', J.yld i H x H' → g x (wipe σ vs) H' fun σ2 H2 => wipe σ2 vs = wipe σ vs ∧ tt σ2 H2 fun b H3 =>
        if b = true then tk σ2 H3 fun y H4 => tv σ2 H4 fun z H5 => ∃ kvs k, y = kV k ∧ H5 D = some (.dK kvs) ∧ kvs.length < sizeLine ∧ Nx (upd H5 D (.dK (putK kvs k z))) else Nx H3) := by
  refine ⟨fun i m H => m = n - i ∧ i ≤ n ∧ Pv i H, ⟨n, (Nat.sub_zero n).symm, Nat.zero_le _, h0⟩, ?_⟩
  rintro i m H ⟨rfl, hi, p⟩
  by_cases c : i < n
  · exact .inr ⟨w.goes i H c (hG i H hi p), Pv (i + 1), fun H' p' => ⟨n - (i + 1), by omega, rfl, c, p'⟩, fun x H' y => hs i x H H' c p (w.yields i H x H' c (hG i H hi p) y)⟩
  · have e : i = n := by omega
    subst e
    exact .inl ⟨w.stops H (hG i H hi p), hd H p⟩
end DI

set_option exponentiation.threshold 400
namespace K1
open PySem PySem.Spec PyProof.Rows L2 Evl HM LX MP ZW
theorem rest_at {m : Nat} (hm : 1 ≤ m) (i : Int) : ∃ r : Nat, (r : Int) = i % (m : Int) ∧ r < m := by
  have a := Int.emod_nonneg i (show (m : Int) ≠ 0 by omega)
  have b := Int.emod_lt_of_pos i (show (0 : Int) < m by omega)
  exact ⟨(i % (m : Int)).toNat, by omega, by omega⟩
theorem rest_val {m : Nat} {f : Int → Int} (pf : Per m f) (i : Int) : f (i % (m : Int)) + i - i % (m : Int) = f i := by
  have c := Int.mul_ediv_add_emod i m
  have e := per_q pf (i % (m : Int)) (i / (m : Int))
  rw [show i % (m : Int) + m * (i / (m : Int)) = i by omega] at e
  omega
theorem walk_enumT {K : PySem.W.Frag} {a : Addr} {xs : List V} : Walk (EnT.IteT K a) xs.length (fun H => SqT K H a xs) (YPair (fun i => some (.int (i : Nat))) (fun i => xs[i]?)) :=
  ⟨fun i _ hi q => ⟨xs, xs[i], q, by simp [hi]⟩, fun _ q => ⟨xs, q, rfl⟩, fun i H v H' _ q y => by
    obtain ⟨T, x, h1, h2, h3, h4⟩ := y
    exact ⟨T, .int (i : Nat), x, h1, h2, h3, rfl, h4 xs q⟩⟩
section
variable {P : Program} {w : World} {K : PySem.W.Frag} {mg : Str → Option Value} {base : Heap}
def spValueIn : Sp := fun vs H Q _ => ∃ (p : Addr) (m : Nat) (f : Int → Int) (i : Int), vs = [.ref p, .int i] ∧ RowAt H p m f ∧ Per m f ∧ ∀ H', Ex H H' → Q (.int (f i)) H'
theorem ok_value_in (T : Txt K mg) {f : Addr} {fd : FuncData} (D : DefAt K mg "value_in" sValueIn ["values", "i"] f fd) : FnOk P w K mg base CX0 1 f fd ["values", "i"] spValueIn := by
  refine D.F.ok scValueIn (fun vs H Q E h => ?_) (fun cdv A outer s₀ H vs Q E hr h => ?_)
  · obtain ⟨p, m, f, i, rfl, _⟩ := h
    rfl
  · obtain ⟨p, m, f, i, rfl, ⟨hp, m1, m60⟩, pf, kQ⟩ := h
    refine ⟨_, pss_cons (ps_set (i := 2) scValueIn.nd rfl (.inl rfl) (pe_op op_mod (pv 1) (pe_callB call_len_seq (by rfl) T.z_len PySem.boot_len (pa_cons (pv 0) pa_nil))))
      (pss_one (ps_ret (pe_op op_sub (pe_op op_add (pe_ix ix_tup (pv 0) (pv 2) (fun _ _ => rfl)) (pv 1)) (pv 2)))), ?_⟩
    have ll : ((rowF m f).map V.int).length = m := by rw [List.length_map, rowF_len]
    obtain ⟨r, hr', rm⟩ := rest_at m1 i
    refine ⟨_, rfl, _, rfl, p, _, rfl, .inr (SqT.of hp), ?_⟩
    rw [ll]
    refine ⟨_, _, rfl, rfl, (show (0 : Int) < m by omega), ?_⟩
    refine ⟨_, rfl, _, rfl, p, _, _, .int (f (r : Int)), rfl, rfl, SqT.of hp, at_of hr'.symm (rowF_get rm), _, rfl, _, _, rfl, rfl, _, rfl, _, _, rfl, rfl, ?_⟩
    have e := rest_val pf i
    rw [hr']
    show Q (V.int (f (i % (m : Int)) + i - i % (m : Int))) H
    rw [e]
    exact kQ _ (Ex.refl _)
theorem ok_lvalue (T : Txt K mg) {f : Addr} {fd : FuncData} (D : DefAt K mg "_law_value" sLValue ["_law_values", "_law_i"] f fd) : FnOk P w K mg base CX0 1 f fd ["_law_values", "_law_i"] spValueIn := by
  refine D.F.ok scLValue (fun vs H Q E h => ?_) (fun cdv A outer s₀ H vs Q E hr h => ?_)
  · obtain ⟨p, m, f, i, rfl, _⟩ := h
    rfl
  · obtain ⟨p, m, f, i, rfl, ⟨hp, m1, m60⟩, pf, kQ⟩ := h
    refine ⟨_, pss_cons (ps_set (i := 2) scLValue.nd rfl (.inl rfl) (pe_callB call_len_seq (by rfl) T.z_len PySem.boot_len (pa_cons (pv 0) pa_nil)))
      (pss_one (ps_ret (pe_op op_sub (pe_op op_add (pe_ix ix_tup (pv 0) (pe_op op_mod (pv 1) (pv 2)) (fun _ _ => rfl)) (pv 1)) (pe_op op_mod (pv 1) (pv 2))))), ?_⟩
    have ll : ((rowF m f).map V.int).length = m := by rw [List.length_map, rowF_len]
    obtain ⟨r, hr', rm⟩ := rest_at m1 i
    refine ⟨_, rfl, p, _, rfl, .inr (SqT.of hp), ?_⟩
    rw [ll]
    refine ⟨_, rfl, _, rfl, _, rfl, _, _, rfl, rfl, (show (0 : Int) < m by omega), p, _, _, .int (f (r : Int)), rfl, rfl, SqT.of hp, at_of hr'.symm (rowF_get rm), _, rfl, _, _, rfl, rfl, _, rfl, _, rfl, _, _, rfl, rfl, (show (0 : Int) < m by omega), _, _, rfl, rfl, ?_⟩
    have e := rest_val pf i
    rw [hr']
    show Q (V.int (f (i % (m : Int)) + i - i % (m : Int))) H
    rw [e]
    exact kQ _ (Ex.refl _)
def spCheckDigits : Sp := fun vs H Q _ => ∃ (l : Addr) (ns : List Int), vs = [.ref l] ∧ H l = some (.lst (ns.map V.int)) ∧ ns.length ≤ 60 ∧ (∀ z ∈ ns, -(10 ^ 60) < z ∧ z < 10 ^ 60) ∧ ∀ H', Ex H H' → Q .non H'
theorem ok_check_digits (T : Txt K mg) {f : Addr} {fd : FuncData} (D : DefAt K mg "check_digits" sCheckDigits ["numbers"] f fd) : FnOk P w K mg base CX0 2 f fd ["numbers"] spCheckDigits := by
  refine D.F.ok scCheckDigits (fun vs H Q E h => ?_) (fun cdv A outer s₀ H vs Q E hr h => ?_)
  · obtain ⟨l, ns, rfl, _⟩ := h
    rfl
  · obtain ⟨l, ns, rfl, hl, n60, nb, kQ⟩ := h
    obtain ⟨f1, fd1, D1⟩ := T.d_is_integer
    have hr1 : Room 1 _ := hr.mono (by decide)
    refine ⟨_, pss_one (ps_if (pt_not (pt_val (pe_callB (cr_all rfl) (by rfl) T.z_all (by decide +kernel) (pa_cons (pe_lc (own := [("number", 1)]) (g := gName 1) (tt := tYes) rfl scCheckDigits.nd (pi_list (pv 0))
        (blkOk_by (N := nCheckDigits) (sc := defScope sCheckDigits) (by decide +kernel)) (fun _ _ _ _ _ => (pg_name (i := 1) scCheckDigits.nd rfl (.inl rfl))) (fun _ _ _ _ _ => pts_nil)
        (fun _ _ _ _ _ => (pe_call (ok_is_integer T D1) hr1 (by rfl) D1.g D1.F.kp D1.b .nil pass0 (pa_cons (pv 1) pa_nil)))) pa_nil)))) pss_never pss_nil), ?_⟩
    refine ⟨_, rfl, l, rfl, ⟨_, SqL.of hl⟩, fun Dl hD => ?_⟩
    refine lc_list (K := K) (a := l) (xs := ns.map V.int) (fun i H' => H' Dl = some (.lst ((List.replicate i true).map V.bl)) ∧ Ex H H') ⟨upd_same, Ex.new hD⟩ (fun i H' _ hp2 => SqL.of (hp2.2 _ _ hl)) (fun i x H' hx hp2 => ?_) (fun H1 hp2 => ?_)
    · obtain ⟨w1, w2⟩ := hp2
      obtain ⟨z, hz, rfl⟩ : ∃ z, ns[i]? = some z ∧ V.int z = x := by
        rw [List.getElem?_map] at hx
        exact Option.map_eq_some_iff.mp hx
      have hi : i < ns.length := (List.getElem?_eq_some_iff.mp hz).1
      obtain ⟨b1, b2⟩ := nb z (List.mem_of_getElem? hz)
      have ib : IntB K H' (.int z) true := by
        have := IntB.int (K := K) (H := H') z
        rw [decide_eq_true b1, decide_eq_true b2] at this
        exact this
      refine ⟨rfl, ?_⟩
      dsimp only [tYes]
      rw [if_pos rfl]
      refine ⟨_, rfl, _, true, rfl, ib, fun H3 e3 => ⟨_, e3 _ _ w1, ?_, ?_, Ex.mut (w2.trans e3) hD⟩⟩
      · rw [List.length_map, List.length_replicate]
        exact small1000 (by omega)
      · rw [upd_same, List.replicate_succ', List.map_append]
        rfl
    obtain ⟨w1, w2⟩ := hp2
    refine ⟨Dl, _, rfl, SqL.of w1, true, ?_, iteF (kQ _ w2)⟩
    rw [List.all_eq_true.mpr (fun x hx => by rw [(List.mem_replicate.mp hx).2]; rfl)]
/-- the inverse, by rests -/
def spValuesBack : Sp := fun vs H Q _ => ∃ (p : Addr) (m : Nat) (f : Int → Int), vs = [.ref p] ∧ RowAt H p m f ∧ Per m f ∧ PermR m f ∧ ∀ (l : Addr) (ns : List Int) H', Ex H H' → H' l = some (.lst (ns.map V.int)) → ns.length = m → (∀ r : Nat, r < m → ∃ s : Nat, s < m ∧ f (s : Int) % (m : Int) = r ∧ ns.getD r 0 = (s : Int) + r - f (s : Int)) → Q (.ref l) H'
theorem ok_values_back (T : Txt K mg) {f : Addr} {fd : FuncData} (D : DefAt K mg "values_back" sValuesBack ["values"] f fd) : FnOk P w K mg base CX0 1 f fd ["values"] spValuesBack := by
  refine D.F.ok scValuesBack (fun vs H Q E h => ?_) (fun cdv A outer s₀ H vs Q E hr h => ?_)
  · obtain ⟨p, m, f, rfl, _⟩ := h
    rfl
  · obtain ⟨p, m, f, rfl, ⟨hp, m1, m60⟩, pf, pr, kQ⟩ := h
    have hu1 := Nat.lt_of_le_of_lt (Nat.add_le_add_left (show 1 ≤ 64 by decide) _) hr.units
    refine ⟨_, pss_cons (ps_set (i := 1) scValuesBack.nd rfl (.inr rfl) (pe_callB call_len_seq (by rfl) T.z_len PySem.boot_len (pa_cons (pv 0) pa_nil)))
      (pss_cons (ps_set (i := 2) scValuesBack.nd rfl (.inr rfl) (pe_dc (own := [("spot", 3), ("value", 4)]) (g := gTup K 2 (gCons (gName 3) (gCons (gName 4) gNil))) (tt := tYes) rfl scValuesBack.nd (EnT.pi_enumT (by rfl) T.z_enumerate (pa_cons (pv 0) pa_nil))
        (blkOk_by (N := nValuesBack) (sc := defScope sValuesBack) (by decide +kernel)) (fun _ _ _ _ _ => (pg_tup (by rfl) (pgs_cons (pg_name (i := 3) scValuesBack.nd rfl (.inl rfl)) (pgs_cons (pg_name (i := 4) scValuesBack.nd rfl (.inl rfl)) pgs_nil)))) (fun _ _ _ _ _ => pts_nil)
        (fun _ _ _ _ _ => (pe_op op_mod (pv 4) (pv 1))) (fun _ _ _ _ _ => (pe_tup (pa_cons (pv 3) (pa_cons (pv 4) pa_nil))))))
      (pss_one (ps_ret (pe_lc (own := [("rest", 5)]) (g := gName 5) (tt := tYes) rfl scValuesBack.nd (pi_range1 (by rfl) T.z_range (pa_cons (pv 1) pa_nil))
        (blkOk_by (N := nValuesBack) (sc := defScope sValuesBack) (by decide +kernel)) (fun _ _ _ _ _ => (pg_name (i := 5) scValuesBack.nd rfl (.inl rfl))) (fun _ _ _ _ _ => pts_nil)
        (fun _ _ _ _ _ => (pe_op op_sub (pe_op op_add (pe_ix (show IxR _ (rIxT K) from ix_tup) (pe_dget hu1 (pv 2) (pv 5) (fun _ _ => rfl)) pe_int (fun _ _ => rfl)) (pv 5)) (pe_ix (show IxR _ (rIxT K) from ix_tup) (pe_dget hu1 (pv 2) (pv 5) (fun _ _ => rfl)) pe_int (fun _ _ => rfl)))))))), ?_⟩
    have ll : ((rowF m f).map V.int).length = m := by rw [List.length_map, rowF_len]
    refine ⟨_, rfl, p, _, rfl, .inr (SqT.of hp), ?_⟩
    rw [ll]
    refine ⟨_, rfl, p, _, rfl, SqT.of hp, fun Dq hD => ?_⟩
    refine DI.dcK_it (walk_enumT (K := K) (a := p) (xs := (rowF m f).map V.int)) (fun i H' => ∃ kvs : List (Key × V), H' Dq = some (.dK kvs) ∧ kvs.length ≤ i ∧ (∀ r : Nat, (∃ s : Nat, s < i ∧ f (s : Int) % (m : Int) = r) → ∃ (s : Nat) (t : Addr), s < i ∧ f (s : Int) % (m : Int) = r ∧ valV kvs (.inl (r : Int)) = some (.ref t) ∧ H' t = some (.tup [.int (s : Int), .int (f (s : Int))])) ∧ Ex H H')
      ⟨[], upd_same, Nat.le_refl _, fun r ⟨s, hs, _⟩ => absurd hs (Nat.not_lt_zero s), Ex.new hD⟩ (fun i H' _ hp2 => SqT.of (hp2.choose_spec.2.2.2 _ _ hp)) (fun i x H' H3 hi hp2 hy => ?_) (fun H1 hp2 => ?_)
    · obtain ⟨kvs, w1, w2, w3, w4⟩ := hp2
      rw [ll] at hi
      obtain ⟨T1, a1, b1, rfl, nT, rfl, ea, eb⟩ := hy
      obtain rfl := Option.some.inj ea
      obtain rfl : V.int (f (i : Int)) = b1 := Option.some.inj ((rowF_get hi).symm.trans eb)
      have eT := Ex.new (o := .tup [.int (i : Nat), .int (f (i : Int))]) nT
      refine ⟨T1, _, rfl, SqT.of upd_same, rfl, .int (i : Nat), [_], rfl, _, [], rfl, rfl, rfl, ?_⟩
      dsimp only [tYes]
      rw [if_pos rfl]
      refine ⟨_, rfl, _, rfl, _, _, rfl, rfl, (show (0 : Int) < m by omega), _, rfl, _, rfl, by show 2 ≤ sizeLine; decide, fun t2 ht2 => ?_⟩
      have e2 := Ex.new (o := .tup [.int (i : Nat), .int (f (i : Int))]) ht2
      have g2 : (upd (upd H' T1 (.tup [.int (i : Nat), .int (f (i : Int))])) t2 (.tup [.int (i : Nat), .int (f (i : Int))])) t2 = some (.tup [.int (i : Nat), .int (f (i : Int))]) := upd_same
      have w12 := (eT.trans e2) _ _ w1
      have e12 := eT.trans e2
      generalize upd (upd H' T1 (.tup [.int (i : Nat), .int (f (i : Int))])) t2 (.tup [.int (i : Nat), .int (f (i : Int))]) = H5 at *
      have ntd : ∀ {t : Addr} {zs : List V}, H5 t = some (.tup zs) → t ≠ Dq := fun ht => ne_of ht w12 (by intro z; cases z)
      refine ⟨kvs, .inl (f (i : Int) % (m : Int)), rfl, w12, small1000 (by omega), putK kvs (.inl (f (i : Int) % (m : Int))) (.ref t2), upd_same, ?_, fun r ⟨s, hs, es⟩ => ?_, Ex.mut (w4.trans e12) hD⟩
      · exact Nat.le_trans (length_putK ..) (by omega)
      · by_cases z : f (i : Int) % (m : Int) = r
        · refine ⟨i, t2, by omega, z, ?_, ?_⟩
          · rw [valV_put, if_pos (by rw [z])]
          · rw [upd_ne (ntd g2)]
            exact g2
        · have si : s < i := by
            rcases Nat.lt_or_ge s i with y | y
            · exact y
            · exact absurd (show f (i : Int) % (m : Int) = r by rw [show i = s by omega]; exact es) z
          obtain ⟨s', t, h1, h2, h3, h4⟩ := w3 r ⟨s, si, es⟩
          refine ⟨s', t, by omega, h2, ?_, ?_⟩
          · rw [valV_put, if_neg (fun y => z (Sum.inl.inj y).symm)]
            exact h3
          · rw [upd_ne (ntd (e12 _ _ h4))]
            exact e12 _ _ h4
    obtain ⟨kvs, w1, w2, w3, w4⟩ := hp2
    rw [ll] at w2 w3
    have all : ∀ r : Nat, r < m → ∃ (s : Nat) (t : Addr), s < m ∧ f (s : Int) % (m : Int) = r ∧ valV kvs (.inl (r : Int)) = some (.ref t) ∧ H1 t = some (.tup [.int (s : Int), .int (f (s : Int))]) := fun r hr => by
      have mem : (r : Int) ∈ (List.range m).map fun (i : Nat) => f (i : Int) % (m : Int) := pr.mem_iff.mpr (List.mem_map.mpr ⟨r, List.mem_range.mpr hr, rfl⟩)
      obtain ⟨s, hs, es⟩ := List.mem_map.mp mem
      exact w3 r ⟨s, List.mem_range.mp hs, es⟩
    refine ⟨_, rfl, _, rfl, by omega, by omega, fun Dl hDl => ?_⟩
    refine lc_range (lo := 0) (n := (m : Int).toNat) (fun i H' => ∃ ns : List Int, H' Dl = some (.lst (ns.map V.int)) ∧ ns.length = i ∧ (∀ r : Nat, r < i → ∃ s : Nat, s < m ∧ f (s : Int) % (m : Int) = r ∧ ns.getD r 0 = (s : Int) + r - f (s : Int)) ∧ Ex H1 H') ⟨[], upd_same, rfl, fun r hr => absurd hr (Nat.not_lt_zero r), Ex.new hDl⟩ (fun i H' hi hp2 => ?_) (fun H' hp2 => ?_)
    · obtain ⟨ns, v1, v2, v3, v4⟩ := hp2
      have hi : i < m := hi
      obtain ⟨s, t, s1, s2, s3, s4⟩ := all i hi
      have gd : DGet H' Dq (V.int (0 + (i : Int))) (some (.ref t)) := by
        have := DGet.k (k := Sum.inl (i : Int)) (v4 _ _ w1)
        rw [s3] at this
        rw [Int.zero_add]
        exact this
      have st := SqT.of (K := K) (v4 _ _ s4)
      refine ⟨rfl, ?_⟩
      dsimp only [tYes]
      rw [if_pos rfl]
      refine ⟨_, rfl, _, rfl, Dq, _, rfl, gd, t, _, 0, .int (s : Int), rfl, rfl, st, rfl, _, rfl, _, _, rfl, rfl, _, rfl, _, rfl, Dq, _, rfl, gd, t, _, 1, .int (f (s : Int)), rfl, rfl, st, rfl, _, _, rfl, rfl, _, v1, ?_, ns ++ [(s : Int) + (0 + (i : Int)) - f (s : Int)], ?_, ?_, fun r hr => ?_, Ex.mut v4 hDl⟩
      · rw [List.length_map]
        exact small1000 (by omega)
      · rw [upd_same, List.map_append]
        rfl
      · rw [List.length_append, v2]
        rfl
      · rcases Nat.lt_or_ge r i with y | y
        · obtain ⟨s', a1, a2, a3⟩ := v3 r y
          refine ⟨s', a1, a2, ?_⟩
          rw [List.getD_eq_getElem?_getD, List.getElem?_append_left (by omega), ← List.getD_eq_getElem?_getD]
          exact a3
        · obtain rfl : r = i := by omega
          refine ⟨s, s1, s2, ?_⟩
          rw [List.getD_eq_getElem?_getD, List.getElem?_append_right (by omega), v2, Nat.sub_self]
          show (s : Int) + (0 + (r : Int)) - f (s : Int) = _
          omega
    obtain ⟨ns, v1, v2, v3, v4⟩ := hp2
    rw [Int.toNat_natCast] at v2 v3
    exact kQ Dl ns _ (w4.trans v4) v1 v2 v3
end
end K1

/-! inverse rows, exchanged rows; plain mathematics -/
namespace K1
open MP
/-- a row by rests is the inverse -/
structure InvOf (m : Nat) (f g : Int → Int) : Prop where
  per : Per m g
  perm : PermR m g
  back : ∀ x, f (g x) = x
theorem inv_of {m : Nat} (hm : 1 ≤ m) {f : Int → Int} (pf : Per m f) (p : PermR m f) {ns : List Int} (l : ns.length = m) (h : ∀ r : Nat, r < m → ∃ s : Nat, s < m ∧ f (s : Int) % (m : Int) = r ∧ ns.getD r 0 = (s : Int) + r - f (s : Int)) : InvOf m f (fOf ns) := by
  have m0 : (0 : Int) < m := by omega
  have pg : Per m (fOf ns) := by
    have := fOf_per ns
    rw [l] at this
    exact this
  have B := bij_of_perm hm pf p
  have back : ∀ x, f (fOf ns x) = x := fun x => by
    have a := Int.emod_nonneg x (show (m : Int) ≠ 0 by omega)
    have b := Int.emod_lt_of_pos x m0
    have c := Int.mul_ediv_add_emod x m
    obtain ⟨r, hr⟩ : ∃ r : Nat, (r : Int) = x % (m : Int) := ⟨(x % (m : Int)).toNat, by omega⟩
    obtain ⟨s, s1, s2, s3⟩ := h r (by omega)
    have d := Int.mul_ediv_add_emod (f (s : Int)) m
    have e : fOf ns x = (s : Int) + m * (x / (m : Int) - f (s : Int) / (m : Int)) := by
      have e1 := per_q pg (r : Int) (x / (m : Int))
      rw [show (r : Int) + m * (x / (m : Int)) = x by omega] at e1
      rw [e1, fOf_nat (by omega), s3, Int.mul_sub]
      omega
    rw [e, per_q pf, Int.mul_sub]
    omega
  refine ⟨pg, rests_of hm pg fun t => ⟨f t, B.inj (by rw [back]), fun j hj => by rw [← hj, back]⟩, back⟩
/-- neighbours exchanged -/
def exch (vs : List Int) (at_ : Nat) : List Int :=
  if at_ + 1 < vs.length then (vs.set at_ (vs.getD (at_ + 1) 0)).set (at_ + 1) (vs.getD at_ 0)
  else ((vs.set at_ (vs.getD 0 0 + vs.length)).set 0 (vs.getD at_ 0 - vs.length))
theorem exch_len (vs : List Int) (a : Nat) : (exch vs a).length = vs.length := by
  unfold exch
  split <;> simp
theorem getD_set2 {l : List Int} {i k : Nat} {v : Int} (hi : i < l.length) : (l.set i v).getD k 0 = if k = i then v else l.getD k 0 := by
  rw [List.getD_eq_getElem?_getD, List.getD_eq_getElem?_getD, List.getElem?_set]
  by_cases z : k = i
  · subst z
    rw [if_pos rfl, if_pos rfl, if_pos hi]
    rfl
  · rw [if_neg (fun y => z y.symm), if_neg z]
/-- the exchanged map: values of neighbours, places too -/
def Swp (m : Nat) (a i : Int) : Int := if (i - a) % (m : Int) = 0 then i + 1 else if (i - a - 1) % (m : Int) = 0 then i - 1 else i
theorem exch_fOf {vs : List Int} {a : Nat} (h2 : 2 ≤ vs.length) (ha : a < vs.length) (i : Nat) (hi : i < vs.length) : (exch vs a).getD i 0 = fOf vs (Swp vs.length a i) := by
  obtain ⟨m, hm⟩ : ∃ m, m = vs.length := ⟨_, rfl⟩
  rw [← hm] at h2 ha hi ⊢
  have pf : Per m (fOf vs) := by
    have := fOf_per vs
    rw [← hm] at this
    exact this
  have nat : ∀ j : Nat, j < m → fOf vs (j : Int) = vs.getD j 0 := fun j hj => fOf_nat (by omega)
  have zer : ∀ x : Int, -(m : Int) < x → x < m → (x % (m : Int) = 0 ↔ x = 0) := fun x h1 h2 => ⟨fun z => by
    obtain ⟨q, hq⟩ := Int.dvd_of_emod_eq_zero z
    rcases Int.lt_trichotomy q 0 with w | w | w
    · have := Int.mul_le_mul_of_nonneg_left (show q ≤ -1 by omega) (show (0 : Int) ≤ m by omega)
      omega
    · rw [w, Int.mul_zero] at hq
      exact hq
    · have := Int.mul_le_mul_of_nonneg_left (show 1 ≤ q by omega) (show (0 : Int) ≤ m by omega)
      omega, fun z => by rw [z]; rfl⟩
  unfold exch Swp
  by_cases c : a + 1 < m
  · rw [if_pos (by omega), getD_set2 (by rw [List.length_set]; omega), getD_set2 (by omega)]
    by_cases z : i = a
    · subst z
      rw [if_neg (by omega), if_pos rfl, if_pos ((zer _ (by omega) (by omega)).mpr (by omega)), show (i : Int) + 1 = ((i + 1 : Nat) : Int) by omega, nat _ (by omega)]
    · rw [if_neg (show ¬ ((i : Int) - a) % (m : Int) = 0 from fun y => z (by have := (zer _ (by omega) (by omega)).mp y; omega))]
      by_cases z2 : i = a + 1
      · subst z2
        rw [if_pos rfl, if_pos ((zer _ (by omega) (by omega)).mpr (by omega)), show ((a + 1 : Nat) : Int) - 1 = (a : Int) by omega, nat _ (by omega)]
      · rw [if_neg z2, if_neg z]
        by_cases z3 : ((i : Int) - a - 1) % (m : Int) = 0
        · exfalso
          by_cases z4 : (i : Int) - a - 1 = -(m : Int)
          · omega
          · have := (zer _ (by omega) (by omega)).mp z3
            omega
        · rw [if_neg z3, nat _ hi]
  · have am : a + 1 = m := by omega
    rw [if_neg (by omega), getD_set2 (by rw [List.length_set]; omega), getD_set2 (by omega), ← hm]
    by_cases z : i = 0
    · subst z
      rw [if_pos rfl, if_neg (show ¬ (((0 : Nat) : Int) - a) % (m : Int) = 0 from fun y => by have := (zer _ (by omega) (by omega)).mp y; omega), if_pos (by rw [show ((0 : Nat) : Int) - a - 1 = 0 + m * (-1) by omega, Int.add_mul_emod_self_left]; rfl)]
      have := pf (((0 : Nat) : Int) - 1)
      rw [show ((0 : Nat) : Int) - 1 + m = (a : Int) by omega, nat _ ha] at this
      omega
    · rw [if_neg z]
      by_cases z2 : i = a
      · subst z2
        rw [if_pos rfl, if_pos ((zer _ (by omega) (by omega)).mpr (by omega)), show (i : Int) + 1 = ((0 : Nat) : Int) + m by omega, pf, nat _ (by omega)]
      · rw [if_neg z2, if_neg (show ¬ ((i : Int) - a) % (m : Int) = 0 from fun y => z2 (by have := (zer _ (by omega) (by omega)).mp y; omega))]
        by_cases z3 : ((i : Int) - a - 1) % (m : Int) = 0
        · exfalso
          by_cases z4 : (i : Int) - a - 1 = -(m : Int)
          · omega
          · have := (zer _ (by omega) (by omega)).mp z3
            omega
        · rw [if_neg z3, nat _ hi]
end K1

/-! drawn round maps; plain mathematics -/
namespace K1
open MP
theorem swp_per {m : Nat} (a : Int) : Per m (Swp m a) := fun i => by
  unfold Swp
  rw [show i + (m : Int) - a = (i - a) + m by omega, show (i - a) + (m : Int) - 1 = (i - a - 1) + m by omega, Int.add_emod_right, Int.add_emod_right]
  split
  · omega
  · split <;> omega
theorem swp_near (m : Nat) (a i : Int) : i - 1 ≤ Swp m a i ∧ Swp m a i ≤ i + 1 := by
  unfold Swp
  split
  · omega
  · split <;> omega
theorem mod_one {m : Nat} (hm : 2 ≤ m) {x : Int} (h : x % (m : Int) = 0) : (x + 1) % (m : Int) ≠ 0 ∧ (x - 1) % (m : Int) ≠ 0 := by
  have k : ∀ y : Int, y % (m : Int) = 0 → (y + 1) % (m : Int) ≠ 0 := fun y hy z => by
    have := Int.emod_eq_emod_iff_emod_sub_eq_zero.mp (hy.trans z.symm)
    rw [show y - (y + 1) = -1 by omega] at this
    obtain ⟨q, hq⟩ := Int.dvd_of_emod_eq_zero this
    rcases Int.lt_trichotomy q 0 with w | w | w
    · have := Int.mul_le_mul_of_nonneg_left (show q ≤ -1 by omega) (show (0 : Int) ≤ m by omega)
      omega
    · rw [w, Int.mul_zero] at hq
      omega
    · have := Int.mul_le_mul_of_nonneg_left (show 1 ≤ q by omega) (show (0 : Int) ≤ m by omega)
      omega
  refine ⟨k x h, fun z => ?_⟩
  have := k (x - 1) z
  rw [show x - 1 + 1 = x by omega] at this
  exact this h
theorem swp_swp {m : Nat} (hm : 2 ≤ m) (a i : Int) : Swp m a (Swp m a i) = i := by
  by_cases z : (i - a) % (m : Int) = 0
  · have e : Swp m a i = i + 1 := by unfold Swp; rw [if_pos z]
    rw [e]
    unfold Swp
    have := (mod_one hm z).1
    rw [if_neg (by rw [show i + 1 - a = i - a + 1 by omega]; exact this), if_pos (by rw [show i + 1 - a - 1 = i - a by omega]; exact z)]
    omega
  · by_cases z2 : (i - a - 1) % (m : Int) = 0
    · have e : Swp m a i = i - 1 := by unfold Swp; rw [if_neg z, if_pos z2]
      rw [e]
      unfold Swp
      rw [if_pos (by rw [show i - 1 - a = i - a - 1 by omega]; exact z2)]
      omega
    · have e : Swp m a i = i := by unfold Swp; rw [if_neg z, if_neg z2]
      rw [e, e]
theorem exch_all {vs : List Int} {a : Nat} (h2 : 2 ≤ vs.length) (ha : a < vs.length) (i : Int) : fOf (exch vs a) i = fOf vs (Swp vs.length a i) := by
  have m0 : (0 : Int) < vs.length := by omega
  have x := Int.emod_nonneg i (show (vs.length : Int) ≠ 0 by omega)
  have b := Int.emod_lt_of_pos i m0
  have c := Int.mul_ediv_add_emod i vs.length
  obtain ⟨r, hr⟩ : ∃ r : Nat, (r : Int) = i % (vs.length : Int) := ⟨(i % (vs.length : Int)).toNat, by omega⟩
  have pe : Per vs.length (fOf (exch vs a)) := by
    have := fOf_per (exch vs a)
    rw [exch_len] at this
    exact this
  have ei : i = (r : Int) + vs.length * (i / (vs.length : Int)) := by omega
  rw [ei, per_q pe, per_q (swp_per (a : Int)), per_q (fOf_per vs), fOf_nat (by rw [exch_len]; omega), exch_fOf h2 ha r (by omega)]
structure Rnd (vs : List Int) (t k : Int) : Prop where
  perm : PermR vs.length (fOf vs)
  sh : shf vs.length (fOf vs) = t
  near : ∀ i, -k ≤ fOf vs i - i - t ∧ fOf vs i - i - t ≤ k
theorem rnd_exch {vs : List Int} {t k : Int} {a : Nat} (R : Rnd vs t k) (h2 : 2 ≤ vs.length) (ha : a < vs.length) : Rnd (exch vs a) t (k + 1) := by
  have pv := fOf_per vs
  have pe : Per vs.length (fOf (exch vs a)) := by
    have := fOf_per (exch vs a)
    rw [exch_len] at this
    exact this
  have B := bij_of_perm (show 1 ≤ vs.length by omega) pv R.perm
  have B2 : Bij (fOf (exch vs a)) := fun t => by
    obtain ⟨i, h1, h3⟩ := B t
    refine ⟨Swp vs.length a i, by rw [exch_all h2 ha, swp_swp h2, h1], fun j hj => ?_⟩
    rw [exch_all h2 ha] at hj
    rw [← h3 _ hj, swp_swp h2]
  have p2 := rests_of (show 1 ≤ vs.length by omega) pe B2
  have sums : (sumL (List.range vs.length) fun (r : Nat) => fOf (exch vs a) (r : Int)) = sumL (List.range vs.length) fun (r : Nat) => fOf vs (r : Int) := by
    obtain ⟨d, hd⟩ : ∃ d : Int → Int, d = fun i => if (i - a) % (vs.length : Int) = 0 then fOf vs (i + 1) - fOf vs i else 0 := ⟨_, rfl⟩
    have step : ∀ i : Int, fOf (exch vs a) i = fOf vs i + (d i - d (i - 1)) := fun i => by
      rw [exch_all h2 ha, hd]
      unfold Swp
      dsimp only
      rw [show i - 1 + 1 = i by omega, show i - 1 - (a : Int) = i - a - 1 by omega]
      by_cases z : (i - a) % (vs.length : Int) = 0
      · rw [if_pos z, if_pos z, if_neg (mod_one h2 z).2]
        omega
      · rw [if_neg z, if_neg z]
        by_cases z2 : (i - a - 1) % (vs.length : Int) = 0
        · rw [if_pos z2, if_pos z2]
          omega
        · rw [if_neg z2, if_neg z2]
          omega
    rw [show sumL (List.range vs.length) (fun (r : Nat) => fOf (exch vs a) (r : Int)) = sumL (List.range vs.length) (fun (r : Nat) => fOf vs (r : Int) + (d (r : Int) - d ((r : Int) - 1))) from sumL_congr fun r _ => step r, sumL_add, tele]
    have : d ((vs.length : Int) - 1) = d (-1) := by
      rw [hd]
      dsimp only
      have p1 := pv (-1)
      have p3 := pv (-1 + 1)
      rw [show (vs.length : Int) - 1 - a = (-1 - a) + vs.length by omega, Int.add_emod_right, show (vs.length : Int) - 1 + 1 = -1 + 1 + vs.length by omega, p3, show (vs.length : Int) - 1 = -1 + vs.length by omega, p1]
      split <;> omega
    omega
  have s1 := shf_sum R.perm
  have s2 := shf_sum p2
  refine ⟨by rw [exch_len]; exact p2, ?_, fun i => ?_⟩
  · rw [exch_len, ← R.sh]
    have e : (vs.length : Int) * shf vs.length (fOf (exch vs a)) = vs.length * shf vs.length (fOf vs) := by omega
    exact Int.eq_of_mul_eq_mul_left (by omega) e
  · rw [exch_all h2 ha]
    have := R.near (Swp vs.length a i)
    have := swp_near vs.length a i
    omega
theorem rnd_plain {m : Nat} (hm : 1 ≤ m) (t : Int) : Rnd ((List.range m).map fun (i : Nat) => (i : Int) + t) t 0 := by
  obtain ⟨vs, hv⟩ : ∃ vs, vs = (List.range m).map fun (i : Nat) => (i : Int) + t := ⟨_, rfl⟩
  have l : vs.length = m := by rw [hv, List.length_map, List.length_range]
  have f : ∀ i, fOf vs i = i + t := fun i => by
    have x := Int.emod_nonneg i (show (m : Int) ≠ 0 by omega)
    have b := Int.emod_lt_of_pos i (show (0 : Int) < m by omega)
    unfold fOf
    rw [l]
    have : vs.getD (i % (m : Int)).toNat 0 = i % (m : Int) + t := by
      rw [List.getD_eq_getElem?_getD, hv, List.getElem?_map, List.getElem?_range (by omega)]
      show (((i % (m : Int)).toNat : Nat) : Int) + t = _
      omega
    omega
  rw [← hv]
  have pv := fOf_per vs
  rw [l] at pv
  have p := rests_of hm pv fun u => ⟨u - t, by rw [f]; omega, fun j hj => by rw [f] at hj; omega⟩
  refine ⟨by rw [l]; exact p, ?_, fun i => by rw [f]; omega⟩
  rw [l]
  unfold shf
  rw [← floor_up hm t]
  exact sumL_congr fun r _ => by rw [f, Int.add_comm]
/-- great ones: each rest once -/
theorem great_perm {vs rs : List Int} {m : Nat} (l : vs.length = m) (hm : 1 ≤ m) (e : vs.map (fun x => x % (m : Int)) = rs) (p : rs.Perm ((List.range m).map fun (i : Nat) => (i : Int))) : PermR m (fOf vs) := by
  unfold PermR
  have : ((List.range m).map fun (i : Nat) => fOf vs (i : Int) % (m : Int)) = rs := by
    have a := row_fOf vs
    rw [l] at a
    rw [← e]
    conv => rhs; rw [← a]
    rw [List.map_map]
    rfl
  rw [this]
  exact p
end K1

/-! own rules: ~x of an instance of an own class -/
namespace OW
open PySem PySem.Spec PyProof.Rows L2
section
variable {X : Cx} {CX : CXT} {n : Nat} {C g : Addr} {sp : Sp} {E : XK}
def rInvOwn (C : Addr) (sp : Sp) (E : XK) : V → Hp → VK → Prop := fun x H Q => ∃ a dx fs, x = .ref a ∧ H a = some (.ins C dx fs) ∧ sp [.ref a] H Q E
theorem un_invOwn (hs : PySem.W.findIn X.K (.ref C) "__invert__" = some (some (.ref g))) (hf : PySem.W.isFn X.K (.ref g) = true) (F : FnR X.prog X.w X.K X.mg X.base CX n g sp) (hr : Room n X.A) (hx : Passes CX X E) : UnR X (unaryOp .Invert) (rInvOwn C sp E) := by
  intro pins s σ H x v Q I rx h
  obtain ⟨a, dx, fs, rfl, ea, q⟩ := h
  obtain rfl : v = Value.ref a := rx
  obtain ⟨mA, O, _, _, _, _⟩ := ins_get I.hok ea
  obtain ⟨od, J, _⟩ := O.look
  obtain ⟨m, hF⟩ := I.fr
  exact PySem.W.ksp_inv hF I.ok.mod.kin J hs hf (wpAny_call (run_fnR (us := [.ref a]) (vs := [.ref a]) F hr hx I (.cons rfl .nil) q))
end
end OW

set_option exponentiation.threshold 400
namespace K1
open PySem PySem.Spec PyProof.Rows L2 Evl HM LX MP ZW
abbrev sRInit : Stmt := inClass (topS 16) 0
abbrev sRCounted : Stmt := inClass (topS 16) 4
abbrev sRSecond : Stmt := inClass (topS 16) 5
abbrev sRInvert : Stmt := inClass (topS 16) 11
abbrev nRInit : List Str := ["self", "values"]
abbrev nRSelf : List Str := ["self"]
abbrev nRCounted : List Str := ["self", "a", "b"]
theorem scRInit : FnScope nRInit ["self", "values"] (defScope sRInit) := ⟨rfl, rfl, rfl, by decide +kernel, rfl, by decide +kernel, by decide +kernel⟩
theorem scRInvert : FnScope nRSelf ["self"] (defScope sRInvert) := ⟨rfl, rfl, rfl, by decide +kernel, rfl, by decide +kernel, by decide +kernel⟩
theorem scRSecond : FnScope nRCounted ["self", "a", "b"] (defScope sRSecond) := ⟨rfl, rfl, rfl, by decide +kernel, rfl, by decide +kernel, by decide +kernel⟩
theorem scRCounted : FnScope nRCounted ["self", "a", "b"] (defScope sRCounted) := ⟨rfl, rfl, rfl, by decide +kernel, rfl, by decide +kernel, by decide +kernel⟩
/-! the data of a round map: its row and what was counted once -/
theorem vf_ : ¬ (("_values" : Str) = "_falls") := by decide +kernel
def rf (p : Addr) (v : V) : List (Str × V) := putF "_falls" v (putF "_values" (.ref p) [])
theorem rf_values (p : Addr) (v : V) : (rf p v).lookup ("_values" : Str) = some (.ref p) := by
  unfold rf
  rw [lookup_putF, if_neg vf_, lookup_putF, if_pos rfl]
theorem rf_falls (p : Addr) (v : V) : (rf p v).lookup ("_falls" : Str) = some v := by
  unfold rf
  rw [lookup_putF, if_pos rfl]
theorem rf_no (p : Addr) (v : V) {m : Str} (h1 : ¬ m = "_falls") (h2 : ¬ m = "_values") : (rf p v).lookup m = none := by
  unfold rf
  rw [lookup_putF, if_neg h1, lookup_putF, if_neg h2]
  all_goals rfl
theorem rf_eq (p : Addr) (v : V) : rf p v = ([("_values", V.ref p), ("_falls", v)] : List (Str × V)) := by
  show (if ("_values" : Str) = "_falls" then [(("_values" : Str), v)] else (("_values" : Str), V.ref p) :: putF "_falls" v []) = ([("_values", V.ref p), ("_falls", v)] : List (Str × V))
  rw [if_neg vf_]
  all_goals rfl
theorem rf_put (p : Addr) (v u : V) : putF "_falls" u (rf p v) = rf p u := by
  rw [rf_eq, rf_eq]
  show (if ("_values" : Str) = "_falls" then _ else (("_values" : Str), V.ref p) :: (if ("_falls" : Str) = "_falls" then [(("_falls" : Str), u)] else _)) = ([("_values", V.ref p), ("_falls", u)] : List (Str × V))
  rw [if_neg vf_, if_pos rfl]
/-- what the class leaves -/
structure RTxt (K : PySem.W.Frag) (mg : Str → Option Value) (C : Addr) : Prop where
  cl : Cls K C
  nV : NoAttr K C "_values"
  nF : NoAttr K C "_falls"
  mgC : mg "Round" = some (.ref C)
  init : ∃ f fd, Mk K C f ∧ Fun K "__init__" "Round.__init__" sRInit f fd ∧ Binds K fd ["self", "values"] []
  counted : ∃ f fd, Meth K C "counted" f ∧ Fun K "counted" "Round.counted" sRCounted f fd ∧ Binds K fd ["self", "a", "b"] []
  second : ∃ f fd, Meth K C "second" f ∧ Fun K "second" "Round.second" sRSecond f fd ∧ Binds K fd ["self", "a", "b"] []
  invert : ∃ f fd, Meth K C "__invert__" f ∧ Fun K "__invert__" "Round.__invert__" sRInvert f fd ∧ Binds K fd ["self"] []
section
variable {P : Program} {w : World} {K : PySem.W.Frag} {mg : Str → Option Value} {base : Heap} {C : Addr}
def spRInit (C : Addr) : Sp := fun vs H Q _ => ∃ (x dx p : Addr) (m : Nat) (f : Int → Int), vs = [.ref x, .ref p] ∧ H x = some (.ins C dx []) ∧ RowAt H p m f ∧ (∀ i : Nat, i < m → -(10 ^ 60) < f (i : Int) ∧ f (i : Int) < 10 ^ 60) ∧ ((List.range m).map fun (i : Nat) => f (i : Int) % (m : Int)).Perm ((List.range m).map fun (i : Nat) => (i : Int)) ∧ ∀ H', Keep x H H' → H' x = some (.ins C dx (rf p .non)) → Q .non H'
theorem ok_rinit (T : Txt K mg) (R : RTxt K mg C) {f : Addr} {fd : FuncData} (F : Fun K "__init__" "Round.__init__" sRInit f fd) : FnOk P w K mg base CX0 3 f fd ["self", "values"] (spRInit C) := by
  refine F.ok scRInit (fun vs H Q E h => ?_) (fun cdv A outer s₀ H vs Q E hr h => ?_)
  · obtain ⟨x, dx, p, m, f, rfl, _⟩ := h
    rfl
  · obtain ⟨x, dx, p, m, f, rfl, hx, hp, fb, pm, kQ⟩ := h
    obtain ⟨f1, fd1, D1⟩ := T.d_is_round
    refine ⟨_, pss_cons (ps_if (pt_not (pt_val (pe_call (ok_is_round T D1) hr (by rfl) D1.g D1.F.kp D1.b .nil pass0 (pa_cons (pv 1) pa_nil)))) pss_never pss_nil)
      (pss_cons (ps_fld (pv 0) (pv 1) rfl) (pss_one (ps_fld (pv 0) pe_non rfl))), ?_⟩
    refine ⟨_, rfl, p, m, f, rfl, hp, fb, pm, fun H1 e1 => ⟨true, rfl, iteF ?_⟩⟩
    refine ⟨_, rfl, _, rfl, x, C, dx, [], rfl, e1 _ _ hx, R.cl, R.nV, (by show 0 < 1000; decide), _, rfl, x, C, dx, _, rfl, upd_same, R.cl, R.nF, (by show 1 < 1000; decide), ?_⟩
    refine kQ _ (fun b o nb hb => ?_) upd_same
    rw [upd_ne nb, upd_ne nb]
    exact e1 _ _ hb
def spRCounted (C : Addr) : Sp := fun vs H Q _ => ∃ (x dx p : Addr) (v : V) (m : Nat) (f : Int → Int) (a b : Int), vs = [.ref x, .int a, .int b] ∧ H x = some (.ins C dx (rf p v)) ∧ RowAt H p m f ∧ -(10 ^ 60) < a ∧ a < 10 ^ 60 ∧ -(10 ^ 60) < b ∧ b < 10 ^ 60 ∧ ∀ H', Ex H H' → Q (.int (cntR m f a b)) H'
theorem ok_rcounted (T : Txt K mg) (R : RTxt K mg C) {f : Addr} {fd : FuncData} (F : Fun K "counted" "Round.counted" sRCounted f fd) : FnOk P w K mg base CX0 3 f fd ["self", "a", "b"] (spRCounted C) := by
  refine F.ok scRCounted (fun vs H Q E h => ?_) (fun cdv A outer s₀ H vs Q E hr h => ?_)
  · obtain ⟨x, dx, p, v, m, f, a, b, rfl, _⟩ := h
    rfl
  · obtain ⟨x, dx, p, v, m, f, a, b, rfl, hx, hp, a0, a1, b0, b1, kQ⟩ := h
    obtain ⟨f1, fd1, D1⟩ := T.d_counted_in
    obtain ⟨f2, fd2, D2⟩ := T.d_check_integer
    have hr1 : Room 1 _ := hr.mono (by decide)
    refine ⟨_, pss_cons (ps_expr (pe_call (ok_check_integer T D2) hr (by rfl) D2.g D2.F.kp D2.b .nil pass0 (pa_cons (pv 1) pa_nil)))
      (pss_cons (ps_expr (pe_call (ok_check_integer T D2) hr (by rfl) D2.g D2.F.kp D2.b .nil pass0 (pa_cons (pv 2) pa_nil)))
      (pss_one (ps_ret (pe_call (ok_counted_in T D1) hr1 (by rfl) D1.g D1.F.kp D1.b .nil pass0 (pa_cons (pe_fld (pv 0) rfl) (pa_cons (pv 1) (pa_cons (pv 2) pa_nil))))))), ?_⟩
    refine ⟨_, rfl, a, rfl, a0, a1, fun H1 e1 => ⟨_, rfl, b, rfl, b0, b1, fun H2 e2 => ?_⟩⟩
    have e12 := e1.trans e2
    exact ⟨_, rfl, x, C, dx, _, _, rfl, e12 _ _ hx, R.cl, R.nV, rf_values _ _, _, rfl, _, rfl, p, m, f, a, b, rfl, ⟨e12 _ _ hp.1, hp.2⟩, fun H3 e3 => kQ _ (e12.trans e3)⟩
def spRSecond (C : Addr) : Sp := fun vs H Q _ => ∃ (x dx p : Addr) (v : V) (m : Nat) (f : Int → Int) (a b : Int), vs = [.ref x, .int a, .int b] ∧ H x = some (.ins C dx (rf p v)) ∧ RowAt H p m f ∧ Per m f ∧ -(10 ^ 60) < a ∧ a < 10 ^ 60 ∧ -(10 ^ 60) < b ∧ b < 10 ^ 60 ∧ ∀ H', Ex H H' → Q (.int (if f a = -b then 1 else 0)) H'
theorem ok_rsecond (T : Txt K mg) (R : RTxt K mg C) {f : Addr} {fd : FuncData} (F : Fun K "second" "Round.second" sRSecond f fd) : FnOk P w K mg base CX0 3 f fd ["self", "a", "b"] (spRSecond C) := by
  refine F.ok scRSecond (fun vs H Q E h => ?_) (fun cdv A outer s₀ H vs Q E hr h => ?_)
  · obtain ⟨x, dx, p, v, m, f, a, b, rfl, _⟩ := h
    rfl
  · obtain ⟨x, dx, p, v, m, f, a, b, rfl, hx, hp, pf, a0, a1, b0, b1, kQ⟩ := h
    obtain ⟨f1, fd1, D1⟩ := T.d_value_in
    obtain ⟨f2, fd2, D2⟩ := T.d_check_integer
    have hr1 : Room 1 _ := hr.mono (by decide)
    refine ⟨_, pss_cons (ps_expr (pe_call (ok_check_integer T D2) hr (by rfl) D2.g D2.F.kp D2.b .nil pass0 (pa_cons (pv 1) pa_nil)))
      (pss_cons (ps_expr (pe_call (ok_check_integer T D2) hr (by rfl) D2.g D2.F.kp D2.b .nil pass0 (pa_cons (pv 2) pa_nil)))
      (pss_one (ps_ret (pe_ifExp (pt_cmpR op_eq (pe_call (ok_value_in T D1) hr1 (by rfl) D1.g D1.F.kp D1.b .nil pass0 (pa_cons (pe_fld (pv 0) rfl) (pa_cons (pv 1) pa_nil))) (pe_un un_neg (pv 2)) (nomark _)) pe_int pe_int)))), ?_⟩
    refine ⟨_, rfl, a, rfl, a0, a1, fun H1 e1 => ⟨_, rfl, b, rfl, b0, b1, fun H2 e2 => ?_⟩⟩
    have e12 := e1.trans e2
    refine ⟨_, rfl, x, C, dx, _, _, rfl, e12 _ _ hx, R.cl, R.nV, rf_values _ _, _, rfl, p, m, f, a, rfl, ⟨e12 _ _ hp.1, hp.2⟩, pf, fun H3 e3 => ?_⟩
    have q := kQ _ (e12.trans e3)
    refine ⟨_, rfl, _, rfl, rfl, _, rfl, ite2 (fun cc => ?_) (fun cc => ?_)⟩
    · have := V.int.inj (of_decide_eq_true cc)
      rw [if_pos this] at q
      exact q
    · rw [if_neg (fun z => cc (decide_eq_true (congrArg V.int z)))] at q
      exact q
def spToldRound (C : Addr) : Sp := fun vs H Q _ => ∃ (l : Addr) (ns : List Int), vs = [.ref l] ∧ H l = some (.lst (ns.map V.int)) ∧ 1 ≤ ns.length ∧ ns.length ≤ 60 ∧ (∀ z ∈ ns, -(10 ^ 60) < z ∧ z < 10 ^ 60) ∧ PermR ns.length (fOf ns) ∧ ∀ (x dx p : Addr) H', Ex H H' → H' x = some (.ins C dx (rf p .non)) → RowAt H' p ns.length (fOf ns) → Q (.ref x) H'
theorem row_at {H : Hp} {p : Addr} {ns : List Int} (h : H p = some (.tup (ns.map V.int))) (l1 : 1 ≤ ns.length) (l2 : ns.length ≤ 60) : RowAt H p ns.length (fOf ns) := ⟨by unfold rowF; rw [row_fOf]; exact h, l1, l2⟩
theorem fOf_bd {ns : List Int} {B : Int} (nb : ∀ z ∈ ns, -B < z ∧ z < B) (i : Nat) (hi : i < ns.length) : -B < fOf ns (i : Int) ∧ fOf ns (i : Int) < B := by
  rw [fOf_nat hi, List.getD_eq_getElem?_getD, List.getElem?_eq_getElem hi]
  exact nb _ (List.getElem_mem hi)
theorem ok_told_round (T : Txt K mg) (R : RTxt K mg C) {f : Addr} {fd : FuncData} (D : DefAt K mg "told_round" sToldRound ["values"] f fd) : FnOk P w K mg base CX0 5 f fd ["values"] (spToldRound C) := by
  refine D.F.ok scToldRound (fun vs H Q E h => ?_) (fun cdv A outer s₀ H vs Q E hr h => ?_)
  · obtain ⟨l, ns, rfl, _⟩ := h
    rfl
  · obtain ⟨l, ns, rfl, hl, l1, l2, nb, pr, kQ⟩ := h
    obtain ⟨g0, gd0, M0, F0, b0⟩ := R.init
    obtain ⟨f1, fd1, D1⟩ := T.d_check_digits
    have hr2 : Room 2 _ := hr.mono (by decide)
    refine ⟨_, pss_cons (ps_expr (pe_call (ok_check_digits T D1) hr2 (by rfl) D1.g D1.F.kp D1.b .nil pass0 (pa_cons (pv 0) pa_nil)))
      (pss_one (ps_ret (pe_make M0 (ok_rinit T R F0) hr (by rfl) R.mgC b0 .nil pass0 (pa_cons (pe_callTy call_tuple_of (by rfl) T.z_tuple (by decide +kernel) (pa_cons (pv 0) pa_nil)) pa_nil)))), ?_⟩
    refine ⟨_, rfl, l, ns, rfl, hl, l2, nb, fun H1 e1 => ?_⟩
    refine ⟨_, rfl, l, _, rfl, .inl ⟨SqL.of (e1 _ _ hl), fun p hp => ?_⟩⟩
    have xp := Ex.new (o := .tup (ns.map V.int)) hp
    have gp : (upd H1 p (.tup (ns.map V.int))) p = some (.tup (ns.map V.int)) := upd_same
    have e2 := e1.trans xp
    generalize upd H1 p (.tup (ns.map V.int)) = H2 at *
    intro x dx nx ndx nex
    have eX : Ex H2 (upd (upd H2 dx (.own x)) x (.ins C dx [])) := fun b o e => by
      rw [upd_ne (ne_of_none e nx), upd_ne (ne_of_none e ndx)]
      exact e
    refine ⟨x, dx, p, ns.length, fOf ns, rfl, upd_same, row_at (eX _ _ gp) l1 l2, fun i hi => fOf_bd nb i hi, pr, fun H3 kx hx => ⟨rfl, ?_⟩⟩
    have e23 : Ex H2 H3 := fun b o e => kx _ _ (ne_of_none e nx) (eX _ _ e)
    exact kQ x dx p _ (e2.trans e23) hx (row_at (e23 _ _ gp) l1 l2)
def spRInvert (C : Addr) : Sp := fun vs H Q _ => ∃ (x dx p : Addr) (v : V) (m : Nat) (f : Int → Int), vs = [.ref x] ∧ H x = some (.ins C dx (rf p v)) ∧ RowAt H p m f ∧ Per m f ∧ PermR m f ∧ (∀ i : Nat, i < m → -(10 ^ 59) < f (i : Int) ∧ f (i : Int) < 10 ^ 59) ∧
  ∀ (y dy q : Addr) (g : Int → Int) H', Ex H H' → H' y = some (.ins C dy (rf q .non)) → RowAt H' q m g → InvOf m f g → Q (.ref y) H'
theorem ok_rinvert (T : Txt K mg) (R : RTxt K mg C) {f : Addr} {fd : FuncData} (F : Fun K "__invert__" "Round.__invert__" sRInvert f fd) : FnOk P w K mg base CX0 6 f fd ["self"] (spRInvert C) := by
  refine F.ok scRInvert (fun vs H Q E h => ?_) (fun cdv A outer s₀ H vs Q E hr h => ?_)
  · obtain ⟨x, dx, p, v, m, f, rfl, _⟩ := h
    rfl
  · obtain ⟨x, dx, p, v, m, f, rfl, hx, hp, pf, pr, fb, kQ⟩ := h
    obtain ⟨f1, fd1, D1⟩ := T.d_values_back
    obtain ⟨f2, fd2, D2⟩ := T.d_told_round
    have hr1 : Room 1 _ := hr.mono (by decide)
    refine ⟨_, pss_one (ps_ret (pe_call (ok_told_round T R D2) hr (by rfl) D2.g D2.F.kp D2.b .nil pass0 (pa_cons (pe_call (ok_values_back T D1) hr1 (by rfl) D1.g D1.F.kp D1.b .nil pass0 (pa_cons (pe_fld (pv 0) rfl) pa_nil)) pa_nil))), ?_⟩
    refine ⟨_, rfl, x, C, dx, _, _, rfl, hx, R.cl, R.nV, rf_values _ _, p, m, f, rfl, hp, pf, pr, fun l ns H1 e1 hl nl nv => ?_⟩
    have m1 := hp.2.1
    have m60 := hp.2.2
    have IV := inv_of m1 pf pr nl nv
    refine ⟨l, ns, rfl, hl, by omega, by omega, fun z hz => ?_, by rw [nl]; exact IV.perm, fun y dy q H2 e2 hy hq => ?_⟩
    · obtain ⟨r, hr', rfl⟩ := List.getElem_of_mem hz
      obtain ⟨s, s1, s2, s3⟩ := nv r (by omega)
      rw [List.getD_eq_getElem?_getD, List.getElem?_eq_getElem hr'] at s3
      have := fb s s1
      have s3 : ns[r] = (s : Int) + r - f (s : Int) := s3
      rw [s3]
      constructor <;> omega
    · rw [nl] at hq
      exact kQ y dy q _ _ (e1.trans e2) hy hq IV
end
end K1

set_option exponentiation.threshold 400
namespace K1
open PySem PySem.Spec PyProof.Rows L2 Evl HM LX MP ZW
theorem win_cnt {m : Nat} (hm : 1 ≤ m) {f : Int → Int} (pf : Per m f) (b lo : Int) : ∀ n : Nat, (((List.range n).filter fun (j : Nat) => decide (f (lo + (j : Int)) ≥ 0 - b)).length : Int) = cntR m f (lo + n - 1) b - cntR m f (lo - 1) b
  | 0 => by
    rw [show lo + ((0 : Nat) : Int) - 1 = lo - 1 by omega, Int.sub_self]
    rfl
  | n + 1 => by
    have ih := win_cnt hm pf b lo n
    have s := cnt_step hm pf (lo + (n : Int)) b
    rw [List.range_succ, List.filter_append, List.length_append, show lo + ((n + 1 : Nat) : Int) - 1 = lo + (n : Int) by omega]
    by_cases z : f (lo + (n : Int)) ≥ 0 - b
    · rw [List.filter_cons_of_pos (by simpa using z), if_pos (by omega)] at *
      show ((_ + 1 : Nat) : Int) = _
      omega
    · rw [List.filter_cons_of_neg (by simpa using z), if_neg (by omega)] at *
      show ((_ + 0 : Nat) : Int) = _
      omega
section
variable {P : Program} {w : World} {K : PySem.W.Frag} {mg : Str → Option Value} {base : Heap}
def spLShift : Sp := fun vs H Q _ => ∃ (p : Addr) (m : Nat) (f : Int → Int), vs = [.ref p] ∧ RowAt H p m f ∧ PermR m f ∧ ∀ H', Ex H H' → Q (.int (shf m f)) H'
theorem ok_lshift (T : Txt K mg) {f : Addr} {fd : FuncData} (D : DefAt K mg "_law_shift" sLShift ["_law_values"] f fd) : FnOk P w K mg base CX0 1 f fd ["_law_values"] spLShift := by
  refine D.F.ok scLShift (fun vs H Q E h => ?_) (fun cdv A outer s₀ H vs Q E hr h => ?_)
  · obtain ⟨p, m, f, rfl, _⟩ := h
    rfl
  · obtain ⟨p, m, f, rfl, ⟨hp, m1, m60⟩, pr, kQ⟩ := h
    refine ⟨_, pss_one (ps_ret (pe_op op_fdiv (pe_callB (cr_sum rfl) (by rfl) T.z_sum (by decide +kernel) (pa_cons (pe_lc (own := [("_law_i", 1), ("_law_value_here", 2)]) (g := gTup K 2 (gCons (gName 1) (gCons (gName 2) gNil))) (tt := tYes) rfl scLShift.nd (EnT.pi_enumT (by rfl) T.z_enumerate (pa_cons (pv 0) pa_nil))
        (blkOk_by (N := nLShift) (sc := defScope sLShift) (by decide +kernel)) (fun _ _ _ _ _ => (pg_tup (by rfl) (pgs_cons (pg_name (i := 1) scLShift.nd rfl (.inl rfl)) (pgs_cons (pg_name (i := 2) scLShift.nd rfl (.inl rfl)) pgs_nil)))) (fun _ _ _ _ _ => pts_nil)
        (fun _ _ _ _ _ => (pe_op op_sub (pv 2) (pv 1)))) pa_nil)) (pe_callB call_len_seq (by rfl) T.z_len PySem.boot_len (pa_cons (pv 0) pa_nil)))), ?_⟩
    have ll : ((rowF m f).map V.int).length = m := by rw [List.length_map, rowF_len]
    obtain ⟨g, hg⟩ : ∃ g : Int → Int, g = fun x => f x - x := ⟨_, rfl⟩
    refine ⟨_, rfl, p, _, rfl, SqT.of hp, fun Dl hD => ?_⟩
    refine lc_enumT (K := K) (a := p) (xs := (rowF m f).map V.int) (fun i H' => H' Dl = some (.lst (((List.range i).map fun (x : Nat) => g (x : Int)).map V.int)) ∧ Ex H H') ⟨upd_same, Ex.new hD⟩ (fun i H' hp2 => SqT.of (hp2.2 _ _ hp)) (fun i x Tp H' hx hp2 nT => ?_) (fun H' hp2 => ?_)
    · obtain ⟨w1, w2⟩ := hp2
      have hi : i < m := by
        have := (List.getElem?_eq_some_iff.mp hx).1
        rw [ll] at this
        exact this
      rw [rowF_get hi] at hx
      obtain rfl := Option.some.inj hx
      have eT := Ex.new (o := .tup [.int (i : Nat), .int (f (i : Int))]) nT
      refine ⟨Tp, _, rfl, SqT.of upd_same, rfl, .int (i : Nat), [_], rfl, _, [], rfl, rfl, rfl, ?_⟩
      dsimp only [tYes]
      rw [if_pos rfl]
      refine ⟨_, rfl, _, rfl, _, _, rfl, rfl, _, eT _ _ w1, ?_, ?_, Ex.mut (w2.trans eT) hD⟩
      · rw [List.length_map, List.length_map, List.length_range]
        exact small1000 (by omega)
      · rw [upd_same, row_snoc, List.map_append, hg]
        rfl
    obtain ⟨w1, w2⟩ := hp2
    rw [ll] at w1
    refine ⟨Dl, _, rfl, SqL.of w1, _, rfl, p, _, rfl, .inr (SqT.of (w2 _ _ hp)), ?_⟩
    rw [ll]
    refine ⟨_, _, rfl, rfl, ⟨by omega, by omega⟩, ?_⟩
    have e : ((List.range m).map fun (x : Nat) => g (x : Int)).sum = m * shf m f := by
      have s := shf_sum pr
      show sumL (List.range m) (fun (x : Nat) => g (x : Int)) = _
      have a : (sumL (List.range m) fun (r : Nat) => f (r : Int)) = sumL (List.range m) (fun (x : Nat) => g (x : Int)) + sumL (List.range m) fun (r : Nat) => (r : Int) := by
        rw [← sumL_add]
        refine sumL_congr fun r _ => ?_
        rw [hg]
        dsimp only
        omega
      omega
    show Q (.int (((List.range m).map fun (x : Nat) => g (x : Int)).sum / (m : Int))) H'
    rw [e, Int.mul_ediv_cancel_left _ (by omega)]
    exact kQ _ w2
def spLCounted : Sp := fun vs H Q _ => ∃ (p : Addr) (m : Nat) (f : Int → Int) (a b : Int), vs = [.ref p, .int a, .int b] ∧ RowAt H p m f ∧ ∀ H', Ex H H' → Q (.int (cntR m f a b)) H'
theorem ok_lcounted (T : Txt K mg) {f : Addr} {fd : FuncData} (D : DefAt K mg "_law_counted" sLCounted ["_law_values", "_law_a", "_law_b"] f fd) : FnOk P w K mg base CX0 1 f fd ["_law_values", "_law_a", "_law_b"] spLCounted := by
  refine D.F.ok scLCounted (fun vs H Q E h => ?_) (fun cdv A outer s₀ H vs Q E hr h => ?_)
  · obtain ⟨p, m, f, a, b, rfl, _⟩ := h
    rfl
  · obtain ⟨p, m, f, a, b, rfl, ⟨hp, m1, m60⟩, kQ⟩ := h
    refine ⟨_, pss_cons (ps_par (i := 3) (j := 4) (by rfl) scLCounted.nd rfl rfl (by decide) rfl rfl (pa_cons (pe_callB call_len_seq (by rfl) T.z_len PySem.boot_len (pa_cons (pv 0) pa_nil)) (pa_cons pe_int pa_nil)) (by rfl))
      (pss_cons (ps_for PassesOwn.never rfl (pi_range1 (by rfl) T.z_range (pa_cons (pv 3) pa_nil)) (pg_name (i := 5) scLCounted.nd rfl (.inl rfl))
        (pss_cons (ps_set (i := 6) scLCounted.nd rfl (.inl rfl) (pe_op op_fdiv (pe_op op_sub (pv 1) (pv 5)) (pv 3)))
      (pss_cons (ps_set (i := 7) scLCounted.nd rfl (.inl rfl) (pe_op op_sub pe_int (pe_op op_fdiv (pe_op op_add (pv 2) (pe_ix ix_tup (pv 0) (pv 5) (fun _ _ => rfl))) (pv 3))))
      (pss_one (ps_set (i := 4) scLCounted.nd rfl (.inl rfl) (pe_op op_add (pv 4) (pe_callB (call_max2 rfl) (by rfl) T.z_max (by decide +kernel) (pa_cons pe_int (pa_cons (pe_op op_add (pe_op op_sub (pv 6) (pv 7)) pe_int) pa_nil)))))))))
      (pss_one (ps_ret (pv 4)))), ?_⟩
    have ll : ((rowF m f).map V.int).length = m := by rw [List.length_map, rowF_len]
    refine ⟨_, rfl, p, _, rfl, .inr (SqT.of hp), ?_⟩
    rw [ll]
    refine ⟨_, _, rfl, ?_⟩
    obtain ⟨g, hg⟩ : ∃ g : Nat → Int, g = fun (r : Nat) => max 0 ((a - (r : Int)) / (m : Int) + (b + f (r : Int)) / (m : Int) + 1) := ⟨_, rfl⟩
    refine ⟨_, rfl, _, rfl, by omega, by omega, ?_⟩
    refine for_range (lo := 0) (n := (m : Int).toNat) (fun i σ' H' => ∃ (y5 y6 y7 : Option V), σ' = [some (.ref p), some (.int a), some (.int b), some (.int (m : Int)), some (.int (sumL (List.range i) g)), y5, y6, y7] ∧ Ex H H') ⟨_, _, _, rfl, Ex.refl _⟩ (fun i σ' H' hi hW => ?_) (fun σ' H' hW => ?_)
    · obtain ⟨y5, y6, y7, rfl, ee⟩ := hW
      have hi : i < m := hi
      have z0 : (0 : Int) + (i : Int) = ((i : Nat) : Int) := Int.zero_add _
      refine ⟨_, rfl, _, rfl, _, _, rfl, rfl, _, rfl, _, _, rfl, rfl, ⟨by omega, by omega⟩, _, rfl, _, rfl, _, rfl, p, _, _, _, rfl, rfl, SqT.of (ee _ _ hp), at_of z0 (rowF_get hi), _, _, rfl, rfl, _, rfl, _, _, rfl, rfl, ⟨by omega, by omega⟩, _, _, rfl, rfl, ?_⟩
      refine ⟨_, rfl, _, rfl, _, rfl, _, _, rfl, rfl, _, _, rfl, rfl, _, _, rfl, _, _, rfl, rfl, ?_⟩
      have e : sumL (List.range (i + 1)) g = sumL (List.range i) g + (if (a - (0 + (i : Int))) / (m : Int) - (0 - (b + f (i : Int)) / (m : Int)) + 1 > 0 then (a - (0 + (i : Int))) / (m : Int) - (0 - (b + f (i : Int)) / (m : Int)) + 1 else 0) := by
        rw [List.range_succ, sumL_app, sumL_cons, sumL_nil, Int.add_zero]
        congr 1
        rw [hg, Int.zero_add]
        dsimp only
        rw [show (a - (i : Int)) / (m : Int) - (0 - (b + f (i : Int)) / (m : Int)) + 1 = (a - (i : Int)) / (m : Int) + (b + f (i : Int)) / (m : Int) + 1 by omega]
        split <;> omega
      rw [e]
      exact ⟨_, _, _, rfl, ee⟩
    · obtain ⟨y5, y6, y7, rfl, ee⟩ := hW
      have := kQ _ ee
      unfold cntR at this
      rw [hg]
      exact ⟨_, rfl, this⟩
def spByWindow : Sp := fun vs H Q _ => ∃ (p : Addr) (m : Nat) (f : Int → Int) (a b : Int), vs = [.ref p, .int a, .int b] ∧ RowAt H p m f ∧ Per m f ∧ -1000 ≤ a ∧ a ≤ 1000 ∧ ∀ H', Ex H H' → Q (.int (cntR m f a b - cntR m f (a - 201) b)) H'
theorem ok_by_window (T : Txt K mg) {f : Addr} {fd : FuncData} (D : DefAt K mg "_law_by_window" sLByWindow ["_law_values", "_law_a", "_law_b"] f fd) : FnOk P w K mg base CX0 2 f fd ["_law_values", "_law_a", "_law_b"] spByWindow := by
  refine D.F.ok scLByWindow (fun vs H Q E h => ?_) (fun cdv A outer s₀ H vs Q E hr h => ?_)
  · obtain ⟨p, m, f, a, b, rfl, _⟩ := h
    rfl
  · obtain ⟨p, m, f, a, b, rfl, ⟨hp, m1, m60⟩, pf, a0, a1, kQ⟩ := h
    obtain ⟨f1, fd1, D1⟩ := T.d_l_value
    have hr1 : Room 1 _ := hr.mono (by decide)
    refine ⟨_, pss_one (ps_ret (pe_callB call_len_seq (by rfl) T.z_len PySem.boot_len (pa_cons (pe_lc (own := [("_law_i", 3)]) (g := gName 3) rfl scLByWindow.nd (pi_range2 (by rfl) T.z_range (pa_cons (pe_op op_sub (pv 1) pe_int) (pa_cons (pe_op op_add (pv 1) pe_int) pa_nil)))
        (blkOk_by (N := nLByWindow) (sc := defScope sLByWindow) (by decide +kernel)) (fun _ _ _ _ _ => (pg_name (i := 3) scLByWindow.nd rfl (.inl rfl))) (fun _ _ _ _ _ => pts_one (pt_cmpR op_ge (pe_call (ok_lvalue T D1) hr1 (by rfl) D1.g D1.F.kp D1.b .nil pass0 (pa_cons (pv 0) (pa_cons (pv 3) pa_nil))) (pe_op op_sub pe_int (pv 2)) (nomark _)))
        (fun _ _ _ _ _ => (pv 3))) pa_nil))), ?_⟩
    refine ⟨_, rfl, _, _, rfl, rfl, _, rfl, _, _, rfl, rfl, ?_⟩
    refine ⟨_, _, rfl, ⟨by omega, by omega, by omega, by omega⟩, fun Dl hD => ?_⟩
    have RA : ∀ {H'}, Ex H H' → RowAt H' p m f := fun e => ⟨e _ _ hp, m1, m60⟩
    obtain ⟨u, hu⟩ : ∃ u : Nat → Bool, u = fun (j : Nat) => decide (f (a - 200 + (j : Int)) ≥ 0 - b) := ⟨_, rfl⟩
    refine lc_range (lo := a - 200) (n := (a + 1 - (a - 200)).toNat) (fun i H' => H' Dl = some (.lst (((List.range i).filter u).map fun (j : Nat) => V.int (a - 200 + (j : Int)))) ∧ Ex H H') ⟨upd_same, Ex.new hD⟩ (fun i H' hi hp2 => ?_) (fun H' hp2 => ?_)
    · obtain ⟨w1, w2⟩ := hp2
      have hi : i < 201 := by omega
      refine ⟨rfl, _, rfl, _, rfl, p, m, f, a - 200 + (i : Int), rfl, RA w2, pf, fun H3 e3 => ?_⟩
      have w13 := e3 _ _ w1
      refine ⟨_, rfl, _, _, rfl, rfl, _, _, rfl, rfl, _, rfl, ite2 (fun cc => ?_) (fun cc => ?_)⟩
      · have hu1 : u i = true := by rw [hu]; exact cc
        refine ⟨_, rfl, _, w13, ?_, ?_, Ex.mut (w2.trans e3) hD⟩
        · rw [List.length_map]
          have := List.length_filter_le u (List.range i)
          rw [List.length_range] at this
          exact small1000 (by omega)
        · rw [upd_same, List.range_succ, List.filter_append, List.filter_cons_of_pos hu1, List.filter_nil, List.map_append]
          rfl
      · have hu1 : ¬ u i = true := by rw [hu]; exact cc
        refine ⟨?_, w2.trans e3⟩
        rw [List.range_succ, List.filter_append, List.filter_cons_of_neg hu1, List.filter_nil, List.append_nil]
        exact w13
    obtain ⟨w1, w2⟩ := hp2
    rw [show (a + 1 - (a - 200)).toNat = 201 by omega] at w1
    refine ⟨Dl, _, rfl, .inl (SqL.of w1), ?_⟩
    have := win_cnt m1 pf b (a - 200) 201
    rw [← hu, show a - 200 + ((201 : Nat) : Int) - 1 = a by omega, show a - 200 - 1 = a - 201 by omega] at this
    rw [List.length_map, this]
    exact kQ _ w2
end
end K1

set_option exponentiation.threshold 400
namespace K1
open PySem PySem.Spec PyProof.Rows L2 Evl HM LX MP ZW
theorem set_map (l : List Int) (i : Nat) (v : Int) : (l.map V.int).set i (V.int v) = (l.set i v).map V.int := (List.map_set ..).symm
theorem get_int {vs : List Int} {i : Nat} (h : i < vs.length) : (vs.map V.int)[i]? = some (.int (vs.getD i 0)) := by
  rw [List.getElem?_map, List.getElem?_eq_getElem h, List.getD_eq_getElem?_getD, List.getElem?_eq_getElem h]
  rfl
section
variable {P : Program} {w : World} {K : PySem.W.Frag} {mg : Str → Option Value} {base : Heap}
def spLExch : Sp := fun vs H Q _ => ∃ (p : Addr) (ns : List Int) (a : Nat), vs = [.ref p, .int (a : Int)] ∧ H p = some (.tup (ns.map V.int)) ∧ 2 ≤ ns.length ∧ ns.length ≤ 60 ∧ a < ns.length ∧ ∀ (q : Addr) H', Ex H H' → H' q = some (.tup ((exch ns a).map V.int)) → Q (.ref q) H'
theorem ok_lexch (T : Txt K mg) {f : Addr} {fd : FuncData} (D : DefAt K mg "_law_exchanged" sLExchanged ["_law_values", "_law_at"] f fd) : FnOk P w K mg base CX0 2 f fd ["_law_values", "_law_at"] spLExch := by
  refine D.F.ok scLExchanged (fun vs H Q E h => ?_) (fun cdv A outer s₀ H vs Q E hr h => ?_)
  · obtain ⟨p, ns, a, rfl, _⟩ := h
    rfl
  · obtain ⟨p, ns, a, rfl, hp, l2, l60, ha, kQ⟩ := h
    obtain ⟨f1, fd1, D1⟩ := T.d_l_value
    have hr1 : Room 1 _ := hr.mono (by decide)
    refine ⟨_, pss_cons (ps_set (i := 2) scLExchanged.nd rfl (.inl rfl) (pe_callB call_len_seq (by rfl) T.z_len PySem.boot_len (pa_cons (pv 0) pa_nil)))
      (pss_cons (ps_set (i := 3) scLExchanged.nd rfl (.inl rfl) (pe_callTy call_list_of (by rfl) T.z_list (by decide +kernel) (pa_cons (pv 0) pa_nil)))
      (pss_cons (ps_asg (pe_tup (pa_cons (pe_call (ok_lvalue T D1) hr1 (by rfl) D1.g D1.F.kp D1.b .nil pass0 (pa_cons (pv 0) (pa_cons (pe_op op_add (pv 1) pe_int) pa_nil))) (pa_cons (pe_ix ix_tup (pv 0) (pv 1) (fun _ _ => rfl)) pa_nil))) (pg_tup (by rfl) (pgs_cons (pg_sub (pv 3) (pv 1) set_list) (pgs_cons (pg_sub (pv 3) (pe_op op_mod (pe_op op_add (pv 1) pe_int) (pv 2)) set_list) pgs_nil))))
      (pss_cons (ps_if (pt_cmpR op_eq (pe_op op_add (pv 1) pe_int) (pv 2) (nomark _)) (pss_one (ps_asg (pe_op op_sub (pe_ix ix_tup (pv 0) (pv 1) (fun _ _ => rfl)) (pv 2)) (pg_sub (pv 3) pe_int set_list))) pss_nil)
      (pss_one (ps_ret (pe_callTy call_tuple_of (by rfl) T.z_tuple (by decide +kernel) (pa_cons (pv 3) pa_nil))))))), ?_⟩
    have ll : (ns.map V.int).length = ns.length := List.length_map ..
    have RA : ∀ {H'}, Ex H H' → RowAt H' p ns.length (fOf ns) := fun e => row_at (e _ _ hp) (by omega) l60
    refine ⟨_, rfl, p, _, rfl, .inr (SqT.of hp), ?_⟩
    rw [ll]
    refine ⟨_, rfl, p, _, rfl, .inr (SqT.of hp), fun l hl => ?_⟩
    have eL := Ex.new (o := .lst (ns.map V.int)) hl
    have gL : (upd H l (.lst (ns.map V.int))) l = some (.lst (ns.map V.int)) := upd_same
    have hl0 : H l = none := hl
    generalize upd H l (.lst (ns.map V.int)) = H1 at *
    refine ⟨_, rfl, _, rfl, _, _, rfl, rfl, p, ns.length, fOf ns, (a : Int) + 1, rfl, RA eL, fOf_per ns, fun H2 e2 => ?_⟩
    refine ⟨_, rfl, _, rfl, p, _, _, _, rfl, rfl, SqT.of ((eL.trans e2) _ _ hp), atI_nat (get_int ha), by show 2 ≤ sizeLine; decide, fun t ht => ?_⟩
    refine ⟨t, _, rfl, SqT.of upd_same, rfl, ?_⟩
    have e3 := Ex.new (o := .tup [.int (fOf ns ((a : Int) + 1)), .int (ns.getD a 0)]) ht
    have gl2 := (e2.trans e3) _ _ gL
    have hp3 := ((eL.trans e2).trans e3) _ _ hp
    have e03 := (eL.trans e2).trans e3
    generalize upd H2 t (.tup [.int (fOf ns ((a : Int) + 1)), .int (ns.getD a 0)]) = H3 at *
    have npl : p ≠ l := ne_of hp3 gl2 (by intro z; cases z)
    have fin : ∀ (H4 : Hp) (zs : List Int), H4 l = some (.lst (zs.map V.int)) → (∀ b o, b ≠ l → H3 b = some o → H4 b = some o) → zs = exch ns a → ∀ q, H4 q = none → Q (.ref q) (upd H4 q (.tup (zs.map V.int))) := fun H4 zs h4 k4 ez q hq => by
      subst ez
      refine kQ q _ (fun b o e => ?_) upd_same
      have nb : b ≠ l := fun z => by rw [z, hl0] at e; cases e
      have h5 := k4 _ _ nb (e03 _ _ e)
      rw [upd_ne (ne_of_none h5 hq)]
      exact h5
    have f1 : a + 1 < ns.length → fOf ns ((a : Int) + 1) = ns.getD (a + 1) 0 := fun h => by
      rw [show (a : Int) + 1 = ((a + 1 : Nat) : Int) by omega]
      exact fOf_nat h
    have f0 : a + 1 = ns.length → fOf ns ((a : Int) + 1) = ns.getD 0 0 + ns.length := fun h => by
      have := fOf_per ns ((0 : Nat) : Int)
      rw [fOf_nat (show 0 < ns.length by omega), show ((0 : Nat) : Int) + (ns.length : Int) = (a : Int) + 1 by omega] at this
      exact this
    refine ⟨_, [_], rfl, _, rfl, _, rfl, l, _, _, a, rfl, rfl, gl2, ixN_nat (by rw [ll]; exact ha), _, [], rfl, _, rfl, _, rfl, _, _, rfl, rfl, _, rfl, _, _, rfl, rfl, (show (0 : Int) < (ns.length : Int) by omega), ?_⟩
    rw [set_map]
    by_cases c : a + 1 < ns.length
    · refine ⟨l, _, _, a + 1, rfl, rfl, upd_same, ?_, rfl, ?_⟩
      · rw [show ((a : Int) + 1) % (ns.length : Int) = ((a + 1 : Nat) : Int) by rw [Int.emod_eq_of_lt (by omega) (by omega)]; omega]
        exact ixN_nat (by rw [List.length_map, List.length_set]; exact c)
      rw [set_map, f1 c]
      refine ⟨_, rfl, _, _, rfl, rfl, _, rfl, rfl, _, rfl, ?_⟩
      rw [decide_eq_false (fun z => by have := V.int.inj z; omega)]
      refine iteF ⟨_, rfl, l, _, rfl, .inl ⟨SqL.of upd_same, fun q hq => ?_⟩⟩
      refine fin _ _ upd_same (fun b o nb hb => ?_) ?_ q hq
      · rw [upd_ne nb, upd_ne nb]
        exact hb
      · unfold exch
        rw [if_pos c]
    · have c2 : a + 1 = ns.length := by omega
      refine ⟨l, _, _, 0, rfl, rfl, upd_same, ?_, rfl, ?_⟩
      · rw [show ((a : Int) + 1) % (ns.length : Int) = ((0 : Nat) : Int) by rw [show (a : Int) + 1 = (ns.length : Int) by omega]; exact Int.emod_self]
        exact ixN_nat (by rw [List.length_map, List.length_set]; omega)
      rw [set_map, f0 c2]
      refine ⟨_, rfl, _, _, rfl, rfl, _, rfl, rfl, _, rfl, ?_⟩
      rw [decide_eq_true (congrArg V.int (show (a : Int) + 1 = (ns.length : Int) by omega))]
      refine iteT ⟨_, rfl, _, rfl, p, _, _, _, rfl, rfl, SqT.of (by rw [upd_ne npl, upd_ne npl]; exact hp3), atI_nat (get_int ha), _, rfl, _, _, rfl, rfl, _, rfl, l, _, _, 0, rfl, rfl, upd_same, ixN_nat (j := 0) (by rw [List.length_map, List.length_set, List.length_set]; omega), ?_⟩
      rw [set_map]
      refine ⟨_, rfl, l, _, rfl, .inl ⟨SqL.of upd_same, fun q hq => ?_⟩⟩
      refine fin _ _ upd_same (fun b o nb hb => ?_) ?_ q hq
      · rw [upd_ne nb, upd_ne nb, upd_ne nb]
        exact hb
      · unfold exch
        rw [if_neg (by omega), List.set_set]
end
end K1

set_option exponentiation.threshold 400
namespace K1
open PySem PySem.Spec PyProof.Rows L2 Evl HM LX MP ZW
theorem pe_cut9 {X : Cx} {e : Expr} {t : TE} (h : PE X e t) : PE X e (fun σ H Q => ∃ Mid : VK, t σ H Mid ∧ ∀ v H', Mid v H' → Q v H') :=
  ⟨fun pins s σ H Q I ⟨Mid, h1, h2⟩ => wpAny_mono (h.run pins s σ H Mid I h1) (fun u s' ⟨v, H', a, b, c⟩ => ⟨v, H', a, b, h2 v H' c⟩) (fun _ _ e => e)⟩
section
variable {P : Program} {w : World} {K : PySem.W.Frag} {mg : Str → Option Value} {base : Heap}
def spLRound : Sp := fun vs H Q _ => ∃ (d : Addr) (m : Nat), vs = [.ref d, .int (m : Int), .int 12] ∧ Dice H d ∧ 1 ≤ m ∧ m ≤ 60 ∧ ∀ (q : Addr) (ns : List Int) (t : Int) H', H' q = some (.tup (ns.map V.int)) → ns.length = m → Rnd ns t 12 → -10 ≤ t → t ≤ 10 → Dice H' d → Keep d H H' → Q (.ref q) H'
theorem ok_lround (T : Txt K mg) {f : Addr} {fd : FuncData} (D : DefAt K mg "_law_round" sLRound ["_law_dice_here", "_law_size", "_law_steps"] f fd) : FnOk P w K mg base CX0 3 f fd ["_law_dice_here", "_law_size", "_law_steps"] spLRound := by
  refine D.F.ok scLRound (fun vs H Q E h => ?_) (fun cdv A outer s₀ H vs Q E hr h => ?_)
  · obtain ⟨d, m, rfl, _⟩ := h
    rfl
  · obtain ⟨d, m, rfl, hd, m1, m60, kQ⟩ := h
    obtain ⟨f1, fd1, D1⟩ := T.d_l_roll
    obtain ⟨f2, fd2, D2⟩ := T.d_l_exchanged
    obtain ⟨f3, fd3, D3⟩ := T.d_l_one_of
    have hr1 : Room 1 _ := hr.mono (by decide)
    have hr2 : Room 2 _ := hr.mono (by decide)
    refine ⟨_, pss_cons (ps_set (i := 3) scLRound.nd rfl (.inr rfl) (pe_call (ok_one_of T D3) hr2 (by rfl) D3.g D3.F.kp D3.b .nil pass0 (pa_cons (pv 0) (pa_cons (pe_lst (pa_cons pe_int (pa_cons pe_int (pa_cons pe_int (pa_cons (pe_un un_neg pe_int) (pa_cons pe_int pa_nil)))))) pa_nil))))
      (pss_cons (ps_set (i := 4) scLRound.nd rfl (.inl rfl) (pe_callTy call_tuple_of (by rfl) T.z_tuple (by decide +kernel) (pa_cons (pe_lc (own := [("_law_i", 6)]) (g := gName 6) (tt := tYes) rfl scLRound.nd (pi_range1 (by rfl) T.z_range (pa_cons (pv 1) pa_nil))
        (blkOk_by (N := nLRound) (sc := defScope sLRound) (by decide +kernel)) (fun _ _ _ _ _ => (pg_name (i := 6) scLRound.nd rfl (.inl rfl))) (fun _ _ _ _ _ => pts_nil)
        (fun _ _ _ _ _ => (pe_op op_add (pv 6) (pv 3)))) pa_nil)))
      (pss_cons (ps_for PassesOwn.never rfl (pi_range1 (by rfl) T.z_range (pa_cons (pe_cut9 (pe_ifExp (pt_cmpR op_gt (pv 1) pe_int (nomark _)) (pe_call (ok_roll T D1) hr1 (by rfl) D1.g D1.F.kp D1.b .nil pass0 (pa_cons (pv 0) (pa_cons (pe_op op_add (pv 2) pe_int) pa_nil))) pe_int)) pa_nil)) (pg_name (i := 5) scLRound.nd rfl (.inl rfl))
        (pss_one (ps_set (i := 4) scLRound.nd rfl (.inl rfl) (pe_call (ok_lexch T D2) hr2 (by rfl) D2.g D2.F.kp D2.b .nil pass0 (pa_cons (pv 4) (pa_cons (pe_call (ok_roll T D1) hr1 (by rfl) D1.g D1.F.kp D1.b .nil pass0 (pa_cons (pv 0) (pa_cons (pv 1) pa_nil))) pa_nil))))))
      (pss_one (ps_ret (pv 4))))), ?_⟩
    refine ⟨_, rfl, _, rfl, by show 5 ≤ sizeLine; decide, fun bl hbl => ?_⟩
    have xb := Ex.new (o := .lst [V.int 0, .int 0, .int 1, .int (-2), .int 7]) hbl
    have gb : (upd H bl (.lst [V.int 0, .int 0, .int 1, .int (-2), .int 7])) bl = some (.lst [V.int 0, .int 0, .int 1, .int (-2), .int 7]) := upd_same
    have nbd : bl ≠ d := (hd.ne_new hbl).symm
    have hdB := hd.ex xb
    refine ⟨d, bl, _, rfl, hdB, gb, nbd, by show 1 ≤ 5; decide, by show 5 ≤ 1000; decide, fun x H1 hx hd1 k1 => ?_⟩
    obtain ⟨t, rfl, t0, t1⟩ : ∃ t : Int, x = .int t ∧ -10 ≤ t ∧ t ≤ 10 := by
      simp only [List.mem_cons, List.not_mem_nil, or_false] at hx
      rcases hx with rfl | rfl | rfl | rfl | rfl
      · exact ⟨0, rfl, by decide, by decide⟩
      · exact ⟨0, rfl, by decide, by decide⟩
      · exact ⟨1, rfl, by decide, by decide⟩
      · exact ⟨-2, rfl, by decide, by decide⟩
      · exact ⟨7, rfl, by decide, by decide⟩
    have kA := (Keep.ex xb).trans k1
    refine ⟨_, rfl, _, rfl, by omega, by omega, fun Dl hD => ?_⟩
    refine lc_range (lo := 0) (n := (m : Int).toNat) (fun i H' => H' Dl = some (.lst (((List.range i).map fun (x : Nat) => (x : Int) + t).map V.int)) ∧ Ex H1 H') ⟨upd_same, Ex.new hD⟩ (fun i H' hi hp2 => ?_) (fun H2 hp2 => ?_)
    · obtain ⟨w1, w2⟩ := hp2
      have hi : i < m := hi
      refine ⟨rfl, ?_⟩
      dsimp only [tYes]
      rw [if_pos rfl]
      refine ⟨_, rfl, _, rfl, _, _, rfl, rfl, _, w1, ?_, ?_, Ex.mut w2 hD⟩
      · rw [List.length_map, List.length_map, List.length_range]
        exact small1000 (by omega)
      · rw [upd_same, row_snoc (f := fun x => x + t), List.map_append, Int.zero_add]
        rfl
    obtain ⟨w1, w2⟩ := hp2
    rw [Int.toNat_natCast] at w1
    refine ⟨Dl, _, rfl, .inl ⟨SqL.of w1, fun q hq => ?_⟩⟩
    have xq := Ex.new (o := .tup (((List.range m).map fun (x : Nat) => (x : Int) + t).map V.int)) hq
    have gq : (upd H2 q (.tup (((List.range m).map fun (x : Nat) => (x : Int) + t).map V.int))) q = some (.tup (((List.range m).map fun (x : Nat) => (x : Int) + t).map V.int)) := upd_same
    have hd3 := (hd1.ex w2).ex xq
    have k3 := (kA.trans (Keep.ex w2)).trans (Keep.ex xq)
    generalize upd H2 q (.tup (((List.range m).map fun (x : Nat) => (x : Int) + t).map V.int)) = H3 at *
    refine ⟨fun v H' => ∃ n : Nat, v = .int (n : Int) ∧ n ≤ 12 ∧ (m < 2 → n = 0) ∧ Dice H' d ∧ Keep d H3 H', ?_, fun v H4 hW => ?_⟩
    · refine ⟨_, rfl, _, _, rfl, rfl, _, rfl, ite2 (fun cc => ?_) (fun cc => ?_)⟩
      · have cc := of_decide_eq_true cc
        refine ⟨_, rfl, _, rfl, _, _, rfl, rfl, d, _, rfl, hd3, by decide, by decide, fun u H5 u0 u1 hd5 k5 => ⟨u.toNat, by rw [Int.toNat_of_nonneg u0], by omega, fun z => by omega, hd5, k5⟩⟩
      · exact ⟨0, rfl, by decide, fun _ => rfl, hd3, Keep.refl _ _⟩
    obtain ⟨n, rfl, n12, n0, hd4, k4⟩ := hW
    have gq4 := k4.tup hd3 gq
    refine ⟨_, rfl, by omega, by omega, ?_⟩
    refine for_range (lo := 0) (n := (n : Int).toNat) (fun i σ' H' => ∃ (q : Addr) (ns : List Int) (y5 : Option V), σ' = [some (.ref d), some (.int (m : Int)), some (.int 12), some (.int t), some (.ref q), y5, none] ∧ H' q = some (.tup (ns.map V.int)) ∧ ns.length = m ∧ Rnd ns t (i : Int) ∧ Dice H' d ∧ Keep d H H') ⟨q, _, _, rfl, gq4, by rw [List.length_map, List.length_range], rnd_plain m1 t, hd4, k3.trans k4⟩ (fun i σ' H' hi hW => ?_) (fun σ' H' hW => ?_)
    · obtain ⟨q, ns, y5, rfl, hq', nl, R, hd', k'⟩ := hW
      have hi : i < n := hi
      have m2 : 2 ≤ m := by
        rcases Nat.lt_or_ge m 2 with z | z
        · have := n0 z
          omega
        · exact z
      refine ⟨_, rfl, _, rfl, _, rfl, d, _, rfl, hd', by omega, by omega, fun u H5 u0 u1 hd5 k5 => ?_⟩
      have hq5 := k5.tup hd' hq'
      refine ⟨q, ns, u.toNat, by rw [Int.toNat_of_nonneg u0]; rfl, hq5, by omega, by omega, by omega, fun q2 H6 e6 hq6 => ?_⟩
      exact ⟨q2, _, _, rfl, hq6, by rw [exch_len]; exact nl, rnd_exch R (by omega) (by omega), hd5.ex e6, (k'.trans k5).trans (Keep.ex e6)⟩
    · obtain ⟨q, ns, y5, rfl, hq', nl, R, hd', k'⟩ := hW
      refine ⟨_, rfl, kQ q ns t _ hq' nl ⟨R.perm, R.sh, fun i => ?_⟩ t0 t1 hd' k'⟩
      have := R.near i
      have : ((n : Int).toNat : Int) ≤ 12 := by omega
      omega
def spLGreat : Sp := fun vs H Q _ => ∃ (d : Addr) (m : Nat), vs = [.ref d, .int (m : Int)] ∧ Dice H d ∧ 1 ≤ m ∧ m ≤ 10 ∧ ∀ (q : Addr) (ns : List Int) H', H' q = some (.tup (ns.map V.int)) → ns.length = m → PermR m (fOf ns) → (∀ z ∈ ns, -(10 ^ 57) < z ∧ z < 10 ^ 57) → Dice H' d → Keep d H H' → Q (.ref q) H'
theorem ok_lgreat (T : Txt K mg) {f : Addr} {fd : FuncData} (D : DefAt K mg "_law_great_round" sLGreatRound ["_law_dice_here", "_law_size"] f fd) : FnOk P w K mg base CX0 3 f fd ["_law_dice_here", "_law_size"] spLGreat := by
  refine D.F.ok scLGreatRound (fun vs H Q E h => ?_) (fun cdv A outer s₀ H vs Q E hr h => ?_)
  · obtain ⟨d, m, rfl, _⟩ := h
    rfl
  · obtain ⟨d, m, rfl, hd, m1, m10, kQ⟩ := h
    obtain ⟨f1, fd1, D1⟩ := T.d_l_roll
    obtain ⟨f2, fd2, D2⟩ := T.d_l_one_of
    obtain ⟨f3, fd3, D3⟩ := T.d_l_mixed
    have hr1 : Room 1 _ := hr.mono (by decide)
    have hr2 : Room 2 _ := hr.mono (by decide)
    refine ⟨_, pss_cons (ps_asg (pe_tup (pa_cons (pe_call (ok_mixed T D3) hr2 (by rfl) D3.g D3.F.kp D3.b .nil pass0 (pa_cons (pv 0) (pa_cons (pe_listRg rfl (by rfl) T.z_list (prg_1 (by rfl) T.z_range (pv 1))) pa_nil))) (pa_cons (pe_call (ok_one_of T D2) hr2 (by rfl) D2.g D2.F.kp D2.b .nil pass0 (pa_cons (pv 0) (pa_cons (pe_lst (pa_cons pe_int (pa_cons (pe_op op_powW pe_int pe_int) (pa_cons (pe_op op_powW pe_int pe_int) pa_nil)))) pa_nil))) pa_nil))) (pg_tup (by rfl) (pgs_cons (pg_name (i := 2) scLGreatRound.nd rfl (.inl rfl)) (pgs_cons (pg_name (i := 3) scLGreatRound.nd rfl (.inr rfl)) pgs_nil))))
      (pss_cons (ps_set (i := 4) scLGreatRound.nd rfl (.inr rfl) (pe_call (ok_one_of T D2) hr2 (by rfl) D2.g D2.F.kp D2.b .nil pass0 (pa_cons (pv 0) (pa_cons (pe_lst (pa_cons pe_int (pa_cons (pe_op op_powW pe_int pe_int) (pa_cons (pe_op op_powW pe_int pe_int) pa_nil)))) pa_nil))))
      (pss_one (ps_ret (pe_callTy call_tuple_of (by rfl) T.z_tuple (by decide +kernel) (pa_cons (pe_lc (own := [("_law_rest", 5)]) (g := gName 5) (tt := tYes) rfl scLGreatRound.nd (pi_list (pv 2))
        (blkOk_by (N := nLGreatRound) (sc := defScope sLGreatRound) (by decide +kernel)) (fun _ _ _ _ _ => (pg_name (i := 5) scLGreatRound.nd rfl (.inl rfl))) (fun _ _ _ _ _ => pts_nil)
        (fun _ _ _ _ _ => (pe_op op_add (pv 5) (pe_op op_mul (pe_op op_mul (pv 1) (pe_op op_sub (pe_call (ok_roll T D1) hr1 (by rfl) D1.g D1.F.kp D1.b .nil pass0 (pa_cons (pv 0) (pa_cons (pe_op op_mul pe_int (pv 3)) pa_nil))) (pv 3))) (pv 4))))) pa_nil))))), ?_⟩
    refine ⟨_, rfl, _, rfl, (m : Int), rfl, RgOk.of_le (by omega) (by omega) (by omega) (by omega), fun g hg => ?_⟩
    have xg := Ex.new (o := .lst (rgV 0 (m : Int))) hg
    have eg : rgV 0 (m : Int) = ((List.range m).map fun (i : Nat) => (i : Int)).map V.int := by
      unfold rgV
      rw [show ((m : Int) - 0).toNat = m by omega, List.map_map]
      refine List.map_congr_left fun i _ => ?_
      show V.int (0 + (i : Int)) = V.int (i : Int)
      rw [Int.zero_add]
    have gg : (upd H g (.lst (rgV 0 (m : Int)))) g = some (.lst (((List.range m).map fun (i : Nat) => (i : Int)).map V.int)) := by rw [upd_same, eg]
    have hd1 := hd.ex xg
    generalize upd H g (.lst (rgV 0 (m : Int))) = H1 at *
    refine ⟨d, g, _, rfl, hd1, gg, by rw [List.length_map, List.length_range]; omega, fun p ms H2 npd pm hp hd2 k2 => ?_⟩
    refine ⟨_, rfl, _, _, rfl, rfl, ⟨by decide, by decide⟩, _, _, rfl, rfl, ⟨by decide, by decide⟩, by show 3 ≤ sizeLine; decide, fun bl hbl => ?_⟩
    have xb := Ex.new (o := .lst [V.int 3, .int ((10 : Int) ^ (9 : Int).toNat), .int ((10 : Int) ^ (14 : Int).toNat)]) hbl
    have gb : (upd H2 bl (.lst [V.int 3, .int ((10 : Int) ^ (9 : Int).toNat), .int ((10 : Int) ^ (14 : Int).toNat)])) bl = some (.lst [V.int 3, .int ((10 : Int) ^ (9 : Int).toNat), .int ((10 : Int) ^ (14 : Int).toNat)]) := upd_same
    have nbd : bl ≠ d := (hd2.ne_new hbl).symm
    have hdB := hd2.ex xb
    have hpB := xb _ _ hp
    have kB := ((Keep.ex xg).trans k2).trans (Keep.ex xb)
    refine ⟨d, bl, _, rfl, hdB, gb, nbd, by show 1 ≤ 3; decide, by show 3 ≤ 1000; decide, fun x H3 hx hd3 k3 => ?_⟩
    obtain ⟨wd, rfl, w1, w2⟩ : ∃ t : Int, x = .int t ∧ 3 ≤ t ∧ t ≤ 10 ^ 14 := by
      simp only [List.mem_cons, List.not_mem_nil, or_false] at hx
      rcases hx with rfl | rfl | rfl
      · exact ⟨_, rfl, by decide, by decide⟩
      · exact ⟨_, rfl, by decide, by decide⟩
      · exact ⟨_, rfl, by decide, by decide⟩
    refine ⟨by show 2 ≤ sizeLine; decide, fun t ht => ?_⟩
    have xt := Ex.new (o := .tup [.ref p, .int wd]) ht
    have gt : (upd H3 t (.tup [.ref p, .int wd])) t = some (.tup [.ref p, .int wd]) := upd_same
    have hp4 := (xt) _ _ (k3 _ _ npd hpB)
    have hd4 := hd3.ex xt
    have k4 := (kB.trans k3).trans (Keep.ex xt)
    generalize upd H3 t (.tup [.ref p, .int wd]) = H4 at *
    refine ⟨t, _, rfl, SqT.of gt, rfl, .ref p, [_], rfl, _, [], rfl, rfl, ?_⟩
    refine ⟨_, rfl, _, _, rfl, rfl, ⟨by decide, by decide⟩, _, _, rfl, rfl, ⟨by decide, by decide⟩, by show 3 ≤ sizeLine; decide, fun bl2 hbl2 => ?_⟩
    have xc := Ex.new (o := .lst [V.int 10, .int ((10 : Int) ^ (20 : Int).toNat), .int ((10 : Int) ^ (40 : Int).toNat)]) hbl2
    have gc : (upd H4 bl2 (.lst [V.int 10, .int ((10 : Int) ^ (20 : Int).toNat), .int ((10 : Int) ^ (40 : Int).toNat)])) bl2 = some (.lst [V.int 10, .int ((10 : Int) ^ (20 : Int).toNat), .int ((10 : Int) ^ (40 : Int).toNat)]) := upd_same
    have nbd2 : bl2 ≠ d := (hd4.ne_new hbl2).symm
    have hdC := hd4.ex xc
    have hpC := xc _ _ hp4
    have kC := k4.trans (Keep.ex xc)
    refine ⟨d, bl2, _, rfl, hdC, gc, nbd2, by show 1 ≤ 3; decide, by show 3 ≤ 1000; decide, fun y H5 hy hd5 k5 => ?_⟩
    obtain ⟨fr, rfl, f1, f2⟩ : ∃ t : Int, y = .int t ∧ 10 ≤ t ∧ t ≤ 10 ^ 40 := by
      simp only [List.mem_cons, List.not_mem_nil, or_false] at hy
      rcases hy with rfl | rfl | rfl
      · exact ⟨_, rfl, by decide, by decide⟩
      · exact ⟨_, rfl, by decide, by decide⟩
      · exact ⟨_, rfl, by decide, by decide⟩
    have hp5 := k5 _ _ npd hpC
    have k05 := kC.trans k5
    have ml : ms.length = m := by
      have := pm.length_eq
      rw [List.length_map, List.length_range] at this
      exact this
    have mb : ∀ z ∈ ms, 0 ≤ z ∧ z < m := fun z hz => by
      obtain ⟨r, hr, rfl⟩ := List.mem_map.mp ((pm.mem_iff).mp hz)
      have := List.mem_range.mp hr
      omega
    refine ⟨_, rfl, p, rfl, ⟨_, SqL.of hp5⟩, fun Dl hD => ?_⟩
    have ndD : d ≠ Dl := hd5.ne_new hD
    have npD : p ≠ Dl := ne_of_none hp5 hD
    have hD5 : H5 Dl = none := hD
    refine lc_list (K := K) (a := p) (xs := ms.map V.int) (fun i H' => ∃ ns : List Int, H' Dl = some (.lst (ns.map V.int)) ∧ ns.length = i ∧ ns.map (fun x => x % (m : Int)) = ms.take i ∧ (∀ z ∈ ns, -(10 ^ 57) < z ∧ z < 10 ^ 57) ∧ Dice H' d ∧ Keep d H5 H') ⟨[], upd_same, rfl, rfl, fun z hz => absurd hz (by simp), hd5.upd ndD, Keep.new hD⟩ (fun i H' _ hp2 => ?_) (fun i x H' hx hp2 => ?_) (fun H6 hp2 => ?_)
    · obtain ⟨_, _, _, _, _, _, kk⟩ := hp2
      exact SqL.of (kk _ _ npd hp5)
    · obtain ⟨ns, v1, v2, v3, v4, v5, v6⟩ := hp2
      obtain ⟨z, hz, rfl⟩ : ∃ z, ms[i]? = some z ∧ V.int z = x := by
        rw [List.getElem?_map] at hx
        exact Option.map_eq_some_iff.mp hx
      have hi : i < ms.length := (List.getElem?_eq_some_iff.mp hz).1
      obtain ⟨z0, z1⟩ := mb z (List.mem_of_getElem? hz)
      refine ⟨rfl, ?_⟩
      dsimp only [tYes]
      rw [if_pos rfl]
      refine ⟨_, rfl, _, rfl, _, rfl, _, rfl, _, _, rfl, rfl, .inl ⟨by omega, by omega⟩, d, _, rfl, v5, by omega, by omega, fun u H7 u0 u1 hd7 k7 => ?_⟩
      have mu : -((m : Int) * wd) ≤ (m : Int) * (u - wd) ∧ (m : Int) * (u - wd) ≤ (m : Int) * wd := by
        constructor
        · rw [← Int.mul_neg]
          exact Int.mul_le_mul_of_nonneg_left (by omega) (by omega)
        · exact Int.mul_le_mul_of_nonneg_left (by omega) (by omega)
      have mw : (m : Int) * wd ≤ 10 ^ 15 := by
        have := Int.mul_le_mul_of_nonneg_right (show (m : Int) ≤ 10 by omega) (show 0 ≤ wd by omega)
        omega
      refine ⟨_, rfl, _, _, rfl, rfl, _, _, rfl, rfl, .inl ⟨by omega, by omega⟩, _, rfl, _, _, rfl, rfl, .inl ⟨by omega, by omega⟩, _, _, rfl, rfl, _, k7 _ _ ndD.symm v1, ?_, ns ++ [z + (m : Int) * (u - wd) * fr], ?_, ?_, ?_, ?_, hd7.upd ndD, (v6.trans k7).mut hD5⟩
      · rw [List.length_map]
        exact small1000 (by omega)
      · rw [upd_same, List.map_append]
        rfl
      · rw [List.length_append, v2]
        rfl
      · rw [List.map_append, v3, List.take_add_one, hz]
        congr 1
        show [(z + (m : Int) * (u - wd) * fr) % (m : Int)] = [z]
        rw [Int.mul_assoc, Int.add_mul_emod_self_left, Int.emod_eq_of_lt z0 z1]
      · intro y hy
        rcases List.mem_append.mp hy with hy | hy
        · exact v4 y hy
        · rw [List.mem_singleton.mp hy]
          have a1 : -(10 ^ 15 * 10 ^ 40) ≤ (m : Int) * (u - wd) * fr ∧ (m : Int) * (u - wd) * fr ≤ 10 ^ 15 * 10 ^ 40 := by
            obtain ⟨e, he⟩ : ∃ e, e = (m : Int) * (u - wd) := ⟨_, rfl⟩
            rw [← he] at mu ⊢
            have b1 := Int.mul_le_mul_of_nonneg_right (show e ≤ 10 ^ 15 by omega) (show 0 ≤ fr by omega)
            have b2 := Int.mul_le_mul_of_nonneg_right (show -(10 ^ 15) ≤ e by omega) (show 0 ≤ fr by omega)
            omega
          constructor <;> omega
    obtain ⟨ns, v1, v2, v3, v4, v5, v6⟩ := hp2
    rw [List.length_map] at v2 v3
    rw [List.take_length] at v3
    refine ⟨Dl, _, rfl, .inl ⟨SqL.of v1, fun q hq => ?_⟩⟩
    have xq := Ex.new (o := .tup (ns.map V.int)) hq
    exact kQ q ns _ upd_same (by omega) (great_perm (by omega) m1 v3 pm) v4 (v5.ex xq) ((k05.trans v6).trans (Keep.ex xq))
end
end K1

set_option exponentiation.threshold 400
namespace K1
open PySem PySem.Spec PyProof.Rows L2 Evl HM LX MP ZW
section
variable {P : Program} {w : World} {K : PySem.W.Frag} {mg : Str → Option Value} {base : Heap} {C : Addr}
def spSmall (C : Addr) : Sp := fun vs H Q _ => ∃ (d x dx q p : Addr) (v0 : V) (ns : List Int) (t : Int), vs = [.ref d, .ref x, .ref p] ∧ Dice H d ∧ H x = some (.ins C dx (rf q v0)) ∧ RowAt H q ns.length (fOf ns) ∧ RowAt H p ns.length (fOf ns) ∧ Rnd ns t 12 ∧ -10 ≤ t ∧ t ≤ 10 ∧ ∀ H', Dice H' d → Keep d H H' → Q (.bl true) H'
theorem ok_small (T : Txt K mg) (R : RTxt K mg C) {f : Addr} {fd : FuncData} (D : DefAt K mg "_law_small_right" sLSmallRight ["_law_dice_here", "_law_one", "_law_values"] f fd) : FnOk P w K mg base CX0 4 f fd ["_law_dice_here", "_law_one", "_law_values"] (spSmall C) := by
  refine D.F.ok scLSmallRight (fun vs H Q E h => ?_) (fun cdv A outer s₀ H vs Q E hr h => ?_)
  · obtain ⟨d, x, dx, q, p, v0, ns, t, rfl, _⟩ := h
    rfl
  · obtain ⟨d, x, dx, q, p, v0, ns, t, rfl, hd, hx, hq, hp, Rn, t0, t1, kQ⟩ := h
    obtain ⟨g3, gd3, m3, F3, b3⟩ := R.counted
    obtain ⟨g4, gd4, m4, F4, b4⟩ := R.second
    obtain ⟨f1, fd1, D1⟩ := T.d_l_value
    obtain ⟨f2, fd2, D2⟩ := T.d_l_by_window
    obtain ⟨f3, fd3, D3⟩ := T.d_l_roll
    obtain ⟨f4, fd4, D4⟩ := T.d_l_shift
    have hr1 : Room 1 _ := hr.mono (by decide)
    have hr2 : Room 2 _ := hr.mono (by decide)
    refine ⟨_, pss_cons (ps_set (i := 3) scLSmallRight.nd rfl (.inl rfl) (pe_call (ok_lshift T D4) hr1 (by rfl) D4.g D4.F.kp D4.b .nil pass0 (pa_cons (pv 2) pa_nil)))
      (pss_cons (ps_for PassesOwn.never rfl (pi_range1 (by rfl) T.z_range (pa_cons pe_int pa_nil)) (pg_name (i := 4) scLSmallRight.nd rfl (.inl rfl))
        (pss_cons (ps_set (i := 5) scLSmallRight.nd rfl (.inl rfl) (pe_op op_sub (pe_call (ok_roll T D3) hr1 (by rfl) D3.g D3.F.kp D3.b .nil pass0 (pa_cons (pv 0) (pa_cons pe_int pa_nil))) pe_int))
      (pss_cons (ps_set (i := 6) scLSmallRight.nd rfl (.inl rfl) (pe_op op_sub (pe_op op_sub (pe_op op_sub (pe_call (ok_roll T D3) hr1 (by rfl) D3.g D3.F.kp D3.b .nil pass0 (pa_cons (pv 0) (pa_cons pe_int pa_nil))) pe_int) (pv 5)) (pv 3)))
      (pss_cons (ps_set (i := 7) scLSmallRight.nd rfl (.inl rfl) (pe_meth (pv 1) R.cl m3 (ok_rcounted T R F3) hr b3 .nil pass0 (pa_cons (pv 5) (pa_cons (pv 6) pa_nil))))
      (pss_cons (ps_if (pt_cmpR op_ne (pv 7) (pe_call (ok_by_window T D2) hr2 (by rfl) D2.g D2.F.kp D2.b .nil pass0 (pa_cons (pv 2) (pa_cons (pv 5) (pa_cons (pv 6) pa_nil)))) (nomark _)) (pss_one (ps_ret pe_bl)) pss_nil)
      (pss_cons (ps_set (i := 8) scLSmallRight.nd rfl (.inl rfl) (pe_lst (pa_cons (pe_op op_sub (pv 7) (pe_meth (pv 1) R.cl m3 (ok_rcounted T R F3) hr b3 .nil pass0 (pa_cons (pe_op op_sub (pv 5) pe_int) (pa_cons (pv 6) pa_nil)))) (pa_cons (pe_op op_sub (pv 7) (pe_meth (pv 1) R.cl m3 (ok_rcounted T R F3) hr b3 .nil pass0 (pa_cons (pv 5) (pa_cons (pe_op op_sub (pv 6) pe_int) pa_nil)))) pa_nil))))
      (pss_cons (ps_if (pt_cmpR (op_neD hr.units) (pe_lc (own := [("_law_step", 10)]) (g := gName 10) rfl scLSmallRight.nd (pi_list (pv 8))
        (blkOk_by (N := nLSmallRight) (sc := defScope sLSmallRight) (by decide +kernel)) (fun _ _ _ _ _ => (pg_name (i := 10) scLSmallRight.nd rfl (.inl rfl))) (fun _ _ _ _ _ => pts_one (pt_cmpR (show OpR _ (compareOp .NotIn) (rIn K true) from op_notIn_seq) (pv 10) (pe_tup (pa_cons pe_int (pa_cons pe_int pa_nil))) (by rfl)))
        (fun _ _ _ _ _ => (pv 10))) (pe_lst pa_nil) (nomark _)) (pss_one (ps_ret pe_bl)) pss_nil)
      (pss_cons (ps_set (i := 9) scLSmallRight.nd rfl (.inl rfl) (pe_op op_add (pe_op op_sub (pe_op op_sub (pv 7) (pe_meth (pv 1) R.cl m3 (ok_rcounted T R F3) hr b3 .nil pass0 (pa_cons (pe_op op_sub (pv 5) pe_int) (pa_cons (pv 6) pa_nil)))) (pe_meth (pv 1) R.cl m3 (ok_rcounted T R F3) hr b3 .nil pass0 (pa_cons (pv 5) (pa_cons (pe_op op_sub (pv 6) pe_int) pa_nil)))) (pe_meth (pv 1) R.cl m3 (ok_rcounted T R F3) hr b3 .nil pass0 (pa_cons (pe_op op_sub (pv 5) pe_int) (pa_cons (pe_op op_sub (pv 6) pe_int) pa_nil)))))
      (pss_one (ps_if (PW.pt (pw_or (pt_cmpR op_ne (pe_meth (pv 1) R.cl m4 (ok_rsecond T R F4) hr b4 .nil pass0 (pa_cons (pv 5) (pa_cons (pv 6) pa_nil))) (pv 9) (nomark _))
          (pw_or1 (pt_cmpR op_ne (pv 9) (pe_callTy call_int1 (by rfl) T.z_int (by decide +kernel) (pa_cons (pe_cmpR op_eq (pe_call (ok_lvalue T D1) hr1 (by rfl) D1.g D1.F.kp D1.b .nil pass0 (pa_cons (pv 2) (pa_cons (pv 5) pa_nil))) (pe_op op_sub pe_int (pv 6)) (nomark _)) pa_nil)) (nomark _))))) (pss_one (ps_ret pe_bl)) pss_nil))))))))))
      (pss_one (ps_ret pe_bl))), ?_⟩
    obtain ⟨m, hm⟩ : ∃ m, m = ns.length := ⟨_, rfl⟩
    obtain ⟨f, hf⟩ : ∃ f, f = fOf ns := ⟨_, rfl⟩
    have pf := fOf_per ns
    have pr := Rn.perm
    have sh := Rn.sh
    have nr := Rn.near
    rw [← hm, ← hf] at hq hp pr sh pf
    rw [← hf] at nr
    have m1 := hp.2.1
    have m60 := hp.2.2
    have I := inj_of pf (bij_inj (bij_of_perm m1 pf pr))
    have BJ := bij_of_perm m1 pf pr
    refine ⟨_, rfl, p, m, f, rfl, hp, pr, fun H1 e1 => ?_⟩
    rw [sh]
    refine ⟨_, rfl, by decide, by decide, ?_⟩
    refine for_range (lo := 0) (n := (4 : Int).toNat) (fun i σ' H' => ∃ (y4 y5 y6 y7 y8 y9 : Option V), σ' = [some (.ref d), some (.ref x), some (.ref p), some (.int t), y4, y5, y6, y7, y8, y9, none] ∧ Dice H' d ∧ Keep d H H') ⟨_, _, _, _, _, _, rfl, hd.ex e1, Keep.ex e1⟩ (fun i σ' H' hi hW => ?_) (fun σ' H' hW => ?_)
    · obtain ⟨y4, y5, y6, y7, y8, y9, rfl, hd', k'⟩ := hW
      refine ⟨_, rfl, d, _, rfl, hd', by decide, by decide, fun u H2 u0 u1 hd2 k2 => ⟨_, _, rfl, rfl, ?_⟩⟩
      refine ⟨_, rfl, d, _, rfl, hd2, by decide, by decide, fun v H3 v00 v1 hd3 k3 => ⟨_, _, rfl, rfl, _, rfl, _, _, rfl, rfl, _, rfl, _, _, rfl, rfl, ?_⟩⟩
      have k03 := (k'.trans k2).trans k3
      have ndx : x ≠ d := by
        obtain ⟨_, _, _, e⟩ := hd
        exact ne_of hx e (by intro z; cases z)
      have hx3 := k03 _ _ ndx hx
      have hq3 := k03.tup hd hq.1
      have hp3 := k03.tup hd hp.1
      obtain ⟨a, ha⟩ : ∃ a : Int, a = u - 15 := ⟨_, rfl⟩
      obtain ⟨b, hb⟩ : ∃ b : Int, b = v - 12 - a - t := ⟨_, rfl⟩
      have no := rf_no q v0 (m := "counted") (by decide +kernel) (by decide +kernel)
      have no2 := rf_no q v0 (m := "second") (by decide +kernel) (by decide +kernel)
      have X : ∀ {H'}, Ex H3 H' → H' x = some (.ins C dx (rf q v0)) := fun e => e _ _ hx3
      have RQ : ∀ {H'}, Ex H3 H' → RowAt H' q m f := fun e => ⟨e _ _ hq3, m1, m60⟩
      have RP : ∀ {H'}, Ex H3 H' → RowAt H' p m f := fun e => ⟨e _ _ hp3, m1, m60⟩
      dsimp only
      rw [← ha, ← hb]
      refine ⟨_, rfl, x, dx, _, rfl, hx3, no, _, rfl, _, rfl, x, dx, q, v0, m, f, a, b, rfl, hx3, RQ (Ex.refl _), by omega, by omega, by omega, by omega, fun H4 e4 => ?_⟩
      refine ⟨_, rfl, _, rfl, _, rfl, _, rfl, p, m, f, a, b, rfl, RP e4, pf, by omega, by omega, fun H5 e5 => ?_⟩
      have e35 := e4.trans e5
      have z201 : cntR m f (a - 201) b = 0 := cnt_none m1 fun r _ => by
        have := nr (r : Int)
        omega
      refine ⟨rfl, false, by rw [z201]; simp, iteF ?_⟩
      refine ⟨_, rfl, _, rfl, x, dx, _, rfl, X e35, no, _, rfl, _, _, rfl, rfl, _, rfl, x, dx, q, v0, m, f, a - 1, b, rfl, X e35, RQ e35, by omega, by omega, by omega, by omega, fun H6 e6 => ⟨_, _, rfl, rfl, ?_⟩⟩
      have e36 := e35.trans e6
      refine ⟨_, rfl, _, rfl, x, dx, _, rfl, X e36, no, _, rfl, _, rfl, _, _, rfl, rfl, x, dx, q, v0, m, f, a, b - 1, rfl, X e36, RQ e36, by omega, by omega, by omega, by omega, fun H7 e7 => ⟨_, _, rfl, rfl, ?_⟩⟩
      have e37 := e36.trans e7
      obtain ⟨s1, hs1⟩ : ∃ s1, s1 = cntR m f a b - cntR m f (a - 1) b := ⟨_, rfl⟩
      obtain ⟨s2, hs2⟩ : ∃ s2, s2 = cntR m f a b - cntR m f a (b - 1) := ⟨_, rfl⟩
      refine ⟨by show 2 ≤ sizeLine; decide, fun l hl => ?_⟩
      have b1 : s1 = 0 ∨ s1 = 1 := by
        rw [hs1, cnt_step m1 pf]
        split
        · exact .inr rfl
        · exact .inl rfl
      have b2 : s2 = 0 ∨ s2 = 1 := by
        obtain ⟨i0, h0, _⟩ := BJ (-b)
        rw [hs2, cnt_bstep m1 pf I h0]
        split
        · exact .inr rfl
        · exact .inl rfl
      dsimp only
      rw [← hs1, ← hs2]
      have xl := Ex.new (o := .lst [V.int s1, .int s2]) hl
      have gl : (upd H7 l (.lst [V.int s1, .int s2])) l = some (.lst [V.int s1, .int s2]) := upd_same
      have e38 := e37.trans xl
      generalize upd H7 l (.lst [V.int s1, .int s2]) = H8 at *
      refine ⟨_, rfl, l, rfl, ⟨_, SqL.of gl⟩, fun Dl hD => ?_⟩
      refine lc_list (K := K) (a := l) (xs := [V.int s1, .int s2]) (fun i H' => H' Dl = some (.lst []) ∧ Ex H8 H') ⟨upd_same, Ex.new hD⟩ (fun i H' _ hp2 => SqL.of (hp2.2 _ _ gl)) (fun i z H' hz hp2 => ?_) (fun H9 hp2 => ?_)
      · obtain ⟨w1, w2⟩ := hp2
        obtain ⟨z', rfl, hz'⟩ : ∃ z' : Int, z = .int z' ∧ (z' = 0 ∨ z' = 1) := by
          have := List.mem_of_getElem? hz
          simp only [List.mem_cons, List.not_mem_nil, or_false] at this
          rcases this with rfl | rfl
          · exact ⟨_, rfl, b1⟩
          · exact ⟨_, rfl, b2⟩
        refine ⟨rfl, _, rfl, by show 2 ≤ sizeLine; decide, fun tp htp => ⟨tp, _, rfl, .inr (SqT.of upd_same), rfl, rfl, _, rfl, ?_⟩⟩
        have : (!inV (V.int z') [V.int 0, V.int 1]) = false := by
          rcases hz' with rfl | rfl <;> rfl
        rw [if_pos (rfl : true = true), this]
        exact iteF ⟨Ex.new htp _ _ w1, w2.trans (Ex.new htp)⟩
      obtain ⟨w1, w2⟩ := hp2
      have e39 := e38.trans w2
      refine ⟨by show 0 ≤ sizeLine; decide, fun ee hee => ⟨.list [], .list [], .lst (SqL.of (Ex.new hee _ _ w1)) .nil, .lst (SqL.of upd_same) .nil, rfl, rfl, false, by rw [eqv_nil]; rfl, iteF ?_⟩⟩
      have e310 := e39.trans (Ex.new (o := .lst []) hee)
      generalize upd H9 ee (.lst []) = H10 at *
      refine ⟨_, rfl, _, rfl, x, dx, _, rfl, X e310, no, _, rfl, _, _, rfl, rfl, _, rfl, x, dx, q, v0, m, f, a - 1, b, rfl, X e310, RQ e310, by omega, by omega, by omega, by omega, fun H11 e11 => ⟨_, _, rfl, rfl, ?_⟩⟩
      have e311 := e310.trans e11
      refine ⟨_, rfl, x, dx, _, rfl, X e311, no, _, rfl, _, rfl, _, _, rfl, rfl, x, dx, q, v0, m, f, a, b - 1, rfl, X e311, RQ e311, by omega, by omega, by omega, by omega, fun H12 e12 => ⟨_, _, rfl, rfl, ?_⟩⟩
      have e312 := e311.trans e12
      refine ⟨_, rfl, x, dx, _, rfl, X e312, no, _, rfl, _, _, rfl, rfl, _, rfl, _, _, rfl, rfl, x, dx, q, v0, m, f, a - 1, b - 1, rfl, X e312, RQ e312, by omega, by omega, by omega, by omega, fun H13 e13 => ⟨_, _, rfl, rfl, ?_⟩⟩
      have e313 := e312.trans e13
      have cor : cntR m f a b - cntR m f (a - 1) b - cntR m f a (b - 1) + cntR m f (a - 1) (b - 1) = if f a = -b then 1 else 0 := by
        have c1 := cnt_step m1 pf a b
        have c2 := cnt_step m1 pf a (b - 1)
        by_cases z : f a = -b
        · rw [if_pos z]
          rw [if_pos (by omega)] at c1
          rw [if_neg (by omega)] at c2
          omega
        · rw [if_neg z]
          by_cases z2 : -b ≤ f a
          · rw [if_pos z2] at c1
            rw [if_pos (by omega)] at c2
            omega
          · rw [if_neg z2] at c1
            rw [if_neg (by omega)] at c2
            omega
      dsimp only
      rw [cor]
      refine ⟨_, rfl, x, dx, _, rfl, X e313, no2, _, rfl, _, rfl, x, dx, q, v0, m, f, a, b, rfl, X e313, RQ e313, pf, by omega, by omega, by omega, by omega, fun H14 e14 => ?_⟩
      have e314 := e313.trans e14
      refine ⟨_, rfl, rfl, false, by simp, iteF ?_⟩
      refine ⟨_, rfl, _, rfl, _, rfl, p, m, f, a, rfl, RP e314, pf, fun H15 e15 => ?_⟩
      refine ⟨_, rfl, _, _, rfl, rfl, rfl, .inr ⟨_, rfl, rfl, false, ?_, iteF ?_⟩⟩
      · by_cases z : f a = -b
        · rw [if_pos z, decide_eq_true (congrArg V.int (show f a = 0 - b by omega))]
          simp
        · have z2 : ¬ V.int (f a) = V.int (0 - b) := fun y => z (by have y2 : f a = 0 - b := V.int.inj y; omega)
          rw [if_neg z, decide_eq_false z2]
          simp
      · have e315 := e314.trans e15
        exact ⟨_, _, _, _, _, _, rfl, hd3.ex e315, k03.trans (Keep.ex e315)⟩
    · obtain ⟨y4, y5, y6, y7, y8, y9, rfl, hd', k'⟩ := hW
      exact kQ _ hd' k'
end
end K1

set_option exponentiation.threshold 400
namespace K1
open PySem PySem.Spec PyProof.Rows L2 Evl HM LX MP ZW
/-- a row that stands at q -/
structure RowOk (m : Nat) (ns : List Int) : Prop where
  len : ns.length = m
  perm : PermR m (fOf ns)
  bd : ∀ z ∈ ns, -(10 ^ 57) < z ∧ z < 10 ^ 57
theorem rnd_ok {m : Nat} {ns : List Int} {t : Int} (l : ns.length = m) (m10 : m ≤ 10) (R : Rnd ns t 12) (t0 : -10 ≤ t) (t1 : t ≤ 10) : RowOk m ns := ⟨l, by rw [← l]; exact R.perm, fun z hz => by
  obtain ⟨r, hr, rfl⟩ := List.getElem_of_mem hz
  have a := R.near (r : Int)
  rw [fOf_nat hr, List.getD_eq_getElem?_getD, List.getElem?_eq_getElem hr] at a
  have a : -12 ≤ ns[r] - (r : Int) - t ∧ ns[r] - (r : Int) - t ≤ 12 := a
  constructor <;> omega⟩
theorem RowOk.per {m : Nat} {ns : List Int} (o : RowOk m ns) : Per m (fOf ns) := by
  have := fOf_per ns
  rw [o.len] at this
  exact this
theorem RowOk.fb {m : Nat} {ns : List Int} (o : RowOk m ns) (i : Nat) (hi : i < m) : -(10 ^ 57) < fOf ns (i : Int) ∧ fOf ns (i : Int) < 10 ^ 57 := fOf_bd o.bd i (by rw [o.len]; exact hi)
theorem RowOk.val {m : Nat} {ns : List Int} (o : RowOk m ns) (hm : 1 ≤ m) (m10 : m ≤ 10) (a : Int) : a - 10 ^ 57 - 10 ≤ fOf ns a ∧ fOf ns a ≤ a + 10 ^ 57 + 10 := by
  obtain ⟨r, hr, rm⟩ := rest_at hm a
  have v := rest_val o.per a
  rw [← hr] at v
  have := o.fb r rm
  omega
section
variable {P : Program} {w : World} {K : PySem.W.Frag} {mg : Str → Option Value} {base : Heap} {C : Addr}
def spRight : Sp := fun vs H Q _ => ∃ (d : Addr), vs = [.ref d] ∧ Dice H d ∧ ∀ H', Dice H' d → Keep d H H' → Q (.bl true) H'
theorem ok_right (T : Txt K mg) (R : RTxt K mg C) {f : Addr} {fd : FuncData} (D : DefAt K mg "_law_right" sLRight ["_law_dice_here"] f fd) : FnOk P w K mg base CX0 7 f fd ["_law_dice_here"] spRight := by
  refine D.F.ok scLRight (fun vs H Q E h => ?_) (fun cdv A outer s₀ H vs Q E hr h => ?_)
  · obtain ⟨d, rfl, _⟩ := h
    rfl
  · obtain ⟨d, rfl, hd, kQ⟩ := h
    obtain ⟨g0, gd0, M0, F0, b0⟩ := R.init
    obtain ⟨g3, gd3, m3, F3, b3⟩ := R.counted
    obtain ⟨g4, gd4, m4, F4, b4⟩ := R.second
    obtain ⟨g5, gd5, m5, F5, b5⟩ := R.invert
    obtain ⟨f1, fd1, D1⟩ := T.d_l_roll
    obtain ⟨f2, fd2, D2⟩ := T.d_l_counted
    obtain ⟨f3, fd3, D3⟩ := T.d_l_one_of
    obtain ⟨f4, fd4, D4⟩ := T.d_l_value
    obtain ⟨f5, fd5, D5⟩ := T.d_l_shift
    obtain ⟨f6, fd6, D6⟩ := T.d_l_small_right
    obtain ⟨f7, fd7, D7⟩ := T.d_l_great_round
    obtain ⟨f8, fd8, D8⟩ := T.d_l_round
    have hr1 : Room 1 _ := hr.mono (by decide)
    have hr2 : Room 2 _ := hr.mono (by decide)
    have hr3 : Room 3 _ := hr.mono (by decide)
    have hr4 : Room 4 _ := hr.mono (by decide)
    refine ⟨_, pss_cons (ps_set (i := 1) scLRight.nd rfl (.inl rfl) (pe_op op_add pe_int (pe_call (ok_roll T D1) hr1 (by rfl) D1.g D1.F.kp D1.b .nil pass0 (pa_cons (pv 0) (pa_cons pe_int pa_nil)))))
      (pss_cons (ps_par (i := 2) (j := 3) (by rfl) scLRight.nd rfl rfl (by decide) rfl rfl (pa_cons (pe_call (ok_lround T D8) hr3 (by rfl) D8.g D8.F.kp D8.b .nil pass0 (pa_cons (pv 0) (pa_cons (pv 1) (pa_cons pe_int pa_nil)))) (pa_cons (pe_call (ok_lgreat T D7) hr3 (by rfl) D7.g D7.F.kp D7.b .nil pass0 (pa_cons (pv 0) (pa_cons (pv 1) pa_nil))) pa_nil)) (by rfl))
      (pss_cons (ps_if (pt_not (pt_val (pe_call (ok_small T R D6) hr4 (by rfl) D6.g D6.F.kp D6.b .nil pass0 (pa_cons (pv 0) (pa_cons (pe_make M0 (ok_rinit T R F0) hr4 (by rfl) R.mgC b0 .nil pass0 (pa_cons (pv 2) pa_nil)) (pa_cons (pv 2) pa_nil)))))) (pss_one (ps_ret pe_bl)) pss_nil)
      (pss_cons (ps_for PassesOwn.never rfl (pi_tup (pe_tup (pa_cons (pv 2) (pa_cons (pv 3) pa_nil)))) (pg_name (i := 4) scLRight.nd rfl (.inl rfl))
        (pss_cons (ps_asg (pe_tup (pa_cons (pe_make M0 (ok_rinit T R F0) hr4 (by rfl) R.mgC b0 .nil pass0 (pa_cons (pv 4) pa_nil)) (pa_cons (pe_call (ok_lshift T D5) hr1 (by rfl) D5.g D5.F.kp D5.b .nil pass0 (pa_cons (pv 4) pa_nil)) pa_nil))) (pg_tup (by rfl) (pgs_cons (pg_name (i := 5) scLRight.nd rfl (.inl rfl)) (pgs_cons (pg_name (i := 6) scLRight.nd rfl (.inr rfl)) pgs_nil))))
      (pss_cons (ps_set (i := 8) scLRight.nd rfl (.inl rfl) (pe_callB (cr_max rfl) (by rfl) T.z_max (by decide +kernel) (pa_cons (pe_lc (own := [("_law_i", 14), ("_law_value_here", 7)]) (g := gTup K 2 (gCons (gName 14) (gCons (gName 7) gNil))) (tt := tYes) rfl scLRight.nd (EnT.pi_enumT (by rfl) T.z_enumerate (pa_cons (pv 4) pa_nil))
        (blkOk_by (N := nLRight) (sc := defScope sLRight) (by decide +kernel)) (fun _ _ _ _ _ => (pg_tup (by rfl) (pgs_cons (pg_name (i := 14) scLRight.nd rfl (.inl rfl)) (pgs_cons (pg_name (i := 7) scLRight.nd rfl (.inl rfl)) pgs_nil)))) (fun _ _ _ _ _ => pts_nil)
        (fun _ _ _ _ _ => (pe_callB call_abs (by rfl) T.z_abs (by decide +kernel) (pa_cons (pe_op op_sub (pe_op op_sub (pv 7) (pv 14)) (pv 6)) pa_nil)))) pa_nil)))
      (pss_one (ps_for PassesOwn.never rfl (pi_range1 (by rfl) T.z_range (pa_cons pe_int pa_nil)) (pg_name (i := 9) scLRight.nd rfl (.inl rfl))
        (pss_cons (ps_set (i := 10) scLRight.nd rfl (.inl rfl) (pe_op op_mul (pe_op op_sub (pe_call (ok_roll T D1) hr1 (by rfl) D1.g D1.F.kp D1.b .nil pass0 (pa_cons (pv 0) (pa_cons (pe_op op_powW pe_int pe_int) pa_nil))) (pe_op op_powW pe_int pe_int)) (pe_call (ok_one_of T D3) hr2 (by rfl) D3.g D3.F.kp D3.b .nil pass0 (pa_cons (pv 0) (pa_cons (pe_lst (pa_cons pe_int (pa_cons (pe_op op_powW pe_int pe_int) pa_nil))) pa_nil)))))
      (pss_cons (ps_set (i := 7) scLRight.nd rfl (.inl rfl) (pe_call (ok_lvalue T D4) hr1 (by rfl) D4.g D4.F.kp D4.b .nil pass0 (pa_cons (pv 4) (pa_cons (pv 10) pa_nil))))
      (pss_cons (ps_set (i := 11) scLRight.nd rfl (.inl rfl) (pe_op op_add (pe_op op_sub pe_int (pv 7)) (pe_call (ok_one_of T D3) hr2 (by rfl) D3.g D3.F.kp D3.b .nil pass0 (pa_cons (pv 0) (pa_cons (pe_lst (pa_cons pe_int (pa_cons pe_int (pa_cons (pe_un un_neg pe_int) (pa_cons pe_int pa_nil))))) pa_nil)))))
      (pss_cons (ps_if (PW.pt (pw_or (pt_cmpR op_ne (pe_meth (pv 5) R.cl m3 (ok_rcounted T R F3) hr3 b3 .nil pass0 (pa_cons (pv 10) (pa_cons (pv 11) pa_nil))) (pe_call (ok_lcounted T D2) hr1 (by rfl) D2.g D2.F.kp D2.b .nil pass0 (pa_cons (pv 4) (pa_cons (pv 10) (pa_cons (pv 11) pa_nil)))) (nomark _))
          (pw_or1 (pt_cmpR op_ne (pe_meth (pv 5) R.cl m4 (ok_rsecond T R F4) hr3 b4 .nil pass0 (pa_cons (pv 10) (pa_cons (pv 11) pa_nil))) (pe_callTy call_int1 (by rfl) T.z_int (by decide +kernel) (pa_cons (pe_cmpR op_eq (pe_op op_add (pv 11) (pv 7)) pe_int (nomark _)) pa_nil)) (nomark _))))) (pss_one (ps_ret pe_bl)) pss_nil)
      (pss_cons (ps_if (pt_cmpR op_ne (pe_meth (pe_un (OW.un_invOwn m5.at_ m5.fn (by have z := (ok_rinvert T R F5 (P := P) (w := w) (base := base)).raw b5 .nil; exact z) hr pass0) (pv 5)) R.cl m3 (ok_rcounted T R F3) hr3 b3 .nil pass0 (pa_cons (pv 10) (pa_cons (pv 11) pa_nil))) (pe_op op_sub (pe_op op_add (pe_op op_add (pe_op op_add (pe_meth (pv 5) R.cl m3 (ok_rcounted T R F3) hr3 b3 .nil pass0 (pa_cons (pe_op op_sub (pe_op op_sub pe_int (pv 11)) pe_int) (pa_cons (pe_op op_sub (pe_op op_sub pe_int (pv 10)) pe_int) pa_nil))) (pv 10)) (pv 11)) pe_int) (pv 6)) (nomark _)) (pss_one (ps_ret pe_bl)) pss_nil)
      (pss_cons (ps_par (i := 12) (j := 13) (by rfl) scLRight.nd rfl rfl (by decide) rfl rfl (pa_cons (pe_op op_sub (pe_op op_sub (pe_op op_sub (pe_op op_sub (pe_un un_neg pe_int) (pv 6)) (pv 8)) (pv 10)) (pe_call (ok_roll T D1) hr1 (by rfl) D1.g D1.F.kp D1.b .nil pass0 (pa_cons (pv 0) (pa_cons pe_int pa_nil)))) (pa_cons (pe_op op_add (pe_op op_sub (pe_op op_sub (pe_op op_sub (pv 8) pe_int) (pv 6)) (pv 10)) (pe_call (ok_roll T D1) hr1 (by rfl) D1.g D1.F.kp D1.b .nil pass0 (pa_cons (pv 0) (pa_cons pe_int pa_nil)))) pa_nil)) (by rfl))
      (pss_one (ps_if (PW.pt (pw_or (pt_cmpR op_ne (pe_meth (pv 5) R.cl m3 (ok_rcounted T R F3) hr3 b3 .nil pass0 (pa_cons (pv 10) (pa_cons (pv 12) pa_nil))) pe_int (nomark _))
          (pw_or1 (pt_cmpR op_ne (pe_meth (pv 5) R.cl m3 (ok_rcounted T R F3) hr3 b3 .nil pass0 (pa_cons (pv 10) (pa_cons (pv 13) pa_nil))) (pe_op op_add (pe_op op_add (pe_op op_add (pv 10) (pv 13)) pe_int) (pv 6)) (nomark _))))) (pss_one (ps_ret pe_bl)) pss_nil)))))))))))))
      (pss_one (ps_ret pe_bl))))), ?_⟩
    refine ⟨_, rfl, d, _, rfl, hd, by decide, by decide, fun r H1 r0 r1 hd1 k1 => ⟨_, _, rfl, rfl, ?_⟩⟩
    obtain ⟨m, hm⟩ : ∃ m : Nat, (m : Int) = 1 + r := ⟨(1 + r).toNat, by omega⟩
    dsimp only
    rw [← hm]
    refine ⟨_, rfl, _, rfl, d, m, rfl, hd1, by omega, by omega, fun q1 ns1 t H2 hq1 nl1 Rn t0 t1 hd2 k2 => ⟨_, rfl, _, rfl, d, m, rfl, hd2, by omega, by omega, fun q2 ns2 H3 hq2 nl2 pr2 nb2 hd3 k3 => ⟨_, _, rfl, ?_⟩⟩⟩
    have m1 : 1 ≤ m := by omega
    have m10 : m ≤ 10 := by omega
    have O1 := rnd_ok nl1 m10 Rn t0 t1
    have O2 : RowOk m ns2 := ⟨nl2, by have := pr2; exact this, nb2⟩
    have hq13 := k3.tup hd2 hq1
    have k03 := (k1.trans k2).trans k3
    have mk : ∀ {H' : Hp} {q : Addr} {ns : List Int}, H' q = some (.tup (ns.map V.int)) → RowOk m ns → RowAt H' q m (fOf ns) := fun h o => by
      have := row_at h (by rw [o.len]; exact m1) (by rw [o.len]; omega)
      rw [o.len] at this
      exact this
    refine ⟨_, rfl, _, rfl, fun x dx nx ndx nex => ?_⟩
    have eX : Ex H3 (upd (upd H3 dx (.own x)) x (.ins C dx [])) := fun b o e => by
      rw [upd_ne (ne_of_none e nx), upd_ne (ne_of_none e ndx)]
      exact e
    refine ⟨x, dx, q1, m, fOf ns1, rfl, upd_same, mk (eX _ _ hq13) O1, fun i hi => by have := O1.fb i hi; constructor <;> omega, O1.perm, fun H4 kx hx4 => ⟨rfl, ?_⟩⟩
    have e34 : Ex H3 H4 := fun b o e => kx _ _ (ne_of_none e nx) (eX _ _ e)
    have hd4 := hd3.ex e34
    have hq14 := e34 _ _ hq13
    have R14 : RowAt H4 q1 ns1.length (fOf ns1) := by
      rw [nl1]
      exact mk hq14 O1
    refine ⟨_, rfl, d, x, dx, q1, q1, .non, ns1, t, rfl, hd4, hx4, R14, R14, Rn, t0, t1, fun H5 hd5 k5 => ⟨true, rfl, iteF ?_⟩⟩
    have hq15 := k5.tup hd4 hq14
    have hq25 := k5.tup hd4 (e34 _ _ hq2)
    have k05 := (k03.trans (Keep.ex e34)).trans k5
    refine ⟨_, rfl, _, rfl, by show 2 ≤ sizeLine; decide, fun tp htp => ⟨tp, rfl, ⟨_, SqT.of upd_same⟩, ?_⟩⟩
    have xt := Ex.new (o := .tup [V.ref q1, .ref q2]) htp
    have gt : (upd H5 tp (.tup [V.ref q1, .ref q2])) tp = some (.tup [V.ref q1, .ref q2]) := upd_same
    have hq16 := xt _ _ hq15
    have hq26 := xt _ _ hq25
    have hd6 := hd5.ex xt
    have k06 := k05.trans (Keep.ex xt)
    generalize upd H5 tp (.tup [V.ref q1, .ref q2]) = H6 at *
    refine for_tup (K := K) (a := tp) (xs := [V.ref q1, .ref q2]) (fun i σ' H' => ∃ (y4 y5 y6 y7 y8 y9 y10 y11 y12 y13 : Option V), σ' = [some (.ref d), some (.int (m : Int)), some (.ref q1), some (.ref q2), y4, y5, y6, y7, y8, y9, y10, y11, y12, y13, none] ∧ Dice H' d ∧ Keep d H6 H') ⟨_, _, _, _, _, _, _, _, _, _, rfl, hd6, Keep.refl _ _⟩ (fun i σ' H' _ hW => ?_) (fun i y σ' H' hy hW => ?_) (fun σ' H' hW => ?_)
    · obtain ⟨_, _, _, _, _, _, _, _, _, _, _, _, kk⟩ := hW
      exact SqT.of (kk.tup hd6 gt)
    · obtain ⟨y4, y5, y6, y7, y8, y9, y10, y11, y12, y13, rfl, hd', k'⟩ := hW
      obtain ⟨q, ns, rfl, hq, O⟩ : ∃ (q : Addr) (ns : List Int), y = .ref q ∧ H' q = some (.tup (ns.map V.int)) ∧ RowOk m ns := by
        have := List.mem_of_getElem? hy
        simp only [List.mem_cons, List.not_mem_nil, or_false] at this
        rcases this with rfl | rfl
        · exact ⟨_, _, rfl, k'.tup hd6 hq16, O1⟩
        · exact ⟨_, _, rfl, k'.tup hd6 hq26, O2⟩
      obtain ⟨f, hf⟩ : ∃ f, f = fOf ns := ⟨_, rfl⟩
      have pf := O.per
      have pr := O.perm
      have fb := O.fb
      have fv := O.val m1 m10
      rw [← hf] at pf pr fv
      have fb : ∀ i : Nat, i < m → -(10 ^ 57) < f (i : Int) ∧ f (i : Int) < 10 ^ 57 := fun i hi => by rw [hf]; exact fb i hi
      have RA : ∀ {H2}, H2 q = some (.tup (ns.map V.int)) → RowAt H2 q m f := fun h => by rw [hf]; exact mk h O
      refine ⟨_, rfl, fun x dx nx ndx nex => ?_⟩
      have eX : Ex H' (upd (upd H' dx (.own x)) x (.ins C dx [])) := fun b o e => by
        rw [upd_ne (ne_of_none e nx), upd_ne (ne_of_none e ndx)]
        exact e
      refine ⟨x, dx, q, m, f, rfl, upd_same, RA (eX _ _ hq), fun i hi => by have := fb i hi; constructor <;> omega, pr, fun H7 kx hx7 => ⟨rfl, ?_⟩⟩
      have e7 : Ex H' H7 := fun b o e => kx _ _ (ne_of_none e nx) (eX _ _ e)
      have hd7 := hd'.ex e7
      have hq7 := e7 _ _ hq
      refine ⟨_, rfl, q, m, f, rfl, RA hq7, pr, fun H8 e8 => ⟨by show 2 ≤ sizeLine; decide, fun t2 ht2 => ?_⟩⟩
      obtain ⟨sf, hsf⟩ : ∃ sf, sf = shf m f := ⟨_, rfl⟩
      rw [← hsf]
      have x2 := Ex.new (o := .tup [.ref x, .int sf]) ht2
      have g2 : (upd H8 t2 (.tup [.ref x, .int sf])) t2 = some (.tup [.ref x, .int sf]) := upd_same
      have e79 := e8.trans x2
      generalize upd H8 t2 (.tup [.ref x, .int sf]) = H9 at *
      refine ⟨t2, _, rfl, SqT.of g2, rfl, .ref x, [_], rfl, _, [], rfl, rfl, ?_⟩
      have hq9 := e79 _ _ hq7
      have hx9 := e79 _ _ hx7
      have hd9 := hd7.ex e79
      have k9 := (k'.trans (Keep.ex e7)).trans (Keep.ex e79)
      have ll : ((rowF m f).map V.int).length = m := by rw [List.length_map, rowF_len]
      obtain ⟨g, hg⟩ : ∃ g : Int → Int, g = fun x => ab (f x - x - sf) := ⟨_, rfl⟩
      refine ⟨_, rfl, q, _, rfl, SqT.of (RA hq9).1, fun Dl hD => ?_⟩
      refine lc_enumT (K := K) (a := q) (xs := (rowF m f).map V.int) (fun i H' => H' Dl = some (.lst (((List.range i).map fun (x : Nat) => g (x : Int)).map V.int)) ∧ Ex H9 H') ⟨upd_same, Ex.new hD⟩ (fun i H' hp2 => SqT.of (RA (hp2.2 _ _ hq9)).1) (fun i z Tp H' hz hp2 nT => ?_) (fun H10 hp2 => ?_)
      · obtain ⟨w1, w2⟩ := hp2
        have hi : i < m := by
          have := (List.getElem?_eq_some_iff.mp hz).1
          rw [ll] at this
          exact this
        rw [rowF_get hi] at hz
        obtain rfl := Option.some.inj hz
        have eT := Ex.new (o := .tup [.int (i : Nat), .int (f (i : Int))]) nT
        refine ⟨Tp, _, rfl, SqT.of upd_same, rfl, .int (i : Nat), [_], rfl, _, [], rfl, rfl, rfl, ?_⟩
        dsimp only [tYes]
        rw [if_pos rfl]
        refine ⟨_, rfl, _, rfl, _, _, rfl, rfl, _, rfl, _, _, rfl, rfl, _, rfl, _, eT _ _ w1, ?_, ?_, Ex.mut (w2.trans eT) hD⟩
        · rw [List.length_map, List.length_map, List.length_range]
          exact small1000 (by omega)
        · rw [upd_same, row_snoc, List.map_append, hg, ← ab_if]
          rfl
      obtain ⟨w1, w2⟩ := hp2
      rw [ll] at w1
      refine ⟨Dl, _, rfl, SqL.of w1, by rw [List.length_map, List.length_range]; omega, fun W hW1 hW2 => ?_⟩
      have ka : ∀ y : Int, -ab y ≤ y ∧ y ≤ ab y := fun y => by unfold ab; omega
      have Wb : ∀ r : Nat, r < m → -W ≤ f (r : Int) - (r : Int) - sf ∧ f (r : Int) - (r : Int) - sf ≤ W := fun r hr => by
        have a := hW2 (g (r : Int)) (List.mem_map.mpr ⟨r, List.mem_range.mpr hr, rfl⟩)
        rw [hg] at a
        have a : ab (f (r : Int) - (r : Int) - sf) ≤ W := a
        have := ka (f (r : Int) - (r : Int) - sf)
        omega
      have sfb : -(10 ^ 57 + 20) ≤ sf ∧ sf ≤ 10 ^ 57 + 20 := by
        have a := cnt_high m1 pr (a := 0) (b := 10 ^ 57 + 20) fun r hr => by have := fb r hr; omega
        have n1 : 0 ≤ cntR m f 0 (10 ^ 57 + 20) := by
          unfold cntR
          exact sumL_nn fun _ _ => by omega
        have c := shf_sum pr
        rw [← hsf] at a c
        have d1 : (sumL (List.range m) fun (r : Nat) => f (r : Int)) ≤ sumL (List.range m) fun (_ : Nat) => (10 ^ 57 : Int) * 1 := sumL_le fun r hr => by have := fb r (List.mem_range.mp hr); omega
        have d2 : (sumL (List.range m) fun (_ : Nat) => (-(10 ^ 57) : Int) * 1) ≤ sumL (List.range m) fun (r : Nat) => f (r : Int) := sumL_le fun r hr => by have := fb r (List.mem_range.mp hr); omega
        have d3 : 0 ≤ sumL (List.range m) fun (r : Nat) => (r : Int) := sumL_nn fun _ _ => by omega
        have d4 : (sumL (List.range m) fun (r : Nat) => (r : Int)) ≤ sumL (List.range m) fun (_ : Nat) => (10 : Int) * 1 := sumL_le fun r hr => by have := List.mem_range.mp hr; omega
        rw [sumL_mul, sumL_one, List.length_range] at d1 d2 d4
        constructor
        · refine Int.le_of_mul_le_mul_left (a := (m : Int)) ?_ (by omega)
          rw [Int.mul_comm (m : Int) (-(10 ^ 57 + 20))]
          omega
        · refine Int.le_of_mul_le_mul_left (a := (m : Int)) ?_ (by omega)
          rw [Int.mul_comm (m : Int) (10 ^ 57 + 20)]
          omega
      have WB : 0 ≤ W ∧ W ≤ 10 ^ 58 := by
        obtain ⟨r, hr, e⟩ := List.mem_map.mp hW1
        have hr := List.mem_range.mp hr
        have := fb r hr
        rw [hg] at e
        have e : ab (f (r : Int) - (r : Int) - sf) = W := e
        unfold ab at e
        omega
      have hd10 := hd9.ex w2
      have hq10 := w2 _ _ hq9
      have hx10 := w2 _ _ hx9
      have k10 := k9.trans (Keep.ex w2)
      refine ⟨_, rfl, by decide, by decide, ?_⟩
      refine for_range (lo := 0) (n := (4 : Int).toNat) (fun i σ' H' => ∃ (y7 y9 y10 y11 y12 y13 : Option V), σ' = [some (.ref d), some (.int (m : Int)), some (.ref q1), some (.ref q2), some (.ref q), some (.ref x), some (.int sf), y7, some (.int W), y9, y10, y11, y12, y13, none] ∧ Dice H' d ∧ Keep d H10 H') ⟨_, _, _, _, _, _, rfl, hd10, Keep.refl _ _⟩ (fun i σ' H' hi hW => ?_) (fun σ' H' hW => ?_)
      · obtain ⟨y7, y9, y10, y11, y12, y13, rfl, hd', kk⟩ := hW
        refine ⟨_, rfl, _, _, rfl, rfl, ⟨by decide, by decide⟩, d, _, rfl, hd', by decide, by decide, fun u H11 u0 u1 hd11 k11 => ⟨_, _, rfl, rfl, ⟨by decide, by decide⟩, _, _, rfl, rfl, ?_⟩⟩
        have u1' : u < 1000000000 := u1
        refine ⟨_, rfl, _, _, rfl, rfl, ⟨by decide, by decide⟩, by show 2 ≤ sizeLine; decide, fun bl hbl => ?_⟩
        have xb := Ex.new (o := .lst [V.int 1, .int ((10 : Int) ^ (20 : Int).toNat)]) hbl
        have gb : (upd H11 bl (.lst [V.int 1, .int ((10 : Int) ^ (20 : Int).toNat)])) bl = some (.lst [V.int 1, .int ((10 : Int) ^ (20 : Int).toNat)]) := upd_same
        have nbd : bl ≠ d := (hd11.ne_new hbl).symm
        have hdB := hd11.ex xb
        have kB := (kk.trans k11).trans (Keep.ex xb)
        refine ⟨d, bl, _, rfl, hdB, gb, nbd, by show 1 ≤ 2; decide, by show 2 ≤ 1000; decide, fun z H12 hz hd12 k12 => ?_⟩
        obtain ⟨fr, rfl, f1, f2⟩ : ∃ t : Int, z = .int t ∧ 1 ≤ t ∧ t ≤ 10 ^ 20 := by
          simp only [List.mem_cons, List.not_mem_nil, or_false] at hz
          rcases hz with rfl | rfl
          · exact ⟨_, rfl, by decide, by decide⟩
          · exact ⟨_, rfl, by decide, by decide⟩
        obtain ⟨a, ha⟩ : ∃ a : Int, a = (u - (10 : Int) ^ (8 : Int).toNat) * fr := ⟨_, rfl⟩
        have e8 : (10 : Int) ^ (8 : Int).toNat = 100000000 := rfl
        have ab : -(10 ^ 30) ≤ a ∧ a ≤ 10 ^ 30 := by
          rw [ha, e8]
          obtain ⟨e, he⟩ : ∃ e, e = u - 100000000 := ⟨_, rfl⟩
          rw [← he]
          have c1 := Int.mul_le_mul_of_nonneg_right (show e ≤ 1000000000 by omega) (show 0 ≤ fr by omega)
          have c2 := Int.mul_le_mul_of_nonneg_right (show -1000000000 ≤ e by omega) (show 0 ≤ fr by omega)
          omega
        have k12' := kB.trans k12
        have hq12 := k12'.tup hd10 hq10
        refine ⟨_, _, rfl, rfl, .inl ⟨by rw [e8]; omega, by rw [e8]; omega⟩, ?_⟩
        dsimp only
        rw [← ha]
        refine ⟨_, rfl, _, rfl, q, m, f, a, rfl, RA hq12, pf, fun H13 e13 => ?_⟩
        have hd13 := hd12.ex e13
        refine ⟨_, rfl, _, _, rfl, rfl, _, rfl, _, rfl, by show 4 ≤ sizeLine; decide, fun bl2 hbl2 => ?_⟩
        have xc := Ex.new (o := .lst [V.int 0, .int 1, .int (-1), .int 5]) hbl2
        have gc : (upd H13 bl2 (.lst [V.int 0, .int 1, .int (-1), .int 5])) bl2 = some (.lst [V.int 0, .int 1, .int (-1), .int 5]) := upd_same
        have nbd2 : bl2 ≠ d := (hd13.ne_new hbl2).symm
        have hdC := hd13.ex xc
        have kC := (k12'.trans (Keep.ex e13)).trans (Keep.ex xc)
        refine ⟨d, bl2, _, rfl, hdC, gc, nbd2, by show 1 ≤ 4; decide, by show 4 ≤ 1000; decide, fun z2 H14 hz2 hd14 k14 => ?_⟩
        obtain ⟨off, rfl, o1, o2⟩ : ∃ t : Int, z2 = .int t ∧ -1 ≤ t ∧ t ≤ 5 := by
          simp only [List.mem_cons, List.not_mem_nil, or_false] at hz2
          rcases hz2 with rfl | rfl | rfl | rfl
          · exact ⟨_, rfl, by decide, by decide⟩
          · exact ⟨_, rfl, by decide, by decide⟩
          · exact ⟨_, rfl, by decide, by decide⟩
          · exact ⟨_, rfl, by decide, by decide⟩
        obtain ⟨b, hb⟩ : ∃ b : Int, b = 0 - f a + off := ⟨_, rfl⟩
        have fa := fv a
        refine ⟨_, _, rfl, rfl, ?_⟩
        dsimp only
        rw [← hb]
        have k014 := kC.trans k14
        have hq14 := k014.tup hd10 hq10
        have ndx : x ≠ d := by
          obtain ⟨_, _, _, e⟩ := hd10
          exact ne_of hx10 e (by intro z; cases z)
        have hx14 := k014 _ _ ndx hx10
        have no := rf_no q .non (m := "counted") (by decide +kernel) (by decide +kernel)
        have no2 := rf_no q .non (m := "second") (by decide +kernel) (by decide +kernel)
        have X : ∀ {H2}, Ex H14 H2 → H2 x = some (.ins C dx (rf q .non)) := fun e => e _ _ hx14
        have RQ : ∀ {H2}, Ex H14 H2 → RowAt H2 q m f := fun e => RA (e _ _ hq14)
        refine ⟨_, rfl, x, dx, _, rfl, hx14, no, _, rfl, _, rfl, x, dx, q, .non, m, f, a, b, rfl, hx14, RQ (Ex.refl _), by omega, by omega, by omega, by omega, fun H15 e15 => ?_⟩
        refine ⟨_, rfl, _, rfl, _, rfl, q, m, f, a, b, rfl, RQ e15, fun H16 e16 => ⟨rfl, false, by simp, iteF ?_⟩⟩
        have e1416 := e15.trans e16
        refine ⟨_, rfl, x, dx, _, rfl, X e1416, no2, _, rfl, _, rfl, x, dx, q, .non, m, f, a, b, rfl, X e1416, RQ e1416, pf, by omega, by omega, by omega, by omega, fun H17 e17 => ?_⟩
        have e1417 := e1416.trans e17
        refine ⟨_, rfl, _, rfl, _, _, rfl, rfl, rfl, .inr ⟨_, rfl, rfl, false, ?_, iteF ?_⟩⟩
        · by_cases z : f a = -b
          · rw [if_pos z, decide_eq_true (congrArg V.int (show b + f a = 0 by omega))]
            simp
          · have z2 : ¬ V.int (b + f a) = V.int 0 := fun y => z (by have y2 : b + f a = 0 := V.int.inj y; omega)
            rw [if_neg z, decide_eq_false z2]
            simp
        refine ⟨_, rfl, x, dx, _, rfl, X e1417, x, dx, q, .non, m, f, rfl, X e1417, RQ e1417, pf, pr, fun i hi => by have := fb i hi; constructor <;> omega, fun yi dyi qi gi H18 e18 hyi hqi IV => ?_⟩
        refine ⟨yi, dyi, _, rfl, hyi, rf_no qi .non (m := "counted") (by decide +kernel) (by decide +kernel), _, rfl, _, rfl, yi, dyi, qi, .non, m, gi, a, b, rfl, hyi, hqi, by omega, by omega, by omega, by omega, fun H19 e19 => ?_⟩
        have e1419 := (e1417.trans e18).trans e19
        refine ⟨_, rfl, x, dx, _, rfl, X e1419, no, _, rfl, _, _, rfl, rfl, _, _, rfl, rfl, _, rfl, _, _, rfl, rfl, _, _, rfl, rfl, x, dx, q, .non, m, f, 0 - b - 1, 0 - a - 1, rfl, X e1419, RQ e1419, by omega, by omega, by omega, by omega, fun H20 e20 => ?_⟩
        have inv := cnt_inv m1 pf pr IV.per IV.back a b
        rw [← hsf] at inv
        refine ⟨_, rfl, _, _, rfl, rfl, _, rfl, _, _, rfl, rfl, _, _, rfl, rfl, _, rfl, _, _, rfl, rfl, rfl, false, ?_, iteF ?_⟩
        · rw [show 0 - b - 1 = -b - 1 by omega, show 0 - a - 1 = -a - 1 by omega, inv]
          simp
        have e1420 := e1419.trans e20
        have hd20 := hd14.ex e1420
        refine ⟨_, rfl, _, rfl, _, _, rfl, rfl, _, rfl, _, _, rfl, rfl, _, rfl, _, _, rfl, rfl, _, rfl, d, _, rfl, hd20, by decide, by decide, fun p9 H21 p90 p91 hd21 k21 => ⟨_, _, rfl, rfl, ?_⟩⟩
        refine ⟨_, rfl, _, _, rfl, rfl, _, rfl, _, _, rfl, rfl, _, rfl, _, _, rfl, rfl, _, rfl, d, _, rfl, hd21, by decide, by decide, fun p8 H22 p80 p81 hd22 k22 => ⟨_, _, rfl, rfl, _, _, rfl, ?_⟩⟩
        obtain ⟨lo, hlo⟩ : ∃ lo : Int, lo = -2 - sf - W - a - p9 := ⟨_, rfl⟩
        obtain ⟨hi', hhi⟩ : ∃ hi' : Int, hi' = W - 1 - sf - a + p8 := ⟨_, rfl⟩
        dsimp only
        rw [← hlo, ← hhi]
        have k2022 := k21.trans k22
        have hx22 := k2022 _ _ ndx (X e1420)
        have hq22 := k2022.tup hd20 (e1420 _ _ hq14)
        refine ⟨_, rfl, x, dx, _, rfl, hx22, no, _, rfl, _, rfl, x, dx, q, .non, m, f, a, lo, rfl, hx22, RA hq22, by omega, by omega, by omega, by omega, fun H23 e23 => ?_⟩
        rw [cnt_none m1 fun r hr => by have := Wb r hr; omega]
        refine ⟨rfl, false, by simp, iteF ?_⟩
        refine ⟨_, rfl, x, dx, _, rfl, e23 _ _ hx22, no, _, rfl, _, rfl, x, dx, q, .non, m, f, a, hi', rfl, e23 _ _ hx22, RA (e23 _ _ hq22), by omega, by omega, by omega, by omega, fun H24 e24 => ?_⟩
        rw [cnt_high m1 pr fun r hr => by have := Wb r hr; omega, ← hsf]
        refine ⟨_, rfl, _, rfl, _, _, rfl, rfl, _, _, rfl, rfl, _, rfl, _, _, rfl, rfl, rfl, false, by simp, iteF ?_⟩
        exact ⟨_, _, _, _, _, _, rfl, (hd22.ex e23).ex e24, (((k014.trans (Keep.ex e1420)).trans k2022).trans (Keep.ex e23)).trans (Keep.ex e24)⟩
      · obtain ⟨y7, y9, y10, y11, y12, y13, rfl, hd', kk⟩ := hW
        exact ⟨_, _, _, _, _, _, _, _, _, _, rfl, hd', k10.trans kk⟩
    · obtain ⟨y4, y5, y6, y7, y8, y9, y10, y11, y12, y13, rfl, hd', k'⟩ := hW
      exact kQ _ hd' (k06.trans k')
end
end K1

set_option exponentiation.threshold 400
namespace K1
open PySem PySem.Spec PyProof.Rows L2 Evl HM LX
theorem sql_keep {K : PySem.W.Frag} {H H1 H2 : Hp} {p a : Addr} {xs : List V} (h0 : H p = none) (e : Ex H H1) (k : Keep p H1 H2) (h : SqL K H a xs) : SqL K H2 a xs := by
  rcases h with (h | ⟨o, h⟩) | h
  · exact .inl (.inl (k _ _ (ne_of_none h h0) (e _ _ h)))
  · exact .inl (.inr ⟨o, k _ _ (ne_of_none h h0) (e _ _ h)⟩)
  · exact .inr h
section
variable {P : Program} {w : World} {K : PySem.W.Frag} {mg : Str → Option Value} {base : Heap}
def spLaw (K : PySem.W.Frag) : Sp := fun vs H Q _ => ∃ (a : Addr) (ns : List Int), vs = [.ref a] ∧ SqL K H a (ns.map V.int) ∧ ns.length ≤ 63 ∧ ∀ H', Q (.bl true) H'
theorem ok_law {C : Addr} (T : Txt K mg) (R : RTxt K mg C) {f : Addr} {fd : FuncData} (F : Fun K "law" "law" sLaw f fd) : FnOk P w K mg base CX0 8 f fd ["_law_script"] (spLaw K) := by
  refine F.ok scLaw (fun vs H Q E h => ?_) (fun cdv A outer s₀ H vs Q E hr h => ?_)
  · obtain ⟨a, ns, rfl, _⟩ := h
    rfl
  · obtain ⟨a, ns, rfl, hS, hlen, q⟩ := h
    obtain ⟨f1, fd1, D1⟩ := T.d_l_right
    obtain ⟨f2, fd2, D2⟩ := T.d_l_dice
    have hr1 : Room 1 _ := hr.mono (by decide)
    have hr7 : Room 7 _ := hr.mono (by decide)
    refine ⟨_, pss_cons (ps_for PassesOwn.never rfl (pi_range1 (by rfl) T.z_range (pa_cons (pe_callB (call_max2 rfl) (by rfl) T.z_max (by decide +kernel) (pa_cons pe_int (pa_cons (pe_callB (call_min2 rfl) (by rfl) T.z_min (by decide +kernel) (pa_cons pe_int (pa_cons (pe_callB call_len_seq (by rfl) T.z_len PySem.boot_len (pa_cons (pv 0) pa_nil)) pa_nil))) pa_nil))) pa_nil)) (pg_name (i := 1) scLaw.nd rfl (.inl rfl))
        (pss_one (ps_if (pt_not (pt_val (pe_call (ok_right T R D1) hr7 (by rfl) D1.g D1.F.kp D1.b .nil pass0 (pa_cons (pe_call (ok_dice T D2) hr1 (by rfl) D2.g D2.F.kp D2.b .nil pass0 (pa_cons (pv 0) (pa_cons (pv 1) pa_nil))) pa_nil)))) (pss_one (ps_ret pe_bl)) pss_nil)))
      (pss_one (ps_ret pe_bl)), ?_⟩
    refine ⟨_, rfl, a, _, rfl, .inl hS, _, _, rfl, _, _, rfl, _, rfl, ?_, ?_, for_range (lo := 0) (n := Int.toNat _) (fun i σ' H' => ∃ y1, σ' = [some (.ref a), y1] ∧ SqL K H' a (ns.map V.int)) ⟨_, rfl, hS⟩ (fun i σ' H' _ hp => ?_) (fun σ' H' hp => ?_)⟩
    · first | omega | (split <;> omega) | (split <;> split <;> omega)
    · rw [List.length_map]
      first | omega | (split <;> omega) | (split <;> split <;> omega)
    · obtain ⟨y1, rfl, hS'⟩ := hp
      refine ⟨_, rfl, _, rfl, a, ns, i, ?_, hS', fun d H1 hp0 e1 hd1 => ?_⟩
      · rw [Int.zero_add]
        rfl
      refine ⟨d, rfl, hd1, fun H2 hd2 k2 => ⟨true, rfl, iteF ?_⟩⟩
      exact ⟨_, rfl, sql_keep hp0 e1 k2 hS'⟩
    · obtain ⟨y1, rfl, hS'⟩ := hp
      exact q _
end
end K1

namespace K1
open PySem PySem.Spec PyProof.Rows L2
/-- what a def of the text leaves -/
theorem mk_def {K : PySem.W.Frag} {h : Heap} {mg : Str → Option Value} {x : Str} {st : Stmt} {ps : List Str} {f : Addr} {oc : Value} {od an : Option Addr} {osl : Array (Option Value)} {kV doc pm cdv ct : Value} (X : K.In h) (G : h.Ns mainGlobals mg)
    (a : PySem.W.nsIn K mainGlobals x = some (some (.ref f))) (l : K.lookup f = some ⟨oc, od, .func (PySem.W.fnOf x x (defArgs st) (defBody st) (defScope st) .none kV doc pm an cdv ct), osl⟩) (c : PySem.W.codeIn K cdv x = true) (k : PySem.W.keepIn K (.ref f) = true)
    (b : ∀ (kV doc pm : Value) (an : Option Addr) (cdv ct : Value) (us : List Value), us.length = ps.length → bindArgs (PySem.W.fnOf x x (defArgs st) (defBody st) (defScope st) .none kV doc pm an cdv ct) ⟨us, []⟩ = pure (ps.zip us)) :
    ∃ f fd, DefAt K mg x st ps f fd := ⟨f, _, ⟨fun_mk (st := st) l c k, PySem.W.mg_of X G a, (fun_mk (st := st) l c k).binds b⟩⟩
theorem all_mk {P : Program} {w : World} {K : PySem.W.Frag} {h : Heap} {mg : Str → Option Value} {fa : Addr} (X : K.In h) (G : h.Ns mainGlobals mg) (hfa : mg "law" = some (.ref fa)) (vBOUND : ∃ t, mg "BOUND" = some (.int (10 ^ 60) t))
    {tDIGITS tMAX_ROUND : Tok} (gDIGITS : PySem.W.nsIn K mainGlobals "DIGITS" = some (some (.int 60 tDIGITS))) (gMAX_ROUND : PySem.W.nsIn K mainGlobals "MAX_ROUND" = some (some (.int 60 tMAX_ROUND)))
    (z_abs : PySem.W.nsIn K mainGlobals "abs" = some none) (z_all : PySem.W.nsIn K mainGlobals "all" = some none) (z_bool : PySem.W.nsIn K mainGlobals "bool" = some none) (z_enumerate : PySem.W.nsIn K mainGlobals "enumerate" = some none) (z_int : PySem.W.nsIn K mainGlobals "int" = some none) (z_isinstance : PySem.W.nsIn K mainGlobals "isinstance" = some none) (z_len : PySem.W.nsIn K mainGlobals "len" = some none) (z_list : PySem.W.nsIn K mainGlobals "list" = some none) (z_max : PySem.W.nsIn K mainGlobals "max" = some none) (z_min : PySem.W.nsIn K mainGlobals "min" = some none) (z_range : PySem.W.nsIn K mainGlobals "range" = some none) (z_sorted : PySem.W.nsIn K mainGlobals "sorted" = some none) (z_sum : PySem.W.nsIn K mainGlobals "sum" = some none) (z_tuple : PySem.W.nsIn K mainGlobals "tuple" = some none)
    {f0 : Addr} {oc0 : Value} {od0 an0 : Option Addr} {sl0 : Array (Option Value)} {kV0 dc0 pm0 cd0 ct0 : Value}
    (a0 : PySem.W.nsIn K mainGlobals "is_integer" = some (some (.ref f0))) (l0 : K.lookup f0 = some ⟨oc0, od0, .func (PySem.W.fnOf "is_integer" "is_integer" (defArgs sIsInteger) (defBody sIsInteger) (defScope sIsInteger) .none kV0 dc0 pm0 an0 cd0 ct0), sl0⟩) (c0 : PySem.W.codeIn K cd0 "is_integer" = true) (k0 : PySem.W.keepIn K (.ref f0) = true)
    {f1 : Addr} {oc1 : Value} {od1 an1 : Option Addr} {sl1 : Array (Option Value)} {kV1 dc1 pm1 cd1 ct1 : Value}
    (a1 : PySem.W.nsIn K mainGlobals "check_integer" = some (some (.ref f1))) (l1 : K.lookup f1 = some ⟨oc1, od1, .func (PySem.W.fnOf "check_integer" "check_integer" (defArgs sCheckInteger) (defBody sCheckInteger) (defScope sCheckInteger) .none kV1 dc1 pm1 an1 cd1 ct1), sl1⟩) (c1 : PySem.W.codeIn K cd1 "check_integer" = true) (k1 : PySem.W.keepIn K (.ref f1) = true)
    {f2 : Addr} {oc2 : Value} {od2 an2 : Option Addr} {sl2 : Array (Option Value)} {kV2 dc2 pm2 cd2 ct2 : Value}
    (a2 : PySem.W.nsIn K mainGlobals "check_digits" = some (some (.ref f2))) (l2 : K.lookup f2 = some ⟨oc2, od2, .func (PySem.W.fnOf "check_digits" "check_digits" (defArgs sCheckDigits) (defBody sCheckDigits) (defScope sCheckDigits) .none kV2 dc2 pm2 an2 cd2 ct2), sl2⟩) (c2 : PySem.W.codeIn K cd2 "check_digits" = true) (k2 : PySem.W.keepIn K (.ref f2) = true)
    {f3 : Addr} {oc3 : Value} {od3 an3 : Option Addr} {sl3 : Array (Option Value)} {kV3 dc3 pm3 cd3 ct3 : Value}
    (a3 : PySem.W.nsIn K mainGlobals "is_round" = some (some (.ref f3))) (l3 : K.lookup f3 = some ⟨oc3, od3, .func (PySem.W.fnOf "is_round" "is_round" (defArgs sIsRound) (defBody sIsRound) (defScope sIsRound) .none kV3 dc3 pm3 an3 cd3 ct3), sl3⟩) (c3 : PySem.W.codeIn K cd3 "is_round" = true) (k3 : PySem.W.keepIn K (.ref f3) = true)
    {f4 : Addr} {oc4 : Value} {od4 an4 : Option Addr} {sl4 : Array (Option Value)} {kV4 dc4 pm4 cd4 ct4 : Value}
    (a4 : PySem.W.nsIn K mainGlobals "value_in" = some (some (.ref f4))) (l4 : K.lookup f4 = some ⟨oc4, od4, .func (PySem.W.fnOf "value_in" "value_in" (defArgs sValueIn) (defBody sValueIn) (defScope sValueIn) .none kV4 dc4 pm4 an4 cd4 ct4), sl4⟩) (c4 : PySem.W.codeIn K cd4 "value_in" = true) (k4 : PySem.W.keepIn K (.ref f4) = true)
    {f5 : Addr} {oc5 : Value} {od5 an5 : Option Addr} {sl5 : Array (Option Value)} {kV5 dc5 pm5 cd5 ct5 : Value}
    (a5 : PySem.W.nsIn K mainGlobals "counted_in" = some (some (.ref f5))) (l5 : K.lookup f5 = some ⟨oc5, od5, .func (PySem.W.fnOf "counted_in" "counted_in" (defArgs sCountedIn) (defBody sCountedIn) (defScope sCountedIn) .none kV5 dc5 pm5 an5 cd5 ct5), sl5⟩) (c5 : PySem.W.codeIn K cd5 "counted_in" = true) (k5 : PySem.W.keepIn K (.ref f5) = true)
    {f6 : Addr} {oc6 : Value} {od6 an6 : Option Addr} {sl6 : Array (Option Value)} {kV6 dc6 pm6 cd6 ct6 : Value}
    (a6 : PySem.W.nsIn K mainGlobals "values_back" = some (some (.ref f6))) (l6 : K.lookup f6 = some ⟨oc6, od6, .func (PySem.W.fnOf "values_back" "values_back" (defArgs sValuesBack) (defBody sValuesBack) (defScope sValuesBack) .none kV6 dc6 pm6 an6 cd6 ct6), sl6⟩) (c6 : PySem.W.codeIn K cd6 "values_back" = true) (k6 : PySem.W.keepIn K (.ref f6) = true)
    {f7 : Addr} {oc7 : Value} {od7 an7 : Option Addr} {sl7 : Array (Option Value)} {kV7 dc7 pm7 cd7 ct7 : Value}
    (a7 : PySem.W.nsIn K mainGlobals "told_round" = some (some (.ref f7))) (l7 : K.lookup f7 = some ⟨oc7, od7, .func (PySem.W.fnOf "told_round" "told_round" (defArgs sToldRound) (defBody sToldRound) (defScope sToldRound) .none kV7 dc7 pm7 an7 cd7 ct7), sl7⟩) (c7 : PySem.W.codeIn K cd7 "told_round" = true) (k7 : PySem.W.keepIn K (.ref f7) = true)
    {f8 : Addr} {oc8 : Value} {od8 an8 : Option Addr} {sl8 : Array (Option Value)} {kV8 dc8 pm8 cd8 ct8 : Value}
    (a8 : PySem.W.nsIn K mainGlobals "_law_dice" = some (some (.ref f8))) (l8 : K.lookup f8 = some ⟨oc8, od8, .func (PySem.W.fnOf "_law_dice" "_law_dice" (defArgs sLDice) (defBody sLDice) (defScope sLDice) .none kV8 dc8 pm8 an8 cd8 ct8), sl8⟩) (c8 : PySem.W.codeIn K cd8 "_law_dice" = true) (k8 : PySem.W.keepIn K (.ref f8) = true)
    {f9 : Addr} {oc9 : Value} {od9 an9 : Option Addr} {sl9 : Array (Option Value)} {kV9 dc9 pm9 cd9 ct9 : Value}
    (a9 : PySem.W.nsIn K mainGlobals "_law_roll" = some (some (.ref f9))) (l9 : K.lookup f9 = some ⟨oc9, od9, .func (PySem.W.fnOf "_law_roll" "_law_roll" (defArgs sLRoll) (defBody sLRoll) (defScope sLRoll) .none kV9 dc9 pm9 an9 cd9 ct9), sl9⟩) (c9 : PySem.W.codeIn K cd9 "_law_roll" = true) (k9 : PySem.W.keepIn K (.ref f9) = true)
    {f10 : Addr} {oc10 : Value} {od10 an10 : Option Addr} {sl10 : Array (Option Value)} {kV10 dc10 pm10 cd10 ct10 : Value}
    (a10 : PySem.W.nsIn K mainGlobals "_law_one_of" = some (some (.ref f10))) (l10 : K.lookup f10 = some ⟨oc10, od10, .func (PySem.W.fnOf "_law_one_of" "_law_one_of" (defArgs sLOneOf) (defBody sLOneOf) (defScope sLOneOf) .none kV10 dc10 pm10 an10 cd10 ct10), sl10⟩) (c10 : PySem.W.codeIn K cd10 "_law_one_of" = true) (k10 : PySem.W.keepIn K (.ref f10) = true)
    {f11 : Addr} {oc11 : Value} {od11 an11 : Option Addr} {sl11 : Array (Option Value)} {kV11 dc11 pm11 cd11 ct11 : Value}
    (a11 : PySem.W.nsIn K mainGlobals "_law_mixed" = some (some (.ref f11))) (l11 : K.lookup f11 = some ⟨oc11, od11, .func (PySem.W.fnOf "_law_mixed" "_law_mixed" (defArgs sLMixed) (defBody sLMixed) (defScope sLMixed) .none kV11 dc11 pm11 an11 cd11 ct11), sl11⟩) (c11 : PySem.W.codeIn K cd11 "_law_mixed" = true) (k11 : PySem.W.keepIn K (.ref f11) = true)
    {f12 : Addr} {oc12 : Value} {od12 an12 : Option Addr} {sl12 : Array (Option Value)} {kV12 dc12 pm12 cd12 ct12 : Value}
    (a12 : PySem.W.nsIn K mainGlobals "_law_value" = some (some (.ref f12))) (l12 : K.lookup f12 = some ⟨oc12, od12, .func (PySem.W.fnOf "_law_value" "_law_value" (defArgs sLValue) (defBody sLValue) (defScope sLValue) .none kV12 dc12 pm12 an12 cd12 ct12), sl12⟩) (c12 : PySem.W.codeIn K cd12 "_law_value" = true) (k12 : PySem.W.keepIn K (.ref f12) = true)
    {f13 : Addr} {oc13 : Value} {od13 an13 : Option Addr} {sl13 : Array (Option Value)} {kV13 dc13 pm13 cd13 ct13 : Value}
    (a13 : PySem.W.nsIn K mainGlobals "_law_exchanged" = some (some (.ref f13))) (l13 : K.lookup f13 = some ⟨oc13, od13, .func (PySem.W.fnOf "_law_exchanged" "_law_exchanged" (defArgs sLExchanged) (defBody sLExchanged) (defScope sLExchanged) .none kV13 dc13 pm13 an13 cd13 ct13), sl13⟩) (c13 : PySem.W.codeIn K cd13 "_law_exchanged" = true) (k13 : PySem.W.keepIn K (.ref f13) = true)
    {f14 : Addr} {oc14 : Value} {od14 an14 : Option Addr} {sl14 : Array (Option Value)} {kV14 dc14 pm14 cd14 ct14 : Value}
    (a14 : PySem.W.nsIn K mainGlobals "_law_round" = some (some (.ref f14))) (l14 : K.lookup f14 = some ⟨oc14, od14, .func (PySem.W.fnOf "_law_round" "_law_round" (defArgs sLRound) (defBody sLRound) (defScope sLRound) .none kV14 dc14 pm14 an14 cd14 ct14), sl14⟩) (c14 : PySem.W.codeIn K cd14 "_law_round" = true) (k14 : PySem.W.keepIn K (.ref f14) = true)
    {f15 : Addr} {oc15 : Value} {od15 an15 : Option Addr} {sl15 : Array (Option Value)} {kV15 dc15 pm15 cd15 ct15 : Value}
    (a15 : PySem.W.nsIn K mainGlobals "_law_great_round" = some (some (.ref f15))) (l15 : K.lookup f15 = some ⟨oc15, od15, .func (PySem.W.fnOf "_law_great_round" "_law_great_round" (defArgs sLGreatRound) (defBody sLGreatRound) (defScope sLGreatRound) .none kV15 dc15 pm15 an15 cd15 ct15), sl15⟩) (c15 : PySem.W.codeIn K cd15 "_law_great_round" = true) (k15 : PySem.W.keepIn K (.ref f15) = true)
    {f16 : Addr} {oc16 : Value} {od16 an16 : Option Addr} {sl16 : Array (Option Value)} {kV16 dc16 pm16 cd16 ct16 : Value}
    (a16 : PySem.W.nsIn K mainGlobals "_law_shift" = some (some (.ref f16))) (l16 : K.lookup f16 = some ⟨oc16, od16, .func (PySem.W.fnOf "_law_shift" "_law_shift" (defArgs sLShift) (defBody sLShift) (defScope sLShift) .none kV16 dc16 pm16 an16 cd16 ct16), sl16⟩) (c16 : PySem.W.codeIn K cd16 "_law_shift" = true) (k16 : PySem.W.keepIn K (.ref f16) = true)
    {f17 : Addr} {oc17 : Value} {od17 an17 : Option Addr} {sl17 : Array (Option Value)} {kV17 dc17 pm17 cd17 ct17 : Value}
    (a17 : PySem.W.nsIn K mainGlobals "_law_counted" = some (some (.ref f17))) (l17 : K.lookup f17 = some ⟨oc17, od17, .func (PySem.W.fnOf "_law_counted" "_law_counted" (defArgs sLCounted) (defBody sLCounted) (defScope sLCounted) .none kV17 dc17 pm17 an17 cd17 ct17), sl17⟩) (c17 : PySem.W.codeIn K cd17 "_law_counted" = true) (k17 : PySem.W.keepIn K (.ref f17) = true)
    {f18 : Addr} {oc18 : Value} {od18 an18 : Option Addr} {sl18 : Array (Option Value)} {kV18 dc18 pm18 cd18 ct18 : Value}
    (a18 : PySem.W.nsIn K mainGlobals "_law_by_window" = some (some (.ref f18))) (l18 : K.lookup f18 = some ⟨oc18, od18, .func (PySem.W.fnOf "_law_by_window" "_law_by_window" (defArgs sLByWindow) (defBody sLByWindow) (defScope sLByWindow) .none kV18 dc18 pm18 an18 cd18 ct18), sl18⟩) (c18 : PySem.W.codeIn K cd18 "_law_by_window" = true) (k18 : PySem.W.keepIn K (.ref f18) = true)
    {f19 : Addr} {oc19 : Value} {od19 an19 : Option Addr} {sl19 : Array (Option Value)} {kV19 dc19 pm19 cd19 ct19 : Value}
    (a19 : PySem.W.nsIn K mainGlobals "_law_small_right" = some (some (.ref f19))) (l19 : K.lookup f19 = some ⟨oc19, od19, .func (PySem.W.fnOf "_law_small_right" "_law_small_right" (defArgs sLSmallRight) (defBody sLSmallRight) (defScope sLSmallRight) .none kV19 dc19 pm19 an19 cd19 ct19), sl19⟩) (c19 : PySem.W.codeIn K cd19 "_law_small_right" = true) (k19 : PySem.W.keepIn K (.ref f19) = true)
    {f20 : Addr} {oc20 : Value} {od20 an20 : Option Addr} {sl20 : Array (Option Value)} {kV20 dc20 pm20 cd20 ct20 : Value}
    (a20 : PySem.W.nsIn K mainGlobals "_law_right" = some (some (.ref f20))) (l20 : K.lookup f20 = some ⟨oc20, od20, .func (PySem.W.fnOf "_law_right" "_law_right" (defArgs sLRight) (defBody sLRight) (defScope sLRight) .none kV20 dc20 pm20 an20 cd20 ct20), sl20⟩) (c20 : PySem.W.codeIn K cd20 "_law_right" = true) (k20 : PySem.W.keepIn K (.ref f20) = true)
    {f21 : Addr} {oc21 : Value} {od21 an21 : Option Addr} {sl21 : Array (Option Value)} {kV21 dc21 pm21 cd21 ct21 : Value}
    (a21 : PySem.W.nsIn K mainGlobals "law" = some (some (.ref f21))) (l21 : K.lookup f21 = some ⟨oc21, od21, .func (PySem.W.fnOf "law" "law" (defArgs sLaw) (defBody sLaw) (defScope sLaw) .none kV21 dc21 pm21 an21 cd21 ct21), sl21⟩) (c21 : PySem.W.codeIn K cd21 "law" = true) (k21 : PySem.W.keepIn K (.ref f21) = true)
    {RC : Addr} (R_a : PySem.W.nsIn K mainGlobals "Round" = some (some (.ref RC))) (R_pg : PySem.W.plainGet K RC Str.empty = true) (R_hd : PySem.W.hasDictIn K RC = true) (R_po : PySem.W.plainOver K RC = true) (R_sa : PySem.W.findIn K (.ref RC) "__setattr__" = some (some (.builtin "object.__setattr__"))) (R_mk : PySem.W.makesIn K RC = true) (R_kC : PySem.W.keepIn K (.ref RC) = true) (R_n0 : PySem.W.findIn K (.ref RC) "_values" = some none) (R_n1 : PySem.W.findIn K (.ref RC) "_falls" = some none)
    {Rf0 : Addr} {Roc0 : Value} {Rod0 Ran0 : Option Addr} {Rsl0 : Array (Option Value)} {RkV0 Rdc0 Rpm0 Rcd0 Rct0 : Value} (R_m0 : PySem.W.findIn K (.ref RC) "__init__" = some (some (.ref Rf0))) (R_i0 : PySem.W.isFn K (.ref Rf0) = true) (R_l0 : K.lookup Rf0 = some ⟨Roc0, Rod0, .func (PySem.W.fnOf "__init__" "Round.__init__" (defArgs sRInit) (defBody sRInit) (defScope sRInit) .none RkV0 Rdc0 Rpm0 Ran0 Rcd0 Rct0), Rsl0⟩) (R_c0 : PySem.W.codeIn K Rcd0 "Round.__init__" = true) (R_k0 : PySem.W.keepIn K (.ref Rf0) = true)
    {Rf1 : Addr} {Roc1 : Value} {Rod1 Ran1 : Option Addr} {Rsl1 : Array (Option Value)} {RkV1 Rdc1 Rpm1 Rcd1 Rct1 : Value} (R_m1 : PySem.W.findIn K (.ref RC) "counted" = some (some (.ref Rf1))) (R_i1 : PySem.W.isFn K (.ref Rf1) = true) (R_l1 : K.lookup Rf1 = some ⟨Roc1, Rod1, .func (PySem.W.fnOf "counted" "Round.counted" (defArgs sRCounted) (defBody sRCounted) (defScope sRCounted) .none RkV1 Rdc1 Rpm1 Ran1 Rcd1 Rct1), Rsl1⟩) (R_c1 : PySem.W.codeIn K Rcd1 "Round.counted" = true) (R_k1 : PySem.W.keepIn K (.ref Rf1) = true)
    {Rf2 : Addr} {Roc2 : Value} {Rod2 Ran2 : Option Addr} {Rsl2 : Array (Option Value)} {RkV2 Rdc2 Rpm2 Rcd2 Rct2 : Value} (R_m2 : PySem.W.findIn K (.ref RC) "second" = some (some (.ref Rf2))) (R_i2 : PySem.W.isFn K (.ref Rf2) = true) (R_l2 : K.lookup Rf2 = some ⟨Roc2, Rod2, .func (PySem.W.fnOf "second" "Round.second" (defArgs sRSecond) (defBody sRSecond) (defScope sRSecond) .none RkV2 Rdc2 Rpm2 Ran2 Rcd2 Rct2), Rsl2⟩) (R_c2 : PySem.W.codeIn K Rcd2 "Round.second" = true) (R_k2 : PySem.W.keepIn K (.ref Rf2) = true)
    {Rf3 : Addr} {Roc3 : Value} {Rod3 Ran3 : Option Addr} {Rsl3 : Array (Option Value)} {RkV3 Rdc3 Rpm3 Rcd3 Rct3 : Value} (R_m3 : PySem.W.findIn K (.ref RC) "__invert__" = some (some (.ref Rf3))) (R_i3 : PySem.W.isFn K (.ref Rf3) = true) (R_l3 : K.lookup Rf3 = some ⟨Roc3, Rod3, .func (PySem.W.fnOf "__invert__" "Round.__invert__" (defArgs sRInvert) (defBody sRInvert) (defScope sRInvert) .none RkV3 Rdc3 Rpm3 Ran3 Rcd3 Rct3), Rsl3⟩) (R_c3 : PySem.W.codeIn K Rcd3 "Round.__invert__" = true) (R_k3 : PySem.W.keepIn K (.ref Rf3) = true) :
    ∃ fd : FuncData, (∀ (s : Shared) (v : Value), BindsTo s fd ⟨[v], []⟩ [("_law_script", v)]) ∧ ∀ base : Heap, K.In base → base.Ns mainGlobals mg → FnOk P w K mg base CX0 8 fa fd ["_law_script"] (spLaw K) := by
  have e := hfa.symm.trans (PySem.W.mg_of X G a21)
  cases e
  have RF0 := fun_mk (st := sRInit) R_l0 R_c0 R_k0
  have Rb0 := RF0.binds (ps := ["self", "values"]) fun _ _ _ _ _ _ us hl => match us, hl with | [_, _], _ => rfl
  have RF1 := fun_mk (st := sRCounted) R_l1 R_c1 R_k1
  have Rb1 := RF1.binds (ps := ["self", "a", "b"]) fun _ _ _ _ _ _ us hl => match us, hl with | [_, _, _], _ => rfl
  have RF2 := fun_mk (st := sRSecond) R_l2 R_c2 R_k2
  have Rb2 := RF2.binds (ps := ["self", "a", "b"]) fun _ _ _ _ _ _ us hl => match us, hl with | [_, _, _], _ => rfl
  have RF3 := fun_mk (st := sRInvert) R_l3 R_c3 R_k3
  have Rb3 := RF3.binds (ps := ["self"]) fun _ _ _ _ _ _ us hl => match us, hl with | [_], _ => rfl
  have R : RTxt K mg RC := ⟨⟨R_pg, R_hd, R_po, R_sa⟩, R_n0, R_n1, PySem.W.mg_of X G R_a, ⟨_, _, ⟨R_mk, R_m0, R_i0, R_kC⟩, RF0, Rb0⟩, ⟨_, _, ⟨R_m1, R_i1, R_k1⟩, RF1, Rb1⟩, ⟨_, _, ⟨R_m2, R_i2, R_k2⟩, RF2, Rb2⟩, ⟨_, _, ⟨R_m3, R_i3, R_k3⟩, RF3, Rb3⟩⟩
  have T : Txt K mg :=
    { z_abs := PySem.W.mg_none_of X G z_abs, z_all := PySem.W.mg_none_of X G z_all, z_bool := PySem.W.mg_none_of X G z_bool, z_enumerate := PySem.W.mg_none_of X G z_enumerate, z_int := PySem.W.mg_none_of X G z_int, z_isinstance := PySem.W.mg_none_of X G z_isinstance, z_len := PySem.W.mg_none_of X G z_len, z_list := PySem.W.mg_none_of X G z_list, z_max := PySem.W.mg_none_of X G z_max, z_min := PySem.W.mg_none_of X G z_min, z_range := PySem.W.mg_none_of X G z_range, z_sorted := PySem.W.mg_none_of X G z_sorted, z_sum := PySem.W.mg_none_of X G z_sum, z_tuple := PySem.W.mg_none_of X G z_tuple, v_BOUND := vBOUND, v_DIGITS := ⟨tDIGITS, PySem.W.mg_of X G gDIGITS⟩, v_MAX_ROUND := ⟨tMAX_ROUND, PySem.W.mg_of X G gMAX_ROUND⟩,
      d_is_integer := mk_def (ps := ["value"]) X G a0 l0 c0 k0 fun _ _ _ _ _ _ us hl => match us, hl with | [_], _ => rfl,
      d_check_integer := mk_def (ps := ["value"]) X G a1 l1 c1 k1 fun _ _ _ _ _ _ us hl => match us, hl with | [_], _ => rfl,
      d_check_digits := mk_def (ps := ["numbers"]) X G a2 l2 c2 k2 fun _ _ _ _ _ _ us hl => match us, hl with | [_], _ => rfl,
      d_is_round := mk_def (ps := ["value"]) X G a3 l3 c3 k3 fun _ _ _ _ _ _ us hl => match us, hl with | [_], _ => rfl,
      d_value_in := mk_def (ps := ["values", "i"]) X G a4 l4 c4 k4 fun _ _ _ _ _ _ us hl => match us, hl with | [_, _], _ => rfl,
      d_counted_in := mk_def (ps := ["values", "a", "b"]) X G a5 l5 c5 k5 fun _ _ _ _ _ _ us hl => match us, hl with | [_, _, _], _ => rfl,
      d_values_back := mk_def (ps := ["values"]) X G a6 l6 c6 k6 fun _ _ _ _ _ _ us hl => match us, hl with | [_], _ => rfl,
      d_told_round := mk_def (ps := ["values"]) X G a7 l7 c7 k7 fun _ _ _ _ _ _ us hl => match us, hl with | [_], _ => rfl,
      d_l_dice := mk_def (ps := ["_law_script", "_law_at"]) X G a8 l8 c8 k8 fun _ _ _ _ _ _ us hl => match us, hl with | [_, _], _ => rfl,
      d_l_roll := mk_def (ps := ["_law_dice_here", "_law_total"]) X G a9 l9 c9 k9 fun _ _ _ _ _ _ us hl => match us, hl with | [_, _], _ => rfl,
      d_l_one_of := mk_def (ps := ["_law_dice_here", "_law_items"]) X G a10 l10 c10 k10 fun _ _ _ _ _ _ us hl => match us, hl with | [_, _], _ => rfl,
      d_l_mixed := mk_def (ps := ["_law_dice_here", "_law_items"]) X G a11 l11 c11 k11 fun _ _ _ _ _ _ us hl => match us, hl with | [_, _], _ => rfl,
      d_l_value := mk_def (ps := ["_law_values", "_law_i"]) X G a12 l12 c12 k12 fun _ _ _ _ _ _ us hl => match us, hl with | [_, _], _ => rfl,
      d_l_exchanged := mk_def (ps := ["_law_values", "_law_at"]) X G a13 l13 c13 k13 fun _ _ _ _ _ _ us hl => match us, hl with | [_, _], _ => rfl,
      d_l_round := mk_def (ps := ["_law_dice_here", "_law_size", "_law_steps"]) X G a14 l14 c14 k14 fun _ _ _ _ _ _ us hl => match us, hl with | [_, _, _], _ => rfl,
      d_l_great_round := mk_def (ps := ["_law_dice_here", "_law_size"]) X G a15 l15 c15 k15 fun _ _ _ _ _ _ us hl => match us, hl with | [_, _], _ => rfl,
      d_l_shift := mk_def (ps := ["_law_values"]) X G a16 l16 c16 k16 fun _ _ _ _ _ _ us hl => match us, hl with | [_], _ => rfl,
      d_l_counted := mk_def (ps := ["_law_values", "_law_a", "_law_b"]) X G a17 l17 c17 k17 fun _ _ _ _ _ _ us hl => match us, hl with | [_, _, _], _ => rfl,
      d_l_by_window := mk_def (ps := ["_law_values", "_law_a", "_law_b"]) X G a18 l18 c18 k18 fun _ _ _ _ _ _ us hl => match us, hl with | [_, _, _], _ => rfl,
      d_l_small_right := mk_def (ps := ["_law_dice_here", "_law_one", "_law_values"]) X G a19 l19 c19 k19 fun _ _ _ _ _ _ us hl => match us, hl with | [_, _, _], _ => rfl,
      d_l_right := mk_def (ps := ["_law_dice_here"]) X G a20 l20 c20 k20 fun _ _ _ _ _ _ us hl => match us, hl with | [_], _ => rfl }
  have F := fun_mk (st := sLaw) l21 c21 k21
  exact ⟨PySem.W.fnOf "law" "law" (defArgs sLaw) (defBody sLaw) (defScope sLaw) .none kV21 dc21 pm21 an21 cd21 ct21, fun s v => .of_eq rfl, fun base _ _ => ok_law T R F⟩
/-- the end of the law's row, what the loose names hold told -/
theorem walk_x {l : PySem.W.OpenLaw} {k : Nat} {q : Program} {loose : List Str} {lv : List (Str × PySem.W.WData)} {YP : World → Heap → Prop} {d : DefRec} {K : Params → PySem.W.Frag}
    (hn : l.most = some 63) (hdf : d.params.defaults = []) (hr : Room k callerA) (hY : ∀ (w : World) (h : Heap), YP w h → (K w.params).In h)
    (F : ∀ (w : World) (mg : Str → Option Value) (fa : Addr) (h : Heap), (K w.params).In h → h.Ns mainGlobals mg → PySem.W.XL q lv mg h → mg d.name = some (.ref fa) →
      ∃ fd : FuncData, (∀ (s : Shared) (u : Value), BindsTo s fd ⟨[u], []⟩ [("_law_script", u)]) ∧
        ∀ base : Heap, (K w.params).In base → base.Ns mainGlobals mg → FnOk l.prog w (K w.params) mg base CX0 k fa fd ["_law_script"] (spLaw (K w.params))) :
    PySem.W.WalkO q loose (PySem.W.XL q lv) YP l.row.toRowW d [] (fun f vs => PySem.call f vs) := by
  refine Att.attach_call hn hdf fun w s₀ s₁ mg mb fa o pm cd doc a vs ns G Y ho hd hcd hmg hobj hints hlen hg => ?_
  obtain ⟨fd, hb, hF⟩ := F w mg fa _ (hY w _ Y) G.T.g G.X hmg
  exact law_call (hY w _ Y) G.T.g G.T.b G.T.builtins G.T.nolimit hg hobj hints (Nat.le_trans hlen (by decide)) hr hF hb (fun H _ hS => ⟨a, ns, rfl, hS, hlen, fun _ => rfl⟩) fun H e s' z => z
end K1

open PySem PySem.W PyProof.Rows
set_option maxHeartbeats 0 in
theorem PySem.Challenge.cw_ringstairs_k31_whole_tables_of_round_map_holds : PySem.Challenge.rw_ringstairs_k31_whole_tables_of_round_map.Holds := by
  w_on; o_law; k_head; (case hw => w_witness2)
  k_fill
  refine K1.walk_x (k := 8) rfl rfl ⟨rfl, by decide, by decide⟩ (fun w h Y => PySem.W.kIn_of Y) ?F
  case F =>
    intro w mg fa h KX G XF hmg
    have vBOUND : ∃ t, mg "BOUND" = some (.int (10 ^ 60) t) := by
      obtain ⟨v, e1, e2⟩ := XF.2.val _ (List.mem_cons_self ..)
      cases e2
      exact ⟨_, e1⟩
    refine' K1.all_mk KX G hmg vBOUND ?gDIGITS ?gMAX_ROUND ?z_abs ?z_all ?z_bool ?z_enumerate ?z_int ?z_isinstance ?z_len ?z_list ?z_max ?z_min ?z_range ?z_sorted ?z_sum ?z_tuple ?a0 ?l0 ?c0 ?k0 ?a1 ?l1 ?c1 ?k1 ?a2 ?l2 ?c2 ?k2 ?a3 ?l3 ?c3 ?k3 ?a4 ?l4 ?c4 ?k4 ?a5 ?l5 ?c5 ?k5 ?a6 ?l6 ?c6 ?k6 ?a7 ?l7 ?c7 ?k7 ?a8 ?l8 ?c8 ?k8 ?a9 ?l9 ?c9 ?k9 ?a10 ?l10 ?c10 ?k10 ?a11 ?l11 ?c11 ?k11 ?a12 ?l12 ?c12 ?k12 ?a13 ?l13 ?c13 ?k13 ?a14 ?l14 ?c14 ?k14 ?a15 ?l15 ?c15 ?k15 ?a16 ?l16 ?c16 ?k16 ?a17 ?l17 ?c17 ?k17 ?a18 ?l18 ?c18 ?k18 ?a19 ?l19 ?c19 ?k19 ?a20 ?l20 ?c20 ?k20 ?a21 ?l21 ?c21 ?k21 ?R_a ?R_pg ?R_hd ?R_po ?R_sa ?R_mk ?R_kC ?R_n0 ?R_n1 ?R_m0 ?R_i0 ?R_l0 ?R_c0 ?R_k0 ?R_m1 ?R_i1 ?R_l1 ?R_c1 ?R_k1 ?R_m2 ?R_i2 ?R_l2 ?R_c2 ?R_k2 ?R_m3 ?R_i3 ?R_l3 ?R_c3 ?R_k3
    (case gDIGITS => k_is); (case gMAX_ROUND => k_is); (case z_abs => k_is); (case z_all => k_is); (case z_bool => k_is); (case z_enumerate => k_is); (case z_int => k_is); (case z_isinstance => k_is)
    (case z_len => k_is); (case z_list => k_is); (case z_max => k_is); (case z_min => k_is); (case z_range => k_is); (case z_sorted => k_is); (case z_sum => k_is); (case z_tuple => k_is)
    (case a0 => k_is); (case l0 => k_is); (case c0 => k_is); (case k0 => k_is); (case a1 => k_is); (case l1 => k_is); (case c1 => k_is); (case k1 => k_is)
    (case a2 => k_is); (case l2 => k_is); (case c2 => k_is); (case k2 => k_is); (case a3 => k_is); (case l3 => k_is); (case c3 => k_is); (case k3 => k_is)
    (case a4 => k_is); (case l4 => k_is); (case c4 => k_is); (case k4 => k_is); (case a5 => k_is); (case l5 => k_is); (case c5 => k_is); (case k5 => k_is)
    (case a6 => k_is); (case l6 => k_is); (case c6 => k_is); (case k6 => k_is); (case a7 => k_is); (case l7 => k_is); (case c7 => k_is); (case k7 => k_is)
    (case a8 => k_is); (case l8 => k_is); (case c8 => k_is); (case k8 => k_is); (case a9 => k_is); (case l9 => k_is); (case c9 => k_is); (case k9 => k_is)
    (case a10 => k_is); (case l10 => k_is); (case c10 => k_is); (case k10 => k_is); (case a11 => k_is); (case l11 => k_is); (case c11 => k_is); (case k11 => k_is)
    (case a12 => k_is); (case l12 => k_is); (case c12 => k_is); (case k12 => k_is); (case a13 => k_is); (case l13 => k_is); (case c13 => k_is); (case k13 => k_is)
    (case a14 => k_is); (case l14 => k_is); (case c14 => k_is); (case k14 => k_is); (case a15 => k_is); (case l15 => k_is); (case c15 => k_is); (case k15 => k_is)
    (case a16 => k_is); (case l16 => k_is); (case c16 => k_is); (case k16 => k_is); (case a17 => k_is); (case l17 => k_is); (case c17 => k_is); (case k17 => k_is)
    (case a18 => k_is); (case l18 => k_is); (case c18 => k_is); (case k18 => k_is); (case a19 => k_is); (case l19 => k_is); (case c19 => k_is); (case k19 => k_is)
    (case a20 => k_is); (case l20 => k_is); (case c20 => k_is); (case k20 => k_is); (case a21 => k_is); (case l21 => k_is); (case c21 => k_is); (case k21 => k_is)
    (case R_a => k_is)
    (case R_pg => k_is)
    (case R_hd => k_is)
    (case R_po => k_is)
    (case R_sa => k_is)
    (case R_mk => k_is)
    (case R_kC => k_is)
    (case R_n0 => k_is)
    (case R_n1 => k_is)
    (case R_m0 => k_is)
    (case R_i0 => k_is)
    (case R_l0 => k_is)
    (case R_c0 => k_is)
    (case R_k0 => k_is)
    (case R_m1 => k_is)
    (case R_i1 => k_is)
    (case R_l1 => k_is)
    (case R_c1 => k_is)
    (case R_k1 => k_is)
    (case R_m2 => k_is)
    (case R_i2 => k_is)
    (case R_l2 => k_is)
    (case R_c2 => k_is)
    (case R_k2 => k_is)
    (case R_m3 => k_is)
    (case R_i3 => k_is)
    (case R_l3 => k_is)
    (case R_c3 => k_is)
    (case R_k3 => k_is)

