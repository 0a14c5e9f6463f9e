import PyProof.Rows.All
import Wide.All
import OpenK.AllK
import Wide.FinOn
import HandS.ForMost
import KE.GoesEnum
import PySem.Challenge.RW_ringstairs_k97_whole_levels_and_all_mult
import HandS.ForExc
import HandS.Wide
import HandS.SortInts
import HandS.Zip
import HandS.Style
import HandS.Rev
import HandS.TupMul
import HandS.IsInst
import HandS.Evl
import HandS.Gcd
import HandS.RevRange
import HandS.Iter
import HandS.Small
import HandS.Conv
import HandS.Walk
import HandS.DictComp
import KE.KDictSum
import KE.KDictCopyH
import KE.KDictDisplayH
import KE.KDictPairs
import KE.KDictOf
import KE.KEqDict
import HandS.TupAny
import PyProof.LongRange
import HandS.List
import HandS.Dict
import HandS.More
import HandS.Deep
import PyProof.P3In
import PyProof.WalkInts
set_option Elab.async false
set_option linter.all false
set_option maxRecDepth 100000
set_option maxHeartbeats 4000000
/-! plain mathematics for the orders and the diagonals -/
namespace K1M
/-- the step: the i-th place on the way from the right door by the left door -/
theorem dvd_iff {n s i : Nat} (hn : 0 < n) : (i * s) % n = 0 ↔ (n / Nat.gcd n s) ∣ i := by
  have hg : 0 < Nat.gcd n s := Nat.gcd_pos_of_pos_left _ hn
  have hc : Nat.Coprime (n / Nat.gcd n s) (s / Nat.gcd n s) := Nat.coprime_div_gcd_div_gcd hg
  have hn' : n = Nat.gcd n s * (n / Nat.gcd n s) := (Nat.mul_div_cancel' (Nat.gcd_dvd_left n s)).symm
  have hs' : s = Nat.gcd n s * (s / Nat.gcd n s) := (Nat.mul_div_cancel' (Nat.gcd_dvd_right n s)).symm
  constructor
  · intro h
    have d : n ∣ i * s := Nat.dvd_of_mod_eq_zero h
    have d2 : Nat.gcd n s * (n / Nat.gcd n s) ∣ Nat.gcd n s * (i * (s / Nat.gcd n s)) := by
      rw [← hn']
      have e : Nat.gcd n s * (i * (s / Nat.gcd n s)) = i * s := by
        rw [Nat.mul_left_comm, ← hs']
      rw [e]
      exact d
    have d3 := Nat.dvd_of_mul_dvd_mul_left hg d2
    exact hc.dvd_of_dvd_mul_right d3
  · rintro ⟨c, rfl⟩
    apply Nat.mod_eq_zero_of_dvd
    refine ⟨c * (s / Nat.gcd n s), ?_⟩
    have e : n / Nat.gcd n s * c * s = n / Nat.gcd n s * c * (Nat.gcd n s * (s / Nat.gcd n s)) := by rw [← hs']
    rw [e]
    have e2 : n * (c * (s / Nat.gcd n s)) = Nat.gcd n s * (n / Nat.gcd n s) * (c * (s / Nat.gcd n s)) := by rw [← hn']
    rw [e2]
    simp only [Nat.mul_assoc, Nat.mul_left_comm, Nat.mul_comm]
def ord (n s : Nat) : Nat := n / Nat.gcd n s
theorem ord_pos {n s : Nat} (hn : 0 < n) : 0 < ord n s := Nat.div_pos (Nat.gcd_le_left s hn) (Nat.gcd_pos_of_pos_left _ hn)
theorem ord_le {n s : Nat} : ord n s ≤ n := Nat.div_le_self _ _
theorem ord_ge2 {n s : Nat} (h1 : 1 ≤ s) (h2 : s < n) : 2 ≤ ord n s := by
  have hn : 0 < n := by omega
  have hg : 0 < Nat.gcd n s := Nat.gcd_pos_of_pos_left _ hn
  have hle : Nat.gcd n s ≤ s := Nat.le_of_dvd h1 (Nat.gcd_dvd_right n s)
  have hn' : n = Nat.gcd n s * ord n s := (Nat.mul_div_cancel' (Nat.gcd_dvd_left n s)).symm
  rcases Nat.lt_or_ge (ord n s) 2 with h | h
  · exfalso
    have hp := ord_pos (s := s) hn
    have e1 : ord n s = 1 := by omega
    rw [e1, Nat.mul_one] at hn'
    omega
  · exact h
/-- the way: while the next is not 0 and there are fewer than n -/
def stp (n s i : Nat) : Nat := (i * s) % n
theorem stp_zero_iff {n s i : Nat} (hn : 0 < n) : stp n s i = 0 ↔ ord n s ∣ i := dvd_iff hn
/-- the same for integers: the diagonal's place -/
theorem istp {n s : Nat} (hn : 0 < n) (c : Int) : (c * (s : Int)) % (n : Int) = ((stp n s (c % (ord n s : Int)).toNat : Nat) : Int) := by
  have hm : 0 < ord n s := ord_pos hn
  have hm' : (0 : Int) < (ord n s : Int) := by exact_mod_cast hm
  have hr0 : 0 ≤ c % (ord n s : Int) := Int.emod_nonneg _ (by omega)
  have h0 : ((ord n s : Int) * (s : Int)) % (n : Int) = 0 := by
    have h0 : (ord n s * s) % n = 0 := (stp_zero_iff (i := ord n s) hn).mpr (Nat.dvd_refl _)
    have := congrArg (fun x : Nat => (x : Int)) h0
    simpa using this
  have e : c = (ord n s : Int) * (c / (ord n s : Int)) + c % (ord n s : Int) := (Int.mul_ediv_add_emod c (ord n s : Int)).symm
  have e2 : c * (s : Int) = (c / (ord n s : Int)) * ((ord n s : Int) * (s : Int)) + (c % (ord n s : Int)) * (s : Int) := by
    have : ((ord n s : Int) * (c / (ord n s : Int)) + c % (ord n s : Int)) * (s : Int) = (c / (ord n s : Int)) * ((ord n s : Int) * (s : Int)) + (c % (ord n s : Int)) * (s : Int) := by
      rw [Int.add_mul]
      congr 1
      rw [Int.mul_assoc, Int.mul_left_comm]
    rw [← this, ← e]
  rw [e2, Int.add_emod, Int.mul_emod, h0, Int.mul_zero, Int.zero_emod, Int.zero_add, Int.emod_emod]
  unfold stp
  have e3 : c % (ord n s : Int) = (((c % (ord n s : Int)).toNat : Nat) : Int) := (Int.toNat_of_nonneg hr0).symm
  conv => lhs; rw [e3]
  simp
end K1M

/-! plain mathematics for the written names -/
namespace K1N
def nAt (rs : List (Int × Int)) (j : Nat) : Nat := (rs.getD j (0, 0)).1.toNat
def sAt (rs : List (Int × Int)) (j : Nat) : Int := (rs.getD j (0, 0)).2
def row (j n : Nat) : List (Int × Int) := (List.range n).map fun (q : Nat) => ((j : Int), (q : Int))
def pre (rs : List (Int × Int)) : Nat → List (Int × Int)
  | 0 => []
  | i + 1 => pre rs i ++ row i (nAt rs i)
/-- a place that is its own written name -/
def own (rs : List (Int × Int)) (p : Int × Int) : Bool := !(decide (0 < p.1) && decide (p.2 = sAt rs p.1.toNat))
def names (rs : List (Int × Int)) : List (Int × Int) := (pre rs rs.length).filter (own rs)
def sumTo (rs : List (Int × Int)) : Nat → Nat
  | 0 => 0
  | i + 1 => sumTo rs i + nAt rs i
theorem nAt_left {a b : List (Int × Int)} {j : Nat} (h : j < a.length) : nAt (a ++ b) j = nAt a j := by
  unfold nAt
  rw [List.getD_eq_getElem?_getD, List.getD_eq_getElem?_getD, List.getElem?_append_left h]
end K1N

/-! enumerate over a tuple, one argument -/
namespace EnT
open PySem PySem.Spec PyProof.Rows L2
theorem made {v : Value} {o : Obj} {Hy : Heap → Prop} (B : Begins v o Hy) : Meets (Builtin.«enumerate.__new__» ⟨[.type "enumerate", v], []⟩) (fun _ R s => Hy s.heap ∧
      R (.ok (.ret (.ref (s.heap.push o).objs.size))) { s with heap := (s.heap.push o).push { cls := .type "enumerate", data := .fields #[.none, .bool false, .ref s.heap.objs.size, rawInt 0, .none, .none] } }) :=
  .of_wp fun prog w A R s z => by
    obtain ⟨hp, gs, dr, tk, os⟩ := s
    obtain ⟨z1, z2⟩ := z
    have sb := sub_enumerate
    have it1 : ∀ {A2 : Around} {E2 : Value → Shared → Prop} {Q2 : Value → Shared → Prop}, Q2 (.ref hp.objs.size) ⟨hp.push o, gs, dr, tk, os⟩ → wpAny (model prog w) A2 (pyIter v) Q2 E2 ⟨hp, gs, dr, tk, os⟩ :=
      fun y => B.iter prog w _ _ ⟨hp, gs, dr, tk, os⟩ _ z1 y
    wp_walk using it1
    refine wpAny_stack_any fun _ => wpAny_pure ?_
    split
    · rename_i c _ _ _ _ _
      cases (c == Value.type "enumerate")
      · wp_walk using it1
        exact ⟨_, rfl, z2⟩
      · wp_walk using it1
        exact ⟨_, rfl, z2⟩
    · wp_walk using it1
      exact ⟨_, rfl, z2⟩
section
variable {prog : Program} {w : World} {A : Around} {E : Value → Shared → Prop} {s : Shared}
theorem call_made {v : Value} {o : Obj} {Hy : Heap → Prop} {Q : Value → Shared → Prop} (B : Begins v o Hy) (h1 : Hy s.heap)
    (k : ∀ h2, IsEnum h2 (s.heap.objs.size + 1) s.heap.objs.size 0 .none → h2.get? s.heap.objs.size = some o → (∀ b u, s.heap.get? b = some u → h2.get? b = some u) → Q (.ref (s.heap.objs.size + 1)) { s with heap := h2 }) :
    wpAny (model prog w) A (call (.type "enumerate") [v]) Q E s := by
  refine callType_new F.called_enumerate (by decide) (F.typeCall_enumerate_1 _) (F.newCall_enumerate_1 _) (fun obj => F.args_object_init_2 obj _) F.entry_enumerate_new (made B) ⟨h1, ?_⟩
  have sz : (s.heap.push o).objs.size = s.heap.objs.size + 1 := by rw [Heap.size_push]
  show _ ∧ _
  rw [sz]
  have en := Heap.get?_push_size (s.heap.push o) (o := { cls := .type "enumerate", data := .fields #[.none, .bool false, .ref s.heap.objs.size, rawInt 0, .none, .none] }) rfl
  rw [sz] at en
  exact ⟨⟨_, en, rfl⟩, k _ en (Heap.get?_push_of_some _ (Heap.get?_push_size _ B.free)) fun b u y => Heap.get?_push_of_some _ (Heap.get?_push_of_some _ y)⟩
end
/-- the tuple at a, each item in a new pair with its number -/
def IteT (K : PySem.W.Frag) (a : Addr) : It :=
  ⟨fun i H => ∃ (ts : List V) (x : V), SqT K H a ts ∧ ts[i]? = some x, fun i H v H' => ∃ T x, v = .ref T ∧ H T = none ∧ H' = upd H T (.tup [.int (i : Nat), x]) ∧ ∀ ts, SqT K H a ts → ts[i]? = some x, fun i H => ∃ ts : List V, SqT K H a ts ∧ ts.length = i⟩
theorem tup_inj {X : Cx} {pins : List (Addr × Obj)} {σ : L2.St} {H : Hp} {s : Shared} {a : Addr} {xs ys : List V} (I : Inv X pins σ H s) (h1 : SqT X.K H a xs) (h2 : SqT X.K H a ys) : xs = ys := by
  obtain ⟨i1, r1, ⟨o1, g1, c1, n1, d1⟩, _⟩ := I.tuple h1
  obtain ⟨i2, r2, ⟨o2, g2, c2, n2, d2⟩, _⟩ := I.tuple h2
  rw [g1] at g2
  have e := Option.some.inj g2
  subst e
  rw [d1] at d2
  injection d2 with e1 _
  have e3 : i1 = i2 := by simpa using e1
  subst e3
  exact Vals.inj r1 r2
theorem turn {P : Program} {w : World} {K : PySem.W.Frag} {elts : List Expr} {kk : Nat} {tpos : Pos} (a e it : Addr) :
    Turn P w K (.Tuple elts kk tpos) (IteT K a) [e, it] e (fun i h => (∃ old, IsEnum h e it ((i : Nat) : Int) old) ∧ h.IsTupleIter it a i ∧ e ≠ it ∧ a ≠ e ∧ a ≠ it) where
  mem := by simp
  obj := fun i h st b hb => by
    obtain ⟨⟨old, he⟩, ⟨o, ho, hc, hd⟩, _⟩ := st
    rcases (show b = e ∨ b = it by simpa using hb) with z | z
    · rw [z]
      exact ⟨_, he, fun v q => nomatch q⟩
    · rw [z]
      exact ⟨o, ho, fun v q => by rw [hd] at q; cases q⟩
  keep := fun i h h' st k => by
    obtain ⟨⟨old, he⟩, ⟨o, ho, hc, hd⟩, n1, n2, n3⟩ := st
    exact ⟨⟨old, k e (by simp) _ he⟩, ⟨o, k it (by simp) _ ho, hc, hd⟩, n1, n2, n3⟩
  item := by
    intro X hP hw hK hc i pins s σ H E I hf st hg
    subst hP hw hK
    obtain ⟨⟨old, he⟩, hit, n1, n2, n3⟩ := st
    obtain ⟨xs, x, hq, hx⟩ := hg
    obtain ⟨its, rv, p, _⟩ := I.tuple hq
    obtain ⟨u, hu, ru⟩ := rv.get hx
    have hel : e < s.heap.objs.size := Heap.lt_size he
    have hil : it < s.heap.objs.size := by
      obtain ⟨_, q, _⟩ := hit
      exact Heap.lt_size q
    have hlt : i < its.toArray.size := by
      have := (List.getElem?_eq_some_iff.mp hu).1
      simpa using this
    have hh : X.A.in1.handled = none := I.ok.hd hc
    have DT := Draws.tuple (prog := X.prog) (w := X.w) hh it a n3 its.toArray
    refine wpAny_pyNext_enum_itemD DT he ⟨hit, p⟩ hlt n1 (by simp [n1, Ne.symm n2]) fun y h1 tk hy ho hst hT hsz hk => ?_
    have ey : y = u := by
      have q : its.toArray[i]? = some u := by simpa using hu
      exact Option.some.inj (hy.symm.trans q)
    subst ey
    refine ⟨_, rfl, wpAny_letOwnedTupleGo_enum (s := { s with heap := h1, toks := tk + 1 }) ho fun h2 he2 sb => ?_⟩
    have hT2 : h2.get? s.heap.objs.size = some { cls := .type "tuple", data := .seq #[.int i tk, y] } := (sb.2 _ (Nat.ne_of_gt hel)).trans hT
    have new : ObjOk X.prog X.w (upd H s.heap.objs.size (.tup [.int (i : Nat), x])) h2 s.heap.objs.size (.tup [.int (i : Nat), x]) :=
      ⟨show 2 ≤ sizeLine by decide, [.int i tk, y], .cons ⟨_, rfl⟩ (.cons ru .nil), ⟨_, hT2, rfl, _, rfl⟩⟩
    have I1 : Inv X pins σ (upd H s.heap.objs.size (.tup [.int (i : Nat), x])) { s with heap := h2, toks := tk + 1 } :=
      I.turnedNew (ch := [e, it]) (fun b ob hb q => (sb.2 b (fun z => hb (by simp [z]))).trans (hk b ob (fun z => hb (by simp [z])) (fun z => hb (by simp [z])) q)) hf (Nat.le_refl _) new
    obtain ⟨oi, g1, g2, g3⟩ := hst.1
    refine ⟨.ref s.heap.objs.size, _, I1, rfl, ⟨_, x, rfl, I.hok.fresh (Nat.le_refl _), rfl, fun ys hys => by rw [tup_inj I hys hq]; exact hx⟩, ⟨⟨y, ?_⟩, ⟨oi, (sb.2 it (Ne.symm n1)).trans g1, g2, g3⟩, n1, n2, n3⟩, fun b hb => ?_⟩
    · rw [show ((i + 1 : Nat) : Int) = (i : Int) + 1 by omega]
      exact he2
    · have hb2 : b < s.heap.objs.size := by
        rcases (show b = e ∨ b = it by simpa using hb) with z | z
        · rw [z]
          exact hel
        · rw [z]
          exact hil
      rw [upd_ne (Nat.ne_of_lt hb2)]
      exact (hf b hb).1
  done := by
    intro X hP hw hK hc i pins s σ H E I hf st hg
    subst hP hw hK
    obtain ⟨⟨old, he⟩, hit, n1, n2, n3⟩ := st
    obtain ⟨xs, hq, hx⟩ := hg
    obtain ⟨its, rv, p, _⟩ := I.tuple hq
    obtain ⟨f0, f1, f2, f3, f4, f5⟩ := hf it (by simp)
    have hl := rv.length
    have hn : its.toArray.size = i := by
      rw [List.size_toArray]
      omega
    have hh : X.A.in1.handled = none := I.ok.hd hc
    have DT := Draws.tuple (prog := X.prog) (w := X.w) hh it a n3 its.toArray
    refine wpAny_pyNext_enum_endD DT he ⟨?_, p⟩ fun h1 eb => ⟨rfl, I.turned (t' := s.toks) (fun b o hb q => eb b o hb q) f0 f1 f3 f4 f5⟩
    rw [hn]
    exact hit
  self := fun A i s Q E st h => by
    obtain ⟨⟨_, he⟩, _⟩ := st
    exact wpAny_pyIter_enum he h
def iEnumT (K : PySem.W.Frag) (ta : TA) : TI := fun σ H R => ta σ H fun vs H1 => ∃ a xs, vs = [.ref a] ∧ SqT K H1 a xs ∧ R (IteT K a) H1
theorem pi_enumT {X : Cx} {e : Expr} {ta : TA} {p pos tpos : Pos} {elts : List Expr} {kk : Nat} (hg : Gl X "enumerate") (hm : X.mg "enumerate" = none) (ha : PA X [e] ta) (hs : starEach [e] X.env = [(false, eval e X.env)] := by rfl) :
    PI X (.Tuple elts kk tpos) (.Call (.Name "enumerate" p) [e] [] pos) (iEnumT X.K ta) := by
  refine ⟨fun pins s σ H R I h => ?_⟩
  refine Call_ (ld_blt I hg hm boot_enumerate (PyProof.Rows.callWith_type1 (thn (ha.run pos pins s σ H _ I h) fun us s1 ⟨vs, H1, I1, r1, y1⟩ => ?_) hs rfl))
  obtain ⟨a, xs, ex, hq, q⟩ := y1
  subst ex
  cases r1 with
  | cons r rr =>
    cases rr
    cases r
    obtain ⟨its, rv, p2, _⟩ := I1.tuple hq
    have hal : a < s1.heap.objs.size := by
      obtain ⟨o, g, _⟩ := p2
      exact Heap.lt_size g
    refine call_made (begins_tuple a its.toArray) p2 fun h2 he hit hk => wpAny_pyIter_enum he ?_
    have I2 : Inv X pins σ H1 { s1 with heap := h2 } := I1.kept (t' := s1.toks) hk
    refine ⟨s1.heap.objs.size + 1, [s1.heap.objs.size + 1, s1.heap.objs.size], _, _, H1, rfl, I2, turn a (s1.heap.objs.size + 1) s1.heap.objs.size, ⟨⟨.none, he⟩, ⟨_, hit, rfl, rfl⟩, Nat.succ_ne_self _, Nat.ne_of_lt (Nat.lt_succ_of_lt hal), Nat.ne_of_lt hal⟩, fun b hb => ?_, q⟩
    have hle : s1.heap.objs.size ≤ b := by
      rcases (show b = s1.heap.objs.size + 1 ∨ b = s1.heap.objs.size by simpa using hb) with z | z
      · rw [z]
        exact Nat.le_add_right _ _
      · rw [z]
        exact Nat.le_refl _
    exact I1.fpOk hle (I1.hok.fresh hle)
end EnT

namespace K1
open PySem PySem.Spec PyProof.Rows L2 Evl
def topS (i : Nat) : Stmt := PySem.Challenge.pw_ringstairs_k97_whole_levels_and_all_mult.main.body.getD i (.Pass ⟨0, 0, 0, 0⟩)
abbrev sIsInteger : Stmt := topS 14
abbrev nIsInteger : List Str := ["value"]
theorem scIsInteger : FnScope nIsInteger ["value"] (defScope sIsInteger) := ⟨rfl, rfl, rfl, by decide +kernel, rfl, by decide +kernel, by decide +kernel⟩
abbrev sIsBetween : Stmt := topS 15
abbrev nIsBetween : List Str := ["value", "low", "high"]
theorem scIsBetween : FnScope nIsBetween ["value", "low", "high"] (defScope sIsBetween) := ⟨rfl, rfl, rfl, by decide +kernel, rfl, by decide +kernel, by decide +kernel⟩
abbrev sIsShort : Stmt := topS 16
abbrev nIsShort : List Str := ["value"]
theorem scIsShort : FnScope nIsShort ["value"] (defScope sIsShort) := ⟨rfl, rfl, rfl, by decide +kernel, rfl, by decide +kernel, by decide +kernel⟩
abbrev sAreShort : Stmt := topS 17
abbrev nAreShort : List Str := ["numbers", "number"]
theorem scAreShort : FnScope nAreShort ["numbers"] (defScope sAreShort) := ⟨rfl, rfl, rfl, by decide +kernel, rfl, by decide +kernel, by decide +kernel⟩
abbrev sIsPair : Stmt := topS 18
abbrev nIsPair : List Str := ["value"]
theorem scIsPair : FnScope nIsPair ["value"] (defScope sIsPair) := ⟨rfl, rfl, rfl, by decide +kernel, rfl, by decide +kernel, by decide +kernel⟩
abbrev sCheckInteger : Stmt := topS 19
abbrev nCheckInteger : List Str := ["value"]
theorem scCheckInteger : FnScope nCheckInteger ["value"] (defScope sCheckInteger) := ⟨rfl, rfl, rfl, by decide +kernel, rfl, by decide +kernel, by decide +kernel⟩
abbrev sCheckBetween : Stmt := topS 20
abbrev nCheckBetween : List Str := ["value", "low", "high"]
theorem scCheckBetween : FnScope nCheckBetween ["value", "low", "high"] (defScope sCheckBetween) := ⟨rfl, rfl, rfl, by decide +kernel, rfl, by decide +kernel, by decide +kernel⟩
abbrev sCheckUpTo : Stmt := topS 21
abbrev nCheckUpTo : List Str := ["value", "high"]
theorem scCheckUpTo : FnScope nCheckUpTo ["value", "high"] (defScope sCheckUpTo) := ⟨rfl, rfl, rfl, by decide +kernel, rfl, by decide +kernel, by decide +kernel⟩
abbrev sCheckDigits : Stmt := topS 22
abbrev nCheckDigits : List Str := ["numbers", "number"]
theorem scCheckDigits : FnScope nCheckDigits ["numbers"] (defScope sCheckDigits) := ⟨rfl, rfl, rfl, by decide +kernel, rfl, by decide +kernel, by decide +kernel⟩
abbrev sIsRing : Stmt := topS 26
abbrev nIsRing : List Str := ["value", "places", "door"]
theorem scIsRing : FnScope nIsRing ["value"] (defScope sIsRing) := ⟨rfl, rfl, rfl, by decide +kernel, rfl, by decide +kernel, by decide +kernel⟩
abbrev sIsChain : Stmt := topS 27
abbrev nIsChain : List Str := ["value", "ring"]
theorem scIsChain : FnScope nIsChain ["value"] (defScope sIsChain) := ⟨rfl, rfl, rfl, by decide +kernel, rfl, by decide +kernel, by decide +kernel⟩
abbrev sLiesOn : Stmt := topS 28
abbrev nLiesOn : List Str := ["chain", "value", "index", "spot"]
theorem scLiesOn : FnScope nLiesOn ["chain", "value"] (defScope sLiesOn) := ⟨rfl, rfl, rfl, by decide +kernel, rfl, by decide +kernel, by decide +kernel⟩
abbrev sLiesDealt : Stmt := topS 29
abbrev nLiesDealt : List Str := ["chain", "value", "place"]
theorem scLiesDealt : FnScope nLiesDealt ["chain", "value"] (defScope sLiesDealt) := ⟨rfl, rfl, rfl, by decide +kernel, rfl, by decide +kernel, by decide +kernel⟩
abbrev sCheckRing : Stmt := topS 30
abbrev nCheckRing : List Str := ["ring"]
theorem scCheckRing : FnScope nCheckRing ["ring"] (defScope sCheckRing) := ⟨rfl, rfl, rfl, by decide +kernel, rfl, by decide +kernel, by decide +kernel⟩
abbrev sCheckChain : Stmt := topS 31
abbrev nCheckChain : List Str := ["chain"]
theorem scCheckChain : FnScope nCheckChain ["chain"] (defScope sCheckChain) := ⟨rfl, rfl, rfl, by decide +kernel, rfl, by decide +kernel, by decide +kernel⟩
abbrev sCheckDeal : Stmt := topS 32
abbrev nCheckDeal : List Str := ["chain", "deal"]
theorem scCheckDeal : FnScope nCheckDeal ["chain", "deal"] (defScope sCheckDeal) := ⟨rfl, rfl, rfl, by decide +kernel, rfl, by decide +kernel, by decide +kernel⟩
abbrev sOrderOf : Stmt := topS 33
abbrev nOrderOf : List Str := ["ring"]
theorem scOrderOf : FnScope nOrderOf ["ring"] (defScope sOrderOf) := ⟨rfl, rfl, rfl, by decide +kernel, rfl, by decide +kernel, by decide +kernel⟩
abbrev sLets : Stmt := topS 34
abbrev nLets : List Str := ["ring", "place", "diagonal"]
theorem scLets : FnScope nLets ["ring", "place", "diagonal"] (defScope sLets) := ⟨rfl, rfl, rfl, by decide +kernel, rfl, by decide +kernel, by decide +kernel⟩
abbrev sLeftName : Stmt := topS 35
abbrev nLeftName : List Str := ["chain"]
theorem scLeftName : FnScope nLeftName ["chain"] (defScope sLeftName) := ⟨rfl, rfl, rfl, by decide +kernel, rfl, by decide +kernel, by decide +kernel⟩
abbrev sRightName : Stmt := topS 36
abbrev nRightName : List Str := ["chain"]
theorem scRightName : FnScope nRightName ["chain"] (defScope sRightName) := ⟨rfl, rfl, rfl, by decide +kernel, rfl, by decide +kernel, by decide +kernel⟩
abbrev sWrittenName : Stmt := topS 37
abbrev nWrittenName : List Str := ["chain", "place", "index", "spot"]
theorem scWrittenName : FnScope nWrittenName ["chain", "place"] (defScope sWrittenName) := ⟨rfl, rfl, rfl, by decide +kernel, rfl, by decide +kernel, by decide +kernel⟩
abbrev sCombined : Stmt := topS 38
abbrev nCombined : List Str := ["chain", "parts", "sums", "count", "deal", "place", "name"]
theorem scCombined : FnScope nCombined ["chain", "parts"] (defScope sCombined) := ⟨rfl, rfl, rfl, by decide +kernel, rfl, by decide +kernel, by decide +kernel⟩
abbrev sToldSum : Stmt := topS 39
abbrev nToldSum : List Str := ["chain", "parts", "deal"]
theorem scToldSum : FnScope nToldSum ["chain", "parts"] (defScope sToldSum) := ⟨rfl, rfl, rfl, by decide +kernel, rfl, by decide +kernel, by decide +kernel⟩
abbrev sCheckDeals : Stmt := topS 40
abbrev nCheckDeals : List Str := ["chain", "one", "other"]
theorem scCheckDeals : FnScope nCheckDeals ["chain", "one", "other"] (defScope sCheckDeals) := ⟨rfl, rfl, rfl, by decide +kernel, rfl, by decide +kernel, by decide +kernel⟩
abbrev sAdded : Stmt := topS 41
abbrev nAdded : List Str := ["chain", "one", "other"]
theorem scAdded : FnScope nAdded ["chain", "one", "other"] (defScope sAdded) := ⟨rfl, rfl, rfl, by decide +kernel, rfl, by decide +kernel, by decide +kernel⟩
abbrev sAtEnds : Stmt := topS 42
abbrev nAtEnds : List Str := ["chain", "a", "b"]
theorem scAtEnds : FnScope nAtEnds ["chain", "a", "b"] (defScope sAtEnds) := ⟨rfl, rfl, rfl, by decide +kernel, rfl, by decide +kernel, by decide +kernel⟩
abbrev sLiesTold : Stmt := topS 44
abbrev nLiesTold : List Str := ["chain", "value", "place", "ring"]
theorem scLiesTold : FnScope nLiesTold ["chain", "value"] (defScope sLiesTold) := ⟨rfl, rfl, rfl, by decide +kernel, rfl, by decide +kernel, by decide +kernel⟩
abbrev sIsClass : Stmt := topS 45
abbrev nIsClass : List Str := ["chain", "value"]
theorem scIsClass : FnScope nIsClass ["chain", "value"] (defScope sIsClass) := ⟨rfl, rfl, rfl, by decide +kernel, rfl, by decide +kernel, by decide +kernel⟩
abbrev sClassAt : Stmt := topS 46
abbrev nClassAt : List Str := ["chain", "deal", "chips", "sums", "place", "index", "spot", "places", "ahead", "ring", "_"]
theorem scClassAt : FnScope nClassAt ["chain", "deal"] (defScope sClassAt) := ⟨rfl, rfl, rfl, by decide +kernel, rfl, by decide +kernel, by decide +kernel⟩
abbrev sIsHeap : Stmt := topS 49
abbrev nIsHeap : List Str := ["value", "ahead", "height"]
theorem scIsHeap : FnScope nIsHeap ["value"] (defScope sIsHeap) := ⟨rfl, rfl, rfl, by decide +kernel, rfl, by decide +kernel, by decide +kernel⟩
abbrev sCheckHeap : Stmt := topS 50
abbrev nCheckHeap : List Str := ["heap"]
theorem scCheckHeap : FnScope nCheckHeap ["heap"] (defScope sCheckHeap) := ⟨rfl, rfl, rfl, by decide +kernel, rfl, by decide +kernel, by decide +kernel⟩
abbrev sCheckHeaps : Stmt := topS 51
abbrev nCheckHeaps : List Str := ["one", "other"]
theorem scCheckHeaps : FnScope nCheckHeaps ["one", "other"] (defScope sCheckHeaps) := ⟨rfl, rfl, rfl, by decide +kernel, rfl, by decide +kernel, by decide +kernel⟩
abbrev sHeightAt : Stmt := topS 52
abbrev nHeightAt : List Str := ["heap", "column"]
theorem scHeightAt : FnScope nHeightAt ["heap", "column"] (defScope sHeightAt) := ⟨rfl, rfl, rfl, by decide +kernel, rfl, by decide +kernel, by decide +kernel⟩
abbrev sHasBox : Stmt := topS 53
abbrev nHasBox : List Str := ["heap", "columns", "rows"]
theorem scHasBox : FnScope nHasBox ["heap", "columns", "rows"] (defScope sHasBox) := ⟨rfl, rfl, rfl, by decide +kernel, rfl, by decide +kernel, by decide +kernel⟩
abbrev sHolds : Stmt := topS 54
abbrev nHolds : List Str := ["heap", "other", "column", "height"]
theorem scHolds : FnScope nHolds ["heap", "other"] (defScope sHolds) := ⟨rfl, rfl, rfl, by decide +kernel, rfl, by decide +kernel, by decide +kernel⟩
abbrev sBox : Stmt := topS 55
abbrev nBox : List Str := ["columns", "rows"]
theorem scBox : FnScope nBox ["columns", "rows"] (defScope sBox) := ⟨rfl, rfl, rfl, by decide +kernel, rfl, by decide +kernel, by decide +kernel⟩
abbrev sIsHeld : Stmt := topS 56
abbrev nIsHeld : List Str := ["heap", "other"]
theorem scIsHeld : FnScope nIsHeld ["heap", "other"] (defScope sIsHeld) := ⟨rfl, rfl, rfl, by decide +kernel, rfl, by decide +kernel, by decide +kernel⟩
abbrev sLengthsOf : Stmt := topS 57
abbrev nLengthsOf : List Str := ["heap", "height", "row"]
theorem scLengthsOf : FnScope nLengthsOf ["heap"] (defScope sLengthsOf) := ⟨rfl, rfl, rfl, by decide +kernel, rfl, by decide +kernel, by decide +kernel⟩
abbrev sHookAt : Stmt := topS 58
abbrev nHookAt : List Str := ["heap", "lengths", "column", "row"]
theorem scHookAt : FnScope nHookAt ["heap", "lengths", "column", "row"] (defScope sHookAt) := ⟨rfl, rfl, rfl, by decide +kernel, rfl, by decide +kernel, by decide +kernel⟩
abbrev sUnionOf : Stmt := topS 59
abbrev nUnionOf : List Str := ["one", "other", "columns", "column"]
theorem scUnionOf : FnScope nUnionOf ["one", "other"] (defScope sUnionOf) := ⟨rfl, rfl, rfl, by decide +kernel, rfl, by decide +kernel, by decide +kernel⟩
abbrev sOpenColumns : Stmt := topS 60
abbrev nOpenColumns : List Str := ["heap", "columns", "column"]
theorem scOpenColumns : FnScope nOpenColumns ["heap"] (defScope sOpenColumns) := ⟨rfl, rfl, rfl, by decide +kernel, rfl, by decide +kernel, by decide +kernel⟩
abbrev sTipsOf : Stmt := topS 61
abbrev nTipsOf : List Str := ["heap", "column", "height"]
theorem scTipsOf : FnScope nTipsOf ["heap"] (defScope sTipsOf) := ⟨rfl, rfl, rfl, by decide +kernel, rfl, by decide +kernel, by decide +kernel⟩
abbrev sHeaped : Stmt := topS 62
abbrev nHeaped : List Str := ["heap", "columns", "heights", "column", "height"]
theorem scHeaped : FnScope nHeaped ["heap", "columns"] (defScope sHeaped) := ⟨rfl, rfl, rfl, by decide +kernel, rfl, by decide +kernel, by decide +kernel⟩
abbrev sLowered : Stmt := topS 63
abbrev nLowered : List Str := ["heap", "columns", "heights", "column", "height"]
theorem scLowered : FnScope nLowered ["heap", "columns"] (defScope sLowered) := ⟨rfl, rfl, rfl, by decide +kernel, rfl, by decide +kernel, by decide +kernel⟩
abbrev sGrownBy : Stmt := topS 64
abbrev nGrownBy : List Str := ["heap", "ring", "place", "columns", "column"]
theorem scGrownBy : FnScope nGrownBy ["heap", "ring", "place"] (defScope sGrownBy) := ⟨rfl, rfl, rfl, by decide +kernel, rfl, by decide +kernel, by decide +kernel⟩
abbrev sHeapsOf : Stmt := topS 65
abbrev nHeapsOf : List Str := ["chain", "places", "heaps", "index", "ring"]
theorem scHeapsOf : FnScope nHeapsOf ["chain", "places"] (defScope sHeapsOf) := ⟨rfl, rfl, rfl, by decide +kernel, rfl, by decide +kernel, by decide +kernel⟩
abbrev sCheckOrder : Stmt := topS 69
abbrev nCheckOrder : List Str := ["k"]
theorem scCheckOrder : FnScope nCheckOrder ["k"] (defScope sCheckOrder) := ⟨rfl, rfl, rfl, by decide +kernel, rfl, by decide +kernel, by decide +kernel⟩
abbrev sBeadsOf : Stmt := topS 70
abbrev nBeadsOf : List Str := ["heap", "column", "height"]
theorem scBeadsOf : FnScope nBeadsOf ["heap"] (defScope sBeadsOf) := ⟨rfl, rfl, rfl, by decide +kernel, rfl, by decide +kernel, by decide +kernel⟩
abbrev sStaysCore : Stmt := topS 71
abbrev nStaysCore : List Str := ["k", "heap", "beads", "bead"]
theorem scStaysCore : FnScope nStaysCore ["k", "heap"] (defScope sStaysCore) := ⟨rfl, rfl, rfl, by decide +kernel, rfl, by decide +kernel, by decide +kernel⟩
abbrev sIsCore : Stmt := topS 72
abbrev nIsCore : List Str := ["k", "value"]
theorem scIsCore : FnScope nIsCore ["k", "value"] (defScope sIsCore) := ⟨rfl, rfl, rfl, by decide +kernel, rfl, by decide +kernel, by decide +kernel⟩
abbrev sCheckCore : Stmt := topS 73
abbrev nCheckCore : List Str := ["k", "core"]
theorem scCheckCore : FnScope nCheckCore ["k", "core"] (defScope sCheckCore) := ⟨rfl, rfl, rfl, by decide +kernel, rfl, by decide +kernel, by decide +kernel⟩
abbrev sCheckTold : Stmt := topS 74
abbrev nCheckTold : List Str := ["k", "core"]
theorem scCheckTold : FnScope nCheckTold ["k", "core"] (defScope sCheckTold) := ⟨rfl, rfl, rfl, by decide +kernel, rfl, by decide +kernel, by decide +kernel⟩
abbrev sPartsOf : Stmt := topS 75
abbrev nPartsOf : List Str := ["k", "heap", "lengths", "parts", "column", "height", "row"]
theorem scPartsOf : FnScope nPartsOf ["k", "heap"] (defScope sPartsOf) := ⟨rfl, rfl, rfl, by decide +kernel, rfl, by decide +kernel, by decide +kernel⟩
abbrev sLettersOf : Stmt := topS 76
abbrev nLettersOf : List Str := ["k", "core"]
theorem scLettersOf : FnScope nLettersOf ["k", "core"] (defScope sLettersOf) := ⟨rfl, rfl, rfl, by decide +kernel, rfl, by decide +kernel, by decide +kernel⟩
abbrev sCheckLetters : Stmt := topS 78
abbrev nCheckLetters : List Str := ["k", "core", "most"]
theorem scCheckLetters : FnScope nCheckLetters ["k", "core", "most"] (defScope sCheckLetters) := ⟨rfl, rfl, rfl, by decide +kernel, rfl, by decide +kernel, by decide +kernel⟩
abbrev sAheadOfLetter : Stmt := topS 79
abbrev nAheadOfLetter : List Str := ["k", "core", "letter", "column", "height"]
theorem scAheadOfLetter : FnScope nAheadOfLetter ["k", "core", "letter"] (defScope sAheadOfLetter) := ⟨rfl, rfl, rfl, by decide +kernel, rfl, by decide +kernel, by decide +kernel⟩
abbrev sLastLetters : Stmt := topS 80
abbrev nLastLetters : List Str := ["k", "core", "column", "height"]
theorem scLastLetters : FnScope nLastLetters ["k", "core"] (defScope sLastLetters) := ⟨rfl, rfl, rfl, by decide +kernel, rfl, by decide +kernel, by decide +kernel⟩
abbrev sGrowingWord : Stmt := topS 81
abbrev nGrowingWord : List Str := ["k", "core", "letters", "left"]
theorem scGrowingWord : FnScope nGrowingWord ["k", "core"] (defScope sGrowingWord) := ⟨rfl, rfl, rfl, by decide +kernel, rfl, by decide +kernel, by decide +kernel⟩
abbrev sLetterOf : Stmt := topS 83
abbrev nLetterOf : List Str := ["ring", "place", "order", "c"]
theorem scLetterOf : FnScope nLetterOf ["ring", "place"] (defScope sLetterOf) := ⟨rfl, rfl, rfl, by decide +kernel, rfl, by decide +kernel, by decide +kernel⟩
abbrev sMapValues : Stmt := topS 84
abbrev nMapValues : List Str := ["chain", "degree", "places", "first", "last", "many", "low", "at", "values", "index", "told"]
theorem scMapValues : FnScope nMapValues ["chain", "degree", "places", "first", "last"] (defScope sMapValues) := ⟨rfl, rfl, rfl, by decide +kernel, rfl, by decide +kernel, by decide +kernel⟩
abbrev sIsLevels : Stmt := topS 87
abbrev nIsLevels : List Str := ["value", "at"]
theorem scIsLevels : FnScope nIsLevels ["value"] (defScope sIsLevels) := ⟨rfl, rfl, rfl, by decide +kernel, rfl, by decide +kernel, by decide +kernel⟩
abbrev sCheckLevels : Stmt := topS 88
abbrev nCheckLevels : List Str := ["levels"]
theorem scCheckLevels : FnScope nCheckLevels ["levels"] (defScope sCheckLevels) := ⟨rfl, rfl, rfl, by decide +kernel, rfl, by decide +kernel, by decide +kernel⟩
abbrev sCheckLikeLevels : Stmt := topS 89
abbrev nCheckLikeLevels : List Str := ["levels", "many"]
theorem scCheckLikeLevels : FnScope nCheckLikeLevels ["levels", "many"] (defScope sCheckLikeLevels) := ⟨rfl, rfl, rfl, by decide +kernel, rfl, by decide +kernel, by decide +kernel⟩
abbrev sCheckOneOrder : Stmt := topS 90
abbrev nCheckOneOrder : List Str := ["chain", "ring"]
theorem scCheckOneOrder : FnScope nCheckOneOrder ["chain"] (defScope sCheckOneOrder) := ⟨rfl, rfl, rfl, by decide +kernel, rfl, by decide +kernel, by decide +kernel⟩
abbrev sDistanceIn : Stmt := topS 91
abbrev nDistanceIn : List Str := ["levels", "many", "late", "early"]
theorem scDistanceIn : FnScope nDistanceIn ["levels"] (defScope sDistanceIn) := ⟨rfl, rfl, rfl, by decide +kernel, rfl, by decide +kernel, by decide +kernel⟩
abbrev sDistance : Stmt := topS 92
abbrev nDistance : List Str := ["levels"]
theorem scDistance : FnScope nDistance ["levels"] (defScope sDistance) := ⟨rfl, rfl, rfl, by decide +kernel, rfl, by decide +kernel, by decide +kernel⟩
abbrev sColumnsAt : Stmt := topS 93
abbrev nColumnsAt : List Str := ["levels", "c", "level"]
theorem scColumnsAt : FnScope nColumnsAt ["levels", "c"] (defScope sColumnsAt) := ⟨rfl, rfl, rfl, by decide +kernel, rfl, by decide +kernel, by decide +kernel⟩
abbrev sRowsAt : Stmt := topS 94
abbrev nRowsAt : List Str := ["levels", "c", "level"]
theorem scRowsAt : FnScope nRowsAt ["levels", "c"] (defScope sRowsAt) := ⟨rfl, rfl, rfl, by decide +kernel, rfl, by decide +kernel, by decide +kernel⟩
abbrev sLevelRichness : Stmt := topS 95
abbrev nLevelRichness : List Str := ["levels", "c"]
theorem scLevelRichness : FnScope nLevelRichness ["levels", "c"] (defScope sLevelRichness) := ⟨rfl, rfl, rfl, by decide +kernel, rfl, by decide +kernel, by decide +kernel⟩
abbrev sAreAbove : Stmt := topS 96
abbrev nAreAbove : List Str := ["one", "other", "first"]
theorem scAreAbove : FnScope nAreAbove ["one", "other"] (defScope sAreAbove) := ⟨rfl, rfl, rfl, by decide +kernel, rfl, by decide +kernel, by decide +kernel⟩
abbrev sLevelsAt : Stmt := topS 97
abbrev nLevelsAt : List Str := ["chain", "degree", "places", "k", "value"]
theorem scLevelsAt : FnScope nLevelsAt ["chain", "degree", "places"] (defScope sLevelsAt) := ⟨rfl, rfl, rfl, by decide +kernel, rfl, by decide +kernel, by decide +kernel⟩
abbrev sLevelsOf : Stmt := topS 98
abbrev nLevelsOf : List Str := ["chain", "deal", "degree", "places", "levels"]
theorem scLevelsOf : FnScope nLevelsOf ["chain", "deal"] (defScope sLevelsOf) := ⟨rfl, rfl, rfl, by decide +kernel, rfl, by decide +kernel, by decide +kernel⟩
abbrev sCoreWithLevels : Stmt := topS 99
abbrev nCoreWithLevels : List Str := ["levels", "core", "c"]
theorem scCoreWithLevels : FnScope nCoreWithLevels ["levels"] (defScope sCoreWithLevels) := ⟨rfl, rfl, rfl, by decide +kernel, rfl, by decide +kernel, by decide +kernel⟩
abbrev sCoreOfLevels : Stmt := topS 100
abbrev nCoreOfLevels : List Str := ["levels"]
theorem scCoreOfLevels : FnScope nCoreOfLevels ["levels"] (defScope sCoreOfLevels) := ⟨rfl, rfl, rfl, by decide +kernel, rfl, by decide +kernel, by decide +kernel⟩
abbrev sCanBeMet : Stmt := topS 101
abbrev nCanBeMet : List Str := ["rings", "levels"]
theorem scCanBeMet : FnScope nCanBeMet ["rings", "levels"] (defScope sCanBeMet) := ⟨rfl, rfl, rfl, by decide +kernel, rfl, by decide +kernel, by decide +kernel⟩
abbrev sCheckAskedLevels : Stmt := topS 102
abbrev nCheckAskedLevels : List Str := ["chain", "levels"]
theorem scCheckAskedLevels : FnScope nCheckAskedLevels ["chain", "levels"] (defScope sCheckAskedLevels) := ⟨rfl, rfl, rfl, by decide +kernel, rfl, by decide +kernel, by decide +kernel⟩
abbrev sIdleAt : Stmt := topS 103
abbrev nIdleAt : List Str := ["k", "core"]
theorem scIdleAt : FnScope nIdleAt ["k", "core"] (defScope sIdleAt) := ⟨rfl, rfl, rfl, by decide +kernel, rfl, by decide +kernel, by decide +kernel⟩
abbrev sClassWithLevels : Stmt := topS 104
abbrev nClassWithLevels : List Str := ["chain", "levels", "k", "core", "letters", "places", "letter", "ring"]
theorem scClassWithLevels : FnScope nClassWithLevels ["chain", "levels"] (defScope sClassWithLevels) := ⟨rfl, rfl, rfl, by decide +kernel, rfl, by decide +kernel, by decide +kernel⟩
abbrev sHasLevels : Stmt := topS 105
abbrev nHasLevels : List Str := ["chain", "levels", "value"]
theorem scHasLevels : FnScope nHasLevels ["chain", "levels", "value"] (defScope sHasLevels) := ⟨rfl, rfl, rfl, by decide +kernel, rfl, by decide +kernel, by decide +kernel⟩
abbrev sRichnessAt : Stmt := topS 107
abbrev nRichnessAt : List Str := ["chain", "degree", "places", "heap", "short", "k"]
theorem scRichnessAt : FnScope nRichnessAt ["chain", "degree", "places"] (defScope sRichnessAt) := ⟨rfl, rfl, rfl, by decide +kernel, rfl, by decide +kernel, by decide +kernel⟩
abbrev sRichnessOf : Stmt := topS 108
abbrev nRichnessOf : List Str := ["chain", "deal", "degree", "places"]
theorem scRichnessOf : FnScope nRichnessOf ["chain", "deal"] (defScope sRichnessOf) := ⟨rfl, rfl, rfl, by decide +kernel, rfl, by decide +kernel, by decide +kernel⟩
abbrev sRichness : Stmt := topS 109
abbrev nRichness : List Str := ["chain", "deal"]
theorem scRichness : FnScope nRichness ["chain", "deal"] (defScope sRichness) := ⟨rfl, rfl, rfl, by decide +kernel, rfl, by decide +kernel, by decide +kernel⟩
abbrev sLDice : Stmt := topS 111
abbrev nLDice : List Str := ["_law_script", "_law_at", "_law_cell", "_law_great", "_law_left", "_law_mixed_here"]
theorem scLDice : FnScope nLDice ["_law_script", "_law_at"] (defScope sLDice) := ⟨rfl, rfl, rfl, by decide +kernel, rfl, by decide +kernel, by decide +kernel⟩
abbrev sLRoll : Stmt := topS 112
abbrev nLRoll : List Str := ["_law_dice_here", "_law_total", "_law_size", "_law_drawn", "_law_one", "_law_two"]
theorem scLRoll : FnScope nLRoll ["_law_dice_here", "_law_total"] (defScope sLRoll) := ⟨rfl, rfl, rfl, by decide +kernel, rfl, by decide +kernel, by decide +kernel⟩
abbrev sLOneOf : Stmt := topS 113
abbrev nLOneOf : List Str := ["_law_dice_here", "_law_items"]
theorem scLOneOf : FnScope nLOneOf ["_law_dice_here", "_law_items"] (defScope sLOneOf) := ⟨rfl, rfl, rfl, by decide +kernel, rfl, by decide +kernel, by decide +kernel⟩
abbrev sLMixed : Stmt := topS 114
abbrev nLMixed : List Str := ["_law_dice_here", "_law_items", "_law_left", "_law_found"]
theorem scLMixed : FnScope nLMixed ["_law_dice_here", "_law_items"] (defScope sLMixed) := ⟨rfl, rfl, rfl, by decide +kernel, rfl, by decide +kernel, by decide +kernel⟩
abbrev sLCommon : Stmt := topS 115
abbrev nLCommon : List Str := ["_law_one", "_law_other"]
theorem scLCommon : FnScope nLCommon ["_law_one", "_law_other"] (defScope sLCommon) := ⟨rfl, rfl, rfl, by decide +kernel, rfl, by decide +kernel, by decide +kernel⟩
abbrev sLOrder : Stmt := topS 116
abbrev nLOrder : List Str := ["_law_ring"]
theorem scLOrder : FnScope nLOrder ["_law_ring"] (defScope sLOrder) := ⟨rfl, rfl, rfl, by decide +kernel, rfl, by decide +kernel, by decide +kernel⟩
abbrev sLRingOf : Stmt := topS 117
abbrev nLRingOf : List Str := ["_law_dice_here", "_law_k", "_law_times", "_law_more", "_law_steps", "_law_one"]
theorem scLRingOf : FnScope nLRingOf ["_law_dice_here", "_law_k", "_law_times"] (defScope sLRingOf) := ⟨rfl, rfl, rfl, by decide +kernel, rfl, by decide +kernel, by decide +kernel⟩
abbrev sLEqualChain : Stmt := topS 118
abbrev nLEqualChain : List Str := ["_law_dice_here", "_law_rings", "_law_k", "_law_turn"]
theorem scLEqualChain : FnScope nLEqualChain ["_law_dice_here", "_law_rings", "_law_k"] (defScope sLEqualChain) := ⟨rfl, rfl, rfl, by decide +kernel, rfl, by decide +kernel, by decide +kernel⟩
abbrev sLTuple : Stmt := topS 119
abbrev nLTuple : List Str := ["_law_dice_here", "_law_chain", "_law_found", "_law_n", "_law_s"]
theorem scLTuple : FnScope nLTuple ["_law_dice_here", "_law_chain"] (defScope sLTuple) := ⟨rfl, rfl, rfl, by decide +kernel, rfl, by decide +kernel, by decide +kernel⟩
abbrev sLPlain : Stmt := topS 120
abbrev nLPlain : List Str := ["_law_chain", "_law_total", "_law_x", "_law_found", "_law_j", "_law_last"]
theorem scLPlain : FnScope nLPlain ["_law_chain", "_law_total", "_law_x"] (defScope sLPlain) := ⟨rfl, rfl, rfl, by decide +kernel, rfl, by decide +kernel, by decide +kernel⟩
abbrev sLGrown : Stmt := topS 121
abbrev nLGrown : List Str := ["_law_heap_here", "_law_ring", "_law_x", "_law_n", "_law_s", "_law_found", "_law_column", "_law_height", "_law_can_rise"]
theorem scLGrown : FnScope nLGrown ["_law_heap_here", "_law_ring", "_law_x"] (defScope sLGrown) := ⟨rfl, rfl, rfl, by decide +kernel, rfl, by decide +kernel, by decide +kernel⟩
abbrev sLHeap : Stmt := topS 122
abbrev nLHeap : List Str := ["_law_chain", "_law_x", "_law_heap_here", "_law_ring", "_law_place"]
theorem scLHeap : FnScope nLHeap ["_law_chain", "_law_x"] (defScope sLHeap) := ⟨rfl, rfl, rfl, by decide +kernel, rfl, by decide +kernel, by decide +kernel⟩
abbrev sLRich : Stmt := topS 123
abbrev nLRich : List Str := ["_law_heap_here", "_law_rings", "_law_total", "_law_k", "_law_rows"]
theorem scLRich : FnScope nLRich ["_law_heap_here", "_law_rings", "_law_total"] (defScope sLRich) := ⟨rfl, rfl, rfl, by decide +kernel, rfl, by decide +kernel, by decide +kernel⟩
abbrev sLMap : Stmt := topS 124
abbrev nLMap : List Str := ["_law_chain", "_law_total", "_law_x", "_law_first", "_law_last", "_law_size", "_law_i", "_law_values", "_law_j", "_law_n", "_law_s"]
theorem scLMap : FnScope nLMap ["_law_chain", "_law_total", "_law_x", "_law_first", "_law_last"] (defScope sLMap) := ⟨rfl, rfl, rfl, by decide +kernel, rfl, by decide +kernel, by decide +kernel⟩
abbrev sLLevels : Stmt := topS 125
abbrev nLLevels : List Str := ["_law_chain", "_law_total", "_law_x", "_law_k", "_law_values", "_law_i"]
theorem scLLevels : FnScope nLLevels ["_law_chain", "_law_total", "_law_x"] (defScope sLLevels) := ⟨rfl, rfl, rfl, by decide +kernel, rfl, by decide +kernel, by decide +kernel⟩
abbrev sLDistance : Stmt := topS 126
abbrev nLDistance : List Str := ["_law_levels_here", "_law_found", "_law_at", "_law_one"]
theorem scLDistance : FnScope nLDistance ["_law_levels_here"] (defScope sLDistance) := ⟨rfl, rfl, rfl, by decide +kernel, rfl, by decide +kernel, by decide +kernel⟩
abbrev sLSumOf : Stmt := topS 127
abbrev nLSumOf : List Str := ["_law_levels_here", "_law_c", "_law_level"]
theorem scLSumOf : FnScope nLSumOf ["_law_levels_here", "_law_c"] (defScope sLSumOf) := ⟨rfl, rfl, rfl, by decide +kernel, rfl, by decide +kernel, by decide +kernel⟩
abbrev sLIsAbove : Stmt := topS 128
abbrev nLIsAbove : List Str := ["_law_one", "_law_other", "_law_at"]
theorem scLIsAbove : FnScope nLIsAbove ["_law_one", "_law_other"] (defScope sLIsAbove) := ⟨rfl, rfl, rfl, by decide +kernel, rfl, by decide +kernel, by decide +kernel⟩
abbrev sLDrawnLevels : Stmt := topS 129
abbrev nLDrawnLevels : List Str := ["_law_dice_here", "_law_levels_here", "_law_found", "_law_way", "_law_turn", "_law_low", "_law_high", "_law_level"]
theorem scLDrawnLevels : FnScope nLDrawnLevels ["_law_dice_here", "_law_levels_here"] (defScope sLDrawnLevels) := ⟨rfl, rfl, rfl, by decide +kernel, rfl, by decide +kernel, by decide +kernel⟩
abbrev sLClassRight : Stmt := topS 130
abbrev nLClassRight : List Str := ["_law_dice_here", "_law_chain", "_law_total", "_law_x", "_law_own", "_law_k", "_law_deal", "_law_c", "_law_due", "_law_more"]
theorem scLClassRight : FnScope nLClassRight ["_law_dice_here", "_law_chain", "_law_total", "_law_x", "_law_own"] (defScope sLClassRight) := ⟨rfl, rfl, rfl, by decide +kernel, rfl, by decide +kernel, by decide +kernel⟩
abbrev sLOtherRight : Stmt := topS 131
abbrev nLOtherRight : List Str := ["_law_chain", "_law_x", "_law_own", "_law_other", "_law_size", "_law_k", "_law_far", "_law_told", "_law_core", "_law_heap_here"]
theorem scLOtherRight : FnScope nLOtherRight ["_law_chain", "_law_x", "_law_own", "_law_other"] (defScope sLOtherRight) := ⟨rfl, rfl, rfl, by decide +kernel, rfl, by decide +kernel, by decide +kernel⟩
abbrev sLRight : Stmt := topS 132
abbrev nLRight : List Str := ["_law_dice_here", "_law_chain", "_law_x", "_law_total", "_law_own", "_law_turn"]
theorem scLRight : FnScope nLRight ["_law_dice_here"] (defScope sLRight) := ⟨rfl, rfl, rfl, by decide +kernel, rfl, by decide +kernel, by decide +kernel⟩
abbrev sLaw : Stmt := topS 133
abbrev nLaw : List Str := ["_law_script", "_law_at"]
theorem scLaw : FnScope nLaw ["_law_script"] (defScope sLaw) := ⟨rfl, rfl, rfl, by decide +kernel, rfl, by decide +kernel, by decide +kernel⟩
/-- a def of the text at its place, and how its arguments bind -/
structure DefAt (K : PySem.W.Frag) (mg : Str → Option Value) (x : Str) (st : Stmt) (ps : List Str) (f : Addr) (fd : FuncData) : Prop where
  F : Fun K x x st f fd
  g : mg x = some (.ref f)
  b : Binds K fd ps []
/-- what the top has written -/
structure Txt (K : PySem.W.Frag) (mg : Str → Option Value) : Prop where
  z_abs : mg "abs" = none
  z_all : mg "all" = none
  z_any : mg "any" = none
  z_bool : mg "bool" = none
  z_dict : mg "dict" = none
  z_enumerate : mg "enumerate" = none
  z_int : mg "int" = none
  z_isinstance : mg "isinstance" = none
  z_len : mg "len" = none
  z_list : mg "list" = none
  z_max : mg "max" = none
  z_min : mg "min" = none
  z_range : mg "range" = none
  z_reversed : mg "reversed" = none
  z_sorted : mg "sorted" = none
  z_sum : mg "sum" = none
  z_tuple : mg "tuple" = none
  z_zip : mg "zip" = none
  v_BOUND : ∃ t, mg "BOUND" = some (.int (10 ^ 60) t)
  v_DIGITS : ∃ t, mg "DIGITS" = some (.int 60 t)
  v_SHORT_BOUND : ∃ t, mg "SHORT_BOUND" = some (.int (10 ^ 50) t)
  v_SHORT_DIGITS : ∃ t, mg "SHORT_DIGITS" = some (.int 50 t)
  v_RINGS : ∃ t, mg "MOST_RINGS" = some (.int 12 t)
  v_PLACES : ∃ t, mg "MOST_PLACES" = some (.int 60 t)
  v_SIDE : ∃ t, mg "MOST_SIDE" = some (.int 60 t)
  v_MAX_ORDER : ∃ t, mg "MAX_ORDER" = some (.int 60 t)
  v_MAX_LETTERS : ∃ t, mg "MAX_LETTERS" = some (.int 30 t)
  v_MOST_DISTANCE : ∃ t, mg "MOST_DISTANCE" = some (.int 12 t)
  v_gcd : mg "gcd" = some (.builtin "math.gcd")
  d_is_integer : ∃ f fd, DefAt K mg "is_integer" sIsInteger ["value"] f fd
  d_is_between : ∃ f fd, DefAt K mg "is_between" sIsBetween ["value", "low", "high"] f fd
  d_is_short : ∃ f fd, DefAt K mg "is_short" sIsShort ["value"] f fd
  d_are_short : ∃ f fd, DefAt K mg "are_short" sAreShort ["numbers"] f fd
  d_is_pair : ∃ f fd, DefAt K mg "is_pair" sIsPair ["value"] f fd
  d_check_integer : ∃ f fd, DefAt K mg "check_integer" sCheckInteger ["value"] f fd
  d_check_between : ∃ f fd, DefAt K mg "check_between" sCheckBetween ["value", "low", "high"] f fd
  d_check_up_to : ∃ f fd, DefAt K mg "check_up_to" sCheckUpTo ["value", "high"] f fd
  d_check_digits : ∃ f fd, DefAt K mg "check_digits" sCheckDigits ["numbers"] f fd
  d_is_ring : ∃ f fd, DefAt K mg "is_ring" sIsRing ["value"] f fd
  d_is_chain : ∃ f fd, DefAt K mg "is_chain" sIsChain ["value"] f fd
  d_lies_on : ∃ f fd, DefAt K mg "lies_on" sLiesOn ["chain", "value"] f fd
  d_lies_dealt : ∃ f fd, DefAt K mg "lies_dealt" sLiesDealt ["chain", "value"] f fd
  d_check_ring : ∃ f fd, DefAt K mg "check_ring" sCheckRing ["ring"] f fd
  d_check_chain : ∃ f fd, DefAt K mg "check_chain" sCheckChain ["chain"] f fd
  d_check_deal : ∃ f fd, DefAt K mg "check_deal" sCheckDeal ["chain", "deal"] f fd
  d_order_of : ∃ f fd, DefAt K mg "order_of" sOrderOf ["ring"] f fd
  d_lets : ∃ f fd, DefAt K mg "lets" sLets ["ring", "place", "diagonal"] f fd
  d_left_name : ∃ f fd, DefAt K mg "left_name" sLeftName ["chain"] f fd
  d_right_name : ∃ f fd, DefAt K mg "right_name" sRightName ["chain"] f fd
  d_written_name : ∃ f fd, DefAt K mg "written_name" sWrittenName ["chain", "place"] f fd
  d_combined : ∃ f fd, DefAt K mg "combined" sCombined ["chain", "parts"] f fd
  d_told_sum : ∃ f fd, DefAt K mg "told_sum" sToldSum ["chain", "parts"] f fd
  d_check_deals : ∃ f fd, DefAt K mg "check_deals" sCheckDeals ["chain", "one", "other"] f fd
  d_added : ∃ f fd, DefAt K mg "added" sAdded ["chain", "one", "other"] f fd
  d_at_ends : ∃ f fd, DefAt K mg "at_ends" sAtEnds ["chain", "a", "b"] f fd
  d_lies_told : ∃ f fd, DefAt K mg "lies_told" sLiesTold ["chain", "value"] f fd
  d_is_class : ∃ f fd, DefAt K mg "is_class" sIsClass ["chain", "value"] f fd
  d_class_at : ∃ f fd, DefAt K mg "class_at" sClassAt ["chain", "deal"] f fd
  d_is_heap : ∃ f fd, DefAt K mg "is_heap" sIsHeap ["value"] f fd
  d_check_heap : ∃ f fd, DefAt K mg "check_heap" sCheckHeap ["heap"] f fd
  d_check_heaps : ∃ f fd, DefAt K mg "check_heaps" sCheckHeaps ["one", "other"] f fd
  d_height_at : ∃ f fd, DefAt K mg "height_at" sHeightAt ["heap", "column"] f fd
  d_has_box : ∃ f fd, DefAt K mg "has_box" sHasBox ["heap", "columns", "rows"] f fd
  d_holds : ∃ f fd, DefAt K mg "holds" sHolds ["heap", "other"] f fd
  d_box : ∃ f fd, DefAt K mg "box" sBox ["columns", "rows"] f fd
  d_is_held : ∃ f fd, DefAt K mg "is_held" sIsHeld ["heap", "other"] f fd
  d_lengths_of : ∃ f fd, DefAt K mg "lengths_of" sLengthsOf ["heap"] f fd
  d_hook_at : ∃ f fd, DefAt K mg "hook_at" sHookAt ["heap", "lengths", "column", "row"] f fd
  d_union_of : ∃ f fd, DefAt K mg "union_of" sUnionOf ["one", "other"] f fd
  d_open_columns : ∃ f fd, DefAt K mg "open_columns" sOpenColumns ["heap"] f fd
  d_tips_of : ∃ f fd, DefAt K mg "tips_of" sTipsOf ["heap"] f fd
  d_heaped : ∃ f fd, DefAt K mg "heaped" sHeaped ["heap", "columns"] f fd
  d_lowered : ∃ f fd, DefAt K mg "lowered" sLowered ["heap", "columns"] f fd
  d_grown_by : ∃ f fd, DefAt K mg "grown_by" sGrownBy ["heap", "ring", "place"] f fd
  d_heaps_of : ∃ f fd, DefAt K mg "heaps_of" sHeapsOf ["chain", "places"] f fd
  d_check_order : ∃ f fd, DefAt K mg "check_order" sCheckOrder ["k"] f fd
  d_beads_of : ∃ f fd, DefAt K mg "beads_of" sBeadsOf ["heap"] f fd
  d_stays_core : ∃ f fd, DefAt K mg "stays_core" sStaysCore ["k", "heap"] f fd
  d_is_core : ∃ f fd, DefAt K mg "is_core" sIsCore ["k", "value"] f fd
  d_check_core : ∃ f fd, DefAt K mg "check_core" sCheckCore ["k", "core"] f fd
  d_check_told : ∃ f fd, DefAt K mg "check_told" sCheckTold ["k", "core"] f fd
  d_parts_of : ∃ f fd, DefAt K mg "parts_of" sPartsOf ["k", "heap"] f fd
  d_letters_of : ∃ f fd, DefAt K mg "letters_of" sLettersOf ["k", "core"] f fd
  d_check_letters : ∃ f fd, DefAt K mg "check_letters" sCheckLetters ["k", "core", "most"] f fd
  d_ahead_of_letter : ∃ f fd, DefAt K mg "ahead_of_letter" sAheadOfLetter ["k", "core", "letter"] f fd
  d_last_letters : ∃ f fd, DefAt K mg "last_letters" sLastLetters ["k", "core"] f fd
  d_growing_word : ∃ f fd, DefAt K mg "growing_word" sGrowingWord ["k", "core"] f fd
  d_letter_of : ∃ f fd, DefAt K mg "letter_of" sLetterOf ["ring", "place"] f fd
  d_map_values : ∃ f fd, DefAt K mg "map_values" sMapValues ["chain", "degree", "places", "first", "last"] f fd
  d_is_levels : ∃ f fd, DefAt K mg "is_levels" sIsLevels ["value"] f fd
  d_check_levels : ∃ f fd, DefAt K mg "check_levels" sCheckLevels ["levels"] f fd
  d_check_like_levels : ∃ f fd, DefAt K mg "check_like_levels" sCheckLikeLevels ["levels", "many"] f fd
  d_check_one_order : ∃ f fd, DefAt K mg "check_one_order" sCheckOneOrder ["chain"] f fd
  d_distance_in : ∃ f fd, DefAt K mg "distance_in" sDistanceIn ["levels"] f fd
  d_distance : ∃ f fd, DefAt K mg "distance" sDistance ["levels"] f fd
  d_columns_at : ∃ f fd, DefAt K mg "columns_at" sColumnsAt ["levels", "c"] f fd
  d_rows_at : ∃ f fd, DefAt K mg "rows_at" sRowsAt ["levels", "c"] f fd
  d_level_richness : ∃ f fd, DefAt K mg "level_richness" sLevelRichness ["levels", "c"] f fd
  d_are_above : ∃ f fd, DefAt K mg "are_above" sAreAbove ["one", "other"] f fd
  d_levels_at : ∃ f fd, DefAt K mg "levels_at" sLevelsAt ["chain", "degree", "places"] f fd
  d_levels_of : ∃ f fd, DefAt K mg "levels_of" sLevelsOf ["chain", "deal"] f fd
  d_core_with_levels : ∃ f fd, DefAt K mg "core_with_levels" sCoreWithLevels ["levels"] f fd
  d_core_of_levels : ∃ f fd, DefAt K mg "core_of_levels" sCoreOfLevels ["levels"] f fd
  d_can_be_met : ∃ f fd, DefAt K mg "can_be_met" sCanBeMet ["rings", "levels"] f fd
  d_check_asked_levels : ∃ f fd, DefAt K mg "check_asked_levels" sCheckAskedLevels ["chain", "levels"] f fd
  d_idle_at : ∃ f fd, DefAt K mg "idle_at" sIdleAt ["k", "core"] f fd
  d_class_with_levels : ∃ f fd, DefAt K mg "class_with_levels" sClassWithLevels ["chain", "levels"] f fd
  d_has_levels : ∃ f fd, DefAt K mg "has_levels" sHasLevels ["chain", "levels", "value"] f fd
  d_richness_at : ∃ f fd, DefAt K mg "richness_at" sRichnessAt ["chain", "degree", "places"] f fd
  d_richness_of : ∃ f fd, DefAt K mg "richness_of" sRichnessOf ["chain", "deal"] f fd
  d_richness : ∃ f fd, DefAt K mg "richness" sRichness ["chain", "deal"] f fd
  d_l_dice : ∃ f fd, DefAt K mg "_law_dice" sLDice ["_law_script", "_law_at"] f fd
  d_l_roll : ∃ f fd, DefAt K mg "_law_roll" sLRoll ["_law_dice_here", "_law_total"] f fd
  d_l_one_of : ∃ f fd, DefAt K mg "_law_one_of" sLOneOf ["_law_dice_here", "_law_items"] f fd
  d_l_mixed : ∃ f fd, DefAt K mg "_law_mixed" sLMixed ["_law_dice_here", "_law_items"] f fd
  d_l_common : ∃ f fd, DefAt K mg "_law_common" sLCommon ["_law_one", "_law_other"] f fd
  d_l_order : ∃ f fd, DefAt K mg "_law_order" sLOrder ["_law_ring"] f fd
  d_l_ring_of : ∃ f fd, DefAt K mg "_law_ring_of" sLRingOf ["_law_dice_here", "_law_k", "_law_times"] f fd
  d_l_equal_chain : ∃ f fd, DefAt K mg "_law_equal_chain" sLEqualChain ["_law_dice_here", "_law_rings", "_law_k"] f fd
  d_l_tuple : ∃ f fd, DefAt K mg "_law_tuple" sLTuple ["_law_dice_here", "_law_chain"] f fd
  d_l_plain : ∃ f fd, DefAt K mg "_law_plain" sLPlain ["_law_chain", "_law_total", "_law_x"] f fd
  d_l_grown : ∃ f fd, DefAt K mg "_law_grown" sLGrown ["_law_heap_here", "_law_ring", "_law_x"] f fd
  d_l_heap : ∃ f fd, DefAt K mg "_law_heap" sLHeap ["_law_chain", "_law_x"] f fd
  d_l_rich : ∃ f fd, DefAt K mg "_law_rich" sLRich ["_law_heap_here", "_law_rings", "_law_total"] f fd
  d_l_map : ∃ f fd, DefAt K mg "_law_map" sLMap ["_law_chain", "_law_total", "_law_x", "_law_first", "_law_last"] f fd
  d_l_levels : ∃ f fd, DefAt K mg "_law_levels" sLLevels ["_law_chain", "_law_total", "_law_x"] f fd
  d_l_distance : ∃ f fd, DefAt K mg "_law_distance" sLDistance ["_law_levels_here"] f fd
  d_l_sum_of : ∃ f fd, DefAt K mg "_law_sum_of" sLSumOf ["_law_levels_here", "_law_c"] f fd
  d_l_is_above : ∃ f fd, DefAt K mg "_law_is_above" sLIsAbove ["_law_one", "_law_other"] f fd
  d_l_drawn_levels : ∃ f fd, DefAt K mg "_law_drawn_levels" sLDrawnLevels ["_law_dice_here", "_law_levels_here"] f fd
  d_l_class_right : ∃ f fd, DefAt K mg "_law_class_right" sLClassRight ["_law_dice_here", "_law_chain", "_law_total", "_law_x", "_law_own"] f fd
  d_l_other_right : ∃ f fd, DefAt K mg "_law_other_right" sLOtherRight ["_law_chain", "_law_x", "_law_own", "_law_other"] f fd
  d_l_right : ∃ f fd, DefAt K mg "_law_right" sLRight ["_law_dice_here"] f fd
end K1

namespace K1
open PySem PySem.Spec PyProof.Rows L2 Evl
/-! ### great powers -/
def CPowW (i j : Int) : Prop := 0 ≤ j ∧ (Builtin.Int.intBits i : Int) * j ≤ 2 ^ 27
theorem op_powW {X : Cx} : OpR X (binaryOp .Pow) (rI CPowW fun i j => .int (i ^ j.toNat)) := opI fun _ _ _ _ _ _ _ hc q => pow_int hc.1 hc.2 q
/-! ### values that are looked at -/
/-- no int -/
inductive NotInt (K : PySem.W.Frag) (H : Hp) : V → Prop where
  | bl (b : Bool) : NotInt K H (.bl b)
  | non : NotInt K H .non
  | str (x : Str) : NotInt K H (.str x)
  | lst {a : Addr} {xs : List V} (e : H a = some (.lst xs)) : NotInt K H (.ref a)
  | tup {a : Addr} {xs : List V} (e : H a = some (.tup xs)) : NotInt K H (.ref a)
  | dK {a : Addr} {kvs : List (Key × V)} (e : H a = some (.dK kvs)) : NotInt K H (.ref a)
inductive IntB (K : PySem.W.Frag) (H : Hp) : V → Bool → Prop where
  | int (i : Int) : IntB K H (.int i) (decide (-(10 ^ 60) < i) && decide (i < 10 ^ 60))
  | no {x : V} (h : NotInt K H x) : IntB K H x false
/-- between two ints -/
inductive BtwB (K : PySem.W.Frag) (H : Hp) (lo hi : Int) : V → Bool → Prop where
  | int (i : Int) : BtwB K H lo hi (.int i) ((decide (-(10 ^ 60) < i) && decide (i < 10 ^ 60)) && (decide (lo ≤ i) && decide (i ≤ hi)))
  | no {x : V} (h : NotInt K H x) : BtwB K H lo hi x false
theorem NotInt.ty {K : PySem.W.Frag} {H : Hp} {x : V} (h : NotInt K H x) : ∃ t : Value, TyX K H x t ∧ ((PySem.W.kitOne K t (.type "int") = some false) ∨ (t = .type "bool")) := by
  cases h with
  | bl b => exact ⟨_, .base (.bl b), .inr rfl⟩
  | non => exact ⟨_, .base .non, .inl (kit_ty (by decide +kernel))⟩
  | str x => exact ⟨_, .base (.str x), .inl (kit_ty (by decide +kernel))⟩
  | lst e => exact ⟨_, .base (.lst e), .inl (kit_ty (by decide +kernel))⟩
  | tup e => exact ⟨_, .base (.tup e), .inl (kit_ty (by decide +kernel))⟩
  | dK e => exact ⟨_, .base (.dK e), .inl (kit_ty (by decide +kernel))⟩
theorem NotInt.mono {K : PySem.W.Frag} {H H' : Hp} {x : V} (e : Ex H H') (h : NotInt K H x) : NotInt K H' x := by
  cases h with
  | bl b => exact .bl b
  | non => exact .non
  | str x => exact .str x
  | lst q => exact .lst (e _ _ q)
  | tup q => exact .tup (e _ _ q)
  | dK q => exact .dK (e _ _ q)
section
variable {P : Program} {w : World} {K : PySem.W.Frag} {mg : Str → Option Value} {base : Heap}
def spIsInteger (K : PySem.W.Frag) : Sp := fun vs H Q _ => ∃ x b, vs = [x] ∧ IntB K H x b ∧ ∀ H', Ex H H' → Q (.bl b) H'
theorem ok_is_integer (T : Txt K mg) {f : Addr} {fd : FuncData} (D : DefAt K mg "is_integer" sIsInteger ["value"] f fd) : FnOk P w K mg base CX0 1 f fd ["value"] (spIsInteger K) := by
  refine D.F.ok scIsInteger (fun vs H Q E h => ?_) (fun cdv A outer s H vs Q E hr h => ?_)
  · obtain ⟨x, b, rfl, _⟩ := h
    rfl
  · obtain ⟨x, b, rfl, hb, q⟩ := h
    obtain ⟨tB, vB⟩ := T.v_BOUND
    refine ⟨_, pss_one (ps_ret (pe_and (pe_callB call_isi (by rfl) T.z_isinstance (by decide +kernel) (pa_cons (pv 0) (pa_cons (pe_bltn (v := .ty "int") (by rfl) T.z_int (by decide +kernel) rfl) pa_nil)))
      (pe_and (pe_not (pe_callB call_isi (by rfl) T.z_isinstance (by decide +kernel) (pa_cons (pv 0) (pa_cons (pe_bltn (v := .ty "bool") (by rfl) T.z_bool (by decide +kernel) rfl) pa_nil))))
      (pe_one (pe_chain op_lt op_lt (pe_un un_neg (pe_glob (v := .int (10 ^ 60)) rfl vB ⟨_, rfl⟩)) (pv 0) (pe_glob (v := .int (10 ^ 60)) rfl vB ⟨_, rfl⟩)))))), ?_⟩
    cases hb with
    | int i =>
      refine ⟨.int i, rfl, .int i, .ty "int", .type "int", .type "int", true, rfl, .ty _, .base (.int i), kit_ty (by decide +kernel), true, rfl, iteT ?_⟩
      refine ⟨.int i, rfl, .int i, .ty "bool", .type "int", .type "bool", false, rfl, .ty _, .base (.int i), kit_ty (by decide +kernel), false, rfl, true, rfl, iteT ?_⟩
      refine ⟨_, rfl, .int i, rfl, _, _, rfl, rfl, _, rfl, ite2 (fun c => ?_) (fun c => ?_)⟩
      · refine ⟨_, _, rfl, rfl, ?_⟩
        have e : decide (-(10 ^ 60) < i) = true := c
        rw [e, Bool.true_and] at q
        exact q _ (Ex.refl _)
      · have e : decide (-(10 ^ 60) < i) = false := Bool.eq_false_iff.mpr c
        rw [e, Bool.false_and] at q
        exact q _ (Ex.refl _)
    | no hn =>
      obtain ⟨t, ty, h | rfl⟩ := hn.ty
      · exact ⟨x, rfl, x, .ty "int", t, .type "int", false, rfl, .ty _, ty, h, false, rfl, iteF (q _ (Ex.refl _))⟩
      · refine ⟨x, rfl, x, .ty "int", .type "bool", .type "int", true, rfl, .ty _, ty, kit_ty (by decide +kernel), true, rfl, iteT ?_⟩
        exact ⟨x, rfl, x, .ty "bool", .type "bool", .type "bool", true, rfl, .ty _, ty, kit_ty (by decide +kernel), true, rfl, false, rfl, iteF (q _ (Ex.refl _))⟩
def spIsBetween (K : PySem.W.Frag) : Sp := fun vs H Q _ => ∃ x lo hi b, vs = [x, .int lo, .int hi] ∧ BtwB K H lo hi x b ∧ ∀ H', Ex H H' → Q (.bl b) H'
theorem ok_is_between (T : Txt K mg) {f : Addr} {fd : FuncData} (D : DefAt K mg "is_between" sIsBetween ["value", "low", "high"] f fd) : FnOk P w K mg base CX0 2 f fd ["value", "low", "high"] (spIsBetween K) := by
  refine D.F.ok scIsBetween (fun vs H Q E h => ?_) (fun cdv A outer s H vs Q E hr h => ?_)
  · obtain ⟨x, lo, hi, b, rfl, _⟩ := h
    rfl
  · obtain ⟨x, lo, hi, b, rfl, hb, q⟩ := h
    obtain ⟨f1, fd1, D1⟩ := T.d_is_integer
    refine ⟨_, pss_one (ps_ret (pe_and (pe_call (ok_is_integer T D1) hr (by rfl) D1.g D1.F.kp D1.b .nil pass0 (pa_cons (pv 0) pa_nil)) (pe_one (pe_chain op_le op_le (pv 1) (pv 0) (pv 2))))), ?_⟩
    cases hb with
    | int i =>
      refine ⟨.int i, rfl, .int i, _, rfl, .int i, fun H1 e1 => ⟨_, rfl, ite2 (fun c => ?_) (fun c => ?_)⟩⟩
      · refine ⟨.int lo, rfl, .int i, rfl, _, _, rfl, rfl, _, rfl, ?_⟩
        rw [c, Bool.true_and] at q
        refine ite2 (fun c2 => ⟨.int hi, rfl, _, _, rfl, rfl, ?_⟩) (fun c2 => ?_)
        · have e : decide (lo ≤ i) = true := c2
          rw [e, Bool.true_and] at q
          exact q _ e1
        · have e : decide (lo ≤ i) = false := Bool.eq_false_iff.mpr c2
          rw [e, Bool.false_and] at q
          exact q _ e1
      · rw [Bool.eq_false_iff.mpr c, Bool.false_and] at q
        exact q _ e1
    | no hn => exact ⟨x, rfl, x, false, rfl, .no hn, fun H1 e1 => ⟨false, rfl, iteF (q _ e1)⟩⟩
end
end K1

namespace K1
open PySem PySem.Spec PyProof.Rows L2 Evl
/-! ### the dice -/
def Dice (H : Hp) (d : Addr) : Prop := ∃ l m c : Int, H d = some (.lst [.int l, .int m, .int c])
/-- all but the dice is as it was -/
def Keep (d : Addr) (H H' : Hp) : Prop := ∀ b o, b ≠ d → H b = some o → H' b = some o
theorem Keep.refl (d : Addr) (H : Hp) : Keep d H H := fun _ _ _ h => h
theorem Keep.trans {d : Addr} {H H1 H2 : Hp} (a : Keep d H H1) (b : Keep d H1 H2) : Keep d H H2 := fun x o n h => b x o n (a x o n h)
theorem Keep.ex {d : Addr} {H H' : Hp} (e : Ex H H') : Keep d H H' := fun b o _ h => e b o h
theorem Keep.dice {d : Addr} {H : Hp} {o : HO} : Keep d H (upd H d o) := fun b u n h => by
  rw [upd_ne n]
  exact h
theorem Keep.new {d p : Addr} {H : Hp} {o : HO} (h : H p = none) : Keep d H (upd H p o) := .ex (.new h)
/-- a thing that H did not know may change -/
theorem Keep.mut {d p : Addr} {H H' : Hp} {o : HO} (e : Keep d H H') (h : H p = none) : Keep d H (upd H' p o) := fun b u n q => by
  rw [upd_ne (ne_of_none q h)]
  exact e b u n q
theorem Keep.free {d p : Addr} {H H' : Hp} (e : Keep d H H') (n : p ≠ d) (h : H' p = none) : H p = none := by
  cases q : H p with
  | none => rfl
  | some o =>
    rw [e p o n q] at h
    cases h
theorem Dice.ex {d : Addr} {H H' : Hp} (e : Ex H H') (h : Dice H d) : Dice H' d := by
  obtain ⟨l, m, c, q⟩ := h
  exact ⟨l, m, c, e _ _ q⟩
theorem Dice.upd {d p : Addr} {H : Hp} {o : HO} (n : d ≠ p) (h : Dice H d) : Dice (L2.upd H p o) d := by
  obtain ⟨l, m, c, q⟩ := h
  exact ⟨l, m, c, by rw [upd_ne n]; exact q⟩
theorem Dice.ne_new {d p : Addr} {H : Hp} (h : Dice H d) (n : H p = none) : d ≠ p := by
  obtain ⟨l, m, c, q⟩ := h
  exact ne_of_none q n
theorem Dice.ne_tup {d p : Addr} {H : Hp} {xs : List V} (h : Dice H d) (n : H p = some (.tup xs)) : p ≠ d := by
  obtain ⟨l, m, c, q⟩ := h
  exact ne_of n q (by intro z; cases z)
theorem Keep.tup {d p : Addr} {H H' : Hp} {xs : List V} (e : Keep d H H') (h : Dice H d) (n : H p = some (.tup xs)) : H' p = some (.tup xs) := e _ _ (h.ne_tup n) n
theorem wide_n {n : Int} (h : 1 ≤ n) (h2 : n ≤ 10 ^ 50) {i : Int} : CDivW i n := wide_div (b := 200) (by omega) (by omega) (by decide) (by decide)
section
variable {P : Program} {w : World} {K : PySem.W.Frag} {mg : Str → Option Value} {base : Heap}
def spRoll : Sp := fun vs H Q _ => ∃ (d : Addr) (n : Int), vs = [.ref d, .int n] ∧ Dice H d ∧ 1 ≤ n ∧ n ≤ 10 ^ 50 ∧ ∀ (r : Int) H', 0 ≤ r → r < n → Dice H' d → Keep d H H' → Q (.int r) H'
theorem ok_roll (T : Txt K mg) {f : Addr} {fd : FuncData} (D : DefAt K mg "_law_roll" sLRoll ["_law_dice_here", "_law_total"] f fd) : FnOk P w K mg base CX0 1 f fd ["_law_dice_here", "_law_total"] spRoll := by
  refine D.F.ok scLRoll (fun vs H Q E h => ?_) (fun cdv A outer s H vs Q E hr h => ?_)
  · obtain ⟨d, n, rfl, _⟩ := h
    rfl
  · obtain ⟨d, n, rfl, ⟨l, m, c, hd⟩, h1, h2, q⟩ := h
    refine ⟨_, pss_cons (ps_set (i := 2) scLRoll.nd rfl (.inl rfl) (pe_callTy call_int1 (by rfl) T.z_int (by decide +kernel) (pa_cons (pv 1) pa_nil)))
      (pss_cons (ps_if (pt_cmpR op_gt (pe_ix ix_list (pv 0) pe_int (fun _ _ => rfl)) pe_int (nomark _))
        (pss_cons (ps_set (i := 3) scLRoll.nd rfl (.inl rfl) (pe_op op_mod (pe_ix ix_list (pv 0) pe_int (fun _ _ => rfl)) (pv 2)))
        (pss_cons (ps_asg (pe_op op_fdivW (pe_ix ix_list (pv 0) pe_int (fun _ _ => rfl)) (pv 2)) (pg_sub (pv 0) pe_int set_list))
        (pss_one (ps_ret (pe_callTy call_int1 (by rfl) T.z_int (by decide +kernel) (pa_cons (pv 3) pa_nil)))))) pss_nil)
      (pss_cons (ps_asg (pe_op op_add (pe_ix ix_list (pv 0) pe_int (fun _ _ => rfl)) pe_int) (pg_sub (pv 0) pe_int set_list))
      (pss_cons (ps_set (i := 4) scLRoll.nd rfl (.inl rfl) (pe_op op_mod (pe_op op_add (pe_ix ix_list (pv 0) pe_int (fun _ _ => rfl)) (pe_op op_mul pe_int (pe_ix ix_list (pv 0) pe_int (fun _ _ => rfl)))) pe_int))
      (pss_cons (ps_set (i := 5) scLRoll.nd rfl (.inl rfl) (pe_op op_add (pe_op op_mul (pe_op op_mod (pe_op op_mul (pv 4) (pv 4)) pe_int) (pv 4)) (pe_op op_mul pe_int (pe_ix ix_list (pv 0) pe_int (fun _ _ => rfl)))))
      (pss_cons (ps_set (i := 5) scLRoll.nd rfl (.inl rfl) (pe_op op_mod (pv 5) pe_int))
      (pss_one (ps_ret (pe_callTy call_int1 (by rfl) T.z_int (by decide +kernel) (pa_cons (pe_op op_mod (pe_op op_fdiv (pv 5) pe_int) (pv 2)) pa_nil))))))))), ?_⟩
    refine ⟨.int n, rfl, .inl ⟨n, rfl, ?_⟩⟩
    have S0 : SqL K H d [.int l, .int m, .int c] := SqL.of hd
    refine ⟨.ref d, rfl, d, _, 0, .int l, rfl, rfl, S0, rfl, l, 0, rfl, rfl, _, rfl, ite2 (fun cc => ?_) (fun cc => ?_)⟩
    · refine ⟨.ref d, rfl, d, _, 0, .int l, rfl, rfl, S0, rfl, .int n, rfl, l, n, rfl, rfl, by omega, ?_⟩
      refine ⟨.ref d, rfl, d, _, 0, .int l, rfl, rfl, S0, rfl, .int n, rfl, l, n, rfl, rfl, wide_n h1 h2, .ref d, rfl, d, _, 0, 0, rfl, rfl, hd, rfl, ?_⟩
      refine ⟨_, rfl, .inl ⟨l % n, rfl, ?_⟩⟩
      exact q _ _ (Int.emod_nonneg _ (by omega)) (Int.emod_lt_of_pos _ (by omega)) ⟨_, _, _, upd_same⟩ Keep.dice
    · refine ⟨.ref d, rfl, d, _, 2, .int c, rfl, rfl, S0, rfl, c, 1, rfl, rfl, .ref d, rfl, d, _, 2, 2, rfl, rfl, hd, rfl, ?_⟩
      generalize hH1 : upd H d _ = H1
      have hd1 : H1 d = some (.lst [.int l, .int m, .int (c + 1)]) := by
        rw [← hH1]
        exact upd_same
      have k1 : Keep d H H1 := by
        rw [← hH1]
        exact Keep.dice
      have S1 : SqL K H1 d [.int l, .int m, .int (c + 1)] := SqL.of hd1
      refine ⟨.ref d, rfl, d, _, 1, .int m, rfl, rfl, S1, rfl, .ref d, rfl, d, _, 2, .int (c + 1), rfl, rfl, S1, rfl, _, _, rfl, rfl, .inl (by decide), _, _, rfl, rfl, _, _, rfl, rfl, by show (0 : Int) < _; decide, ?_⟩
      refine ⟨_, rfl, _, rfl, (m + 1000409 * (c + 1)) % 2305843009213693951, (m + 1000409 * (c + 1)) % 2305843009213693951, rfl, rfl, .inl (by constructor <;> omega), _, _, rfl, rfl, by show (0 : Int) < _; decide, _, rfl, _, (m + 1000409 * (c + 1)) % 2305843009213693951, rfl, rfl, .inr (by constructor <;> omega), ?_⟩
      refine ⟨.ref d, rfl, d, _, 2, .int (c + 1), rfl, rfl, S1, rfl, _, _, rfl, rfl, .inl (by decide), _, _, rfl, rfl, ?_⟩
      refine ⟨_, rfl, _, _, rfl, rfl, by show (0 : Int) < _; decide, ?_⟩
      refine ⟨_, rfl, _, _, rfl, rfl, ⟨by decide, by decide⟩, .int n, rfl, _, n, rfl, rfl, by omega, .inl ⟨_, rfl, ?_⟩⟩
      exact q _ _ (Int.emod_nonneg _ (by omega)) (Int.emod_lt_of_pos _ (by omega)) ⟨_, _, _, hd1⟩ k1
def spOneOf (K : PySem.W.Frag) : Sp := fun vs H Q _ => ∃ (d a : Addr) (xs : List V), vs = [.ref d, .ref a] ∧ Dice H d ∧ H a = some (.lst xs) ∧ a ≠ d ∧ 1 ≤ xs.length ∧ xs.length ≤ 1000 ∧ ∀ x H', x ∈ xs → Dice H' d → Keep d H H' → Q x H'
theorem ok_one_of (T : Txt K mg) {f : Addr} {fd : FuncData} (D : DefAt K mg "_law_one_of" sLOneOf ["_law_dice_here", "_law_items"] f fd) : FnOk P w K mg base CX0 2 f fd ["_law_dice_here", "_law_items"] (spOneOf K) := by
  refine D.F.ok scLOneOf (fun vs H Q E h => ?_) (fun cdv A outer s H vs Q E hr h => ?_)
  · obtain ⟨d, a, xs, rfl, _⟩ := h
    rfl
  · obtain ⟨d, a, xs, rfl, hd, ha, nad, h1, h2, q⟩ := h
    obtain ⟨f1, fd1, D1⟩ := T.d_l_roll
    refine ⟨_, pss_one (ps_ret (pe_ix ix_list (pv 1) (pe_call (ok_roll T D1) hr (by rfl) D1.g D1.F.kp D1.b .nil pass0 (pa_cons (pv 0) (pa_cons (pe_callB call_len_seq (by rfl) T.z_len PySem.boot_len (pa_cons (pv 1) pa_nil)) pa_nil))) (fun _ _ => rfl))), ?_⟩
    refine ⟨.ref a, rfl, .ref d, rfl, .ref a, rfl, a, xs, rfl, .inl (SqL.of ha), d, _, rfl, hd, by omega, by omega, fun r H1 r0 r1 hd1 k1 => ?_⟩
    have hx : xs[r.toNat]? = some (xs[r.toNat]'(by omega)) := List.getElem?_eq_getElem _
    refine ⟨a, xs, r, _, rfl, rfl, SqL.of (k1 _ _ nad ha), ?_, q (xs[r.toNat]'(by omega)) H1 (List.getElem_mem _) hd1 k1⟩
    exact at_of (show r = ((r.toNat : Nat) : Int) by omega) hx
/-- a drawn ring -/
def RingAt (H : Hp) (most : Int) (x : V) (n s : Int) : Prop := ∃ t, x = .ref t ∧ H t = some (.tup [.int n, .int s]) ∧ 2 ≤ n ∧ n ≤ most ∧ 1 ≤ s ∧ s < n
def spRing : Sp := fun vs H Q _ => ∃ (d : Addr) (most : Int), vs = [.ref d, .int most] ∧ Dice H d ∧ 2 ≤ most ∧ most ≤ 1000 ∧ ∀ x n s H', RingAt H' most x n s → Dice H' d → Keep d H H' → Q x H'
end
end K1

namespace K1
open PySem PySem.Spec PyProof.Rows L2 Evl
section
variable {P : Program} {w : World} {K : PySem.W.Frag} {mg : Str → Option Value} {base : Heap}
def spDice (K : PySem.W.Frag) : Sp := fun vs H Q _ => ∃ (a : Addr) (ns : List Int) (i : Nat), vs = [.ref a, .int i] ∧ SqL K H a (ns.map V.int) ∧ ∀ p H', H p = none → Ex H H' → Dice H' p → Q (.ref p) H'
theorem ok_dice (T : Txt K mg) {f : Addr} {fd : FuncData} (D : DefAt K mg "_law_dice" sLDice ["_law_script", "_law_at"] f fd) : FnOk P w K mg base CX0 1 f fd ["_law_script", "_law_at"] (spDice K) := by
  refine D.F.ok scLDice (fun vs H Q E h => ?_) (fun cdv A outer s H vs Q E hr h => ?_)
  · obtain ⟨d, n, i, rfl, _⟩ := h
    rfl
  · obtain ⟨a, ns, i, rfl, hS, q⟩ := h
    refine ⟨_, pss_cons (ps_set (i := 2) scLDice.nd rfl (.inl rfl) (pe_op op_add (pe_op op_mul pe_int (pv 1)) pe_int))
      (pss_cut (ps_if (pt_cmpR op_lt (pv 1) (pe_callB call_len_seq (by rfl) T.z_len PySem.boot_len (pa_cons (pv 0) pa_nil)) (nomark _))
        (pss_one (ps_set (i := 2) scLDice.nd rfl (.inl rfl) (pe_ix ix_list (pv 0) (pv 1) (fun _ _ => rfl)))) pss_nil)
      (pss_cons (ps_set (i := 3) scLDice.nd rfl (.inl rfl) (pe_op op_mod (pe_callTy call_int1 (by rfl) T.z_int (by decide +kernel) (pa_cons (pe_callB call_abs (by rfl) T.z_abs (by decide +kernel) (pa_cons (pv 2) pa_nil)) pa_nil)) (pe_op op_powW (pe_op op_pow pe_int pe_int) pe_int)))
      (pss_cons (ps_set (i := 4) scLDice.nd rfl (.inl rfl) (pe_op op_fdivW (pv 3) (pe_op op_pow pe_int pe_int)))
      (pss_cons (ps_set (i := 5) scLDice.nd rfl (.inl rfl) (pe_op op_add (pe_op op_add (pe_op op_add (pe_op op_mul (pe_op op_mod (pv 3) pe_int) pe_int) (pe_op op_mul pe_int (pv 1))) (pe_op op_mul pe_int (pe_callTy call_int1 (by rfl) T.z_int (by decide +kernel) (pa_cons (pe_cmpR op_lt (pv 2) pe_int (nomark _)) pa_nil)))) pe_int))
      (pss_one (ps_ret (pe_lst (pa_cons (pv 4) (pa_cons (pe_op op_mod (pv 5) pe_int) (pa_cons pe_int pa_nil))))))))) ), ?_⟩
    refine ⟨_, rfl, _, _, rfl, rfl, .inl (by decide), _, _, rfl, rfl, ?_⟩
    refine ⟨fun σ' H' => ∃ cell : Int, σ' = [some (.ref a), some (.int i), some (.int cell), none, none, none] ∧ H' = H, ?_, ?_⟩
    · refine ⟨_, rfl, .ref a, rfl, a, _, rfl, .inl hS, _, _, rfl, rfl, _, rfl, ite2 (fun c => ?_) (fun c => ⟨_, rfl, rfl⟩)⟩
      have c' : (i : Int) < ((ns.map V.int).length : Int) := of_decide_eq_true c
      rw [List.length_map] at c'
      have hx : (ns.map V.int)[i]? = some (.int (ns[i]'(by omega))) := by
        rw [List.getElem?_map, List.getElem?_eq_getElem (by omega)]
        rfl
      exact ⟨.ref a, rfl, _, rfl, a, _, _, _, rfl, rfl, hS, atI_nat hx, _, rfl, rfl⟩
    · rintro σ' H' ⟨cell, rfl, rfl⟩
      refine ⟨_, rfl, _, rfl, .inl ⟨_, rfl, _, _, rfl, rfl, ⟨by decide, by decide, by decide⟩, _, _, rfl, rfl, ⟨by decide, by decide +kernel⟩, _, _, rfl, rfl, by show (0 : Int) < (10 ^ Int.toNat 60) ^ Int.toNat 10; decide +kernel, ?_⟩⟩
      refine ⟨_, rfl, _, _, rfl, rfl, ⟨by decide, by decide, by decide⟩, _, _, rfl, rfl, wide_div (b := 60) (by decide +kernel) (by decide +kernel) (by decide) (by decide), ?_⟩
      refine ⟨_, rfl, _, _, rfl, rfl, by show (0 : Int) < _; decide, _, _, rfl, rfl, .inr (by decide), _, rfl, _, _, rfl, rfl, .inl (by decide), _, _, rfl, rfl, _, rfl, _, _, rfl, rfl, .inr ⟨_, rfl, _, _, rfl, rfl, .inl (by decide), _, _, rfl, rfl, _, _, rfl, rfl, ?_⟩⟩
      refine ⟨_, rfl, _, rfl, _, _, rfl, rfl, by show (0 : Int) < _; decide, by show 3 ≤ sizeLine; decide, fun p hp => ?_⟩
      exact q p _ hp (Ex.new hp) ⟨_, _, _, upd_same⟩
/-- the greatest common divisor -/
def spCommon : Sp := fun vs H Q _ => ∃ (a b : Nat), vs = [.int a, .int b] ∧ ∀ H', Ex H H' → Q (.int (Nat.gcd a b : Nat)) H'
theorem ok_common (T : Txt K mg) {f : Addr} {fd : FuncData} (D : DefAt K mg "_law_common" sLCommon ["_law_one", "_law_other"] f fd) : FnOk P w K mg base CX0 1 f fd ["_law_one", "_law_other"] spCommon := by
  refine D.F.ok scLCommon (fun vs H Q E h => ?_) (fun cdv A outer s H vs Q E hr h => ?_)
  · obtain ⟨d, n, rfl, _⟩ := h
    rfl
  · obtain ⟨a, b, rfl, q⟩ := h
    refine ⟨_, pss_cons (ps_while PassesOwn.never (pt_cmpR op_ne (pv 1) pe_int (nomark _))
        (pss_one (ps_par (i := 0) (j := 1) (by rfl) scLCommon.nd rfl rfl (by decide) rfl rfl (pa_cons (pv 1) (pa_cons (pe_op op_mod (pv 0) (pv 1)) pa_nil)) (by rfl))))
      (pss_one (ps_ret (pv 0))), ?_⟩
    refine q_while (fun m σ' H' => ∃ x y : Nat, σ' = [some (.int x), some (.int y)] ∧ m = y ∧ Nat.gcd x y = Nat.gcd a b ∧ Ex H H') b ⟨a, b, rfl, rfl, rfl, Ex.refl _⟩ (fun m σ' H' hW => ?_)
    obtain ⟨x, y, rfl, rfl, hg, e1⟩ := hW
    refine ⟨_, et_test (ev_op (ev_var (v := .int (m : Int)) rfl) ev_c (rv_ne rfl)), fun hb H1 e2 => ?_, fun hb H1 e2 => ?_⟩
    · have hy : m ≠ 0 := fun z => by
        subst z
        exact absurd hb (by decide)
      have hm : (x : Int) % (m : Int) = ((x % m : Nat) : Int) := by simp
      refine ⟨fun σ2 H2 => σ2 = [some (.int m), some (.int ((x % m : Nat) : Int))] ∧ H2 = H1, fun σ2 H2 hN => ?_, ?_⟩
      · obtain ⟨rfl, rfl⟩ := hN
        refine ⟨x % m, Nat.mod_lt _ (by omega), m, x % m, rfl, rfl, ?_, e1.trans e2⟩
        rw [← hg, Nat.gcd_comm m (x % m), ← Nat.gcd_rec, Nat.gcd_comm]
      · refine ⟨_, rfl, _, rfl, _, rfl, (x : Int), (m : Int), rfl, rfl, by omega, _, _, rfl, ?_⟩
        refine ⟨?_, rfl⟩
        show [some (V.int (m : Int)), some (V.int ((x : Int) % (m : Int)))] = _
        rw [hm]
    · have hy : m = 0 := by
        by_cases z : m = 0
        · exact z
        · exfalso
          have : (!decide (V.int (m : Int) = V.int 0)) = true := by
            rw [decide_eq_false (fun q => z (by have := V.int.inj q; omega))]
            rfl
          rw [this] at hb
          cases hb
      subst hy
      refine ⟨_, rfl, ?_⟩
      rw [Nat.gcd_zero_right] at hg
      rw [hg]
      exact q _ (e1.trans e2)
/-- a drawn ring of one order -/
def spRingOf : Sp := fun vs H Q _ => ∃ (d : Addr) (k t : Int), vs = [.ref d, .int k, .int t] ∧ Dice H d ∧ 2 ≤ k ∧ k ≤ 100 ∧ 1 ≤ t ∧ t ≤ 1000 ∧ ∀ x n s H', RingAt H' (k * t) x n s → Dice H' d → Keep d H H' → Q x H'
end
end K1

namespace K1
open PySem PySem.Spec PyProof.Rows L2 Evl
/-! ### chains -/
theorem RingAt.keep {d : Addr} {H H' : Hp} {most n s : Int} {x : V} (e : Keep d H H') (h : Dice H d) (r : RingAt H most x n s) : RingAt H' most x n s := by
  obtain ⟨t, rfl, ht, q⟩ := r
  exact ⟨t, rfl, e.tup h ht, q⟩
theorem RingAt.ex {H H' : Hp} {most n s : Int} {x : V} (e : Ex H H') (r : RingAt H most x n s) : RingAt H' most x n s := by
  obtain ⟨t, rfl, ht, q⟩ := r
  exact ⟨t, rfl, e _ _ ht, q⟩
theorem RingAt.upd {H : Hp} {most n s : Int} {x : V} {p : Addr} {o : HO} (h : ∀ t, x = .ref t → t ≠ p) (r : RingAt H most x n s) : RingAt (upd H p o) most x n s := by
  obtain ⟨t, rfl, ht, q⟩ := r
  exact ⟨t, rfl, by rw [upd_ne (h t rfl)]; exact ht, q⟩
theorem RingAt.most {H : Hp} {m m' n s : Int} {x : V} (h : m ≤ m') (r : RingAt H m x n s) : RingAt H m' x n s := by
  obtain ⟨t, rfl, ht, q1, q2, q3, q4⟩ := r
  exact ⟨t, rfl, ht, q1, by omega, q3, q4⟩
/-- rings at values, one by one -/
abbrev RingsAt (H : Hp) (most : Int) (xs : List V) (rs : List (Int × Int)) : Prop := Paired (fun x (r : Int × Int) => RingAt H most x r.1 r.2) xs rs
theorem paired_snoc {α β : Type} {R : α → β → Prop} {x : α} {y : β} (h : R x y) : ∀ {xs : List α} {ys : List β}, Paired R xs ys → Paired R (xs ++ [x]) (ys ++ [y])
  | _, _, .nil => .cons h .nil
  | _, _, .cons r t => .cons r (paired_snoc h t)
theorem paired_imp {α β : Type} {R S : α → β → Prop} (h : ∀ x y, R x y → S x y) : ∀ {xs : List α} {ys : List β}, Paired R xs ys → Paired S xs ys
  | _, _, .nil => .nil
  | _, _, .cons r t => .cons (h _ _ r) (paired_imp h t)
theorem paired_get {α β : Type} {R : α → β → Prop} : ∀ {xs : List α} {ys : List β} {i : Nat} {x : α}, Paired R xs ys → xs[i]? = some x → ∃ y, ys[i]? = some y ∧ R x y
  | _, _, _, _, .nil, e => by simp at e
  | _, _, 0, _, .cons r _, e => by simp at e; subst e; exact ⟨_, rfl, r⟩
  | _, _, i + 1, x, .cons _ t, e => by
    obtain ⟨u, h1, h2⟩ := paired_get (i := i) (x := x) t (by simpa using e)
    exact ⟨u, by simpa using h1, h2⟩
theorem paired_len {α β : Type} {R : α → β → Prop} {xs : List α} {ys : List β} (h : Paired R xs ys) : xs.length = ys.length := Paired.length h
section
variable {P : Program} {w : World} {K : PySem.W.Frag} {mg : Str → Option Value} {base : Heap}
def spChain : Sp := fun vs H Q _ => ∃ (d : Addr) (g most : Int), vs = [.ref d, .int g, .int most] ∧ Dice H d ∧ 1 ≤ g ∧ g ≤ 100 ∧ 2 ≤ most ∧ most ≤ 60 ∧
  ∀ p xs rs H', H' p = some (.tup xs) → RingsAt H' most xs rs → (xs.length : Int) = g → Dice H' d → Keep d H H' → Q (.ref p) H'
/-- what stands behind i rings of the list at D -/
def ChW (d Dl : Addr) (H : Hp) (most : Int) (i : Nat) (H' : Hp) : Prop := ∃ xs rs, H' Dl = some (.lst xs) ∧ RingsAt H' most xs rs ∧ xs.length = i ∧ Keep d H H' ∧ Dice H' d
end
end K1

namespace K1
open PySem PySem.Spec PyProof.Rows L2 Evl
/-! ### judges of rings and chains -/
/-- no tuple -/
inductive NotTup (K : PySem.W.Frag) (H : Hp) : V → Prop where
  | bl (b : Bool) : NotTup K H (.bl b)
  | non : NotTup K H .non
  | int (i : Int) : NotTup K H (.int i)
  | str (x : Str) : NotTup K H (.str x)
  | lst {a : Addr} {xs : List V} (e : H a = some (.lst xs)) : NotTup K H (.ref a)
  | dK {a : Addr} {kvs : List (Key × V)} (e : H a = some (.dK kvs)) : NotTup K H (.ref a)
theorem NotTup.ty {K : PySem.W.Frag} {H : Hp} {x : V} (h : NotTup K H x) : ∃ t : Value, TyX K H x t ∧ PySem.W.kitOne K t (.type "tuple") = some false := by
  cases h with
  | bl b => exact ⟨_, .base (.bl b), (kit_ty (by decide +kernel))⟩
  | non => exact ⟨_, .base .non, (kit_ty (by decide +kernel))⟩
  | int x => exact ⟨_, .base (.int x), (kit_ty (by decide +kernel))⟩
  | str x => exact ⟨_, .base (.str x), (kit_ty (by decide +kernel))⟩
  | lst e => exact ⟨_, .base (.lst e), (kit_ty (by decide +kernel))⟩
  | dK e => exact ⟨_, .base (.dK e), (kit_ty (by decide +kernel))⟩
theorem NotTup.mono {K : PySem.W.Frag} {H H' : Hp} {x : V} (e : Ex H H') (h : NotTup K H x) : NotTup K H' x := by
  cases h with
  | bl b => exact .bl b
  | non => exact .non
  | int x => exact .int x
  | str x => exact .str x
  | lst q => exact .lst (e _ _ q)
  | dK q => exact .dK (e _ _ q)
theorem BtwB.mono {K : PySem.W.Frag} {H H' : Hp} {lo hi : Int} {x : V} {b : Bool} (e : Ex H H') (h : BtwB K H lo hi x b) : BtwB K H' lo hi x b := by
  cases h with
  | int i => exact .int i
  | no h => exact .no (h.mono e)
theorem BtwB.yes {K : PySem.W.Frag} {H : Hp} {lo hi i : Int} (h1 : lo ≤ i) (h2 : i ≤ hi) (h3 : -(10 ^ 60) < i) (h4 : i < 10 ^ 60) : BtwB K H lo hi (.int i) true := by
  have := BtwB.int (K := K) (H := H) (lo := lo) (hi := hi) i
  rw [decide_eq_true h1, decide_eq_true h2, decide_eq_true h3, decide_eq_true h4] at this
  exact this
inductive PairB (K : PySem.W.Frag) (H : Hp) : V → Bool → Prop where
  | no {x : V} (h : NotTup K H x) : PairB K H x false
  | tup {a : Addr} {xs : List V} (e : H a = some (.tup xs)) : PairB K H (.ref a) (decide (xs.length = 2))
inductive RingB (K : PySem.W.Frag) (H : Hp) : V → Bool → Prop where
  | no {x : V} (h : NotTup K H x) : RingB K H x false
  | len {a : Addr} {xs : List V} (e : H a = some (.tup xs)) (h : xs.length ≠ 2) : RingB K H (.ref a) false
  | first {a : Addr} {x y : V} (e : H a = some (.tup [x, y])) (h : BtwB K H 2 60 x false) : RingB K H (.ref a) false
  | both {a : Addr} {n : Int} {y : V} {b : Bool} (e : H a = some (.tup [.int n, y])) (h1 : 2 ≤ n) (h2 : n ≤ 60) (h : BtwB K H 1 (n - 1) y b) : RingB K H (.ref a) b
theorem RingB.mono {K : PySem.W.Frag} {H H' : Hp} {x : V} {b : Bool} (e : Ex H H') (h : RingB K H x b) : RingB K H' x b := by
  cases h with
  | no h => exact .no (h.mono e)
  | len q h => exact .len (e _ _ q) h
  | first q h => exact .first (e _ _ q) (h.mono e)
  | both q h1 h2 h => exact .both (e _ _ q) h1 h2 (h.mono e)
inductive ChainB (K : PySem.W.Frag) (H : Hp) : V → Bool → Prop where
  | no {x : V} (h : NotTup K H x) : ChainB K H x false
  | len {a : Addr} {xs : List V} (e : H a = some (.tup xs)) (h : ¬ (1 ≤ xs.length ∧ xs.length ≤ 12)) : ChainB K H (.ref a) false
  | tup {a : Addr} {xs : List V} {bs : List Bool} (e : H a = some (.tup xs)) (h : 1 ≤ xs.length ∧ xs.length ≤ 12) (hb : Paired (RingB K H) xs bs) : ChainB K H (.ref a) (bs.all id)
theorem RingAt.ring {K : PySem.W.Frag} {H : Hp} {most n s : Int} {x : V} (h : RingAt H most x n s) (hm : most ≤ 60) : RingB K H x true := by
  obtain ⟨t, rfl, ht, h1, h2, h3, h4⟩ := h
  exact .both ht h1 (by omega) (.yes h3 (by omega) (by omega) (by omega))
section
variable {P : Program} {w : World} {K : PySem.W.Frag} {mg : Str → Option Value} {base : Heap}
def spIsPair (K : PySem.W.Frag) : Sp := fun vs H Q _ => ∃ x b, vs = [x] ∧ PairB K H x b ∧ ∀ H', Ex H H' → Q (.bl b) H'
theorem ok_is_pair (T : Txt K mg) {f : Addr} {fd : FuncData} (D : DefAt K mg "is_pair" sIsPair ["value"] f fd) : FnOk P w K mg base CX0 1 f fd ["value"] (spIsPair K) := by
  refine D.F.ok scIsPair (fun vs H Q E h => ?_) (fun cdv A outer s H vs Q E hr h => ?_)
  · obtain ⟨x, b, rfl, _⟩ := h
    rfl
  · obtain ⟨x, b, rfl, hb, q⟩ := h
    refine ⟨_, pss_one (ps_ret (pe_and (pe_callB call_isi (by rfl) T.z_isinstance (by decide +kernel) (pa_cons (pv 0) (pa_cons (pe_bltn (v := .ty "tuple") (by rfl) T.z_tuple (by decide +kernel) rfl) pa_nil)))
      (pe_one (pe_cmpR op_eq (pe_callB call_len (by rfl) T.z_len PySem.boot_len (pa_cons (pv 0) pa_nil)) pe_int (nomark _))))), ?_⟩
    cases hb with
    | no hn =>
      obtain ⟨t, ty, h⟩ := hn.ty
      exact ⟨x, rfl, x, .ty "tuple", t, .type "tuple", false, rfl, .ty _, ty, h, false, rfl, iteF (q _ (Ex.refl _))⟩
    | @tup a xs e =>
      refine ⟨_, rfl, .ref a, .ty "tuple", .type "tuple", .type "tuple", true, rfl, .ty _, .base (.tup e), kit_ty (by decide +kernel), true, rfl, iteT ?_⟩
      refine ⟨_, rfl, _, xs.length, rfl, .inr ⟨_, SqT.of e, rfl⟩, rfl, ?_⟩
      have e2 : decide (V.int (xs.length : Int) = V.int 2) = decide (xs.length = 2) := by
        by_cases c : xs.length = 2
        · rw [c]
          rfl
        · rw [decide_eq_false c, decide_eq_false (fun z => c (by have := V.int.inj z; omega))]
      rw [e2]
      exact q _ (Ex.refl _)
def spIsRing (K : PySem.W.Frag) : Sp := fun vs H Q _ => ∃ x b, vs = [x] ∧ RingB K H x b ∧ ∀ H', Ex H H' → Q (.bl b) H'
theorem ok_is_ring (T : Txt K mg) {f : Addr} {fd : FuncData} (D : DefAt K mg "is_ring" sIsRing ["value"] f fd) : FnOk P w K mg base CX0 3 f fd ["value"] (spIsRing K) := by
  refine D.F.ok scIsRing (fun vs H Q E h => ?_) (fun cdv A outer s H vs Q E hr h => ?_)
  · obtain ⟨x, b, rfl, _⟩ := h
    rfl
  · obtain ⟨x, b, rfl, hb, q⟩ := h
    obtain ⟨f1, fd1, D1⟩ := T.d_is_pair
    obtain ⟨f2, fd2, D2⟩ := T.d_is_between
    obtain ⟨tM, vM⟩ := T.v_PLACES
    have hr1 : Room 1 _ := hr.mono (by decide)
    refine ⟨_, pss_cons (ps_if (pt_not (pt_val (pe_call (ok_is_pair T D1) hr1 (by rfl) D1.g D1.F.kp D1.b .nil pass0 (pa_cons (pv 0) pa_nil)))) (pss_one (ps_ret pe_bl)) pss_nil)
      (pss_cons (ps_asg (pv 0) (pg_tup (by rfl) (pgs_cons (pg_name (i := 1) scIsRing.nd rfl (.inl rfl)) (pgs_cons (pg_name (i := 2) scIsRing.nd rfl (.inl rfl)) pgs_nil))))
      (pss_one (ps_ret (pe_and (pe_call (ok_is_between T D2) hr (by rfl) D2.g D2.F.kp D2.b .nil pass0 (pa_cons (pv 1) (pa_cons pe_int (pa_cons (pe_glob (v := .int 60) rfl vM ⟨_, rfl⟩) pa_nil))))
        (pe_one (pe_call (ok_is_between T D2) hr (by rfl) D2.g D2.F.kp D2.b .nil pass0 (pa_cons (pv 2) (pa_cons pe_int (pa_cons (pe_op op_sub (pv 1) pe_int) pa_nil))))))))), ?_⟩
    cases hb with
    | no h => exact ⟨x, rfl, x, false, rfl, .no h, fun H1 e1 => ⟨false, rfl, iteT (q _ e1)⟩⟩
    | @len a xs e h => exact ⟨_, rfl, .ref a, false, rfl, by have := PairB.tup (K := K) e; rw [decide_eq_false h] at this; exact this, fun H1 e1 => ⟨false, rfl, iteT (q _ e1)⟩⟩
    | @first a x y e h =>
      refine ⟨_, rfl, .ref a, true, rfl, .tup e, fun H1 e1 => ⟨true, rfl, iteF ?_⟩⟩
      refine ⟨_, rfl, a, [x, y], rfl, SqT.of (e1 _ _ e), rfl, x, [y], rfl, y, [], rfl, rfl, ?_⟩
      exact ⟨x, rfl, x, 2, 60, false, rfl, h.mono e1, fun H2 e2 => ⟨false, rfl, iteF (q _ (e1.trans e2))⟩⟩
    | @both a n y b e h1 h2 h =>
      refine ⟨_, rfl, .ref a, true, rfl, .tup e, fun H1 e1 => ⟨true, rfl, iteF ?_⟩⟩
      refine ⟨_, rfl, a, [.int n, y], rfl, SqT.of (e1 _ _ e), rfl, .int n, [y], rfl, y, [], rfl, rfl, ?_⟩
      refine ⟨.int n, rfl, .int n, 2, 60, true, rfl, .yes h1 h2 (by omega) (by omega), fun H2 e2 => ⟨true, rfl, iteT ?_⟩⟩
      exact ⟨y, rfl, .int n, rfl, n, 1, rfl, rfl, y, 1, n - 1, b, rfl, h.mono (e1.trans e2), fun H3 e3 => q _ ((e1.trans e2).trans e3)⟩
def spIsChain (K : PySem.W.Frag) : Sp := fun vs H Q _ => ∃ x b, vs = [x] ∧ ChainB K H x b ∧ ∀ H', Ex H H' → Q (.bl b) H'
theorem ok_is_chain (T : Txt K mg) {f : Addr} {fd : FuncData} (D : DefAt K mg "is_chain" sIsChain ["value"] f fd) : FnOk P w K mg base CX0 4 f fd ["value"] (spIsChain K) := by
  refine D.F.ok scIsChain (fun vs H Q E h => ?_) (fun cdv A outer s H vs Q E hr h => ?_)
  · obtain ⟨x, b, rfl, _⟩ := h
    rfl
  · obtain ⟨x, b, rfl, hb, q⟩ := h
    obtain ⟨f1, fd1, D1⟩ := T.d_is_ring
    obtain ⟨tM, vM⟩ := T.v_RINGS
    refine ⟨_, pss_cons (ps_if (PW.pt (pw_or (pt_not (pt_val (pe_callB call_isi (by rfl) T.z_isinstance (by decide +kernel) (pa_cons (pv 0) (pa_cons (pe_bltn (v := .ty "tuple") (by rfl) T.z_tuple (by decide +kernel) rfl) pa_nil)))))
        (pw_or1 (pt_not (pt_chain op_le op_le pe_int (pe_callB call_len (by rfl) T.z_len PySem.boot_len (pa_cons (pv 0) pa_nil)) (pe_glob (v := .int 12) rfl vM ⟨_, rfl⟩)))))) (pss_one (ps_ret pe_bl)) pss_nil)
      (pss_one (ps_ret (pe_callB (cr_all rfl) (by rfl) T.z_all (by decide +kernel) (pa_cons (pe_lc (own := [("ring", 1)]) (g := gName 1) (tt := tYes) rfl scIsChain.nd (pi_tup (pv 0))
          (blkOk_by (N := nIsChain) (sc := defScope sIsChain) (by decide +kernel)) (fun _ _ _ _ _ => pg_name (i := 1) scIsChain.nd rfl (Or.inl rfl)) (fun _ _ _ _ _ => pts_nil)
          (fun _ _ _ _ _ => pe_call (ok_is_ring T D1) hr (by rfl) D1.g D1.F.kp D1.b .nil pass0 (pa_cons (pv 1) pa_nil))) pa_nil)))), ?_⟩
    cases hb with
    | no hn =>
      obtain ⟨t, ty, h⟩ := hn.ty
      exact ⟨x, rfl, x, .ty "tuple", t, .type "tuple", false, rfl, .ty _, ty, h, false, rfl, iteT (iteT (q _ (Ex.refl _)))⟩
    | @len a xs e h =>
      refine ⟨_, rfl, .ref a, .ty "tuple", .type "tuple", .type "tuple", true, rfl, .ty _, .base (.tup e), kit_ty (by decide +kernel), true, rfl, iteF ?_⟩
      refine ⟨_, rfl, _, xs.length, rfl, .inr ⟨_, SqT.of e, rfl⟩, _, _, rfl, rfl, _, rfl, ite2 (fun c => ?_) (fun c => ?_)⟩
      · refine ⟨_, _, rfl, rfl, _, rfl, ?_⟩
        have c2 : ¬ ((xs.length : Int) ≤ 12) := fun z => h ⟨by have : (1 : Int) ≤ (xs.length : Int) := of_decide_eq_true c; omega, by omega⟩
        rw [decide_eq_false c2]
        exact iteT (q _ (Ex.refl _))
      · exact ⟨_, rfl, iteT (q _ (Ex.refl _))⟩
    | @tup a xs bs e h hb =>
      refine ⟨_, rfl, .ref a, .ty "tuple", .type "tuple", .type "tuple", true, rfl, .ty _, .base (.tup e), kit_ty (by decide +kernel), true, rfl, iteF ?_⟩
      refine ⟨_, rfl, _, xs.length, rfl, .inr ⟨_, SqT.of e, rfl⟩, _, _, rfl, rfl, _, rfl, ite2 (fun c => ?_) (fun c => ?_)⟩
      · refine ⟨_, _, rfl, rfl, _, rfl, ?_⟩
        rw [decide_eq_true (show (xs.length : Int) ≤ 12 by omega)]
        refine iteF ?_
        refine ⟨_, rfl, a, rfl, ⟨_, SqT.of e⟩, fun Dl hD => ?_⟩
        refine lc_tup (K := K) (a := a) (xs := xs) (fun i H' => H' Dl = some (.lst ((bs.take i).map V.bl)) ∧ Ex H H') ⟨upd_same, Ex.new hD⟩ (fun i H' _ hp => SqT.of (hp.2 _ _ e)) (fun i x H' hx hp => ?_) (fun H' hp => ?_)
        · obtain ⟨y, hy, hR⟩ := paired_get hb hx
          refine ⟨rfl, ?_⟩
          dsimp only [tYes]
          rw [if_pos rfl]
          refine ⟨x, rfl, x, y, rfl, hR.mono hp.2, fun H2 e2 => ⟨_, e2 _ _ hp.1, ?_, ?_, ?_⟩⟩
          · have := (List.getElem?_eq_some_iff.mp hx).1
            rw [List.length_map, List.length_take]
            exact small1000 (Nat.le_trans (Nat.min_le_left _ _) (by omega))
          · rw [upd_same, List.take_add_one, hy, List.map_append]
            rfl
          · exact Ex.mut (hp.2.trans e2) hD
        · refine ⟨Dl, bs, rfl, ?_, q _ hp.2⟩
          have e3 : bs.take xs.length = bs := List.take_of_length_le (by rw [paired_len hb]; exact Nat.le_refl _)
          have h1 := hp.1
          rw [e3] at h1
          exact SqL.of h1
      · exact absurd (decide_eq_true (show (1 : Int) ≤ (xs.length : Int) by omega)) c
end
end K1

namespace K1
open PySem PySem.Spec PyProof.Rows L2 Evl
/-! ### orders and diagonals -/
section
variable {P : Program} {w : World} {K : PySem.W.Frag} {mg : Str → Option Value} {base : Heap}
def spCheckInteger (K : PySem.W.Frag) : Sp := fun vs H Q _ => ∃ i : Int, vs = [.int i] ∧ -(10 ^ 60) < i ∧ i < 10 ^ 60 ∧ ∀ H', Ex H H' → Q .non H'
theorem ok_check_integer (T : Txt K mg) {f : Addr} {fd : FuncData} (D : DefAt K mg "check_integer" sCheckInteger ["value"] f fd) : FnOk P w K mg base CX0 2 f fd ["value"] (spCheckInteger K) := by
  refine D.F.ok scCheckInteger (fun vs H Q E h => ?_) (fun cdv A outer s H vs Q E hr h => ?_)
  · obtain ⟨x, rfl, _⟩ := h
    rfl
  · obtain ⟨i, rfl, h1, h2, q⟩ := h
    obtain ⟨f1, fd1, D1⟩ := T.d_is_integer
    refine ⟨_, pss_one (ps_if (pt_not (pt_val (pe_call (ok_is_integer T D1) hr (by rfl) D1.g D1.F.kp D1.b .nil pass0 (pa_cons (pv 0) pa_nil)))) pss_never pss_nil), ?_⟩
    refine ⟨_, rfl, .int i, true, rfl, ?_, fun H1 e1 => ⟨true, rfl, iteF (q _ e1)⟩⟩
    have := IntB.int (K := K) (H := H) i
    rw [decide_eq_true h1, decide_eq_true h2] at this
    exact this
def spCheckRing (K : PySem.W.Frag) : Sp := fun vs H Q _ => ∃ x, vs = [x] ∧ RingB K H x true ∧ ∀ H', Ex H H' → Q .non H'
theorem ok_check_ring (T : Txt K mg) {f : Addr} {fd : FuncData} (D : DefAt K mg "check_ring" sCheckRing ["ring"] f fd) : FnOk P w K mg base CX0 4 f fd ["ring"] (spCheckRing K) := by
  refine D.F.ok scCheckRing (fun vs H Q E h => ?_) (fun cdv A outer s H vs Q E hr h => ?_)
  · obtain ⟨x, rfl, _⟩ := h
    rfl
  · obtain ⟨x, rfl, hb, q⟩ := h
    obtain ⟨f1, fd1, D1⟩ := T.d_is_ring
    refine ⟨_, pss_one (ps_if (pt_not (pt_val (pe_call (ok_is_ring T D1) hr (by rfl) D1.g D1.F.kp D1.b .nil pass0 (pa_cons (pv 0) pa_nil)))) pss_never pss_nil), ?_⟩
    exact ⟨_, rfl, x, true, rfl, hb, fun H1 e1 => ⟨true, rfl, iteF (q _ e1)⟩⟩
def spCheckChain (K : PySem.W.Frag) : Sp := fun vs H Q _ => ∃ x, vs = [x] ∧ ChainB K H x true ∧ ∀ H', Ex H H' → Q .non H'
theorem ok_check_chain (T : Txt K mg) {f : Addr} {fd : FuncData} (D : DefAt K mg "check_chain" sCheckChain ["chain"] f fd) : FnOk P w K mg base CX0 5 f fd ["chain"] (spCheckChain K) := by
  refine D.F.ok scCheckChain (fun vs H Q E h => ?_) (fun cdv A outer s H vs Q E hr h => ?_)
  · obtain ⟨x, rfl, _⟩ := h
    rfl
  · obtain ⟨x, rfl, hb, q⟩ := h
    obtain ⟨f1, fd1, D1⟩ := T.d_is_chain
    refine ⟨_, pss_one (ps_if (pt_not (pt_val (pe_call (ok_is_chain T D1) hr (by rfl) D1.g D1.F.kp D1.b .nil pass0 (pa_cons (pv 0) pa_nil)))) pss_never pss_nil), ?_⟩
    exact ⟨_, rfl, x, true, rfl, hb, fun H1 e1 => ⟨true, rfl, iteF (q _ e1)⟩⟩
def spOrderOf : Sp := fun vs H Q _ => ∃ x n s, vs = [x] ∧ RingAt H 60 x n s ∧ ∀ H', Ex H H' → Q (.int (K1M.ord n.natAbs s.natAbs : Nat)) H'
theorem ok_order_of (T : Txt K mg) {f : Addr} {fd : FuncData} (D : DefAt K mg "order_of" sOrderOf ["ring"] f fd) : FnOk P w K mg base CX0 5 f fd ["ring"] spOrderOf := by
  refine D.F.ok scOrderOf (fun vs H Q E h => ?_) (fun cdv A outer s H vs Q E hr h => ?_)
  · obtain ⟨x, n, s, rfl, _⟩ := h
    rfl
  · obtain ⟨x, n, s, rfl, hx, q⟩ := h
    obtain ⟨f1, fd1, D1⟩ := T.d_check_ring
    refine ⟨_, pss_cons (ps_expr (pe_call (ok_check_ring T D1) hr (by rfl) D1.g D1.F.kp D1.b .nil pass0 (pa_cons (pv 0) pa_nil)))
      (pss_one (ps_ret (pe_op op_fdivN (pe_ix ix_tup (pv 0) pe_int (fun _ _ => rfl)) (pe_callBfun cr_gcd (by rfl) T.v_gcd (pa_cons (pe_ix ix_tup (pv 0) pe_int (fun _ _ => rfl)) (pa_cons (pe_ix ix_tup (pv 0) pe_int (fun _ _ => rfl)) pa_nil)))))), ?_⟩
    refine ⟨_, rfl, x, rfl, hx.ring (Int.le_refl _), fun H1 e1 => ?_⟩
    obtain ⟨t, rfl, ht, h1, h2, h3, h4⟩ := hx
    have ht1 := SqT.of (K := K) (e1 _ _ ht)
    refine ⟨_, rfl, t, _, 0, .int n, rfl, rfl, ht1, rfl, _, rfl, t, _, 0, .int n, rfl, rfl, ht1, rfl, _, rfl, t, _, 1, .int s, rfl, rfl, ht1, rfl, n, s, rfl, ?_⟩
    have hg : 0 < Nat.gcd n.natAbs s.natAbs := Nat.gcd_pos_of_pos_left _ (by omega)
    have hle : Nat.gcd n.natAbs s.natAbs ≤ n.natAbs := Nat.gcd_le_left _ (by omega)
    refine ⟨n, _, rfl, rfl, ⟨by omega, by omega⟩, ?_⟩
    have e : n.fdiv ((Nat.gcd n.natAbs s.natAbs : Nat) : Int) = ((K1M.ord n.natAbs s.natAbs : Nat) : Int) := by
      rw [Int.fdiv_eq_ediv_of_nonneg _ (by omega)]
      conv => lhs; lhs; rw [show n = ((n.natAbs : Nat) : Int) by omega]
      rfl
    show Q (V.int (n.fdiv ((Nat.gcd n.natAbs s.natAbs : Nat) : Int))) H1
    rw [e]
    exact q _ e1
def spLets : Sp := fun vs H Q _ => ∃ x n s p c, vs = [x, .int p, .int c] ∧ RingAt H 60 x n s ∧ ∀ H', Ex H H' → Q (.bl (decide ((c * s - p) % n = 0))) H'
theorem ok_lets (T : Txt K mg) {f : Addr} {fd : FuncData} (D : DefAt K mg "lets" sLets ["ring", "place", "diagonal"] f fd) : FnOk P w K mg base CX0 1 f fd ["ring", "place", "diagonal"] spLets := by
  refine D.F.ok scLets (fun vs H Q E h => ?_) (fun cdv A outer s H vs Q E hr h => ?_)
  · obtain ⟨x, n, s, p, c, rfl, _⟩ := h
    rfl
  · obtain ⟨x, n, s, p, c, rfl, hx, q⟩ := h
    refine ⟨_, pss_one (ps_ret (pe_cmpR op_eq (pe_op op_mod (pe_op op_sub (pe_op op_mul (pv 2) (pe_ix ix_tup (pv 0) pe_int (fun _ _ => rfl))) (pv 1)) (pe_ix ix_tup (pv 0) pe_int (fun _ _ => rfl))) pe_int (nomark _))), ?_⟩
    obtain ⟨t, rfl, ht, h1, h2, h3, h4⟩ := hx
    have ht1 := SqT.of (K := K) ht
    refine ⟨_, rfl, _, rfl, t, _, 1, .int s, rfl, rfl, ht1, rfl, c, s, rfl, rfl, .inr (by constructor <;> omega), _, rfl, _, _, rfl, rfl, _, rfl, t, _, 0, .int n, rfl, rfl, ht1, rfl, _, n, rfl, rfl, by omega, rfl, ?_⟩
    have e : decide (V.int ((c * s - p) % n) = V.int 0) = decide ((c * s - p) % n = 0) := by
      by_cases z : (c * s - p) % n = 0
      · rw [z]
        rfl
      · rw [decide_eq_false z, decide_eq_false (fun y => z (V.int.inj y))]
    show Q (V.bl (decide (V.int ((c * s - p) % n) = V.int 0))) H
    rw [e]
    exact q _ (Ex.refl _)
def spDoesLet : Sp := fun vs H Q _ => ∃ x n s p c, vs = [x, .int p, .int c] ∧ RingAt H 60 x n s ∧ 0 ≤ p ∧ p < n ∧ -(10 ^ 60) < c ∧ c < 10 ^ 60 ∧ ∀ H', Ex H H' → Q (.bl (decide ((c * s) % n = p))) H'
end
end K1

/-! plain mathematics of heaps: heights of columns that do not ascend -/
namespace HM
def hAt (h : List Nat) (c : Nat) : Nat := h.getD c 0
theorem hAt_lt {h : List Nat} {c : Nat} (hc : c < h.length) : h[c]? = some (hAt h c) := by
  unfold hAt
  rw [List.getD_eq_getElem?_getD, List.getElem?_eq_getElem hc]
  rfl
theorem hAt_ge {h : List Nat} {c : Nat} (hc : h.length ≤ c) : hAt h c = 0 := by
  unfold hAt
  rw [List.getD_eq_getElem?_getD, List.getElem?_eq_none hc]
  rfl
structure IsHeap (h : List Nat) : Prop where
  pos : ∀ c, c < h.length → 0 < hAt h c
  fall : ∀ c, hAt h (c + 1) ≤ hAt h c
theorem IsHeap.nil : IsHeap [] := ⟨fun c hc => absurd hc (Nat.not_lt_zero c), fun c => by rw [hAt_ge (Nat.zero_le _), hAt_ge (Nat.zero_le _)]; exact Nat.le_refl _⟩
theorem IsHeap.le {h : List Nat} (H : IsHeap h) {c : Nat} : ∀ {d : Nat}, c ≤ d → hAt h d ≤ hAt h c
  | 0, hd => by
    have : c = 0 := by omega
    rw [this]
    exact Nat.le_refl _
  | d + 1, hd => by
    by_cases e : c = d + 1
    · rw [e]
      exact Nat.le_refl _
    · exact Nat.le_trans (H.fall d) (H.le (by omega))
/-- two heaps with the same heights are one -/
theorem heap_ext {h h' : List Nat} (H : IsHeap h) (H' : IsHeap h') (e : ∀ c, hAt h c = hAt h' c) : h = h' := by
  have l : h.length = h'.length := by
    rcases Nat.lt_trichotomy h.length h'.length with q | q | q
    · have a := H'.pos _ q
      rw [← e, hAt_ge (Nat.le_refl _)] at a
      omega
    · exact q
    · have a := H.pos _ q
      rw [e, hAt_ge (Nat.le_refl _)] at a
      omega
  refine List.ext_getElem? fun c => ?_
  by_cases hc : c < h.length
  · rw [hAt_lt hc, hAt_lt (by omega), e]
  · rw [List.getElem?_eq_none (by omega), List.getElem?_eq_none (by omega)]
/-- a square can be added on top of the column -/
def opn (h : List Nat) (c : Nat) : Bool := decide (c = 0) || decide (hAt h c < hAt h (c - 1))
theorem opn_le {h : List Nat} {c : Nat} (o : opn h c = true) : c ≤ h.length := by
  unfold opn at o
  by_cases hc : c ≤ h.length
  · exact hc
  · rw [decide_eq_false (show ¬ c = 0 by omega), hAt_ge (show h.length ≤ c by omega), hAt_ge (show h.length ≤ c - 1 by omega)] at o
    exact absurd o (by decide)
theorem opn_lt {h : List Nat} {c : Nat} (o : opn h (c + 1) = true) : hAt h (c + 1) < hAt h c := by
  unfold opn at o
  rw [decide_eq_false (show ¬ c + 1 = 0 by omega), Bool.false_or] at o
  exact of_decide_eq_true o
def b2n (b : Bool) : Nat := if b = true then 1 else 0
theorem b2n_le (b : Bool) : b2n b ≤ 1 := by cases b <;> decide
def grow (h : List Nat) (g : Nat → Bool) : List Nat := (List.range h.length).map (fun c => hAt h c + b2n (g c)) ++ (if g h.length = true then [1] else [])
theorem grow_len (h : List Nat) (g : Nat → Bool) : (grow h g).length = h.length + b2n (g h.length) := by
  unfold grow b2n
  rw [List.length_append, List.length_map, List.length_range]
  split <;> rfl
theorem hAt_grow {h : List Nat} {g : Nat → Bool} (hg : ∀ c, g c = true → opn h c = true) (c : Nat) : hAt (grow h g) c = hAt h c + b2n (g c) := by
  unfold hAt
  rw [List.getD_eq_getElem?_getD, List.getD_eq_getElem?_getD]
  unfold grow
  by_cases hc : c < h.length
  · rw [List.getElem?_append_left (by rw [List.length_map, List.length_range]; exact hc), List.getElem?_map, List.getElem?_range hc, hAt_lt hc]
    rfl
  · rw [List.getElem?_append_right (by rw [List.length_map, List.length_range]; omega), List.length_map, List.length_range, List.getElem?_eq_none (show h.length ≤ c by omega)]
    by_cases e : c = h.length
    · subst e
      rw [Nat.sub_self]
      unfold b2n
      by_cases q : g h.length = true
      · rw [if_pos q, if_pos q]
        rfl
      · rw [if_neg q, if_neg q]
        rfl
    · have q : g c = false := by
        cases q : g c with
        | false => rfl
        | true => exact absurd (opn_le (hg c q)) (by omega)
      rw [q]
      have l : (if g h.length = true then [1] else []).length ≤ 1 := by split <;> decide
      rw [List.getElem?_eq_none (by omega)]
      rfl
theorem grow_heap {h : List Nat} {g : Nat → Bool} (H : IsHeap h) (hg : ∀ c, g c = true → opn h c = true) : IsHeap (grow h g) := by
  refine ⟨fun c hc => ?_, fun c => ?_⟩
  · rw [hAt_grow hg]
    rw [grow_len] at hc
    by_cases q : c < h.length
    · have := H.pos c q
      omega
    · have : c = h.length := by
        have := b2n_le (g h.length)
        omega
      subst this
      omega
  · rw [hAt_grow hg, hAt_grow hg]
    have := H.fall c
    cases q : g (c + 1) with
    | false =>
      show hAt h (c + 1) + 0 ≤ _
      omega
    | true =>
      have := opn_lt (hg _ q)
      show hAt h (c + 1) + 1 ≤ _
      omega
/-- heights and one more, 0, with some more -/
def hts (h : List Nat) (f : Nat → Nat) : List Nat := (List.range (h.length + 1)).map fun c => hAt h c + f c
theorem hts_len (h : List Nat) (f : Nat → Nat) : (hts h f).length = h.length + 1 := by
  unfold hts
  rw [List.length_map, List.length_range]
theorem hts_get {h : List Nat} {f : Nat → Nat} {c : Nat} (hc : c ≤ h.length) : (hts h f)[c]? = some (hAt h c + f c) := by
  unfold hts
  rw [List.getElem?_map, List.getElem?_range (by omega)]
  rfl
theorem hts_zero (h : List Nat) : h ++ [0] = hts h fun _ => 0 := by
  refine List.ext_getElem? fun c => ?_
  by_cases q : c < h.length
  · rw [List.getElem?_append_left q, hAt_lt q, hts_get (by omega)]
    rfl
  · by_cases e : c = h.length
    · subst e
      rw [List.getElem?_append_right (Nat.le_refl _), Nat.sub_self, hts_get (Nat.le_refl _), hAt_ge (Nat.le_refl _)]
      rfl
    · rw [List.getElem?_eq_none (by rw [List.length_append]; show h.length + 1 ≤ c; omega), List.getElem?_eq_none (by rw [hts_len]; omega)]
def cnt (cols : List Nat) (c : Nat) : Nat := (cols.filter fun d => d == c).length
theorem cnt_snoc (cols : List Nat) (d c : Nat) : cnt (cols ++ [d]) c = cnt cols c + b2n (d == c) := by
  unfold cnt
  rw [List.filter_append, List.length_append]
  cases q : (d == c) with
  | true =>
    rw [List.filter_cons, if_pos q]
    rfl
  | false =>
    rw [List.filter_cons, if_neg (by rw [q]; decide)]
    rfl
theorem hts_set {h : List Nat} {cols : List Nat} {d : Nat} (hd : d ≤ h.length) : (hts h (cnt cols)).set d (hAt h d + cnt cols d + 1) = hts h (cnt (cols ++ [d])) := by
  refine List.ext_getElem? fun c => ?_
  rw [List.getElem?_set]
  by_cases e : d = c
  · subst e
    rw [if_pos rfl, if_pos (by rw [hts_len]; omega), hts_get hd, cnt_snoc]
    show some _ = some (hAt h d + (cnt cols d + b2n (d == d)))
    rw [beq_self_eq_true]
    rfl
  · rw [if_neg e]
    by_cases q : c ≤ h.length
    · rw [hts_get q, hts_get q, cnt_snoc]
      have : (d == c) = false := by simpa using e
      rw [this]
      rfl
    · rw [List.getElem?_eq_none (by rw [hts_len]; omega), List.getElem?_eq_none (by rw [hts_len]; omega)]
theorem range_filter_cnt (n : Nat) (g : Nat → Bool) (c : Nat) : cnt ((List.range n).filter g) c = b2n (decide (c < n) && g c) := by
  induction n with
  | zero => rfl
  | succ n ih =>
    rw [List.range_succ, List.filter_append]
    have e : cnt ((List.range n).filter g ++ [n].filter g) c = cnt ((List.range n).filter g) c + cnt ([n].filter g) c := by
      unfold cnt
      rw [List.filter_append, List.length_append]
    rw [e, ih]
    by_cases q : g n = true
    · have : [n].filter g = [n] := by
        rw [List.filter_cons, if_pos q]
        rfl
      rw [this]
      unfold cnt
      by_cases z : n = c
      · subst z
        rw [List.filter_cons, if_pos (beq_self_eq_true n), decide_eq_false (Nat.lt_irrefl n), decide_eq_true (Nat.lt_succ_self n), q]
        rfl
      · rw [List.filter_cons, if_neg (show ¬ (n == c) = true by simpa using z)]
        have : decide (c < n) = decide (c < n + 1) := decide_eq_decide.mpr (by omega)
        rw [this]
        rfl
    · have : [n].filter g = [] := by
        rw [List.filter_cons, if_neg q]
        rfl
      rw [this]
      by_cases z : c = n
      · subst z
        have : g c = false := by simpa using q
        rw [this, Bool.and_false, Bool.and_false]
        rfl
      · have : decide (c < n) = decide (c < n + 1) := decide_eq_decide.mpr (by omega)
        rw [this]
        rfl
/-- what heaped makes of columns -/
theorem hts_filter {h : List Nat} (hp : ∀ c, c < h.length → 0 < hAt h c) {g : Nat → Bool} {f : Nat → Nat} (hf : ∀ c, c ≤ h.length → f c = b2n (g c)) : (hts h f).filter (fun x => decide (0 < x)) = grow h g := by
  unfold hts grow
  rw [List.range_succ, List.map_append, List.filter_append]
  have e1 : ((List.range h.length).map fun c => hAt h c + f c).filter (fun x => decide (0 < x)) = (List.range h.length).map fun c => hAt h c + b2n (g c) := by
    have e : ((List.range h.length).map fun c => hAt h c + f c) = (List.range h.length).map fun c => hAt h c + b2n (g c) := by
      refine List.map_congr_left fun c hc => ?_
      rw [hf c (Nat.le_of_lt (List.mem_range.mp hc))]
    rw [e]
    refine List.filter_eq_self.mpr fun x hx => ?_
    obtain ⟨c, hc, rfl⟩ := List.mem_map.mp hx
    have := hp c (List.mem_range.mp hc)
    exact decide_eq_true (by omega)
  rw [e1]
  congr 1
  show [hAt h h.length + f h.length].filter _ = _
  rw [hAt_ge (Nat.le_refl _), hf _ (Nat.le_refl _)]
  unfold b2n
  by_cases q : g h.length = true
  · rw [if_pos q, if_pos q]
    rfl
  · rw [if_neg q, if_neg q]
    rfl
/-- the diagonal of the square on top -/
def dg (h : List Nat) (c : Nat) : Int := (c : Int) - (hAt h c : Int)
theorem dg_lt {h : List Nat} (H : IsHeap h) {c d : Nat} (hcd : c < d) : dg h c < dg h d := by
  unfold dg
  have := H.le (Nat.le_of_lt hcd)
  omega
def oc (h : List Nat) : List Nat := (List.range (h.length + 1)).filter (opn h)
theorem oc_mem {h : List Nat} {c : Nat} : c ∈ oc h ↔ opn h c = true := by
  unfold oc
  rw [List.mem_filter, List.mem_range]
  exact ⟨fun z => z.2, fun z => ⟨Nat.lt_succ_of_le (opn_le z), z⟩⟩
end HM

/-! own rules: xs[i] op= e of a list; range(n) as a value, walked later -/
namespace LX
open PySem PySem.Spec PyProof.Rows L2
section
variable {X : Cx}
/-- xs[i] by values, 0 ≤ i -/
def rGetL (K : PySem.W.Frag) : V → V → Hp → VK → Prop := fun o i H Q => ∃ (a : Addr) (ys : List V) (j : Nat) (v : V), o = .ref a ∧ i = .int (j : Int) ∧ SqL K H a ys ∧ ys[j]? = some v ∧ Q v H
theorem get_list : PGet X (rGetL X.K) := by
  intro pins s σ H o i ov iv Q I ro ri h
  obtain ⟨a, ys, j, v, rfl, rfl, hq, hv, q⟩ := h
  cases ro
  obtain ⟨t, rfl⟩ := ri
  obtain ⟨its, r, pl, hz⟩ := I.list hq
  obtain ⟨u, hu, ru⟩ := r.get hv
  have hn := line63
  have hj := (List.getElem?_eq_some_iff.mp hu).1
  have hl := r.length
  exact wpAny_getItem_list pl.isList (by omega) (by omega) (by simpa using hu) ⟨v, H, I, ru, q⟩
/-- range(n), a new range object -/
theorem cr_range1 : CallR X (.type "range") (fun vs H Q => ∃ j, vs = [V.int j] ∧ ∀ p, H p = none → Q (.ref p) (upd H p (.rng 0 j))) := by
  intro pins s σ H vs us Q I r h
  obtain ⟨j, rfl, q⟩ := h
  obtain ⟨u1, rfl, rj⟩ := vals1 r
  obtain ⟨t, rfl⟩ := rj
  have nw : ObjOk X.prog X.w (upd H s.heap.objs.size (.rng 0 j)) (s.heap.push { cls := .type "range", data := .fields #[.int 0 s.toks, .int j t, .int 1 (s.toks + 1)] }) s.heap.objs.size (.rng 0 j) := ⟨s.toks, t, s.toks + 1, Heap.get?_push_size _ rfl⟩
  exact call_range_1 ⟨.ref s.heap.objs.size, _, I.laid (t' := s.toks + 1 + 1) (fun b o e => Heap.get?_push_of_some _ e) (Nat.le_refl _) nw, rfl, q _ (I.hok.fresh (Nat.le_refl _))⟩
/-- a range object that stands, walked -/
def iRngV (te : TE) : TI := fun σ H R => te σ H fun x H1 => ∃ (p : Addr) (lo hi : Int), x = .ref p ∧ H1 p = some (.rng lo hi) ∧ (-(2 ^ 62) ≤ lo ∧ lo < 2 ^ 62 ∧ -(2 ^ 62) ≤ hi ∧ hi < 2 ^ 62) ∧ R (Itr lo (hi - lo).toNat) H1
theorem pi_rngV {tg e : Expr} {te : TE} (he : PE X e te) : PI X tg e (iRngV te) := by
  refine ⟨fun pins s σ H R I h => ?_⟩
  refine thn (he.run pins s σ H _ I h) fun u s1 ⟨x, H1, I1, r1, p, lo, hi, ex, hp, ⟨b1, b2, b3, b4⟩, q⟩ => ?_
  subst ex
  obtain rfl : u = Value.ref p := r1
  obtain ⟨t, u, v, g⟩ := (show ObjOk X.prog X.w H1 s1.heap p (.rng lo hi) from I1.hok p _ hp)
  refine wpAny_pyIter_range (s := s1) g (small_one b1 b2 b3 b4) ?_
  refine ⟨s1.heap.objs.size, [s1.heap.objs.size], _, _, H1, rfl, I1.kept (t' := s1.toks) fun b o e => Heap.get?_push_of_some _ e, turn_range _ lo (hi - lo).toNat, ?_, fun b hb => ?_, q⟩
  · have e1 : lo + ((0 : Nat) : Int) * 1 = lo := by simp
    have e2 : (((hi - lo).toNat : Nat) : Int) - ((0 : Nat) : Int) = Builtin.Range.rangeSize lo hi 1 := by
      rw [rangeSize_one]
      split <;> omega
    show IsRangeIter _ _ (lo + ((0 : Nat) : Int) * 1) ((((hi - lo).toNat : Nat) : Int) - ((0 : Nat) : Int)) 1
    rw [e1, e2]
    exact Heap.get?_push_size _ rfl
  · obtain rfl : b = s1.heap.objs.size := by simpa using hb
    exact I1.fpOk (Nat.le_refl _) (I1.hok.fresh (Nat.le_refl _))
end
end LX

namespace K1
open PySem PySem.Spec PyProof.Rows L2 Evl HM LX
/-! ### heaps -/
def hv (h : List Nat) : List V := h.map fun (n : Nat) => V.int (n : Int)
theorem hv_len (h : List Nat) : (hv h).length = h.length := List.length_map ..
theorem hv_get {h : List Nat} {c : Nat} (hc : c < h.length) : (hv h)[c]? = some (V.int (hAt h c : Int)) := by
  unfold hv
  rw [List.getElem?_map, hAt_lt hc]
  rfl
def HeapAt (H : Hp) (p : Addr) (h : List Nat) : Prop := H p = some (.tup (hv h))
/-- a heap that the package takes -/
structure Good (h : List Nat) : Prop where
  heap : IsHeap h
  len : h.length ≤ 60
  top : hAt h 0 ≤ 60
theorem Good.all {h : List Nat} (G : Good h) (c : Nat) : hAt h c ≤ 60 := Nat.le_trans (G.heap.le (Nat.zero_le c)) G.top
section
variable {P : Program} {w : World} {K : PySem.W.Frag} {mg : Str → Option Value} {base : Heap}
def spCheckBetween (K : PySem.W.Frag) : Sp := fun vs H Q _ => ∃ i lo hi : Int, vs = [.int i, .int lo, .int hi] ∧ lo ≤ i ∧ i ≤ hi ∧ -(10 ^ 60) < i ∧ i < 10 ^ 60 ∧ ∀ H', Ex H H' → Q .non H'
theorem ok_check_between (T : Txt K mg) {f : Addr} {fd : FuncData} (D : DefAt K mg "check_between" sCheckBetween ["value", "low", "high"] f fd) : FnOk P w K mg base CX0 3 f fd ["value", "low", "high"] (spCheckBetween K) := by
  refine D.F.ok scCheckBetween (fun vs H Q E h => ?_) (fun cdv A outer s H vs Q E hr h => ?_)
  · obtain ⟨i, lo, hi, rfl, _⟩ := h
    rfl
  · obtain ⟨i, lo, hi, rfl, h1, h2, h3, h4, q⟩ := h
    obtain ⟨f1, fd1, D1⟩ := T.d_is_between
    refine ⟨_, pss_one (ps_if (pt_not (pt_val (pe_call (ok_is_between T D1) hr (by rfl) D1.g D1.F.kp D1.b .nil pass0 (pa_cons (pv 0) (pa_cons (pv 1) (pa_cons (pv 2) pa_nil)))))) pss_never pss_nil), ?_⟩
    exact ⟨_, rfl, _, rfl, _, rfl, _, lo, hi, true, rfl, .yes h1 h2 h3 h4, fun H1 e1 => ⟨true, rfl, iteF (q _ e1)⟩⟩
def spIsHeap (K : PySem.W.Frag) : Sp := fun vs H Q _ => ∃ p h, vs = [.ref p] ∧ HeapAt H p h ∧ Good h ∧ ∀ H', Ex H H' → Q (.bl true) H'
theorem ok_is_heap (T : Txt K mg) {f : Addr} {fd : FuncData} (D : DefAt K mg "is_heap" sIsHeap ["value"] f fd) : FnOk P w K mg base CX0 3 f fd ["value"] (spIsHeap K) := by
  refine D.F.ok scIsHeap (fun vs H Q E h => ?_) (fun cdv A outer s H vs Q E hr h => ?_)
  · obtain ⟨p, h, rfl, _⟩ := h
    rfl
  · obtain ⟨p, h, rfl, hp, G, q⟩ := h
    obtain ⟨f1, fd1, D1⟩ := T.d_is_between
    obtain ⟨tM, vM⟩ := T.v_SIDE
    refine ⟨_, pss_cons (ps_if (PW.pt (pw_or (pt_not (pt_val (pe_callB call_isi (by rfl) T.z_isinstance (by decide +kernel) (pa_cons (pv 0) (pa_cons (pe_bltn (v := .ty "tuple") (by rfl) T.z_tuple (by decide +kernel) rfl) pa_nil)))))
        (pw_or1 (pt_cmpR op_gt (pe_callB call_len (by rfl) T.z_len PySem.boot_len (pa_cons (pv 0) pa_nil)) (pe_glob (v := .int 60) rfl vM ⟨_, rfl⟩) (nomark _))))) (pss_one (ps_ret pe_bl)) pss_nil)
      (pss_cons (ps_set (i := 1) scIsHeap.nd rfl (.inl rfl) (pe_glob (v := .int 60) rfl vM ⟨_, rfl⟩))
      (pss_cons (ps_for PassesOwn.never rfl (pi_tup (pv 0)) (pg_name (i := 2) scIsHeap.nd rfl (.inl rfl))
        (pss_cons (ps_if (pt_not (pt_val (pe_call (ok_is_between T D1) hr (by rfl) D1.g D1.F.kp D1.b .nil pass0 (pa_cons (pv 2) (pa_cons pe_int (pa_cons (pv 1) pa_nil)))))) (pss_one (ps_ret pe_bl)) pss_nil)
        (pss_one (ps_set (i := 1) scIsHeap.nd rfl (.inl rfl) (pv 2)))))
      (pss_one (ps_ret pe_bl)))), ?_⟩
    refine ⟨_, rfl, .ref p, .ty "tuple", .type "tuple", .type "tuple", true, rfl, .ty _, .base (.tup hp), kit_ty (by decide +kernel), true, rfl, iteF ?_⟩
    refine ⟨_, rfl, _, (hv h).length, rfl, .inr ⟨_, SqT.of hp, rfl⟩, _, _, rfl, rfl, _, rfl, ?_⟩
    rw [hv_len, decide_eq_false (show ¬ (60 : Int) < (h.length : Int) by have := G.len; omega)]
    refine iteF ?_
    refine ⟨_, rfl, p, rfl, ⟨_, SqT.of hp⟩, for_tup (K := K) (a := p) (xs := hv h) (fun i σ' H' => ∃ (a : Nat) (y : Option V), σ' = [some (.ref p), some (.int (a : Int)), y] ∧ hAt h i ≤ a ∧ a ≤ 60 ∧ Ex H H') ⟨60, none, rfl, G.all 0, Nat.le_refl _, Ex.refl _⟩ (fun i σ' H' _ hW => ?_) (fun i x σ' H' hx hW => ?_) (fun σ' H' hW => ?_)⟩
    · obtain ⟨_, _, _, _, _, e⟩ := hW
      exact SqT.of (e _ _ hp)
    · obtain ⟨a, y, rfl, h1, h2, e⟩ := hW
      have hi : i < h.length := by
        have := (List.getElem?_eq_some_iff.mp hx).1
        rw [hv_len] at this
        exact this
      rw [hv_get hi] at hx
      obtain rfl := Option.some.inj hx
      have hp0 := G.heap.pos i hi
      refine ⟨_, rfl, _, rfl, _, 1, a, true, rfl, .yes (by omega) (by omega) (by omega) (by omega), fun H1 e1 => ⟨true, rfl, iteF ?_⟩⟩
      exact ⟨_, rfl, hAt h i, _, rfl, G.heap.fall i, by omega, e.trans e1⟩
    · obtain ⟨a, y, rfl, h1, h2, e⟩ := hW
      exact q _ e
def spCheckHeap (K : PySem.W.Frag) : Sp := fun vs H Q _ => ∃ p h, vs = [.ref p] ∧ HeapAt H p h ∧ Good h ∧ ∀ H', Ex H H' → Q .non H'
theorem ok_check_heap (T : Txt K mg) {f : Addr} {fd : FuncData} (D : DefAt K mg "check_heap" sCheckHeap ["heap"] f fd) : FnOk P w K mg base CX0 4 f fd ["heap"] (spCheckHeap K) := by
  refine D.F.ok scCheckHeap (fun vs H Q E h => ?_) (fun cdv A outer s H vs Q E hr h => ?_)
  · obtain ⟨p, h, rfl, _⟩ := h
    rfl
  · obtain ⟨p, h, rfl, hp, G, q⟩ := h
    obtain ⟨f1, fd1, D1⟩ := T.d_is_heap
    refine ⟨_, pss_one (ps_if (pt_not (pt_val (pe_call (ok_is_heap T D1) hr (by rfl) D1.g D1.F.kp D1.b .nil pass0 (pa_cons (pv 0) pa_nil)))) pss_never pss_nil), ?_⟩
    exact ⟨_, rfl, p, h, rfl, hp, G, fun H1 e1 => ⟨true, rfl, iteF (q _ e1)⟩⟩
def spHeightAt : Sp := fun vs H Q _ => ∃ p h, ∃ c : Nat, vs = [.ref p, .int (c : Int)] ∧ HeapAt H p h ∧ ∀ H', Ex H H' → Q (.int (hAt h c : Int)) H'
theorem ok_height_at (T : Txt K mg) {f : Addr} {fd : FuncData} (D : DefAt K mg "height_at" sHeightAt ["heap", "column"] f fd) : FnOk P w K mg base CX0 1 f fd ["heap", "column"] spHeightAt := by
  refine D.F.ok scHeightAt (fun vs H Q E h => ?_) (fun cdv A outer s H vs Q E hr h => ?_)
  · obtain ⟨p, h, c, rfl, _⟩ := h
    rfl
  · obtain ⟨p, h, c, rfl, hp, q⟩ := h
    refine ⟨_, pss_one (ps_ret (pe_ifExp (pt_cmpR op_lt (pv 1) (pe_callB call_len_seq (by rfl) T.z_len PySem.boot_len (pa_cons (pv 0) pa_nil)) (nomark _)) (pe_ix ix_tup (pv 0) (pv 1) (fun _ _ => rfl)) pe_int)), ?_⟩
    refine ⟨_, rfl, _, rfl, p, _, rfl, .inr (SqT.of hp), _, _, rfl, rfl, _, rfl, ite2 (fun cc => ?_) (fun cc => ?_)⟩
    · have hc : c < h.length := by
        have : (c : Int) < ((hv h).length : Int) := of_decide_eq_true cc
        rw [hv_len] at this
        omega
      exact ⟨_, rfl, _, rfl, p, _, _, _, rfl, rfl, SqT.of hp, atI_nat (hv_get hc), q _ (Ex.refl _)⟩
    · have hc : h.length ≤ c := by
        have : ¬ (c : Int) < ((hv h).length : Int) := fun z => cc (decide_eq_true z)
        rw [hv_len] at this
        omega
      have := hAt_ge hc
      have q2 := q _ (Ex.refl _)
      rw [this] at q2
      exact q2
/-- the list of columns -/
def spOpenColumns : Sp := fun vs H Q _ => ∃ p h, vs = [.ref p] ∧ HeapAt H p h ∧ h.length ≤ 100 ∧ ∀ a H', Ex H H' → H a = none → H' a = some (.lst (hv (oc h))) → Q (.ref a) H'
theorem oc_snoc (h : List Nat) (i : Nat) : ((List.range (i + 1)).filter (opn h)) = ((List.range i).filter (opn h)) ++ (if opn h i = true then [i] else []) := by
  rw [List.range_succ, List.filter_append]
  by_cases q : opn h i = true
  · rw [if_pos q, List.filter_cons, if_pos q]
    rfl
  · rw [if_neg q, List.filter_cons, if_neg q]
    rfl
theorem hv_snoc (l : List Nat) (c : Nat) : hv (l ++ [c]) = hv l ++ [V.int (c : Int)] := by
  unfold hv
  rw [List.map_append]
  rfl
theorem ok_open_columns (T : Txt K mg) {f : Addr} {fd : FuncData} (D : DefAt K mg "open_columns" sOpenColumns ["heap"] f fd) : FnOk P w K mg base CX0 2 f fd ["heap"] spOpenColumns := by
  refine D.F.ok scOpenColumns (fun vs H Q E h => ?_) (fun cdv A outer s H vs Q E hr h => ?_)
  · obtain ⟨p, h, rfl, _⟩ := h
    rfl
  · obtain ⟨p, h, rfl, hp, hl, q⟩ := h
    obtain ⟨f1, fd1, D1⟩ := T.d_height_at
    refine ⟨_, pss_cons (ps_set (i := 1) scOpenColumns.nd rfl (.inl rfl) (pe_callTy cr_range1 (by rfl) T.z_range (by decide +kernel) (pa_cons (pe_op op_add (pe_callB call_len_seq (by rfl) T.z_len PySem.boot_len (pa_cons (pv 0) pa_nil)) pe_int) pa_nil)))
      (pss_one (ps_ret (pe_lc (own := [("column", 2)]) (g := gName 2) rfl scOpenColumns.nd (pi_rngV (pv 1)) (blkOk_by (N := nOpenColumns) (sc := defScope sOpenColumns) (by decide +kernel)) (fun _ _ _ _ _ => pg_name (i := 2) scOpenColumns.nd rfl (Or.inl rfl))
        (fun _ _ _ _ _ => pts_one (PW.pt (pw_or (pt_cmpR op_eq (pv 2) pe_int (nomark _)) (pw_or1 (pt_cmpR op_gt (pe_ix (show IxR _ (rIxT K) from ix_tup) (pv 0) (pe_op op_sub (pv 2) pe_int) (fun _ _ => rfl)) (pe_call (ok_height_at T D1) hr (by rfl) D1.g D1.F.kp D1.b .nil pass0 (pa_cons (pv 0) (pa_cons (pv 2) pa_nil))) (nomark _))))))
        (fun _ _ _ _ _ => pv 2)))), ?_⟩
    refine ⟨_, rfl, p, _, rfl, .inr (SqT.of hp), _, _, rfl, rfl, _, rfl, fun r hr0 => ?_⟩
    have e1 := Ex.new (o := .rng 0 (((hv h).length : Int) + 1)) hr0
    have hr1 : (upd H r (.rng 0 (((hv h).length : Int) + 1))) r = some (.rng 0 (((hv h).length : Int) + 1)) := upd_same
    generalize hG : upd H r (.rng 0 (((hv h).length : Int) + 1)) = H1 at *
    have hp1 : HeapAt H1 p h := e1 _ _ hp
    refine ⟨.ref r, rfl, r, 0, _, rfl, hr1, ⟨by decide, by decide, by rw [hv_len]; omega, by rw [hv_len]; omega⟩, fun Dl hD => ?_⟩
    refine lc_range (lo := 0) (n := (((hv h).length : Int) + 1 - 0).toNat) (fun i H' => H' Dl = some (.lst (hv ((List.range i).filter (opn h)))) ∧ Ex H1 H') ⟨upd_same, Ex.new hD⟩ (fun i H' hi hW => ?_) (fun H' hW => ?_)
    · obtain ⟨w1, w2⟩ := hW
      rw [hv_len] at hi
      have hi' : i ≤ h.length := by omega
      have hp2 := w2 _ _ hp1
      have ll : (hv ((List.range i).filter (opn h))).length < sizeLine := by
        rw [hv_len]
        have := List.length_filter_le (opn h) (List.range i)
        rw [List.length_range] at this
        exact small1000 (by omega)
      have fin : ∀ H3, Ex H' H3 → opn h i = true → ∃ acc, H3 Dl = some (.lst acc) ∧ acc.length < sizeLine ∧ (upd H3 Dl (.lst (acc ++ [V.int (0 + (i : Int))]))) Dl = some (.lst (hv ((List.range (i + 1)).filter (opn h)))) ∧ Ex H1 (upd H3 Dl (.lst (acc ++ [V.int (0 + (i : Int))]))) := fun H3 e3 o => by
        refine ⟨_, e3 _ _ w1, ll, ?_, Ex.mut (w2.trans e3) hD⟩
        rw [upd_same, oc_snoc, if_pos o, hv_snoc, Int.zero_add]
      refine ⟨rfl, _, rfl, rfl, _, rfl, ite2 (fun c => ?_) (fun c => ?_)⟩
      · have c2 : i = 0 := by
          have := V.int.inj (of_decide_eq_true c)
          omega
        have o : opn h i = true := by
          unfold opn
          rw [decide_eq_true c2, Bool.true_or]
        exact ⟨_, rfl, fin H' (Ex.refl _) o⟩
      · have c2 : i ≠ 0 := fun z => c (by subst z; rfl)
        have hx : (hv h)[i - 1]? = some (V.int (hAt h (i - 1) : Int)) := hv_get (by omega)
        refine ⟨_, rfl, _, rfl, _, _, rfl, rfl, p, _, _, _, rfl, rfl, SqT.of hp2, at_of (show (0 + (i : Int)) - 1 = ((i - 1 : Nat) : Int) by omega) hx, _, rfl, _, rfl, p, h, i, by rw [Int.zero_add]; rfl, hp2, fun H3 e3 => ⟨_, _, rfl, rfl, _, rfl, ite2 (fun cc => ?_) (fun cc => ?_)⟩⟩
        · have o : opn h i = true := by
            unfold opn
            have := of_decide_eq_true cc
            rw [decide_eq_true (show hAt h i < hAt h (i - 1) by omega), Bool.or_true]
          exact ⟨_, rfl, fin H3 e3 o⟩
        · have o : ¬ opn h i = true := fun z => by
            unfold opn at z
            rw [decide_eq_false c2, Bool.false_or] at z
            have := of_decide_eq_true z
            exact cc (decide_eq_true (by omega))
          refine ⟨?_, w2.trans e3⟩
          rw [oc_snoc, if_neg o, List.append_nil]
          exact e3 _ _ w1
    · obtain ⟨w1, w2⟩ := hW
      have e : (((hv h).length : Int) + 1 - 0).toNat = h.length + 1 := by
        rw [hv_len]
        omega
      rw [e] at w1
      exact q Dl H' (e1.trans w2) (fresh_back e1 hD) w1
end
end K1

namespace K1
open PySem PySem.Spec PyProof.Rows L2 Evl HM LX
theorem hv_set {l : List Nat} {d x : Nat} : (hv l).set d (V.int (x : Int)) = hv (l.set d x) := by
  unfold hv
  rw [List.map_set]
theorem hv_at {l : List Nat} {i x : Nat} (h : l[i]? = some x) : (hv l)[i]? = some (V.int (x : Int)) := by
  unfold hv
  rw [List.getElem?_map, h]
  rfl
theorem hv_inv {l : List Nat} {i : Nat} {v : V} (h : (hv l)[i]? = some v) : ∃ x, l[i]? = some x ∧ v = V.int (x : Int) := by
  unfold hv at h
  rw [List.getElem?_map] at h
  cases e : l[i]? with
  | none =>
    rw [e] at h
    cases h
  | some x =>
    rw [e] at h
    exact ⟨x, rfl, (Option.some.inj h).symm⟩
theorem take_filter_snoc {α : Type} {l : List α} {i : Nat} {x : α} (g : α → Bool) (h : l[i]? = some x) : (l.take (i + 1)).filter g = (l.take i).filter g ++ (if g x = true then [x] else []) := by
  rw [List.take_add_one, h, List.filter_append]
  show _ ++ [x].filter g = _
  by_cases q : g x = true
  · rw [if_pos q, List.filter_cons, if_pos q]
    rfl
  · rw [if_neg q, List.filter_cons, if_neg q]
    rfl
section
variable {P : Program} {w : World} {K : PySem.W.Frag} {mg : Str → Option Value} {base : Heap}
def spHeaped : Sp := fun vs H Q _ => ∃ p a h cols, vs = [.ref p, .ref a] ∧ HeapAt H p h ∧ H a = some (.lst (hv cols)) ∧ h.length ≤ 100 ∧ (∀ c ∈ cols, c ≤ h.length) ∧
  ∀ r H', Ex H H' → HeapAt H' r ((hts h (cnt cols)).filter fun x => decide (0 < x)) → Q (.ref r) H'
theorem ok_heaped (T : Txt K mg) {f : Addr} {fd : FuncData} (D : DefAt K mg "heaped" sHeaped ["heap", "columns"] f fd) : FnOk P w K mg base CX0 1 f fd ["heap", "columns"] spHeaped := by
  refine D.F.ok scHeaped (fun vs H Q E h => ?_) (fun cdv A outer s H vs Q E hr h => ?_)
  · obtain ⟨p, a, h, cols, rfl, _⟩ := h
    rfl
  · obtain ⟨p, a, h, cols, rfl, hp, ha, hl, hc, q⟩ := h
    refine ⟨_, pss_cons (ps_set (i := 2) scHeaped.nd rfl (.inl rfl) (pe_op op_cat (pe_callTy call_list_of (by rfl) T.z_list (by decide +kernel) (pa_cons (pv 0) pa_nil)) (pe_lst (pa_cons pe_int pa_nil))))
      (pss_cons (ps_for PassesOwn.never rfl (pi_list (pv 1)) (pg_name (i := 3) scHeaped.nd rfl (.inl rfl)) (pss_one (ps_augS (pv 2) (pv 3) get_list pe_int ip_add set_list)))
      (pss_one (ps_ret (pe_callTy call_tuple_of (by rfl) T.z_tuple (by decide +kernel) (pa_cons (pe_lc (own := [("height", 4)]) (g := gName 4) rfl scHeaped.nd (pi_list (pv 2)) (blkOk_by (N := nHeaped) (sc := defScope sHeaped) (by decide +kernel)) (fun _ _ _ _ _ => pg_name (i := 4) scHeaped.nd rfl (Or.inl rfl))
        (fun _ _ _ _ _ => pts_one (pt_cmpR op_gt (pv 4) pe_int (nomark _))) (fun _ _ _ _ _ => pv 4)) pa_nil))))), ?_⟩
    refine ⟨_, rfl, p, hv h, rfl, .inr (SqT.of hp), fun l1 hl1 => ⟨by show 1 ≤ sizeLine; decide, fun l2 hl2 => ?_⟩⟩
    have e1 := Ex.new (o := .lst (hv h)) hl1
    have e2 := Ex.new (o := .lst [V.int 0]) hl2
    refine ⟨l1, l2, hv h, [V.int 0], rfl, rfl, e2 _ _ upd_same, upd_same, ?_, fun l3 hl3 => ?_⟩
    · rw [hv_len]
      exact sz_of (by show h.length + 1 ≤ _; omega)
    have e03 : Ex H (upd (upd (upd H l1 (.lst (hv h))) l2 (.lst [V.int 0])) l3 (.lst (hv h ++ [V.int 0]))) := (e1.trans e2).trans (Ex.new hl3)
    have n3 : H l3 = none := fresh_back (e1.trans e2) hl3
    have g3 : (upd (upd (upd H l1 (.lst (hv h))) l2 (.lst [V.int 0])) l3 (.lst (hv h ++ [V.int 0]))) l3 = some (.lst (hv (hts h (cnt [])))) := by
      rw [upd_same, show hts h (cnt []) = h ++ [0] from (hts_zero h).symm, hv_snoc]
      rfl
    generalize upd (upd (upd H l1 (.lst (hv h))) l2 (.lst [V.int 0])) l3 (.lst (hv h ++ [V.int 0])) = H3 at *
    refine ⟨.ref a, rfl, a, rfl, ⟨_, SqL.of (e03 _ _ ha)⟩, for_list (K := K) (a := a) (xs := hv cols) (fun i σ' H' => ∃ y, σ' = [some (.ref p), some (.ref a), some (.ref l3), y, none] ∧ H' l3 = some (.lst (hv (hts h (cnt (cols.take i))))) ∧ Ex H H') ⟨none, rfl, g3, e03⟩ (fun i σ' H' _ hW => ?_) (fun i x σ' H' hx hW => ?_) (fun σ' H' hW => ?_)⟩
    · obtain ⟨_, _, _, e⟩ := hW
      exact SqL.of (e _ _ ha)
    · obtain ⟨y, rfl, w1, w2⟩ := hW
      obtain ⟨c, hcx, rfl⟩ := hv_inv hx
      have hcl : c ≤ h.length := hc c (List.mem_of_getElem? hcx)
      have gt : (hts h (cnt (cols.take i)))[c]? = some (hAt h c + cnt (cols.take i) c) := hts_get hcl
      refine ⟨_, rfl, _, rfl, l3, _, c, _, rfl, rfl, SqL.of w1, hv_at gt, _, _, rfl, rfl, l3, _, _, c, rfl, rfl, w1, ?_, ?_⟩
      · refine ixN_nat ?_
        rw [hv_len, hts_len]
        omega
      · refine ⟨_, rfl, ?_, Ex.mut w2 n3⟩
        rw [upd_same]
        dsimp only
        rw [show ((hAt h c + cnt (cols.take i) c : Nat) : Int) + 1 = ((hAt h c + cnt (cols.take i) c + 1 : Nat) : Int) by omega, hv_set, hts_set hcl, List.take_add_one, hcx]
        rfl
    · obtain ⟨y, rfl, w1, w2⟩ := hW
      rw [hv_len, List.take_length] at w1
      refine ⟨.ref l3, rfl, l3, rfl, ⟨_, SqL.of w1⟩, fun Dl hD => ?_⟩
      refine lc_list (K := K) (a := l3) (xs := hv (hts h (cnt cols))) (fun i H2 => H2 Dl = some (.lst (hv (((hts h (cnt cols)).take i).filter fun x => decide (0 < x)))) ∧ Ex H' H2) ⟨upd_same, Ex.new hD⟩ (fun i H2 _ hp2 => SqL.of (hp2.2 _ _ w1)) (fun i x H2 hx hp2 => ?_) (fun H2 hp2 => ?_)
      · obtain ⟨v1, v2⟩ := hp2
        obtain ⟨c, hcx, rfl⟩ := hv_inv hx
        refine ⟨rfl, _, rfl, _, _, rfl, rfl, _, rfl, ite2 (fun cc => ?_) (fun cc => ?_)⟩
        · have c0 : 0 < c := by
            have := of_decide_eq_true cc
            omega
          refine ⟨_, rfl, _, v1, ?_, ?_, Ex.mut v2 hD⟩
          · rw [hv_len]
            have a1 := List.length_filter_le (fun x => decide (0 < x)) ((hts h (cnt cols)).take i)
            have a2 : ((hts h (cnt cols)).take i).length ≤ (hts h (cnt cols)).length := by
              rw [List.length_take]
              exact Nat.min_le_right _ _
            rw [hts_len] at a2
            exact small1000 (by omega)
          · rw [upd_same, take_filter_snoc _ hcx, if_pos (decide_eq_true c0), hv_snoc]
        · have c0 : ¬ 0 < c := fun z => cc (decide_eq_true (by omega))
          refine ⟨?_, v2⟩
          rw [take_filter_snoc _ hcx, if_neg (by rw [decide_eq_false c0]; decide), List.append_nil]
          exact v1
      · obtain ⟨v1, v2⟩ := hp2
        rw [hv_len, List.take_length] at v1
        exact ⟨Dl, _, rfl, .inl ⟨SqL.of v1, fun r hr => q r _ ((w2.trans v2).trans (Ex.new hr)) upd_same⟩⟩
/-- which columns a ring with a place adds to -/
def gl (h : List Nat) (n s q : Int) (c : Nat) : Bool := opn h c && decide ((dg h c * s - q) % n = 0)
theorem gl_opn {h : List Nat} {n s q : Int} (c : Nat) (z : gl h n s q c = true) : opn h c = true := by
  unfold gl at z
  exact (Bool.and_eq_true_iff.mp z).1
def spGrownBy : Sp := fun vs H Q _ => ∃ p h x n s q, vs = [.ref p, x, .int q] ∧ HeapAt H p h ∧ IsHeap h ∧ h.length ≤ 100 ∧ RingAt H 60 x n s ∧ ∀ r H', Ex H H' → HeapAt H' r (grow h (gl h n s q)) → Q (.ref r) H'
theorem ok_grown_by (T : Txt K mg) {f : Addr} {fd : FuncData} (D : DefAt K mg "grown_by" sGrownBy ["heap", "ring", "place"] f fd) : FnOk P w K mg base CX0 3 f fd ["heap", "ring", "place"] spGrownBy := by
  refine D.F.ok scGrownBy (fun vs H Q E h => ?_) (fun cdv A outer s₀ H vs Q E hr h => ?_)
  · obtain ⟨p, h, x, n, s, q, rfl, _⟩ := h
    rfl
  · obtain ⟨p, h, x, n, s, q, rfl, hp, IH, hl, hx, k⟩ := h
    obtain ⟨f1, fd1, D1⟩ := T.d_open_columns
    obtain ⟨f2, fd2, D2⟩ := T.d_heaped
    obtain ⟨f3, fd3, D3⟩ := T.d_lets
    obtain ⟨f4, fd4, D4⟩ := T.d_height_at
    have hr1 : Room 1 _ := hr.mono (by decide)
    refine ⟨_, pss_cons (ps_set (i := 3) scGrownBy.nd rfl (.inl rfl) (pe_call (ok_open_columns T D1) hr (by rfl) D1.g D1.F.kp D1.b .nil pass0 (pa_cons (pv 0) pa_nil)))
      (pss_one (ps_ret (pe_call (ok_heaped T D2) hr1 (by rfl) D2.g D2.F.kp D2.b .nil pass0 (pa_cons (pv 0) (pa_cons (pe_lc (own := [("column", 4)]) (g := gName 4) rfl scGrownBy.nd (pi_list (pv 3)) (blkOk_by (N := nGrownBy) (sc := defScope sGrownBy) (by decide +kernel)) (fun _ _ _ _ _ => pg_name (i := 4) scGrownBy.nd rfl (Or.inl rfl))
        (fun _ _ _ _ _ => pts_one (pt_val (pe_call (ok_lets T D3) hr1 (by rfl) D3.g D3.F.kp D3.b .nil pass0 (pa_cons (pv 1) (pa_cons (pv 2) (pa_cons (pe_op op_sub (pv 4) (pe_call (ok_height_at T D4) hr1 (by rfl) D4.g D4.F.kp D4.b .nil pass0 (pa_cons (pv 0) (pa_cons (pv 4) pa_nil)))) pa_nil))))))
        (fun _ _ _ _ _ => pv 4)) pa_nil))))), ?_⟩
    refine ⟨_, rfl, p, h, rfl, hp, hl, fun a H1 e1 ha0 ha => ?_⟩
    have hp1 : HeapAt H1 p h := e1 _ _ hp
    have hx1 := hx.ex e1
    let lt : Nat → Bool := fun c => decide ((dg h c * s - q) % n = 0)
    refine ⟨_, rfl, .ref a, rfl, a, rfl, ⟨_, SqL.of ha⟩, fun Dl hD => ?_⟩
    refine lc_list (K := K) (a := a) (xs := hv (oc h)) (fun i H2 => H2 Dl = some (.lst (hv (((oc h).take i).filter lt))) ∧ Ex H1 H2) ⟨upd_same, Ex.new hD⟩ (fun i H2 _ hp2 => SqL.of (hp2.2 _ _ ha)) (fun i x H2 hx2 hp2 => ?_) (fun H2 hp2 => ?_)
    · obtain ⟨v1, v2⟩ := hp2
      obtain ⟨c, hcx, rfl⟩ := hv_inv hx2
      have ol : (oc h).length ≤ 101 := by
        unfold oc
        have := List.length_filter_le (opn h) (List.range (h.length + 1))
        rw [List.length_range] at this
        omega
      refine ⟨rfl, _, rfl, _, rfl, _, rfl, _, rfl, _, rfl, p, h, c, rfl, v2 _ _ hp1, fun H3 e3 => ⟨_, _, rfl, rfl, _, n, s, q, dg h c, rfl, (hx1.ex v2).ex e3, fun H4 e4 => ⟨_, rfl, ite2 (fun cc => ?_) (fun cc => ?_)⟩⟩⟩
      · refine ⟨_, rfl, _, e4 _ _ (e3 _ _ v1), ?_, ?_, Ex.mut ((v2.trans e3).trans e4) hD⟩
        · rw [hv_len]
          have a1 := List.length_filter_le lt ((oc h).take i)
          have a2 : ((oc h).take i).length ≤ (oc h).length := by
            rw [List.length_take]
            exact Nat.min_le_right _ _
          exact small1000 (by omega)
        · rw [upd_same, take_filter_snoc lt hcx, if_pos (show lt c = true from cc), hv_snoc]
      · refine ⟨?_, (v2.trans e3).trans e4⟩
        rw [take_filter_snoc lt hcx, if_neg (show ¬ lt c = true from cc), List.append_nil]
        exact e4 _ _ (e3 _ _ v1)
    · obtain ⟨v1, v2⟩ := hp2
      rw [hv_len, List.take_length] at v1
      have ef : (oc h).filter lt = (List.range (h.length + 1)).filter (gl h n s q) := by
        unfold oc
        rw [List.filter_filter]
        refine List.filter_congr fun c _ => ?_
        unfold gl
        rw [Bool.and_comm]
      refine ⟨p, Dl, h, (oc h).filter lt, rfl, v2 _ _ hp1, v1, hl, fun c hc => opn_le (oc_mem.mp (List.mem_filter.mp hc).1), fun r H3 e3 hrr => ?_⟩
      rw [ef, hts_filter IH.pos (g := gl h n s q) (fun c hc => by rw [range_filter_cnt, decide_eq_true (show c < h.length + 1 by omega), Bool.true_and])] at hrr
      exact k r H3 ((e1.trans v2).trans e3) hrr
end
end K1

/-! own walks: comprehensions and loops over zip and enumerate of tuples, zip of lists of any lengths -/
namespace ZW
open PySem PySem.Spec PyProof.Rows L2
theorem lc_zipT {K : PySem.W.Frag} {a b : Addr} {xs ys : List V} {n : Nat} {g : TG} {tt : TT} {te : TE} {vs : List Nat} {σ : L2.St} {H1 : Hp} {D : Addr} {Qd : Hp → Prop} (hx : n ≤ xs.length) (hy : n ≤ ys.length) (hn : xs.length ≤ n ∨ ys.length ≤ n)
    (Pv : Nat → Hp → Prop) (h0 : Pv 0 (upd H1 D (.lst []))) (hq : ∀ i H, Pv i H → SqT K H a xs ∧ SqT K H b ys)
    (hs : ∀ i x y T H, i < n → xs[i]? = some x → ys[i]? = some y → Pv i H → H T = none → g (.ref T) (wipe σ vs) (upd H T (.tup [x, y])) fun σ2 H2 => wipe σ2 vs = wipe σ vs ∧ tt σ2 H2 fun c H3 =>
      if c = true then te σ2 H3 fun z H4 => ∃ acc, H4 D = some (.lst acc) ∧ acc.length < sizeLine ∧ Pv (i + 1) (upd H4 D (.lst (acc ++ [z]))) else Pv (i + 1) H3) (hd : ∀ H, Pv n H → Qd H) :
    ∃ W : Nat → Nat → Hp → Prop, (∃ m, W 0 m (upd H1 D (.lst []))) ∧ ∀ i m H, W i m H →
      ((RZ.ItzT K a b).stop i H ∧ Qd H) ∨ ((RZ.ItzT K a b).go i H ∧ ∃ Nx : Hp → Prop, (∀ H', Nx H' → ∃ m', m' < m ∧ W (i + 1) m' H') ∧ ∀ v H', (RZ.ItzT K a b).yld i H v H' → g v (wipe σ vs) H' fun σ2 H2 => wipe σ2 vs = wipe σ vs ∧ tt σ2 H2 fun c H3 =>
        if c = true then te σ2 H3 fun z H4 => ∃ acc, H4 D = some (.lst acc) ∧ acc.length < sizeLine ∧ Nx (upd H4 D (.lst (acc ++ [z]))) else Nx H3) := by
  refine ⟨fun i m H => m = n - i ∧ i ≤ n ∧ Pv i H, ⟨n, (Nat.sub_zero n).symm, Nat.zero_le _, h0⟩, ?_⟩
  rintro i m H ⟨rfl, hi, p⟩
  obtain ⟨qa, qb⟩ := hq i H p
  by_cases hlt : i < n
  · have e1 : xs[i]? = some (xs[i]'(by omega)) := List.getElem?_eq_getElem _
    have e2 : ys[i]? = some (ys[i]'(by omega)) := List.getElem?_eq_getElem _
    refine .inr ⟨⟨xs, ys, _, _, qa, qb, e1, e2⟩, Pv (i + 1), fun H' p' => ⟨n - (i + 1), by omega, rfl, hlt, p'⟩, fun v H' hy' => ?_⟩
    obtain ⟨T, x, y, rfl, nT, rfl, fx, fy⟩ := hy'
    exact hs i x y T H hlt (fx _ qa) (fy _ qb) p nT
  · have e : i = n := by omega
    subst e
    exact .inl ⟨⟨xs, ys, qa, qb, by omega⟩, hd H p⟩
theorem for_zipT {K : PySem.W.Frag} {a b : Addr} {xs ys : List V} {n : Nat} {g : TG} {tb : TS} {D : Ends} {σ : L2.St} {H : Hp} (hx : n ≤ xs.length) (hy : n ≤ ys.length) (hn : xs.length ≤ n ∨ ys.length ≤ n)
    (Pv : Nat → L2.St → Hp → Prop) (h0 : Pv 0 σ H) (hq : ∀ i σ H, Pv i σ H → SqT K H a xs ∧ SqT K H b ys)
    (hs : ∀ i x y T σ H, i < n → xs[i]? = some x → ys[i]? = some y → Pv i σ H → H T = none → g (.ref T) σ (upd H T (.tup [x, y])) fun σ2 H2 => tb { D with nx := Pv (i + 1), ct := Pv (i + 1), bk := D.nx } σ2 H2) (hd : ∀ σ H, Pv n σ H → D.nx σ H) :
    ∃ W : Nat → Nat → L2.St → Hp → Prop, (∃ m, W 0 m σ H) ∧ ∀ i m σ H, W i m σ H →
      ((RZ.ItzT K a b).stop i H ∧ D.nx σ H) ∨ ((RZ.ItzT K a b).go i H ∧ ∃ N : L2.St → Hp → Prop, (∀ σ' H', N σ' H' → ∃ m', m' < m ∧ W (i + 1) m' σ' H') ∧ ∀ v H', (RZ.ItzT K a b).yld i H v H' → g v σ H' fun σ2 H2 => tb { D with nx := N, ct := N, bk := D.nx } σ2 H2) := by
  refine ⟨fun i m σ H => m = n - i ∧ i ≤ n ∧ Pv i σ H, ⟨n, (Nat.sub_zero n).symm, Nat.zero_le _, h0⟩, ?_⟩
  rintro i m σ H ⟨rfl, hi, p⟩
  obtain ⟨qa, qb⟩ := hq i σ H p
  by_cases hlt : i < n
  · have e1 : xs[i]? = some (xs[i]'(by omega)) := List.getElem?_eq_getElem _
    have e2 : ys[i]? = some (ys[i]'(by omega)) := List.getElem?_eq_getElem _
    refine .inr ⟨⟨xs, ys, _, _, qa, qb, e1, e2⟩, Pv (i + 1), fun σ' H' p' => ⟨n - (i + 1), by omega, rfl, hlt, p'⟩, fun v H' hy' => ?_⟩
    obtain ⟨T, x, y, rfl, nT, rfl, fx, fy⟩ := hy'
    exact hs i x y T σ H hlt (fx _ qa) (fy _ qb) p nT
  · have e : i = n := by omega
    subst e
    exact .inl ⟨⟨xs, ys, qa, qb, by omega⟩, hd σ H p⟩
theorem for_enumT {K : PySem.W.Frag} {a : Addr} {xs : List V} {g : TG} {tb : TS} {D : Ends} {σ : L2.St} {H : Hp} (Pv : Nat → L2.St → Hp → Prop) (h0 : Pv 0 σ H) (hq : ∀ i σ H, Pv i σ H → SqT K H a xs)
    (hs : ∀ i x T σ H, xs[i]? = some x → Pv i σ H → H T = none → g (.ref T) σ (upd H T (.tup [.int (i : Nat), x])) fun σ2 H2 => tb { D with nx := Pv (i + 1), ct := Pv (i + 1), bk := D.nx } σ2 H2) (hd : ∀ σ H, Pv xs.length σ H → D.nx σ H) :
    ∃ W : Nat → Nat → L2.St → Hp → Prop, (∃ m, W 0 m σ H) ∧ ∀ i m σ H, W i m σ H →
      ((EnT.IteT K a).stop i H ∧ D.nx σ H) ∨ ((EnT.IteT K a).go i H ∧ ∃ N : L2.St → Hp → Prop, (∀ σ' H', N σ' H' → ∃ m', m' < m ∧ W (i + 1) m' σ' H') ∧ ∀ v H', (EnT.IteT K a).yld i H v H' → g v σ H' fun σ2 H2 => tb { D with nx := N, ct := N, bk := D.nx } σ2 H2) := by
  refine ⟨fun i m σ H => m = xs.length - i ∧ i ≤ xs.length ∧ Pv i σ H, ⟨xs.length, (Nat.sub_zero _).symm, Nat.zero_le _, h0⟩, ?_⟩
  rintro i m σ H ⟨rfl, hi, p⟩
  have qa := hq i σ H p
  by_cases hlt : i < xs.length
  · have e1 : xs[i]? = some (xs[i]'hlt) := List.getElem?_eq_getElem _
    refine .inr ⟨⟨xs, _, qa, e1⟩, Pv (i + 1), fun σ' H' p' => ⟨xs.length - (i + 1), by omega, rfl, hlt, p'⟩, fun v H' hy' => ?_⟩
    obtain ⟨T, x, rfl, nT, rfl, fx⟩ := hy'
    exact hs i x T σ H (fx _ qa) p nT
  · have e : i = xs.length := by omega
    subst e
    exact .inl ⟨⟨xs, qa, rfl⟩, hd σ H p⟩
theorem lc_enumT {K : PySem.W.Frag} {a : Addr} {xs : List V} {g : TG} {tt : TT} {te : TE} {vs : List Nat} {σ : L2.St} {H1 : Hp} {D : Addr} {Qd : Hp → Prop} (Pv : Nat → Hp → Prop) (h0 : Pv 0 (upd H1 D (.lst []))) (hq : ∀ i H, Pv i H → SqT K H a xs)
    (hs : ∀ i x T H, xs[i]? = some x → Pv i H → H T = none → g (.ref T) (wipe σ vs) (upd H T (.tup [.int (i : Nat), x])) fun σ2 H2 => wipe σ2 vs = wipe σ vs ∧ tt σ2 H2 fun c H3 =>
      if c = true then te σ2 H3 fun z H4 => ∃ acc, H4 D = some (.lst acc) ∧ acc.length < sizeLine ∧ Pv (i + 1) (upd H4 D (.lst (acc ++ [z]))) else Pv (i + 1) H3) (hd : ∀ H, Pv xs.length H → Qd H) :
    ∃ W : Nat → Nat → Hp → Prop, (∃ m, W 0 m (upd H1 D (.lst []))) ∧ ∀ i m H, W i m H →
      ((EnT.IteT K a).stop i H ∧ Qd H) ∨ ((EnT.IteT K a).go i H ∧ ∃ Nx : Hp → Prop, (∀ H', Nx H' → ∃ m', m' < m ∧ W (i + 1) m' H') ∧ ∀ v H', (EnT.IteT K a).yld i H v H' → g v (wipe σ vs) H' fun σ2 H2 => wipe σ2 vs = wipe σ vs ∧ tt σ2 H2 fun c H3 =>
        if c = true then te σ2 H3 fun z H4 => ∃ acc, H4 D = some (.lst acc) ∧ acc.length < sizeLine ∧ Nx (upd H4 D (.lst (acc ++ [z]))) else Nx H3) := by
  refine ⟨fun i m H => m = xs.length - i ∧ i ≤ xs.length ∧ Pv i H, ⟨xs.length, (Nat.sub_zero _).symm, Nat.zero_le _, h0⟩, ?_⟩
  rintro i m H ⟨rfl, hi, p⟩
  have qa := hq i H p
  by_cases hlt : i < xs.length
  · have e1 : xs[i]? = some (xs[i]'hlt) := List.getElem?_eq_getElem _
    refine .inr ⟨⟨xs, _, qa, e1⟩, Pv (i + 1), fun H' p' => ⟨xs.length - (i + 1), by omega, rfl, hlt, p'⟩, fun v H' hy' => ?_⟩
    obtain ⟨T, x, rfl, nT, rfl, fx⟩ := hy'
    exact hs i x T H (fx _ qa) p nT
  · have e : i = xs.length := by omega
    subst e
    exact .inl ⟨⟨xs, qa, rfl⟩, hd H p⟩
end ZW

namespace K1
open PySem PySem.Spec PyProof.Rows L2 Evl HM LX ZW
/-- ints of a tuple of places -/
def PlacesT (H : Hp) (a : Addr) (ps : List Int) : Prop := H a = some (.tup (ps.map V.int))
/-- the heaps behind each ring -/
def hseq (rs : List (Int × Int)) (ps : List Int) : Nat → List Nat
  | 0 => []
  | i + 1 => grow (hseq rs ps i) (gl (hseq rs ps i) (K1N.nAt rs i) (K1N.sAt rs i) (ps.getD i 0))
theorem hseq_ok (rs : List (Int × Int)) (ps : List Int) : ∀ i, IsHeap (hseq rs ps i) ∧ (hseq rs ps i).length ≤ i ∧ hAt (hseq rs ps i) 0 ≤ i
  | 0 => ⟨IsHeap.nil, Nat.le_refl _, Nat.le_refl _⟩
  | i + 1 => by
    obtain ⟨a, b, c⟩ := hseq_ok rs ps i
    refine ⟨grow_heap a gl_opn, ?_, ?_⟩
    · show (grow _ _).length ≤ _
      rw [grow_len]
      have := b2n_le (gl (hseq rs ps i) (K1N.nAt rs i) (K1N.sAt rs i) (ps.getD i 0) (hseq rs ps i).length)
      omega
    · show hAt (grow _ _) 0 ≤ _
      rw [hAt_grow gl_opn]
      have := b2n_le (gl (hseq rs ps i) (K1N.nAt rs i) (K1N.sAt rs i) (ps.getD i 0) 0)
      omega
theorem rings_nth4 {H : Hp} {most : Int} {xs : List V} {rs : List (Int × Int)} (h : RingsAt H most xs rs) {j : Nat} {x : V} (hx : xs[j]? = some x) : RingAt H most x (K1N.nAt rs j : Int) (K1N.sAt rs j) := by
  obtain ⟨r, hr, q⟩ := paired_get h hx
  have e : rs.getD j (0, 0) = r := by
    rw [List.getD_eq_getElem?_getD, hr]
    rfl
  obtain ⟨t, e1, e2, e3, e4, e5, e6⟩ := id q
  unfold K1N.nAt K1N.sAt
  rw [e, show ((r.1.toNat : Nat) : Int) = r.1 by omega]
  exact q
theorem rings_ex4 {H H' : Hp} {most : Int} {xs : List V} {rs : List (Int × Int)} (e : Ex H H') (h : RingsAt H most xs rs) : RingsAt H' most xs rs := paired_imp (fun _ _ z => RingAt.ex e z) h
theorem rings_chain4 {K : PySem.W.Frag} {H : Hp} {a : Addr} {xs : List V} {rs : List (Int × Int)} (h : RingsAt H 60 xs rs) (ha : H a = some (.tup xs)) (h1 : 1 ≤ xs.length) (h2 : xs.length ≤ 12) : ChainB K H (.ref a) true := by
  have p : ∀ {xs : List V} {rs : List (Int × Int)}, RingsAt H 60 xs rs → Paired (RingB K H) xs (List.replicate xs.length true) := by
    intro xs rs h
    induction h with
    | nil => exact .nil
    | cons r _ ih => exact .cons (RingAt.ring r (Int.le_refl _)) ih
  have q := ChainB.tup (K := K) ha ⟨h1, h2⟩ (p h)
  rw [show (List.replicate xs.length true).all id = true by simp] at q
  exact q
section
variable {P : Program} {w : World} {K : PySem.W.Frag} {mg : Str → Option Value} {base : Heap}
def spGrown : Sp := fun vs H Q _ => ∃ p h x n s q, vs = [.ref p, x, .int q] ∧ HeapAt H p h ∧ IsHeap h ∧ h.length < 60 ∧ hAt h 0 < 60 ∧ RingAt H 60 x n s ∧ 0 ≤ q ∧ q < n ∧ ∀ r H', Ex H H' → HeapAt H' r (grow h (gl h n s q)) → Q (.ref r) H'
def spCheckPlaces (K : PySem.W.Frag) : Sp := fun vs H Q _ => ∃ c a xs rs ps, vs = [.ref c, .ref a] ∧ H c = some (.tup xs) ∧ RingsAt H 60 xs rs ∧ xs.length ≤ 12 ∧ PlacesT H a ps ∧ ps.length = xs.length ∧ (∀ j : Nat, j < ps.length → 0 ≤ ps.getD j 0 ∧ ps.getD j 0 < (K1N.nAt rs j : Int)) ∧ ∀ H', Ex H H' → Q .non H'
def spLiesTold (K : PySem.W.Frag) : Sp := fun vs H Q E => spCheckPlaces K vs H (fun _ H' => Q (.bl true) H') E
theorem ok_lies_told (T : Txt K mg) {f : Addr} {fd : FuncData} (D : DefAt K mg "lies_told" sLiesTold ["chain", "value"] f fd) : FnOk P w K mg base CX0 3 f fd ["chain", "value"] (spLiesTold K) := by
  refine D.F.ok scLiesTold (fun vs H Q E h => ?_) (fun cdv A outer s₀ H vs Q E hr h => ?_)
  · obtain ⟨c, a, xs, rs, ps, rfl, _⟩ := h
    rfl
  · obtain ⟨c, a, xs, rs, ps, rfl, hc, hR, hl, ha, hlen, hb, q⟩ := h
    obtain ⟨f1, fd1, D1⟩ := T.d_is_between
    refine ⟨_, pss_cons (ps_if (PW.pt (pw_or (pt_not (pt_val (pe_callB call_isi (by rfl) T.z_isinstance (by decide +kernel) (pa_cons (pv 1) (pa_cons (pe_bltn (v := .ty "tuple") (by rfl) T.z_tuple (by decide +kernel) rfl) pa_nil)))))
        (pw_or1 (pt_cmpR op_ne (pe_callB call_len_seq (by rfl) T.z_len PySem.boot_len (pa_cons (pv 1) pa_nil)) (pe_callB call_len_seq (by rfl) T.z_len PySem.boot_len (pa_cons (pv 0) pa_nil)) (nomark _))))) (pss_one (ps_ret pe_bl)) pss_nil)
      (pss_one (ps_ret (pe_callB (cr_all rfl) (by rfl) T.z_all (by decide +kernel) (pa_cons (pe_lc (own := [("place", 2), ("ring", 3)]) (g := gTup K 2 (gCons (gName 2) (gCons (gName 3) gNil))) (tt := tYes) rfl scLiesTold.nd (RZ.pi_zipA (by rfl) T.z_zip (pa_cons (pv 1) (pa_cons (pv 0) pa_nil)))
          (blkOk_by (N := nLiesTold) (sc := defScope sLiesTold) (by decide +kernel)) (fun _ _ _ _ _ => pg_tup (by rfl) (pgs_cons (pg_name (i := 2) scLiesTold.nd rfl (.inl rfl)) (pgs_cons (pg_name (i := 3) scLiesTold.nd rfl (.inl rfl)) pgs_nil))) (fun _ _ _ _ _ => pts_nil)
          (fun _ _ _ _ _ => pe_call (ok_is_between T D1) hr (by rfl) D1.g D1.F.kp D1.b .nil pass0 (pa_cons (pv 2) (pa_cons pe_int (pa_cons (pe_op op_sub (pe_ix (show IxR _ (rIxT K) from ix_tup) (pv 3) pe_int (fun _ _ => rfl)) pe_int) pa_nil))))) pa_nil)))), ?_⟩
    refine ⟨_, rfl, .ref a, .ty "tuple", .type "tuple", .type "tuple", true, rfl, .ty _, .base (.tup ha), kit_ty (by decide +kernel), true, rfl, iteF ?_⟩
    refine ⟨_, rfl, a, _, rfl, .inr (SqT.of ha), _, rfl, c, _, rfl, .inr (SqT.of hc), rfl, _, rfl, ?_⟩
    rw [List.length_map, hlen, decide_eq_true (rfl : V.int (xs.length : Int) = V.int (xs.length : Int))]
    refine iteF ?_
    refine ⟨_, rfl, _, rfl, a, c, _, _, rfl, .inr ⟨SqT.of ha, SqT.of hc, fun Dl hD => ?_⟩⟩
    refine lc_zipT (K := K) (a := a) (b := c) (xs := ps.map V.int) (ys := xs) (n := xs.length) (by rw [List.length_map]; omega) (Nat.le_refl _) (.inr (Nat.le_refl _)) (fun i H' => H' Dl = some (.lst ((List.replicate i true).map V.bl)) ∧ Ex H H') ⟨upd_same, Ex.new hD⟩ (fun i H' hp => ⟨SqT.of (hp.2 _ _ ha), SqT.of (hp.2 _ _ hc)⟩) (fun i x y Tp H' hi hx hy hp nT => ?_) (fun H' hp => ?_)
    · have ex : ∃ p : Int, x = .int p ∧ ps.getD i 0 = p := by
        rw [List.getElem?_map] at hx
        cases e : ps[i]? with
        | none =>
          rw [e] at hx
          cases hx
        | some p =>
          rw [e] at hx
          refine ⟨p, (Option.some.inj hx).symm, ?_⟩
          rw [List.getD_eq_getElem?_getD, e]
          rfl
      obtain ⟨p, rfl, hpv⟩ := ex
      have eT := Ex.new (o := .tup [.int p, y]) nT
      have hy1 := rings_nth4 (rings_ex4 (hp.2.trans eT) hR) hy
      obtain ⟨t, rfl, ht, b1, b2, b3, b4⟩ := hy1
      obtain ⟨c0, c1⟩ := hb i (by omega)
      rw [hpv] at c0 c1
      refine ⟨Tp, _, rfl, SqT.of upd_same, rfl, .int p, [.ref t], rfl, .ref t, [], rfl, rfl, rfl, ?_⟩
      dsimp only [tYes]
      rw [if_pos rfl]
      refine ⟨_, rfl, _, rfl, t, _, 0, _, rfl, rfl, SqT.of ht, rfl, _, _, rfl, rfl, .int p, 0, _, true, rfl, .yes c0 (by omega) (by omega) (by omega), fun H3 e3 => ?_⟩
      refine ⟨_, e3 _ _ (eT _ _ hp.1), ?_, ?_, Ex.mut ((hp.2.trans eT).trans e3) hD⟩
      · rw [List.length_map, List.length_replicate]
        exact small1000 (by omega)
      · rw [upd_same, List.replicate_succ', List.map_append]
        rfl
    · refine ⟨Dl, List.replicate xs.length true, rfl, SqL.of hp.1, ?_⟩
      rw [show (List.replicate xs.length true).all id = true by simp]
      exact q _ hp.2
/-- the list of the heaps -/
def spHeapsOf : Sp := fun vs H Q _ => ∃ c a xs rs ps, vs = [.ref c, .ref a] ∧ H c = some (.tup xs) ∧ RingsAt H 60 xs rs ∧ xs.length ≤ 12 ∧ PlacesT H a ps ∧ ps.length = xs.length ∧
  ∀ (p : Addr) (as : List Addr) (H' : Hp), Ex H H' → H p = none → H' p = some (.lst (as.map V.ref)) → as.length = xs.length + 1 → (∀ i b, as[i]? = some b → HeapAt H' b (hseq rs ps i)) → Q (.ref p) H'
theorem ok_heaps_of (T : Txt K mg) {f : Addr} {fd : FuncData} (D : DefAt K mg "heaps_of" sHeapsOf ["chain", "places"] f fd) : FnOk P w K mg base CX0 4 f fd ["chain", "places"] spHeapsOf := by
  refine D.F.ok scHeapsOf (fun vs H Q E h => ?_) (fun cdv A outer s₀ H vs Q E hr h => ?_)
  · obtain ⟨c, a, xs, rs, ps, rfl, _⟩ := h
    rfl
  · obtain ⟨c, a, xs, rs, ps, rfl, hc, hR, hl, ha, hlen, q⟩ := h
    obtain ⟨f1, fd1, D1⟩ := T.d_grown_by
    refine ⟨_, pss_cons (ps_set (i := 2) scHeapsOf.nd rfl (.inl rfl) (pe_lst (pa_cons (pe_tup pa_nil) pa_nil)))
      (pss_cons (ps_for PassesOwn.never rfl (EnT.pi_enumT (by rfl) T.z_enumerate (pa_cons (pv 0) pa_nil)) (pg_tup rfl (pgs_cons (pg_name (i := 3) scHeapsOf.nd rfl (.inl rfl)) (pgs_cons (pg_name (i := 4) scHeapsOf.nd rfl (.inl rfl)) pgs_nil)))
        (pss_one (ps_expr (pe_bm PySem.F.plainAttrs_list PySem.F.slot_list_append PySem.F.type_list_append mt_append (pv 2) (pa_cons (pe_call (ok_grown_by T D1) hr (by rfl) D1.g D1.F.kp D1.b .nil pass0
          (pa_cons (pe_ix ix_list (pv 2) (pv 3) (fun _ _ => rfl)) (pa_cons (pv 4) (pa_cons (pe_ix ix_tup (pv 1) (pv 3) (fun _ _ => rfl)) pa_nil)))) pa_nil)))))
      (pss_one (ps_ret (pv 2)))), ?_⟩
    refine ⟨by show 0 ≤ sizeLine; decide, fun t0 ht0 => ⟨by show 1 ≤ sizeLine; decide, fun l hl0 => ?_⟩⟩
    have e1 := Ex.new (o := .tup []) ht0
    have e2 := e1.trans (Ex.new (o := .lst [V.ref t0]) hl0)
    have nl : H l = none := fresh_back e1 hl0
    have gl0 : (upd (upd H t0 (.tup [])) l (.lst [V.ref t0])) l = some (.lst ([t0].map V.ref)) := upd_same
    have gt0 : HeapAt (upd (upd H t0 (.tup [])) l (.lst [V.ref t0])) t0 (hseq rs ps 0) := by
      show (upd (upd H t0 (.tup [])) l (.lst [V.ref t0])) t0 = some (.tup (hv []))
      exact (Ex.new hl0) _ _ upd_same
    generalize upd (upd H t0 (.tup [])) l (.lst [V.ref t0]) = H2 at *
    refine ⟨_, rfl, c, xs, rfl, SqT.of (e2 _ _ hc), for_enumT (K := K) (a := c) (xs := xs) (fun i σ' H' => ∃ (y3 y4 : Option V) (as : List Addr), σ' = [some (.ref c), some (.ref a), some (.ref l), y3, y4] ∧ H' l = some (.lst (as.map V.ref)) ∧ as.length = i + 1 ∧ (∀ j b, as[j]? = some b → HeapAt H' b (hseq rs ps j)) ∧ Ex H H')
      ⟨none, none, [t0], rfl, gl0, rfl, fun j b hb => ?_, e2⟩ (fun i σ' H' hp => ?_) (fun i x Tp σ' H' hx hp nT => ?_) (fun σ' H' hp => ?_)⟩
    · cases j with
      | zero =>
        obtain rfl := Option.some.inj hb
        exact gt0
      | succ j => simp at hb
    · obtain ⟨_, _, _, _, _, _, _, e⟩ := hp
      exact SqT.of (e _ _ hc)
    · obtain ⟨y3, y4, as, rfl, w1, w2, w3, e⟩ := hp
      have eT := Ex.new (o := .tup [.int (i : Nat), x]) nT
      have hi : i < xs.length := (List.getElem?_eq_some_iff.mp hx).1
      have hx1 := rings_nth4 (rings_ex4 (e.trans eT) hR) hx
      have hasi : as[i]? = some (as[i]'(by omega)) := List.getElem?_eq_getElem _
      have hpi : (ps.map V.int)[i]? = some (.int (ps.getD i 0)) := by
        rw [List.getElem?_map, List.getD_eq_getElem?_getD, List.getElem?_eq_getElem (by omega)]
        rfl
      obtain ⟨ok1, ok2, ok3⟩ := hseq_ok rs ps i
      have hl1 := eT _ _ w1
      refine ⟨Tp, _, rfl, SqT.of upd_same, rfl, .int (i : Nat), [x], rfl, x, [], rfl, rfl, ?_⟩
      refine ⟨_, rfl, .inl ⟨rfl, _, SqL.of hl1⟩, _, rfl, _, rfl, l, _, _, .ref (as[i]'(by omega)), rfl, rfl, SqL.of hl1, atI_nat (by rw [List.getElem?_map, hasi]; rfl), _, rfl, _, rfl, _, rfl, a, _, _, _, rfl, rfl, SqT.of ((e.trans eT) _ _ ha), atI_nat hpi,
        as[i]'(by omega), hseq rs ps i, x, _, _, _, rfl, eT _ _ (w3 i _ hasi), ok1, by omega, hx1, fun r H4 e4 hr4 => ?_⟩
      have hl4 := e4 _ _ hl1
      have nlr : ∀ {b : Addr} {h : List Nat}, HeapAt H4 b h → b ≠ l := fun {b h} z => ne_of z hl4 (by intro y; cases y)
      refine ⟨l, _, _, rfl, rfl, hl4, ?_, some (.int (i : Nat)), some x, as ++ [r], rfl, ?_, ?_, ?_, Ex.mut ((e.trans eT).trans e4) nl⟩
      · rw [List.length_map]
        exact small1000 (by omega)
      · rw [upd_same, List.map_append]
        rfl
      · rw [List.length_append, w2]
        rfl
      · intro j b hb
        by_cases hj : j < as.length
        · rw [List.getElem?_append_left hj] at hb
          have z := e4 _ _ (eT _ _ (w3 j b hb))
          show (upd H4 l _) b = _
          rw [upd_ne (nlr z)]
          exact z
        · have ej : j = i + 1 := by
            have := (List.getElem?_eq_some_iff.mp hb).1
            rw [List.length_append] at this
            have h1 : ([r] : List Addr).length = 1 := rfl
            omega
          subst ej
          rw [List.getElem?_append_right (by omega), show i + 1 - as.length = 0 by omega] at hb
          obtain rfl := Option.some.inj hb
          show (upd H4 l _) _ = _
          rw [upd_ne (nlr hr4)]
          exact hr4
    · obtain ⟨y3, y4, as, rfl, w1, w2, w3, e⟩ := hp
      exact ⟨_, rfl, q l as H' e nl w1 w2 w3⟩
end
end K1

namespace K1
open PySem PySem.Spec PyProof.Rows L2 Evl HM LX ZW
theorem at_end {as : List Addr} {g : Nat} (h : as.length = g + 1) : atI (as.map V.ref) (-1) = some (V.ref (as[g]'(by omega))) := by
  have e : as = as.take g ++ [as[g]'(by omega)] := by
    have := List.take_append_getElem (l := as) (i := g) (by omega)
    rw [this, List.take_of_length_le (by omega)]
  have e2 : as.map V.ref = (as.take g).map V.ref ++ [V.ref (as[g]'(by omega))] := by
    conv => lhs; rw [e]
    rw [List.map_append]
    rfl
  rw [e2]
  exact atI_last _ _
section
variable {P : Program} {w : World} {K : PySem.W.Frag} {mg : Str → Option Value} {base : Heap}
def spHeapOf : Sp := fun vs H Q _ => ∃ c a xs rs ps, vs = [.ref c, .ref a] ∧ H c = some (.tup xs) ∧ RingsAt H 60 xs rs ∧ (1 ≤ xs.length ∧ xs.length ≤ 12) ∧ PlacesT H a ps ∧ ps.length = xs.length ∧ (∀ j : Nat, j < ps.length → 0 ≤ ps.getD j 0 ∧ ps.getD j 0 < (K1N.nAt rs j : Int)) ∧
  ∀ (b : Addr) H', Ex H H' → HeapAt H' b (hseq rs ps xs.length) → Q (.ref b) H'
def spHeapsAlong : Sp := fun vs H Q _ => ∃ c a xs rs ps, vs = [.ref c, .ref a] ∧ H c = some (.tup xs) ∧ RingsAt H 60 xs rs ∧ (1 ≤ xs.length ∧ xs.length ≤ 12) ∧ PlacesT H a ps ∧ ps.length = xs.length ∧ (∀ j : Nat, j < ps.length → 0 ≤ ps.getD j 0 ∧ ps.getD j 0 < (K1N.nAt rs j : Int)) ∧
  ∀ (r : Addr) (as : List Addr) H', Ex H H' → H' r = some (.tup (as.map V.ref)) → as.length = xs.length + 1 → (∀ i b, as[i]? = some b → HeapAt H' b (hseq rs ps i)) → Q (.ref r) H'
/-- how many squares the first columns have -/
def sumT (h : List Nat) : Nat → Nat
  | 0 => 0
  | i + 1 => sumT h i + hAt h i
def spSquares : Sp := fun vs H Q _ => ∃ p h, vs = [.ref p] ∧ HeapAt H p h ∧ Good h ∧ ∀ r ys H', Ex H H' → H' r = some (.tup ys) → ys.length = sumT h h.length → Q (.ref r) H'
end
end K1

namespace K1
open PySem PySem.Spec PyProof.Rows L2 Evl HM LX ZW
/-! ### data: ints in lists and tuples -/
theorem dp_ints {K : PySem.W.Frag} {H : Hp} : ∀ ns : List Int, DpAll K H (ns.map V.int) (ns.map PyData.int)
  | [] => .nil
  | n :: r => .cons (.int n) (dp_ints r)
theorem can_ints : ∀ l : List Int, PyData.canLayAll0 (l.map PyData.int) = true
  | [] => rfl
  | b :: r => by simp [PyData.canLayAll0, PyData.canLay0, can_ints r]
theorem shaped_intsL (ns : List Int) : SeqAt.shaped (.list (ns.map PyData.int)) = true := by
  induction ns with
  | nil => rfl
  | cons b r ih => exact ih
theorem depth_ints : ∀ l : List Int, PyData.depthAll (l.map PyData.int) ≤ 60
  | [] => by decide
  | b :: r => by
    have := depth_ints r
    simp only [List.map_cons, PyData.depthAll, PyData.depth]
    omega
theorem shaped_intsT (ns : List Int) : SeqAt.shaped (.tuple (ns.map PyData.int)) = true := by
  unfold SeqAt.shaped
  have h1 : (PyData.tuple (ns.map PyData.int)).canLay0 = true := by simp [PyData.canLay0, can_ints ns]
  have h2 : (PyData.tuple (ns.map PyData.int)).depth ≤ 64 := by
    have := depth_ints ns
    simp only [PyData.depth]
    omega
  rw [h1, decide_eq_true h2]
  rfl
theorem eqv_intsL (ns : List Int) : PyData.eqv (.list (ns.map PyData.int)) (.list (ns.map PyData.int)) = true := SeqAt.eqv_refl _ (by simp [PyData.canLay0, can_ints ns])
theorem eqv_nil : PyData.eqv (.list []) (.list []) = true := eqv_intsL []
theorem eqv_consnil (d : PyData) (ds : List PyData) : PyData.eqv (.list (d :: ds)) (.list []) = false := by simp [PyData.eqv, PyData.eqvAll]
theorem erase_perm {ls : List Int} {i : Nat} {y : Int} (h : ls[i]? = some y) : ls.Perm (y :: ls.eraseIdx i) := by
  induction ls generalizing i with
  | nil => simp at h
  | cons x r ih =>
    cases i with
    | zero =>
      obtain rfl := Option.some.inj h
      exact .refl _
    | succ i =>
      have := ih (i := i) h
      exact (List.Perm.cons x this).trans (List.Perm.swap y x _)
theorem map_erase {α β : Type} (g : α → β) : ∀ (ls : List α) (i : Nat), (ls.eraseIdx i).map g = (ls.map g).eraseIdx i
  | [], _ => rfl
  | _ :: _, 0 => rfl
  | x :: r, i + 1 => congrArg (g x :: ·) (map_erase g r i)
section
variable {P : Program} {w : World} {K : PySem.W.Frag} {mg : Str → Option Value} {base : Heap}
def spMixed : Sp := fun vs H Q _ => ∃ (d a : Addr) (ns : List Int), vs = [.ref d, .ref a] ∧ Dice H d ∧ H a = some (.lst (ns.map V.int)) ∧ ns.length ≤ 1000 ∧
  ∀ (p : Addr) (ms : List Int) H', ms.Perm ns → H' p = some (.lst (ms.map V.int)) → Dice H' d → Keep d H H' → Q (.ref p) H'
end
end K1

namespace K1
open PySem PySem.Spec PyProof.Rows L2 Evl HM LX ZW
theorem getD_snoc_lt {l : List Int} {x : Int} {j : Nat} (h : j < l.length) : (l ++ [x]).getD j 0 = l.getD j 0 := by
  rw [List.getD_eq_getElem?_getD, List.getD_eq_getElem?_getD, List.getElem?_append_left h]
theorem getD_snoc_eq {l : List Int} {x : Int} : (l ++ [x]).getD l.length 0 = x := by
  rw [List.getD_eq_getElem?_getD, List.getElem?_append_right (Nat.le_refl _), Nat.sub_self]
  rfl
def PlOk (rs : List (Int × Int)) (ps : List Int) : Prop := ∀ j : Nat, j < ps.length → 0 ≤ ps.getD j 0 ∧ ps.getD j 0 < (K1N.nAt rs j : Int)
theorem PlOk.snoc {rs : List (Int × Int)} {ps : List Int} {x : Int} (h : PlOk rs ps) (h0 : 0 ≤ x) (h1 : x < (K1N.nAt rs ps.length : Int)) : PlOk rs (ps ++ [x]) := by
  intro j hj
  by_cases c : j < ps.length
  · rw [getD_snoc_lt c]
    exact h j c
  · have e : j = ps.length := by
      rw [List.length_append] at hj
      have : ([x] : List Int).length = 1 := rfl
      omega
    subst e
    rw [getD_snoc_eq]
    exact ⟨h0, h1⟩
section
variable {P : Program} {w : World} {K : PySem.W.Frag} {mg : Str → Option Value} {base : Heap}
def spTuple : Sp := fun vs H Q _ => ∃ d c xs rs, vs = [.ref d, .ref c] ∧ Dice H d ∧ H c = some (.tup xs) ∧ RingsAt H 60 xs rs ∧ xs.length ≤ 12 ∧
  ∀ (a : Addr) (ps : List Int) H', PlacesT H' a ps → ps.length = xs.length → PlOk rs ps → Dice H' d → Keep d H H' → Q (.ref a) H'
theorem ok_tuple (T : Txt K mg) {f : Addr} {fd : FuncData} (D : DefAt K mg "_law_tuple" sLTuple ["_law_dice_here", "_law_chain"] f fd) : FnOk P w K mg base CX0 2 f fd ["_law_dice_here", "_law_chain"] spTuple := by
  refine D.F.ok scLTuple (fun vs H Q E h => ?_) (fun cdv A outer s₀ H vs Q E hr h => ?_)
  · obtain ⟨d, c, xs, rs, rfl, _⟩ := h
    rfl
  · obtain ⟨d, c, xs, rs, rfl, hd, hc, hR, hl, q⟩ := h
    obtain ⟨f1, fd1, D1⟩ := T.d_l_roll
    refine ⟨_, pss_cons (ps_set (i := 2) scLTuple.nd rfl (.inl rfl) (pe_lst pa_nil))
      (pss_cons (ps_for PassesOwn.never rfl (pi_tup (pv 1)) (pg_tup (by rfl) (pgs_cons (pg_name (i := 3) scLTuple.nd rfl (.inl rfl)) (pgs_cons (pg_name (i := 4) scLTuple.nd rfl (.inl rfl)) pgs_nil)))
        (pss_one (ps_expr (pe_bm PySem.F.plainAttrs_list PySem.F.slot_list_append PySem.F.type_list_append mt_append (pv 2) (pa_cons
          (pe_ifExp (pt_cmpR op_eq (pe_call (ok_roll T D1) hr (by rfl) D1.g D1.F.kp D1.b .nil pass0 (pa_cons (pv 0) (pa_cons pe_int pa_nil))) pe_int (nomark _))
            (pe_call (ok_roll T D1) hr (by rfl) D1.g D1.F.kp D1.b .nil pass0 (pa_cons (pv 0) (pa_cons (pv 3) pa_nil)))
            (pe_op op_mod (pe_op op_mul (pe_op op_sub (pe_call (ok_roll T D1) hr (by rfl) D1.g D1.F.kp D1.b .nil pass0 (pa_cons (pv 0) (pa_cons pe_int pa_nil))) pe_int) (pv 4)) (pv 3))) pa_nil)))))
      (pss_one (ps_ret (pe_callTy call_tuple_of (by rfl) T.z_tuple (by decide +kernel) (pa_cons (pv 2) pa_nil))))), ?_⟩
    refine ⟨by show 0 ≤ sizeLine; decide, fun l hl0 => ?_⟩
    have ndl : d ≠ l := hd.ne_new hl0
    refine ⟨_, rfl, c, rfl, ⟨_, SqT.of (Ex.new hl0 _ _ hc)⟩, for_tup (K := K) (a := c) (xs := xs) (fun i σ' H' => ∃ (y3 y4 : Option V) (ps : List Int), σ' = [some (.ref d), some (.ref c), some (.ref l), y3, y4] ∧ H' l = some (.lst (ps.map V.int)) ∧ ps.length = i ∧ PlOk rs ps ∧ Dice H' d ∧ Keep d H H')
      ⟨none, none, [], rfl, upd_same, rfl, fun j hj => absurd hj (Nat.not_lt_zero j), hd.upd ndl, Keep.new hl0⟩ (fun i σ' H' _ hW => ?_) (fun i x σ' H' hx hW => ?_) (fun σ' H' hW => ?_)⟩
    · obtain ⟨_, _, _, _, _, _, _, _, k⟩ := hW
      exact SqT.of (k.tup hd hc)
    · obtain ⟨y3, y4, ps, rfl, w1, w2, w3, w4, w5⟩ := hW
      have hi : i < xs.length := (List.getElem?_eq_some_iff.mp hx).1
      have hx0 := rings_nth4 hR hx
      have hx1 := hx0.keep w5 hd
      obtain ⟨t, rfl, ht, b1, b2, b3, b4⟩ := hx1
      have fin : ∀ (z : Int) H3, 0 ≤ z → z < (K1N.nAt rs i : Int) → Dice H3 d → Keep d H' H3 → ∃ l' xs' y, V.ref l = .ref l' ∧ [V.int z] = [y] ∧ H3 l' = some (.lst xs') ∧ xs'.length < sizeLine ∧
          (∃ (y3 y4 : Option V) (ps : List Int), [some (V.ref d), some (V.ref c), some (V.ref l), some (V.int (K1N.nAt rs i : Int)), some (V.int (K1N.sAt rs i))] = [some (.ref d), some (.ref c), some (.ref l), y3, y4] ∧ (upd H3 l' (.lst (xs' ++ [y]))) l = some (.lst (ps.map V.int)) ∧ ps.length = i + 1 ∧ PlOk rs ps ∧ Dice (upd H3 l' (.lst (xs' ++ [y]))) d ∧ Keep d H (upd H3 l' (.lst (xs' ++ [y])))) := fun z H3 z0 z1 hd3 k3 => by
        refine ⟨l, ps.map V.int, _, rfl, rfl, k3 _ _ ndl.symm w1, ?_, _, _, ps ++ [z], rfl, ?_, ?_, ?_, hd3.upd ndl, (w5.trans k3).mut hl0⟩
        · rw [List.length_map]
          exact small1000 (by omega)
        · rw [upd_same, List.map_append]
          rfl
        · rw [List.length_append, w2]
          rfl
        · subst w2
          exact w3.snoc z0 z1
      refine ⟨t, _, rfl, SqT.of ht, rfl, .int _, [.int _], rfl, .int _, [], rfl, rfl, ?_⟩
      refine ⟨_, rfl, .inl ⟨rfl, _, SqL.of w1⟩, _, rfl, d, 4, rfl, w4, by decide, by decide, fun r1 H1 r10 r11 hd1 k1 => ?_⟩
      refine ⟨rfl, _, rfl, ite2 (fun cc => ?_) (fun cc => ?_)⟩
      · refine ⟨_, rfl, _, rfl, d, _, rfl, hd1, by omega, by omega, fun r2 H2 r20 r21 hd2 k2 => ?_⟩
        exact fin r2 H2 r20 r21 hd2 (k1.trans k2)
      · refine ⟨_, rfl, d, 5, rfl, hd1, by decide, by decide, fun r2 H2 r20 r21 hd2 k2 => ?_⟩
        refine ⟨_, _, rfl, rfl, _, rfl, _, _, rfl, rfl, .inr (by constructor <;> omega), _, rfl, _, _, rfl, rfl, by omega, ?_⟩
        exact fin _ H2 (Int.emod_nonneg _ (by omega)) (Int.emod_lt_of_pos _ (by omega)) hd2 (k1.trans k2)
    · obtain ⟨y3, y4, ps, rfl, w1, w2, w3, w4, w5⟩ := hW
      refine ⟨_, rfl, l, _, rfl, .inl ⟨SqL.of w1, fun p hp => ?_⟩⟩
      exact q p ps _ upd_same w2 w3 (w4.upd (w4.ne_new hp)) (w5.trans (Keep.new hp))
end
end K1

/-! plain mathematics of heaps, continued: growing column by column, tries, squares added in any order -/
namespace HM
theorem range_hAt (h : List Nat) : (List.range h.length).map (hAt h) = h := by
  refine List.ext_getElem? fun c => ?_
  by_cases q : c < h.length
  · rw [List.getElem?_map, List.getElem?_range q, hAt_lt q]
    rfl
  · rw [List.getElem?_eq_none (by rw [List.length_map, List.length_range]; omega), List.getElem?_eq_none (by omega)]
/-- grown at the first columns -/
def fr (h : List Nat) (g : Nat → Bool) (i : Nat) : List Nat := (List.range h.length).map (fun c => hAt h c + b2n (decide (c < i) && g c)) ++ (if (decide (h.length < i) && g h.length) = true then [1] else [])
theorem fr_zero (h : List Nat) (g : Nat → Bool) : fr h g 0 = h := by
  unfold fr
  rw [decide_eq_false (Nat.not_lt_zero _), Bool.false_and, if_neg (by decide), List.append_nil]
  conv => rhs; rw [← range_hAt h]
  refine List.map_congr_left fun c _ => ?_
  rw [decide_eq_false (Nat.not_lt_zero _), Bool.false_and]
  rfl
theorem fr_end (h : List Nat) (g : Nat → Bool) : fr h g (h.length + 1) = grow h g := by
  unfold fr grow
  rw [decide_eq_true (Nat.lt_succ_self _), Bool.true_and]
  congr 1
  refine List.map_congr_left fun c hc => ?_
  rw [decide_eq_true (show c < h.length + 1 from Nat.lt_succ_of_lt (List.mem_range.mp hc)), Bool.true_and]
theorem fr_skip {h : List Nat} {g : Nat → Bool} {i : Nat} (q : g i = false) : fr h g (i + 1) = fr h g i := by
  have e : ∀ c, (decide (c < i + 1) && g c) = (decide (c < i) && g c) := fun c => by
    by_cases z : c = i
    · subst z
      rw [q, Bool.and_false, Bool.and_false]
    · have : decide (c < i + 1) = decide (c < i) := decide_eq_decide.mpr (by omega)
      rw [this]
  unfold fr
  rw [e]
  congr 1
  exact List.map_congr_left fun c _ => by rw [e]
theorem fr_low {h : List Nat} {g : Nat → Bool} {i : Nat} (hi : i ≤ h.length) : fr h g i = (List.range h.length).map (fun c => hAt h c + b2n (decide (c < i) && g c)) := by
  unfold fr
  rw [decide_eq_false (show ¬ h.length < i by omega), Bool.false_and, if_neg (by decide), List.append_nil]
theorem fr_low_len {h : List Nat} {g : Nat → Bool} {i : Nat} (hi : i ≤ h.length) : (fr h g i).length = h.length := by
  rw [fr_low hi, List.length_map, List.length_range]
theorem fr_set {h : List Nat} {g : Nat → Bool} {i : Nat} (hi : i < h.length) (q : g i = true) : (fr h g i).set i (hAt h i + 1) = fr h g (i + 1) := by
  rw [fr_low (show i ≤ h.length by omega), fr_low (show i + 1 ≤ h.length by omega)]
  refine List.ext_getElem? fun c => ?_
  rw [List.getElem?_set]
  by_cases e : i = c
  · subst e
    rw [if_pos rfl, if_pos (by rw [List.length_map, List.length_range]; exact hi), List.getElem?_map, List.getElem?_range hi]
    show some _ = some (hAt h i + b2n (decide (i < i + 1) && g i))
    rw [decide_eq_true (Nat.lt_succ_self i), q]
    rfl
  · rw [if_neg e, List.getElem?_map, List.getElem?_map]
    have : decide (c < i + 1) = decide (c < i) := decide_eq_decide.mpr (by omega)
    by_cases l : c < h.length
    · rw [List.getElem?_range l]
      show some (hAt h c + b2n (decide (c < i) && g c)) = some (hAt h c + b2n (decide (c < i + 1) && g c))
      rw [this]
    · rw [List.getElem?_eq_none (by rw [List.length_range]; omega)]
      rfl
theorem fr_app {h : List Nat} {g : Nat → Bool} (q : g h.length = true) : fr h g h.length ++ [1] = fr h g (h.length + 1) := by
  rw [fr_end, fr_low (Nat.le_refl _)]
  unfold grow
  rw [if_pos q]
  congr 1
  refine List.map_congr_left fun c hc => ?_
  rw [decide_eq_true (List.mem_range.mp hc), Bool.true_and]
/-! ### tries -/
def Falls (ns : List Int) : Prop := (∀ j, j + 1 < ns.length → ns.getD (j + 1) 0 ≤ ns.getD j 0) ∧ ∀ y ∈ ns, (0 : Int) ≤ y
/-- heights with 0 behind them, one changed -/
def chg (h : List Nat) (st : Int) (c : Nat) : List Int := (List.range (h.length + 1)).map fun x => (hAt h x : Int) + (if x = c then st else 0)
/-- columns at which a try leaves a heap -/
def tr (h : List Nat) (st : Int) (c : Nat) : Bool := if st = 1 then opn h c else decide (hAt h (c + 1) < hAt h c)
def tv (h : List Nat) (st : Int) (c : Nat) : Int := if st = 1 then dg h c else dg h c + 1
def trs (h : List Nat) (st : Int) (i : Nat) : List Int := ((List.range i).filter (tr h st)).map (tv h st)
theorem sorted_eq : ∀ {a b : List Int}, a.Perm b → a.Pairwise (· ≤ ·) → b.Pairwise (· ≤ ·) → a = b
  | [], b, p, _, _ => (List.nil_perm.mp p).symm
  | x :: a, [], p, _, _ => absurd p.length_eq (by simp)
  | x :: a, y :: b, p, ha, hb => by
    have e : x = y := by
      have h1 : y ∈ x :: a := p.mem_iff.mpr List.mem_cons_self
      have h2 : x ∈ y :: b := p.mem_iff.mp List.mem_cons_self
      rcases List.mem_cons.mp h1 with z | z
      · exact z.symm
      · rcases List.mem_cons.mp h2 with u | u
        · exact u
        · have q1 := (List.pairwise_cons.mp ha).1 y z
          have q2 := (List.pairwise_cons.mp hb).1 x u
          omega
    subst e
    rw [sorted_eq ((List.perm_cons x).mp p) (List.pairwise_cons.mp ha).2 (List.pairwise_cons.mp hb).2]
/-! ### squares added in any order -/
def adm (h : List Nat) (ms : List Int) (i : Nat) (c : Nat) : Bool := opn h c && decide (dg h c ∈ ms.take i)
end HM

namespace K1
open PySem PySem.Spec PyProof.Rows L2 Evl HM LX ZW
section
variable {P : Program} {w : World} {K : PySem.W.Frag} {mg : Str → Option Value} {base : Heap}
def spLGrown : Sp := fun vs H Q _ => ∃ p h x n s q, vs = [.ref p, x, .int q] ∧ HeapAt H p h ∧ h.length ≤ 100 ∧ RingAt H 60 x n s ∧ ∀ r H', Ex H H' → HeapAt H' r (grow h (gl h n s q)) → Q (.ref r) H'
theorem ok_lgrown (T : Txt K mg) {f : Addr} {fd : FuncData} (D : DefAt K mg "_law_grown" sLGrown ["_law_heap_here", "_law_ring", "_law_x"] f fd) : FnOk P w K mg base CX0 1 f fd ["_law_heap_here", "_law_ring", "_law_x"] spLGrown := by
  refine D.F.ok scLGrown (fun vs H Q E h => ?_) (fun cdv A outer s₀ H vs Q E hr h => ?_)
  · obtain ⟨p, h, x, n, s, q, rfl, _⟩ := h
    rfl
  · obtain ⟨p, h, x, n, s, q, rfl, hp, hl, hx, k⟩ := h
    refine ⟨_, pss_cons (ps_asg (pv 1) (pg_tup (by rfl) (pgs_cons (pg_name (i := 3) scLGrown.nd rfl (.inl rfl)) (pgs_cons (pg_name (i := 4) scLGrown.nd rfl (.inl rfl)) pgs_nil))))
      (pss_cons (ps_set (i := 5) scLGrown.nd rfl (.inl rfl) (pe_callTy call_list_of (by rfl) T.z_list (by decide +kernel) (pa_cons (pv 0) pa_nil)))
      (pss_cons (ps_for PassesOwn.never rfl (pi_range1 (by rfl) T.z_range (pa_cons (pe_op op_add (pe_callB call_len_seq (by rfl) T.z_len PySem.boot_len (pa_cons (pv 0) pa_nil)) pe_int) pa_nil)) (pg_name (i := 6) scLGrown.nd rfl (.inl rfl))
        (pss_cut (ps_set (i := 7) scLGrown.nd rfl (.inl rfl) (pe_ifExp (pt_cmpR op_lt (pv 6) (pe_callB call_len_seq (by rfl) T.z_len PySem.boot_len (pa_cons (pv 0) pa_nil)) (nomark _)) (pe_ix ix_tup (pv 0) (pv 6) (fun _ _ => rfl)) pe_int))
        (pss_cut (ps_set (i := 8) scLGrown.nd rfl (.inl rfl) (pe_or (pe_cmpR op_eq (pv 6) pe_int (nomark _)) (pe_one (pe_cmpR op_gt (pe_ix ix_tup (pv 0) (pe_op op_sub (pv 6) pe_int) (fun _ _ => rfl)) (pv 7) (nomark _)))))
        (pss_one (ps_if (PW.pt (pw_and (pt_val (pv 8)) (pw_and1 (pt_cmpR op_eq (pe_op op_mod (pe_op op_sub (pe_op op_mul (pe_op op_sub (pv 6) (pv 7)) (pv 4)) (pv 2)) (pv 3)) pe_int (nomark _)))))
          (pss_one (ps_if (pt_cmpR op_lt (pv 6) (pe_callB call_len_seq (by rfl) T.z_len PySem.boot_len (pa_cons (pv 0) pa_nil)) (nomark _))
            (pss_one (ps_asg (pe_op op_add (pv 7) pe_int) (pg_sub (pv 5) (pv 6) set_list)))
            (pss_one (ps_expr (pe_bm PySem.F.plainAttrs_list PySem.F.slot_list_append PySem.F.type_list_append mt_append (pv 5) (pa_cons pe_int pa_nil)))))) pss_nil)))))
      (pss_one (ps_ret (pe_callTy call_tuple_of (by rfl) T.z_tuple (by decide +kernel) (pa_cons (pv 5) pa_nil)))))), ?_⟩
    obtain ⟨t, rfl, ht, b1, b2, b3, b4⟩ := id hx
    refine ⟨_, rfl, t, [.int n, .int s], rfl, SqT.of ht, rfl, .int n, [.int s], rfl, .int s, [], rfl, rfl, ?_⟩
    refine ⟨_, rfl, p, hv h, rfl, .inr (SqT.of hp), fun l hl0 => ?_⟩
    have e1 := Ex.new (o := .lst (hv h)) hl0
    have g0 : (upd H l (.lst (hv h))) l = some (.lst (hv (fr h (gl h n s q) 0))) := by
      rw [upd_same, fr_zero]
    generalize upd H l (.lst (hv h)) = H1 at *
    refine ⟨_, rfl, p, _, rfl, .inr (SqT.of (e1 _ _ hp)), _, _, rfl, rfl, _, rfl, by rw [hv_len]; omega, by rw [hv_len]; omega, ?_⟩
    refine for_range (lo := 0) (n := (((hv h).length : Int) + 1).toNat) (fun i σ' H' => ∃ (y6 y7 y8 : Option V), σ' = [some (.ref p), some (.ref t), some (.int q), some (.int n), some (.int s), some (.ref l), y6, y7, y8] ∧ H' l = some (.lst (hv (fr h (gl h n s q) i))) ∧ Ex H H')
      ⟨none, none, none, rfl, g0, e1⟩ (fun i σ' H' hi hW => ?_) (fun σ' H' hW => ?_)
    · obtain ⟨y6, y7, y8, rfl, w1, w2⟩ := hW
      rw [hv_len] at hi
      have hi' : i ≤ h.length := by omega
      have hp2 := w2 _ _ hp
      have e0 : (0 : Int) + (i : Int) = (i : Int) := Int.zero_add _
      refine ⟨fun σ2 H2 => σ2 = [some (.ref p), some (.ref t), some (.int q), some (.int n), some (.int s), some (.ref l), some (.int (0 + (i : Int))), some (.int (hAt h i : Int)), y8] ∧ H2 = H', ?_, ?_⟩
      · refine ⟨_, rfl, _, rfl, p, _, rfl, .inr (SqT.of hp2), _, _, rfl, rfl, _, rfl, ite2 (fun cc => ?_) (fun cc => ?_)⟩
        · have c2 : i < h.length := by
            have := of_decide_eq_true cc
            rw [hv_len] at this
            omega
          exact ⟨_, rfl, _, rfl, p, _, _, _, rfl, rfl, SqT.of hp2, at_of e0 (hv_get c2), rfl, rfl⟩
        · have c2 : h.length ≤ i := by
            have : ¬ ((0 : Int) + (i : Int) < ((hv h).length : Int)) := fun z => cc (decide_eq_true z)
            rw [hv_len] at this
            omega
          refine ⟨?_, rfl⟩
          rw [hAt_ge c2]
          rfl
      · rintro σ2 H2 ⟨rfl, rfl⟩
        refine ⟨fun σ3 H3 => σ3 = [some (.ref p), some (.ref t), some (.int q), some (.int n), some (.int s), some (.ref l), some (.int (0 + (i : Int))), some (.int (hAt h i : Int)), some (.bl (opn h i))] ∧ H3 = H2, ?_, ?_⟩
        · refine ⟨_, rfl, rfl, _, rfl, ite2 (fun cc => ?_) (fun cc => ?_)⟩
          · have c2 : i = 0 := by
              have := V.int.inj (of_decide_eq_true cc)
              omega
            refine ⟨?_, rfl⟩
            have : opn h i = true := by
              unfold opn
              rw [decide_eq_true c2, Bool.true_or]
            rw [this]
            rfl
          · have c2 : i ≠ 0 := fun z => cc (by subst z; rfl)
            refine ⟨_, rfl, _, rfl, _, _, rfl, rfl, p, _, _, _, rfl, rfl, SqT.of hp2, at_of (show (0 + (i : Int)) - 1 = ((i - 1 : Nat) : Int) by omega) (hv_get (by omega)), _, rfl, _, _, rfl, rfl, ?_, rfl⟩
            have : opn h i = decide ((hAt h i : Int) < (hAt h (i - 1) : Int)) := by
              unfold opn
              rw [decide_eq_false c2, Bool.false_or]
              exact decide_eq_decide.mpr (by omega)
            rw [this]
            rfl
        · rintro σ3 H3 ⟨rfl, rfl⟩
          refine ⟨_, rfl, _, rfl, ite2 (fun cc => ?_) (fun cc => ?_)⟩
          · refine ⟨_, rfl, _, rfl, _, _, rfl, rfl, _, rfl, _, _, rfl, rfl, .inr (by constructor <;> omega), _, rfl, _, _, rfl, rfl, _, rfl, _, _, rfl, rfl, by omega, rfl, _, rfl, ite2 (fun c3 => ?_) (fun c3 => ?_)⟩
            · have yes : gl h n s q i = true := by
                unfold gl
                rw [cc, Bool.true_and]
                have z := V.int.inj (of_decide_eq_true c3)
                rw [Int.zero_add] at z
                exact decide_eq_true z
              refine ⟨_, rfl, _, rfl, p, _, rfl, .inr (SqT.of hp2), _, _, rfl, rfl, _, rfl, ite2 (fun c4 => ?_) (fun c4 => ?_)⟩
              · have c5 : i < h.length := by
                  have := of_decide_eq_true c4
                  rw [hv_len] at this
                  omega
                refine ⟨_, rfl, _, _, rfl, rfl, _, rfl, _, rfl, l, _, _, i, rfl, rfl, w1, ?_, _, _, _, rfl, ?_, Ex.mut w2 hl0⟩
                · rw [e0]
                  refine ixN_nat ?_
                  rw [hv_len, fr_low_len hi']
                  exact c5
                · rw [upd_same]
                  dsimp only
                  rw [show ((hAt h i : Int)) + 1 = ((hAt h i + 1 : Nat) : Int) by omega, hv_set, fr_set c5 yes]
              · have c5 : i = h.length := by
                  have : ¬ ((0 : Int) + (i : Int) < ((hv h).length : Int)) := fun z => c4 (decide_eq_true z)
                  rw [hv_len] at this
                  omega
                subst c5
                refine ⟨_, rfl, .inl ⟨rfl, _, SqL.of w1⟩, l, _, _, rfl, rfl, w1, ?_, _, _, _, rfl, ?_, Ex.mut w2 hl0⟩
                · rw [hv_len, fr_low_len (Nat.le_refl _)]
                  exact small1000 (by omega)
                · rw [upd_same, ← fr_app yes, hv_snoc]
                  rfl
            · have no : gl h n s q i = false := by
                unfold gl
                have z : ¬ ((dg h i * s - q) % n = 0) := fun z => c3 (decide_eq_true (congrArg V.int (by rw [Int.zero_add]; exact z)))
                rw [decide_eq_false z, Bool.and_false]
              refine ⟨_, _, _, rfl, ?_, w2⟩
              rw [fr_skip no]
              exact w1
          · have no : gl h n s q i = false := by
              unfold gl
              rw [Bool.eq_false_iff.mpr cc, Bool.false_and]
            refine ⟨_, _, _, rfl, ?_, w2⟩
            rw [fr_skip no]
            exact w1
    · obtain ⟨y6, y7, y8, rfl, w1, w2⟩ := hW
      have e : (((hv h).length : Int) + 1).toNat = h.length + 1 := by
        rw [hv_len]
        omega
      rw [e, fr_end] at w1
      exact ⟨_, rfl, l, _, rfl, .inl ⟨SqL.of w1, fun r hr' => k r _ (w2.trans (Ex.new hr')) upd_same⟩⟩
end
end K1

namespace K1
open PySem PySem.Spec PyProof.Rows L2 Evl HM LX ZW
theorem pl_get {ps : List Int} {i : Nat} {x : V} (hx : (ps.map V.int)[i]? = some x) : x = .int (ps.getD i 0) := by
  rw [List.getElem?_map] at hx
  rw [List.getD_eq_getElem?_getD]
  cases e : ps[i]? with
  | none =>
    rw [e] at hx
    cases hx
  | some p =>
    rw [e] at hx
    exact (Option.some.inj hx).symm
section
variable {P : Program} {w : World} {K : PySem.W.Frag} {mg : Str → Option Value} {base : Heap}
def spLHeap : Sp := fun vs H Q _ => ∃ c a xs rs ps, vs = [.ref c, .ref a] ∧ H c = some (.tup xs) ∧ RingsAt H 60 xs rs ∧ xs.length ≤ 12 ∧ PlacesT H a ps ∧ ps.length = xs.length ∧ ∀ b H', Ex H H' → HeapAt H' b (hseq rs ps xs.length) → Q (.ref b) H'
theorem ok_lheap (T : Txt K mg) {f : Addr} {fd : FuncData} (D : DefAt K mg "_law_heap" sLHeap ["_law_chain", "_law_x"] f fd) : FnOk P w K mg base CX0 2 f fd ["_law_chain", "_law_x"] spLHeap := by
  refine D.F.ok scLHeap (fun vs H Q E h => ?_) (fun cdv A outer s₀ H vs Q E hr h => ?_)
  · obtain ⟨c, a, xs, rs, ps, rfl, _⟩ := h
    rfl
  · obtain ⟨c, a, xs, rs, ps, rfl, hc, hR, hl, ha, hlen, q⟩ := h
    obtain ⟨f1, fd1, D1⟩ := T.d_l_grown
    refine ⟨_, pss_cons (ps_set (i := 2) scLHeap.nd rfl (.inl rfl) (pe_tup pa_nil))
      (pss_cons (ps_for PassesOwn.never rfl (RZ.pi_zipA (by rfl) T.z_zip (pa_cons (pv 0) (pa_cons (pv 1) pa_nil))) (pg_tup (by rfl) (pgs_cons (pg_name (i := 3) scLHeap.nd rfl (.inl rfl)) (pgs_cons (pg_name (i := 4) scLHeap.nd rfl (.inl rfl)) pgs_nil)))
        (pss_one (ps_set (i := 2) scLHeap.nd rfl (.inl rfl) (pe_call (ok_lgrown T D1) hr (by rfl) D1.g D1.F.kp D1.b .nil pass0 (pa_cons (pv 2) (pa_cons (pv 3) (pa_cons (pv 4) pa_nil)))))))
      (pss_one (ps_ret (pv 2)))), ?_⟩
    refine ⟨by show 0 ≤ sizeLine; decide, fun t0 ht0 => ?_⟩
    have e1 := Ex.new (o := .tup []) ht0
    have g0 : HeapAt (upd H t0 (.tup [])) t0 (hseq rs ps 0) := upd_same
    generalize upd H t0 (.tup []) = H1 at *
    refine ⟨_, rfl, _, rfl, c, a, _, _, rfl, .inr ⟨SqT.of (e1 _ _ hc), SqT.of (e1 _ _ ha), ?_⟩⟩
    refine for_zipT (K := K) (a := c) (b := a) (xs := xs) (ys := ps.map V.int) (n := xs.length) (Nat.le_refl _) (by rw [List.length_map]; omega) (.inl (Nat.le_refl _))
      (fun i σ' H' => ∃ (b : Addr) (y3 y4 : Option V), σ' = [some (.ref c), some (.ref a), some (.ref b), y3, y4] ∧ HeapAt H' b (hseq rs ps i) ∧ Ex H H') ⟨t0, none, none, rfl, g0, e1⟩ (fun i σ' H' hW => ?_) (fun i x y Tp σ' H' hi hx hy hW nT => ?_) (fun σ' H' hW => ?_)
    · obtain ⟨_, _, _, _, _, e⟩ := hW
      exact ⟨SqT.of (e _ _ hc), SqT.of (e _ _ ha)⟩
    · obtain ⟨b, y3, y4, rfl, w1, w2⟩ := hW
      have eT := Ex.new (o := .tup [x, y]) nT
      obtain rfl := pl_get hy
      have hx1 := rings_nth4 (rings_ex4 (w2.trans eT) hR) hx
      obtain ⟨ok1, ok2, ok3⟩ := hseq_ok rs ps i
      refine ⟨Tp, _, rfl, SqT.of upd_same, rfl, x, [_], rfl, _, [], rfl, rfl, ?_⟩
      refine ⟨_, rfl, _, rfl, _, rfl, b, hseq rs ps i, x, _, _, _, rfl, eT _ _ w1, by omega, hx1, fun r H4 e4 hr4 => ?_⟩
      exact ⟨r, _, _, rfl, hr4, (w2.trans eT).trans e4⟩
    · obtain ⟨b, y3, y4, rfl, w1, w2⟩ := hW
      exact ⟨_, rfl, q b _ w2 w1⟩
def spDrawnHeap : Sp := fun vs H Q _ => ∃ d, vs = [.ref d] ∧ Dice H d ∧ ∀ b h H', HeapAt H' b h → IsHeap h → h.length ≤ 9 → hAt h 0 ≤ 9 → Dice H' d → Keep d H H' → Q (.ref b) H'
end
end K1

namespace K1
open PySem PySem.Spec PyProof.Rows L2 Evl K1N
/-! ### written names -/
def PlaceAt (H : Hp) (x : V) (p : Int × Int) : Prop := ∃ t, x = .ref t ∧ H t = some (.tup [.int p.1, .int p.2])
abbrev Places (H : Hp) (xs : List V) (ps : List (Int × Int)) : Prop := Paired (PlaceAt H) xs ps
/-- what the rings of a chain are, by number -/
theorem rings_nth {H : Hp} {most : Int} {xs : List V} {rs : List (Int × Int)} (h : RingsAt H most xs rs) {j : Nat} (hj : j < rs.length) : ∃ x, xs[j]? = some x ∧ RingAt H most x (nAt rs j : Int) (sAt rs j) := by
  have hl := paired_len h
  have hx : xs[j]? = some (xs[j]'(by omega)) := List.getElem?_eq_getElem _
  obtain ⟨r, hr, q⟩ := paired_get h hx
  have e : rs.getD j (0, 0) = r := by rw [List.getD_eq_getElem?_getD, hr]; rfl
  obtain ⟨t, e1, e2, e3, e4, e5, e6⟩ := id q
  refine ⟨_, hx, ?_⟩
  unfold nAt sAt
  rw [e, show ((r.1.toNat : Nat) : Int) = r.1 by omega]
  exact q
theorem rings_ok {H : Hp} {most : Int} {xs : List V} {rs : List (Int × Int)} (h : RingsAt H most xs rs) (j : Nat) (hj : j < rs.length) : 1 ≤ sAt rs j ∧ sAt rs j < (nAt rs j : Int) := by
  obtain ⟨x, _, t, _, _, _, _, e5, e6⟩ := rings_nth h hj
  exact ⟨e5, e6⟩
theorem rings_n {H : Hp} {xs : List V} {rs : List (Int × Int)} (h : RingsAt H 60 xs rs) (j : Nat) : nAt rs j ≤ 60 := by
  by_cases hj : j < rs.length
  · obtain ⟨x, _, t, _, _, _, e4, _⟩ := rings_nth h hj
    omega
  · unfold nAt
    rw [List.getD_eq_getElem?_getD, List.getElem?_eq_none (by omega)]
    decide
/-- the written name of a place -/
def wn (rs : List (Int × Int)) (p : Int × Int) : Int × Int := if own rs p then p else (p.1 - 1, 0)
section
variable {P : Program} {w : World} {K : PySem.W.Frag} {mg : Str → Option Value} {base : Heap}
def spWrittenName : Sp := fun vs H Q _ => ∃ (c : Addr) (xs : List V) (rs : List (Int × Int)) (x : V) (p : Int × Int), vs = [.ref c, x] ∧ H c = some (.tup xs) ∧ RingsAt H 60 xs rs ∧ PlaceAt H x p ∧ 0 ≤ p.1 ∧ p.1 < (rs.length : Int) ∧
  ∀ y H', Ex H H' → PlaceAt H' y (wn rs p) → Q y H'
theorem ok_written_name (T : Txt K mg) {f : Addr} {fd : FuncData} (D : DefAt K mg "written_name" sWrittenName ["chain", "place"] f fd) : FnOk P w K mg base CX0 1 f fd ["chain", "place"] spWrittenName := by
  refine D.F.ok scWrittenName (fun vs H Q E h => ?_) (fun cdv A outer s H vs Q E hr h => ?_)
  · obtain ⟨c, xs, rs, x, p, rfl, _⟩ := h
    rfl
  · obtain ⟨c, xs, rs, x, ⟨j, q⟩, rfl, hc, hR, hp, p0, p1, k⟩ := h
    obtain ⟨t, rfl, ht⟩ := id hp
    have hj : j.toNat < rs.length := by
      have : (0 : Int) ≤ j := p0
      have : j < (rs.length : Int) := p1
      omega
    obtain ⟨y, hy, t2, rfl, ht2, n1, n2, n3, n4⟩ := rings_nth hR hj
    refine ⟨_, pss_cons (ps_asg (pv 1) (pg_tup (by rfl) (pgs_cons (pg_name (i := 2) scWrittenName.nd rfl (.inl rfl)) (pgs_cons (pg_name (i := 3) scWrittenName.nd rfl (.inl rfl)) pgs_nil))))
      (pss_cons (ps_if (PW.pt (pw_and (pt_cmpR op_gt (pv 2) pe_int (nomark _)) (pw_and1 (pt_cmpR op_eq (pv 3) (pe_ix ix_tup (pe_ix ix_tup (pv 0) (pv 2) (fun _ _ => rfl)) pe_int (fun _ _ => rfl)) (nomark _)))))
        (pss_one (ps_ret (pe_tup (pa_cons (pe_op op_sub (pv 2) pe_int) (pa_cons pe_int pa_nil))))) pss_nil)
      (pss_one (ps_ret (pv 1)))), ?_⟩
    refine ⟨_, rfl, t, _, rfl, SqT.of ht, rfl, _, _, rfl, _, _, rfl, rfl, ?_⟩
    refine ⟨_, rfl, _, _, rfl, rfl, _, rfl, ite2 (fun c1 => ?_) (fun c1 => ?_)⟩
    · have c2 : 0 < j := of_decide_eq_true c1
      refine ⟨_, rfl, _, rfl, _, rfl, c, xs, j, .ref t2, rfl, rfl, SqT.of hc, at_of (show j = ((j.toNat : Nat) : Int) by omega) hy, t2, _, 1, _, rfl, rfl, SqT.of ht2, rfl, rfl, _, rfl, ite2 (fun c3 => ?_) (fun c3 => ?_)⟩
      · have c4 : q = sAt rs j.toNat := V.int.inj (of_decide_eq_true c3)
        have ow : own rs (j, q) = false := by
          unfold own
          rw [decide_eq_true (show 0 < (j, q).1 from c2), decide_eq_true (show (j, q).2 = sAt rs (j, q).1.toNat from c4)]
          rfl
        refine ⟨_, rfl, _, _, rfl, rfl, by show 2 ≤ sizeLine; decide, fun p hp => k _ _ (Ex.new hp) ⟨p, rfl, ?_⟩⟩
        unfold wn
        rw [ow, if_neg (by decide)]
        exact upd_same
      · have c4 : ¬ q = sAt rs j.toNat := fun z => c3 (decide_eq_true (by rw [z]))
        have ow : own rs (j, q) = true := by
          unfold own
          rw [decide_eq_false (show ¬ (j, q).2 = sAt rs (j, q).1.toNat from c4), Bool.and_false]
          rfl
        refine ⟨_, rfl, k _ _ (Ex.refl _) ?_⟩
        unfold wn
        rw [if_pos ow]
        exact hp
    · have c2 : ¬ 0 < j := fun z => c1 (decide_eq_true z)
      have ow : own rs (j, q) = true := by
        unfold own
        rw [decide_eq_false (show ¬ 0 < (j, q).1 from c2), Bool.false_and]
        rfl
      refine iteF ?_
      refine ⟨_, rfl, k _ _ (Ex.refl _) ?_⟩
      unfold wn
      rw [if_pos ow]
      exact hp
def spNamesOf : Sp := fun vs H Q _ => ∃ (c : Addr) (xs : List V) (rs : List (Int × Int)), vs = [.ref c] ∧ H c = some (.tup xs) ∧ RingsAt H 60 xs rs ∧ xs.length ≤ 12 ∧ ∀ p ys H', Ex H H' → H p = none → H' p = some (.lst ys) → Places H' ys (names rs) → Q (.ref p) H'
def spPlacesOf : Sp := fun vs H Q _ => ∃ (c : Addr) (xs : List V) (rs : List (Int × Int)), vs = [.ref c] ∧ H c = some (.tup xs) ∧ RingsAt H 60 xs rs ∧ 1 ≤ xs.length ∧ xs.length ≤ 12 ∧ ∀ p ys H', Ex H H' → H' p = some (.tup ys) → Places H' ys (names rs) → Q (.ref p) H'
end
end K1

/-! own walk: zip of a list and a tuple -/
namespace ZM
open PySem PySem.Spec PyProof.Rows L2
/-- a list and a tuple, their items in new pairs -/
def ItM (K : PySem.W.Frag) (a b : Addr) : It :=
  ⟨fun i H => ∃ (xs ys : List V) (x y : V), SqL K H a xs ∧ SqT K H b ys ∧ xs[i]? = some x ∧ ys[i]? = some y,
    fun i H v H' => ∃ T x y, v = .ref T ∧ H T = none ∧ H' = upd H T (.tup [x, y]) ∧ (∀ xs, SqL K H a xs → xs[i]? = some x) ∧ ∀ ys, SqT K H b ys → ys[i]? = some y,
    fun i H => ∃ xs ys : List V, SqL K H a xs ∧ SqT K H b ys ∧ xs.length = i ∧ ys.length = i⟩
theorem turnM {P : Program} {w : World} {K : PySem.W.Frag} {elts : List Expr} {kk : Nat} {tpos : Pos} {a b z TI TO i1 i2 : Addr} (S : ZipSep2 z TI TO i1 i2 [i1, a] [i2, b]) (na : a ≠ i1) (nb : b ≠ i2) (w1 : z ≠ i1 ∧ z ≠ i2) :
    Turn P w K (.Tuple elts kk tpos) (ItM K a b) [z, TI, TO, i1, i2] z (fun i h => IsZip h z TI TO .none ∧ IsTupOf2 h TI (.ref i1) (.ref i2) ∧ (∃ x y, IsTupOf2 h TO x y) ∧ h.IsListIter i1 a i ∧ h.IsTupleIter i2 b i) where
  mem := by simp
  obj := fun i h st t ht => by
    obtain ⟨hz, hTI, ⟨x, y, hTO⟩, ⟨o1, e1, _, d1⟩, ⟨o2, e2, _, d2⟩⟩ := st
    rcases (show t = z ∨ t = TI ∨ t = TO ∨ t = i1 ∨ t = i2 by simpa using ht) with q | q | q | q | q
    · rw [q]
      exact ⟨_, hz, fun v q => nomatch q⟩
    · rw [q]
      exact ⟨_, hTI, fun v q => nomatch q⟩
    · rw [q]
      exact ⟨_, hTO, fun v q => nomatch q⟩
    · exact ⟨o1, q ▸ e1, fun v q => by rw [d1] at q; cases q⟩
    · exact ⟨o2, q ▸ e2, fun v q => by rw [d2] at q; cases q⟩
  keep := fun i h h' st k => by
    obtain ⟨hz, hTI, ⟨x, y, hTO⟩, h1, h2⟩ := st
    exact ⟨k z (by simp) _ hz, k TI (by simp) _ hTI, ⟨x, y, k TO (by simp) _ hTO⟩, h1.at fun o q => k i1 (by simp) o q, h2.at fun o q => k i2 (by simp) o q⟩
  item := by
    intro X eP eW eK hc i pins s σ H E I hf st hg
    subst eP eW eK
    obtain ⟨hz, hTI, ⟨x0, y0, hTO⟩, h1, h2⟩ := st
    obtain ⟨xs, ys, x, y, qx, qy, gx, gy⟩ := hg
    obtain ⟨t1, r1, p1, _⟩ := I.list qx
    obtain ⟨t2, r2, p2, _⟩ := I.tuple qy
    obtain ⟨v1, m1, rv1⟩ := r1.get gx
    obtain ⟨v2, m2, rv2⟩ := r2.get gy
    have l1 : i < t1.toArray.size := by simpa using (List.getElem?_eq_some_iff.mp m1).1
    have l2 : i < t2.toArray.size := by simpa using (List.getElem?_eq_some_iff.mp m2).1
    have hzl : z < s.heap.objs.size := Heap.lt_size hz
    have hh : X.A.in1.handled = none := I.ok.hd hc
    refine wpAny_pyNext_zipD2_item S (Draws.list hh i1 a na t1.toArray) (Draws.tuple hh i2 b nb t2.toArray) hz hTI hTO ⟨h1, p1.isList⟩ ⟨h2, p2⟩ l1 l2 fun w1' w2' h' tk g1 g2 zz tt s1 s2 hT hsz hk => ?_
    have a1 : w1' = v1 := Option.some.inj (g1.symm.trans (by simpa using m1))
    have a2 : w2' = v2 := Option.some.inj (g2.symm.trans (by simpa using m2))
    subst a1 a2
    refine ⟨_, rfl, wpAny_letOwnedTupleGo_zip (s := { s with heap := h', toks := tk }) zz fun h2' z2 sb => ?_⟩
    have hT2 : h2'.get? s.heap.objs.size = some { cls := .type "tuple", data := .seq #[w1', w2'] } := (sb.2 _ (Nat.ne_of_gt hzl)).trans hT
    have made : ObjOk X.prog X.w (upd H s.heap.objs.size (.tup [x, y])) h2' s.heap.objs.size (.tup [x, y]) :=
      ⟨by show 2 ≤ sizeLine; decide, [w1', w2'], .cons rv1 (.cons rv2 .nil), ⟨_, hT2, rfl, _, rfl⟩⟩
    have I2 : Inv X pins σ (upd H s.heap.objs.size (.tup [x, y])) { s with heap := h2', toks := tk } :=
      I.turnedNew (ch := [z, TI, TO, i1, i2]) (fun t o ht q => (sb.2 t (fun e => ht (by simp [e]))).trans (hk t o (fun e => ht (by simp [e])) (fun e => ht (by simp [e])) (fun e => ht (by simp [e])) (fun e => ht (by simp [e])) q)) hf (Nat.le_refl _) made
    refine ⟨.ref s.heap.objs.size, _, I2, rfl, ⟨_, x, y, rfl, I.hok.fresh (Nat.le_refl _), rfl, fun l hl => by rw [I.list_inj hl qx]; exact gx, fun l hl => by rw [I.tuple_inj hl qy]; exact gy⟩,
      ⟨z2, (sb.2 _ S.TIz).trans (hk _ _ S.TIz S.TITO S.TIi1 S.TIi2 hTI), ⟨w1', w2', (sb.2 _ S.TOz).trans tt⟩, s1.1.at fun o q => (sb.2 _ w1.1.symm).trans q, s2.1.at fun o q => (sb.2 _ w1.2.symm).trans q⟩, fun t ht => ?_⟩
    have lt : t < s.heap.objs.size := by
      rcases (show t = z ∨ t = TI ∨ t = TO ∨ t = i1 ∨ t = i2 by simpa using ht) with q | q | q | q | q
      · exact q ▸ hzl
      · exact q ▸ Heap.lt_size hTI
      · exact q ▸ Heap.lt_size hTO
      · obtain ⟨_, e, _⟩ := h1
        exact q ▸ Heap.lt_size e
      · obtain ⟨_, e, _⟩ := h2
        exact q ▸ Heap.lt_size e
    rw [upd_ne (Nat.ne_of_lt lt)]
    exact (hf t ht).1
  done := by
    intro X eP eW eK hc i pins s σ H E I hf st hg
    subst eP eW eK
    obtain ⟨hz, hTI, ⟨x0, y0, hTO⟩, h1, h2⟩ := st
    obtain ⟨xs, ys, qx, qy, gx, gy⟩ := hg
    obtain ⟨t1, r1, p1, _⟩ := I.list qx
    obtain ⟨t2, r2, p2, _⟩ := I.tuple qy
    have k1 := r1.length
    have k2 := r2.length
    have hh : X.A.in1.handled = none := I.ok.hd hc
    exact wpAny_pyNext_zipD2_end S (Draws.list hh i1 a na t1.toArray) (Draws.tuple hh i2 b nb t2.toArray) hz hTI hTO ⟨h1, p1.isList⟩ ⟨h2, p2⟩ (by rw [List.size_toArray]; omega) (by rw [List.size_toArray]; omega) (.inl (by rw [List.size_toArray]; omega))
      fun h' tk hk => ⟨rfl, I.turnedL (ch := [z, TI, TO, i1, i2]) (fun t o ht q => hk t o (fun e => ht (by simp [e])) (fun e => ht (by simp [e])) (fun e => ht (by simp [e])) (fun e => ht (by simp [e])) q) hf⟩
  self := fun A i s Q E st h => wpAny_pyIter_zip st.1 h
def iZipM (K : PySem.W.Frag) (ta : TA) : TI := fun σ H R => ta σ H fun vs H1 => ∃ a b xs ys, vs = [.ref a, .ref b] ∧ SqL K H1 a xs ∧ SqT K H1 b ys ∧ R (ItM K a b) H1
theorem pi_zipM {X : Cx} {e e2 : Expr} {ta : TA} {p pos tpos : Pos} {elts : List Expr} {kk : Nat} (hg : Gl X "zip") (hm : X.mg "zip" = none) (ha : PA X [e, e2] ta)
    (hs : starEach [e, e2] X.env = (false, eval e X.env) :: starEach [e2] X.env := by rfl) (hpl : (backTo pos (starEach [e2] X.env)).any (·.1) = false := by rfl) :
    PI X (.Tuple elts kk tpos) (.Call (.Name "zip" p) [e, e2] [] pos) (iZipM X.K ta) := by
  refine ⟨fun pins s σ H R I h => ?_⟩
  refine Call_ (ld_blt I hg hm PyProof.Rows.boot_zip (PyProof.Rows.callWith_type1 (thn (ha.run pos pins s σ H _ I h) fun vs' s1 ⟨vs, H1, I1, r1, q1⟩ => ?_) hs hpl))
  obtain ⟨a, b, xs, ys, ex, qx, qy, q⟩ := q1
  subst ex
  obtain ⟨t1, r1', p1, _⟩ := I1.list qx
  obtain ⟨t2, r2', p2, _⟩ := I1.tuple qy
  cases r1 with
  | cons ra rr =>
    cases rr with
    | cons rb rr =>
      cases rr
      cases ra
      cases rb
      have la : a < s1.heap.objs.size := by
        obtain ⟨_, e, _⟩ := p1.isList
        exact Heap.lt_size e
      have lb : b < s1.heap.objs.size := by
        obtain ⟨_, e, _⟩ := p2
        exact Heap.lt_size e
      refine zip_begins2 (begins_list a t1.toArray) (begins_tuple b t2.toArray) p1.isList p2 fun h' hz hTI hTO g1 g2 _ hk => wpAny_pyIter_zip hz ?_
      have I2 : Inv X pins σ H1 { s1 with heap := h' } := I1.kept (t' := s1.toks) hk
      have S : ZipSep2 (s1.heap.objs.size + 4) (s1.heap.objs.size + 2) (s1.heap.objs.size + 3) s1.heap.objs.size (s1.heap.objs.size + 1) [s1.heap.objs.size, a] [s1.heap.objs.size + 1, b] :=
        zip_sep2 (fun t ht => by rw [List.mem_singleton.mp ht]; exact la) (fun t ht => by rw [List.mem_singleton.mp ht]; exact lb)
      have add : ∀ {m k : Nat}, m ≠ k → s1.heap.objs.size + m ≠ s1.heap.objs.size + k := fun n e => n (Nat.add_left_cancel e)
      refine ⟨s1.heap.objs.size + 4, [s1.heap.objs.size + 4, s1.heap.objs.size + 2, s1.heap.objs.size + 3, s1.heap.objs.size, s1.heap.objs.size + 1], _, _, H1, rfl, I2,
        turnM S (Nat.ne_of_lt la) (Nat.ne_of_lt (Nat.lt_succ_of_lt lb)) ⟨add (m := 4) (k := 0) (by decide), add (by decide)⟩,
        ⟨hz, hTI, ⟨_, _, hTO⟩, ⟨_, g1, rfl, rfl⟩, ⟨_, g2, rfl, rfl⟩⟩, fun t ht => ?_, q⟩
      have le : s1.heap.objs.size ≤ t := by
        rcases (show t = s1.heap.objs.size + 4 ∨ t = s1.heap.objs.size + 2 ∨ t = s1.heap.objs.size + 3 ∨ t = s1.heap.objs.size ∨ t = s1.heap.objs.size + 1 by simpa using ht) with q | q | q | q | q
        · exact q ▸ Nat.le_add_right _ _
        · exact q ▸ Nat.le_add_right _ _
        · exact q ▸ Nat.le_add_right _ _
        · exact q ▸ Nat.le_refl _
        · exact q ▸ Nat.le_add_right _ _
      exact I1.fpOk le (I1.hok.fresh le)
theorem lc_zipM {K : PySem.W.Frag} {a b : Addr} {xs ys : List V} {n : Nat} {g : TG} {tt : TT} {te : TE} {vs : List Nat} {σ : L2.St} {H1 : Hp} {D : Addr} {Qd : Hp → Prop} (hx : xs.length = n) (hy : ys.length = n)
    (Pv : Nat → Hp → Prop) (h0 : Pv 0 (upd H1 D (.lst []))) (hq : ∀ i H, Pv i H → SqL K H a xs ∧ SqT K H b ys)
    (hs : ∀ i x y T H, i < n → xs[i]? = some x → ys[i]? = some y → Pv i H → H T = none → g (.ref T) (wipe σ vs) (upd H T (.tup [x, y])) fun σ2 H2 => wipe σ2 vs = wipe σ vs ∧ tt σ2 H2 fun c H3 =>
      if c = true then te σ2 H3 fun z H4 => ∃ acc, H4 D = some (.lst acc) ∧ acc.length < sizeLine ∧ Pv (i + 1) (upd H4 D (.lst (acc ++ [z]))) else Pv (i + 1) H3) (hd : ∀ H, Pv n H → Qd H) :
    ∃ W : Nat → Nat → Hp → Prop, (∃ m, W 0 m (upd H1 D (.lst []))) ∧ ∀ i m H, W i m H →
      ((ItM K a b).stop i H ∧ Qd H) ∨ ((ItM K a b).go i H ∧ ∃ Nx : Hp → Prop, (∀ H', Nx H' → ∃ m', m' < m ∧ W (i + 1) m' H') ∧ ∀ v H', (ItM K a b).yld i H v H' → g v (wipe σ vs) H' fun σ2 H2 => wipe σ2 vs = wipe σ vs ∧ tt σ2 H2 fun c H3 =>
        if c = true then te σ2 H3 fun z H4 => ∃ acc, H4 D = some (.lst acc) ∧ acc.length < sizeLine ∧ Nx (upd H4 D (.lst (acc ++ [z]))) else Nx H3) := by
  refine ⟨fun i m H => m = n - i ∧ i ≤ n ∧ Pv i H, ⟨n, (Nat.sub_zero n).symm, Nat.zero_le _, h0⟩, ?_⟩
  rintro i m H ⟨rfl, hi, p⟩
  obtain ⟨qa, qb⟩ := hq i H p
  by_cases hlt : i < n
  · have e1 : xs[i]? = some (xs[i]'(by omega)) := List.getElem?_eq_getElem _
    have e2 : ys[i]? = some (ys[i]'(by omega)) := List.getElem?_eq_getElem _
    refine .inr ⟨⟨xs, ys, _, _, qa, qb, e1, e2⟩, Pv (i + 1), fun H' p' => ⟨n - (i + 1), by omega, rfl, hlt, p'⟩, fun v H' hy' => ?_⟩
    obtain ⟨T, x, y, rfl, nT, rfl, fx, fy⟩ := hy'
    exact hs i x y T H hlt (fx _ qa) (fy _ qb) p nT
  · have e : i = n := by omega
    subst e
    exact .inl ⟨⟨xs, ys, qa, qb, hx, hy⟩, hd H p⟩
end ZM

namespace K1
open PySem PySem.Spec PyProof.Rows L2 Evl LX ZW
theorem int_get5 {ns : List Int} {i : Nat} (h : i < ns.length) : (ns.map V.int)[i]? = some (V.int (ns.getD i 0)) := by
  rw [List.getElem?_map, List.getD_eq_getElem?_getD, List.getElem?_eq_getElem h]
  rfl
theorem mapr_get {n i : Nat} (f : Nat → Int) (h : i < n) : ((List.range n).map f).getD i 0 = f i := by
  rw [List.getD_eq_getElem?_getD, List.getElem?_map, List.getElem?_range h]
  rfl
section
variable {P : Program} {w : World} {K : PySem.W.Frag} {mg : Str → Option Value} {base : Heap}
def spCheckDigits (K : PySem.W.Frag) : Sp := fun vs H Q _ => ∃ (l : Addr) (ns : List Int), vs = [.ref l] ∧ H l = some (.lst (ns.map V.int)) ∧ ns.length ≤ 1000 ∧ (∀ z ∈ ns, -(10 ^ 60) < z ∧ z < 10 ^ 60) ∧ ∀ H', Ex H H' → Q .non H'
theorem ok_check_digits (T : Txt K mg) {f : Addr} {fd : FuncData} (D : DefAt K mg "check_digits" sCheckDigits ["numbers"] f fd) : FnOk P w K mg base CX0 2 f fd ["numbers"] (spCheckDigits K) := by
  refine D.F.ok scCheckDigits (fun vs H Q E h => ?_) (fun cdv A outer s H vs Q E hr h => ?_)
  · obtain ⟨l, ns, rfl, _⟩ := h
    rfl
  · obtain ⟨l, ns, rfl, hl, h1000, hb, k⟩ := h
    obtain ⟨f1, fd1, D1⟩ := T.d_is_integer
    refine ⟨_, pss_one (ps_if (pt_not (pt_val (pe_callB (cr_all rfl) (by rfl) T.z_all (by decide +kernel) (pa_cons (pe_lc (own := [("number", 1)]) (g := gName 1) (tt := tYes) rfl scCheckDigits.nd (pi_list (pv 0))
        (blkOk_by (N := nCheckDigits) (sc := defScope sCheckDigits) (by decide +kernel)) (fun _ _ _ _ _ => pg_name (i := 1) scCheckDigits.nd rfl (Or.inl rfl)) (fun _ _ _ _ _ => pts_nil)
        (fun _ _ _ _ _ => pe_call (ok_is_integer T D1) hr (by rfl) D1.g D1.F.kp D1.b .nil pass0 (pa_cons (pv 1) pa_nil))) pa_nil)))) pss_never pss_nil), ?_⟩
    refine ⟨_, rfl, l, rfl, ⟨_, SqL.of hl⟩, fun Dl hD => ?_⟩
    refine lc_list (K := K) (a := l) (xs := ns.map V.int) (fun i H' => H' Dl = some (.lst ((List.replicate i true).map V.bl)) ∧ Ex H H') ⟨upd_same, Ex.new hD⟩ (fun i H' _ hp => SqL.of (hp.2 _ _ hl)) (fun i x H' hx hp => ?_) (fun H' hp => ?_)
    · obtain ⟨w1, w2⟩ := hp
      have hi : i < ns.length := by
        have := (List.getElem?_eq_some_iff.mp hx).1
        rw [List.length_map] at this
        exact this
      rw [int_get5 hi] at hx
      obtain rfl := Option.some.inj hx
      obtain ⟨b1, b2⟩ := hb (ns.getD i 0) (by rw [List.getD_eq_getElem?_getD, List.getElem?_eq_getElem hi]; exact List.getElem_mem hi)
      refine ⟨rfl, ?_⟩
      dsimp only [tYes]
      rw [if_pos rfl]
      refine ⟨_, rfl, _, true, rfl, ?_, fun H3 e3 => ⟨_, e3 _ _ w1, ?_, ?_, Ex.mut (w2.trans e3) hD⟩⟩
      · have := IntB.int (K := K) (H := H') (ns.getD i 0)
        rw [decide_eq_true b1, decide_eq_true b2] at this
        exact this
      · rw [List.length_map, List.length_replicate]
        exact small1000 (by omega)
      · rw [upd_same, List.replicate_succ', List.map_append]
        rfl
    · refine ⟨Dl, List.replicate (ns.map V.int).length true, rfl, SqL.of hp.1, ?_⟩
      rw [show (List.replicate (ns.map V.int).length true).all id = true by simp]
      exact ⟨_, rfl, iteF (k _ hp.2)⟩
end
end K1

/-! plain mathematics of deals: numbers by places, linear readings of them -/
namespace DM
abbrev Pl := Int × Int
abbrev Dl := List (Pl × Int)
def getE (ds : Dl) (p : Pl) : Option Int := (ds.find? fun e => decide (e.1 = p)).map (·.2)
def g0 (ds : Dl) (p : Pl) : Int := (getE ds p).getD 0
def putE (ds : Dl) (p : Pl) (v : Int) : Dl := if (ds.any fun e => decide (e.1 = p)) = true then ds.map (fun e => if e.1 = p then (e.1, v) else e) else ds ++ [(p, v)]
def NK (ds : Dl) : Prop := (ds.map (·.1)).Nodup
/-- a linear reading -/
def Sf (f : Pl → Int) : Dl → Int
  | [] => 0
  | e :: r => f e.1 * e.2 + Sf f r
/-- all absolute numbers -/
def Ab : Dl → Int
  | [] => 0
  | e :: r => (e.2.natAbs : Int) + Ab r
theorem getE_pos {e : Pl × Int} {r : Dl} {p : Pl} (h : e.1 = p) : getE (e :: r) p = some e.2 := by simp [getE, List.find?_cons, h]
theorem getE_neg {e : Pl × Int} {r : Dl} {p : Pl} (h : ¬ e.1 = p) : getE (e :: r) p = getE r p := by simp [getE, List.find?_cons, h]
theorem getE_any (p : Pl) : ∀ ds : Dl, (ds.any fun e => decide (e.1 = p)) = (getE ds p).isSome
  | [] => rfl
  | e :: r => by
    rw [List.any_cons]
    by_cases h : e.1 = p
    · rw [getE_pos h, decide_eq_true h]
      rfl
    · rw [getE_neg h, decide_eq_false h, getE_any p r]
      rfl
theorem getE_none {p : Pl} {ds : Dl} (h : getE ds p = none) : ∀ e ∈ ds, e.1 ≠ p := fun e he z => by
  have := getE_any p ds
  rw [h] at this
  have t : (ds.any fun e => decide (e.1 = p)) = true := List.any_eq_true.mpr ⟨e, he, decide_eq_true z⟩
  rw [t] at this
  cases this
theorem getE_of {p : Pl} {v : Int} : ∀ {ds : Dl}, NK ds → (p, v) ∈ ds → getE ds p = some v
  | [], _, h => by cases h
  | e :: r, n, h => by
    obtain ⟨n1, n2⟩ := List.nodup_cons.mp n
    rcases List.mem_cons.mp h with q | q
    · subst q
      exact getE_pos rfl
    · have : ¬ e.1 = p := fun z => n1 (List.mem_map.mpr ⟨(p, v), q, z.symm⟩)
      rw [getE_neg this]
      exact getE_of n2 q
theorem Sf_append (f : Pl → Int) : ∀ a b : Dl, Sf f (a ++ b) = Sf f a + Sf f b
  | [], b => (Int.zero_add _).symm
  | e :: a, b => by
    show f e.1 * e.2 + Sf f (a ++ b) = f e.1 * e.2 + Sf f a + Sf f b
    rw [Sf_append f a b, Int.add_assoc]
theorem Ab_append : ∀ a b : Dl, Ab (a ++ b) = Ab a + Ab b
  | [], b => (Int.zero_add _).symm
  | e :: a, b => by
    show (e.2.natAbs : Int) + Ab (a ++ b) = (e.2.natAbs : Int) + Ab a + Ab b
    rw [Ab_append a b, Int.add_assoc]
theorem Ab_nonneg : ∀ a : Dl, 0 ≤ Ab a
  | [] => Int.le_refl 0
  | e :: a => by
    have := Ab_nonneg a
    show 0 ≤ (e.2.natAbs : Int) + Ab a
    omega
theorem Ab_mem : ∀ {ds : Dl} {e : Pl × Int}, e ∈ ds → (e.2.natAbs : Int) ≤ Ab ds
  | [], e, h => by cases h
  | d :: r, e, h => by
    show _ ≤ (d.2.natAbs : Int) + Ab r
    have := Ab_nonneg r
    rcases List.mem_cons.mp h with q | q
    · rw [q]
      omega
    · have := Ab_mem q
      omega
theorem map_no {p : Pl} {v : Int} : ∀ {ds : Dl}, (∀ e ∈ ds, e.1 ≠ p) → ds.map (fun e => if e.1 = p then (e.1, v) else e) = ds
  | [], _ => rfl
  | e :: r, h => by
    rw [List.map_cons, if_neg (h e List.mem_cons_self), map_no fun x hx => h x (List.mem_cons_of_mem _ hx)]
theorem put_map {f : Pl → Int} {p : Pl} {v o : Int} : ∀ {ds : Dl}, NK ds → getE ds p = some o → Sf f (ds.map fun e => if e.1 = p then (e.1, v) else e) = Sf f ds + f p * (v - o) ∧ Ab (ds.map fun e => if e.1 = p then (e.1, v) else e) + (o.natAbs : Int) = Ab ds + (v.natAbs : Int)
  | [], _, h => by cases h
  | e :: r, n, h => by
    obtain ⟨n1, n2⟩ := List.nodup_cons.mp n
    by_cases q : e.1 = p
    · rw [getE_pos q] at h
      obtain rfl := Option.some.inj h
      have no : ∀ x ∈ r, x.1 ≠ p := fun x hx z => n1 (List.mem_map.mpr ⟨x, hx, z.trans q.symm⟩)
      rw [List.map_cons, if_pos q, map_no no]
      constructor
      · show f e.1 * v + Sf f r = f e.1 * e.2 + Sf f r + f p * (v - e.2)
        rw [q, Int.mul_sub]
        omega
      · show (v.natAbs : Int) + Ab r + _ = (e.2.natAbs : Int) + Ab r + _
        omega
    · rw [getE_neg q] at h
      obtain ⟨a, b⟩ := put_map (f := f) (v := v) n2 h
      rw [List.map_cons, if_neg q]
      constructor
      · show f e.1 * e.2 + Sf f _ = f e.1 * e.2 + Sf f r + f p * (v - o)
        rw [a]
        omega
      · show (e.2.natAbs : Int) + Ab _ + _ = (e.2.natAbs : Int) + Ab r + _
        omega
/-- what a number put at a place changes -/
theorem put_sum {f : Pl → Int} {p : Pl} {x : Int} {ds : Dl} (n : NK ds) : Sf f (putE ds p (g0 ds p + x)) = Sf f ds + f p * x ∧ Ab (putE ds p (g0 ds p + x)) ≤ Ab ds + (x.natAbs : Int) := by
  unfold putE
  have a := getE_any p ds
  cases h : getE ds p with
  | none =>
    rw [h] at a
    have z : g0 ds p = 0 := by
      unfold g0
      rw [h]
      rfl
    rw [if_neg (by rw [a]; decide), Sf_append, Ab_append, z, Int.zero_add]
    constructor
    · show Sf f ds + (f p * x + 0) = _
      omega
    · show Ab ds + ((x.natAbs : Int) + 0) ≤ _
      omega
  | some o =>
    rw [h] at a
    have z : g0 ds p = o := by
      unfold g0
      rw [h]
      rfl
    rw [if_pos (by rw [a]; rfl), z]
    obtain ⟨b, c⟩ := put_map (f := f) (v := o + x) n h
    constructor
    · rw [b, show o + x - o = x by omega]
    · omega
theorem put_keys {p : Pl} {v : Int} {ds : Dl} : ∀ e ∈ putE ds p v, e.1 = p ∨ ∃ d ∈ ds, d.1 = e.1 := fun e he => by
  unfold putE at he
  split at he
  · obtain ⟨d, hd, rfl⟩ := List.mem_map.mp he
    refine .inr ⟨d, hd, ?_⟩
    split <;> rfl
  · rcases List.mem_append.mp he with h | h
    · exact .inr ⟨e, h, rfl⟩
    · rw [List.mem_singleton.mp h]
      exact .inl rfl
theorem put_nk {p : Pl} {v : Int} {ds : Dl} (n : NK ds) : NK (putE ds p v) := by
  unfold NK putE
  have a := getE_any p ds
  cases h : getE ds p with
  | none =>
    rw [h] at a
    rw [if_neg (by rw [a]; decide), List.map_append]
    refine List.nodup_append.mpr ⟨n, by simp, fun x hx y hy => ?_⟩
    rw [List.mem_singleton.mp hy]
    obtain ⟨e, he, rfl⟩ := List.mem_map.mp hx
    exact getE_none h e he
  | some o =>
    rw [h] at a
    rw [if_pos (by rw [a]; rfl), List.map_map]
    have : ds.map ((fun e => e.1) ∘ fun e => if e.1 = p then (e.1, v) else e) = ds.map (·.1) := List.map_congr_left fun e _ => by
      show (if e.1 = p then (e.1, v) else e).1 = e.1
      split <;> rfl
    rw [this]
    exact n
theorem put_len (ds : Dl) (p : Pl) (v : Int) : (putE ds p v).length ≤ ds.length + 1 := by
  unfold putE
  split
  · rw [List.length_map]
    omega
  · rw [List.length_append]
    exact Nat.le_refl _
/-! ### the told sum: keys in any order, zeros left out -/
def told (ds : Dl) (ks : List Pl) : Dl := (ks.map fun k => (k, g0 ds k)).filter fun e => !decide (e.2 = 0)
theorem keys_back {ds : Dl} (n : NK ds) : ds = (ds.map (·.1)).map fun k => (k, g0 ds k) := by
  rw [List.map_map]
  conv => lhs; rw [← List.map_id ds]
  refine List.map_congr_left fun e he => ?_
  show e = (e.1, g0 ds e.1)
  unfold g0
  rw [getE_of n (p := e.1) (v := e.2) he]
  rfl
theorem Sf_perm {f : Pl → Int} {a b : Dl} (p : a.Perm b) : Sf f a = Sf f b := by
  induction p with
  | nil => rfl
  | cons x _ ih =>
    show f x.1 * x.2 + Sf f _ = f x.1 * x.2 + Sf f _
    rw [ih]
  | swap x y l =>
    show f y.1 * y.2 + (f x.1 * x.2 + Sf f l) = f x.1 * x.2 + (f y.1 * y.2 + Sf f l)
    omega
  | trans _ _ h1 h2 => exact h1.trans h2
theorem Ab_perm {a b : Dl} (p : a.Perm b) : Ab a = Ab b := by
  induction p with
  | nil => rfl
  | cons x _ ih =>
    show (x.2.natAbs : Int) + Ab _ = (x.2.natAbs : Int) + Ab _
    rw [ih]
  | swap x y l =>
    show (y.2.natAbs : Int) + ((x.2.natAbs : Int) + Ab l) = (x.2.natAbs : Int) + ((y.2.natAbs : Int) + Ab l)
    omega
  | trans _ _ h1 h2 => exact h1.trans h2
theorem Sf_zero {f : Pl → Int} : ∀ ds : Dl, Sf f (ds.filter fun e => !decide (e.2 = 0)) = Sf f ds
  | [] => rfl
  | e :: r => by
    by_cases h : e.2 = 0
    · rw [List.filter_cons, if_neg (by rw [decide_eq_true h]; decide), Sf_zero r]
      show _ = f e.1 * e.2 + Sf f r
      rw [h, Int.mul_zero, Int.zero_add]
    · rw [List.filter_cons, if_pos (by rw [decide_eq_false h]; rfl)]
      show f e.1 * e.2 + Sf f _ = f e.1 * e.2 + Sf f r
      rw [Sf_zero r]
theorem Ab_zero : ∀ ds : Dl, Ab (ds.filter fun e => !decide (e.2 = 0)) ≤ Ab ds
  | [] => Int.le_refl _
  | e :: r => by
    have := Ab_zero r
    rw [List.filter_cons]
    split
    · show (e.2.natAbs : Int) + Ab _ ≤ (e.2.natAbs : Int) + Ab r
      omega
    · show _ ≤ (e.2.natAbs : Int) + Ab r
      omega
theorem told_perm {ds : Dl} (n : NK ds) {ks : List Pl} (p : ks.Perm (ds.map (·.1))) : (ks.map fun k => (k, g0 ds k)).Perm ds := by
  have := p.map fun k => (k, g0 ds k)
  rw [← keys_back n] at this
  exact this
theorem told_sum {f : Pl → Int} {ds : Dl} (n : NK ds) {ks : List Pl} (p : ks.Perm (ds.map (·.1))) : Sf f (told ds ks) = Sf f ds := (Sf_zero _).trans (Sf_perm (told_perm n p))
theorem told_abs {ds : Dl} (n : NK ds) {ks : List Pl} (p : ks.Perm (ds.map (·.1))) : Ab (told ds ks) ≤ Ab ds := by
  have := Ab_zero (ks.map fun k => (k, g0 ds k))
  rw [Ab_perm (told_perm n p)] at this
  exact this
theorem told_keys {ds : Dl} {ks : List Pl} : ∀ e ∈ told ds ks, e.1 ∈ ks := fun e he => by
  obtain ⟨k, hk, rfl⟩ := List.mem_map.mp (List.mem_filter.mp he).1
  exact hk
theorem told_nk {ds : Dl} {ks : List Pl} (n : ks.Nodup) : NK (told ds ks) := by
  unfold NK told
  have s : ((ks.map fun k => (k, g0 ds k)).filter fun e => !decide (e.2 = 0)).Sublist (ks.map fun k => (k, g0 ds k)) := List.filter_sublist
  have s2 := s.map (·.1)
  rw [List.map_map] at s2
  have : ks.map ((fun e : Pl × Int => e.1) ∘ fun k => (k, g0 ds k)) = ks := by
    conv => rhs; rw [← List.map_id ks]
    rfl
  rw [this] at s2
  exact n.sublist s2
theorem told_snoc {ds : Dl} {ks : List Pl} {k : Pl} : told ds (ks ++ [k]) = told ds ks ++ (if g0 ds k = 0 then [] else [(k, g0 ds k)]) := by
  unfold told
  rw [List.map_append, List.filter_append]
  congr 1
  show [(k, g0 ds k)].filter _ = _
  rw [List.filter_cons]
  by_cases h : g0 ds k = 0
  · rw [if_neg (show ¬ (!decide ((k, g0 ds k).2 = 0)) = true by rw [decide_eq_true h]; decide), if_pos h]
    rfl
  · rw [if_pos (show (!decide ((k, g0 ds k).2 = 0)) = true by rw [decide_eq_false h]; rfl), if_neg h]
    rfl
end DM

/-! plain mathematics of classes: a class as a degree and a reading of each ring -/
namespace DM
open K1N
theorem Sf_congr {f g : Pl → Int} : ∀ {ds : Dl}, (∀ e ∈ ds, f e.1 = g e.1) → Sf f ds = Sf g ds
  | [], _ => rfl
  | e :: r, h => by
    show f e.1 * e.2 + Sf f r = g e.1 * e.2 + Sf g r
    rw [h e List.mem_cons_self, Sf_congr fun x hx => h x (List.mem_cons_of_mem _ hx)]
theorem Sf_lin (f g : Pl → Int) (c : Int) : ∀ ds : Dl, Sf (fun p => f p + c * g p) ds = Sf f ds + c * Sf g ds
  | [] => by
    show (0 : Int) = 0 + c * 0
    rw [Int.mul_zero, Int.add_zero]
  | e :: r => by
    show (f e.1 + c * g e.1) * e.2 + Sf _ r = f e.1 * e.2 + Sf f r + c * (g e.1 * e.2 + Sf g r)
    rw [Sf_lin f g c r, Int.add_mul, Int.mul_add, Int.mul_assoc]
    omega
theorem Sf_le {f : Pl → Int} (h : ∀ p, f p = 1 ∨ f p = 0) : ∀ ds : Dl, (Sf f ds).natAbs ≤ (Ab ds).natAbs
  | [] => Nat.le_refl _
  | e :: r => by
    have a := Sf_le h r
    have b := Ab_nonneg r
    have t : Ab (e :: r) = (e.2.natAbs : Int) + Ab r := rfl
    have u : Sf f (e :: r) = f e.1 * e.2 + Sf f r := rfl
    rcases h e.1 with q | q
    · rw [t, u, q, Int.one_mul]
      omega
    · rw [t, u, q, Int.zero_mul, Int.zero_add]
      omega
def one : Pl → Int := fun _ => 1
/-- what a chip at a place counts for a ring: its place, or a step of the ring for a chip ahead -/
def tau (rs : List (Int × Int)) (i : Nat) : Pl → Int := fun p => if p.1 = (i : Int) then p.2 else if p.1 < (i : Int) then sAt rs i else 0
def wname (rs : List (Int × Int)) (p : Pl) : Pl := if own rs p then p else (p.1 - 1, 0)
theorem tau_wname {rs : List (Int × Int)} {p : Pl} (h : 0 ≤ p.1) (i : Nat) : tau rs i (wname rs p) = tau rs i p := by
  unfold wname
  by_cases o : own rs p = true
  · rw [if_pos o]
  · rw [if_neg o]
    have o2 : 0 < p.1 ∧ p.2 = sAt rs p.1.toNat := by
      unfold own at o
      simpa using o
    unfold tau
    show (if p.1 - 1 = (i : Int) then 0 else if p.1 - 1 < (i : Int) then sAt rs i else 0) = _
    by_cases e1 : p.1 = (i : Int)
    · rw [if_neg (by omega), if_pos (by omega), if_pos e1, o2.2, show p.1.toNat = i by omega]
    · rw [if_neg e1]
      by_cases e2 : p.1 < (i : Int)
      · rw [if_neg (by omega), if_pos (by omega), if_pos e2]
      · rw [if_neg e2]
        by_cases e3 : p.1 - 1 = (i : Int)
        · rw [if_pos e3]
        · rw [if_neg e3, if_neg (by omega)]
/-- valid places -/
def PlIn (rs : List (Int × Int)) (p : Pl) : Prop := (0 ≤ p.1 ∧ p.1 < (rs.length : Int)) ∧ 0 ≤ p.2 ∧ p.2 < (nAt rs p.1.toNat : Int)
def KIn (rs : List (Int × Int)) (ds : Dl) : Prop := ∀ e ∈ ds, PlIn rs e.1
/-- the tuple of a class by its readings -/
def cx (rs : List (Int × Int)) (t : Nat → Int) : List Int := (List.range rs.length).map fun i => (t i - (i : Int) * sAt rs i) % (nAt rs i : Int)
theorem cx_len (rs : List (Int × Int)) (t : Nat → Int) : (cx rs t).length = rs.length := by
  unfold cx
  rw [List.length_map, List.length_range]
theorem cx_get {rs : List (Int × Int)} {t : Nat → Int} {i : Nat} (h : i < rs.length) : (cx rs t).getD i 0 = (t i - (i : Int) * sAt rs i) % (nAt rs i : Int) := by
  unfold cx
  rw [List.getD_eq_getElem?_getD, List.getElem?_map, List.getElem?_range h]
  rfl
def td (rs : List (Int × Int)) (ds : Dl) : Nat → Int := fun i => Sf (tau rs i) ds
/-! ### the readings ring by ring -/
def ind (i : Nat) : Pl → Int := fun p => if p.1 = (i : Int) then 1 else 0
def spt (i : Nat) : Pl → Int := fun p => if p.1 = (i : Int) then p.2 else 0
def bef (i : Nat) : Pl → Int := fun p => if p.1 < (i : Int) then 1 else 0
theorem bef_zero {rs : List (Int × Int)} {ds : Dl} (h : KIn rs ds) : Sf (bef 0) ds = 0 := by
  have : Sf (bef 0) ds = Sf (fun _ => 0) ds := Sf_congr fun e he => by
    have := (h e he).1.1
    unfold bef
    rw [if_neg (by omega)]
  rw [this]
  clear this h
  induction ds with
  | nil => rfl
  | cons e r ih =>
    show 0 * e.2 + Sf (fun _ => 0) r = 0
    rw [ih, Int.zero_mul]
    rfl
theorem bef_succ (ds : Dl) (i : Nat) : Sf (bef (i + 1)) ds = Sf (bef i) ds + Sf (ind i) ds := by
  have a := Sf_lin (bef i) (ind i) 1 ds
  rw [Int.one_mul] at a
  rw [← a]
  refine Sf_congr fun e _ => ?_
  unfold bef ind
  by_cases q : e.1.1 < (i : Int)
  · rw [if_pos (by omega), if_pos q, if_neg (by omega)]
    rfl
  · by_cases z : e.1.1 = (i : Int)
    · rw [if_pos (by omega), if_neg q, if_pos z]
      rfl
    · rw [if_neg (by omega), if_neg q, if_neg z]
      rfl
theorem tau_parts (rs : List (Int × Int)) (ds : Dl) (i : Nat) : Sf (spt i) ds + sAt rs i * Sf (bef i) ds = Sf (tau rs i) ds := by
  rw [← Sf_lin (spt i) (bef i) (sAt rs i) ds]
  refine Sf_congr fun e _ => ?_
  unfold spt bef tau
  by_cases z : e.1.1 = (i : Int)
  · rw [if_pos z, if_neg (by omega), if_pos z, Int.mul_zero, Int.add_zero]
  · rw [if_neg z, if_neg z]
    by_cases q : e.1.1 < (i : Int)
    · rw [if_pos q, if_pos q, Int.mul_one, Int.zero_add]
    · rw [if_neg q, if_neg q, Int.mul_zero]
      rfl
theorem bef_all {rs : List (Int × Int)} {ds : Dl} (h : KIn rs ds) : Sf (bef rs.length) ds = Sf one ds := Sf_congr fun e he => by
  unfold bef one
  rw [if_pos (h e he).1.2]
end DM

/-! own rule: a dict comprehension whose keys are tuples -/
namespace DR
open PySem PySem.Spec PyProof.Rows L2
/-- the block's own store, the key a tuple of ints and texts -/
theorem put_tup {X : Cx} {pins : List (Addr × Obj)} {σ : L2.St} {H : Hp} {s : Shared} {E : Value → Shared → Prop} {D b : Addr} {kvs : List (List Key × V)} {k : List Key} {v : V} {r : Value} {Q : Unit → Shared → Prop} (hu : X.A.units < cLine) (I : Inv X pins σ H s) (hD : H D = some (.dT kvs)) (hz : kvs.length < sizeLine)
    (hb : H b = some (.tup (k.map kV))) (rv : RelV v r) (h : ∀ s', Inv X pins σ (upd H D (.dT (putK kvs k v))) s' → Q () s') : wpAny (model X.prog X.w) X.A (dictSet D (.ref b) r) Q E s := by
  obtain ⟨z, lo, xs, rel, dd⟩ := dt_of I.hok hD
  have hx : xs.length ≤ sizeLine := by rw [← Paired.length rel]; exact z
  have hl : (putK kvs k v).length ≤ sizeLine := by have := length_putK kvs k v; omega
  refine wpAny_dictSet_heap (hsz := hx) (show (tupleKind (mixKind X.prog X.w)).room X.A from hu) (key_of I.hok hb) dd fun h' dd' hs => h _ ?_
  obtain ⟨q, es, ep, hq, h2, h3, h4, _, h5⟩ := dd'
  refine d_write I (by rw [hD]; exact True.intro) hs ⟨q, hq⟩ ⟨hl, lo, _, (rel.put k hb rv).keeps fun c ys ec => ?_, q, es, ep, hq, h2, h3, h4, h5⟩
  rw [upd_ne (ne_of ec hD (fun z => nomatch z))]
  exact ec
/-- {k: v for target in iter if ..}, the keys tuples of ints and texts; D the new dict -/
def tDcT (wi : TI) (g : TG) (tt : TT) (tk tv : TE) (vs : List Nat) : TE := fun σ H Q => wi σ H fun J H1 => ∀ D, H1 D = none → ∃ W : Nat → Nat → Hp → Prop, (∃ m, W 0 m (upd H1 D (.dT []))) ∧ ∀ i m H, W i m H →
  (J.stop i H ∧ Q (.ref D) H) ∨ (J.go i H ∧ ∃ Nx : Hp → Prop, (∀ H', Nx H' → ∃ m', m' < m ∧ W (i + 1) m' H') ∧ ∀ x H', J.yld i H x H' → g x (wipe σ vs) H' fun σ2 H2 => wipe σ2 vs = wipe σ vs ∧ tt σ2 H2 fun b H3 =>
    if b = true then tk σ2 H3 fun y H4 => tv σ2 H4 fun z H5 => ∃ kvs k c, y = .ref c ∧ H5 c = some (.tup (k.map kV)) ∧ H5 D = some (.dT kvs) ∧ kvs.length < sizeLine ∧ Nx (upd H5 D (.dT (putK kvs k z))) else Nx H3)
theorem pe_dcT {X : Cx} {kx vx tg iter : Expr} {ifs : List Expr} {scope : Scope} {own : List (Str × Nat)} {pos : Pos} {wi : TI} {g : TG} {tt : TT} {tk tv : TE} (hc : X.calm = true) (hu : X.A.units < cLine) (hN : X.N.Nodup) (hi : PI X tg iter wi) (ok : BlkOk X.N X.env.scope scope own)
    (hg : ∀ (s : Shared) (H : Hp) (C : Addr) (cl : List (Str × Addr)) (fp : List Addr), PG (X.blk s H scope (compEnvC scope cl C X.env) fp) tg g) (ht : ∀ (s : Shared) (H : Hp) (C : Addr) (cl : List (Str × Addr)) (fp : List Addr), PTs (X.blk s H scope (compEnvC scope cl C X.env) fp) ifs tt)
    (hk : ∀ (s : Shared) (H : Hp) (C : Addr) (cl : List (Str × Addr)) (fp : List Addr), PE (X.blk s H scope (compEnvC scope cl C X.env) fp) kx tk)
    (he : ∀ (s : Shared) (H : Hp) (C : Addr) (cl : List (Str × Addr)) (fp : List Addr), PE (X.blk s H scope (compEnvC scope cl C X.env) fp) vx tv) (hs : ∀ x, foldedSetIterable iter X.env x = pure x := by intro _; rfl) :
    PE X (.DictComp kx vx [⟨tg, iter, ifs, 0⟩] scope pos) (tDcT wi g tt tk tv (own.map (·.2))) := by
  refine ⟨fun pins s σ H Q I h => ?_⟩
  rw [arm_eval_DictComp]
  have cap : ∀ y ∈ scope.names, y.2 = .free → ∃ c, X.env.cells.lookup y.1 = some c := fun y hy e => (ok.free y hy e).elim (fun k => I.ok.has _ (.inl k)) fun k => I.ok.has _ (.inr k)
  refine wpAny_comprehension_free (use := none) rfl hs (closure_ok cap) ok.kind (fun y hy e => by rw [ok.uniq y hy, e])
    (thn (hi.run pins s σ H _ I h) fun xv s1 hx => thn hx fun itv s2 h2 => ?_)
  obtain ⟨it, fp, tn, J, H2, e, I2, T, st2, f2, q⟩ := h2
  subst e
  refine wpAny_newObj_type (newEnv_comp ?_)
  generalize hD : s2.heap.objs.size = D
  have nD : H2 D = none := I2.hok.fresh (Nat.le_of_eq hD)
  obtain ⟨W, ⟨m0, w0⟩, turn⟩ := q D nD
  have J3 : ∃ s3 : Shared, s3 = { s2 with heap := s2.heap.push { cls := .type "dict", data := .dict #[] } } := ⟨_, rfl⟩
  obtain ⟨s3, hs3⟩ := J3
  have h3 : s3.heap = s2.heap.push { cls := .type "dict", data := .dict #[] } := by rw [hs3]
  have I3 : Inv X pins σ (upd H2 D (.dT [])) s3 := by
    rw [hs3]
    refine I2.laid (t' := s2.toks) (fun b o e => Heap.get?_push_of_some _ e) (Nat.le_of_eq hD) ?_
    rw [← hD]
    exact dt_empty s2.heap I2.big
  have low : ∀ b ∈ fp, b < s2.heap.objs.size := fun b hb => by
    obtain ⟨o, e, _⟩ := T.obj _ _ st2 b hb
    exact Heap.lt_size e
  have f3 : ∀ b ∈ fp, FpOk X pins (upd H2 D (.dT [])) b ∧ b < s3.heap.objs.size := fun b hb => by
    have lt := low b hb
    refine ⟨⟨?_, (f2 b hb).2⟩, by rw [h3, Heap.size_push]; exact Nat.lt_succ_of_lt lt⟩
    rw [upd_ne (by rw [← hD]; exact Nat.ne_of_lt lt)]
    exact (f2 b hb).1
  have st3 : tn 0 s3.heap := T.keep _ _ _ st2 fun b _ o e => by rw [h3]; exact Heap.get?_push_of_some _ e
  have I4 := block_start I3 ok hN f3
  have pg := hg s3 (upd H2 D (.dT [])) s3.heap.objs.size (cellsFrom (s3.heap.objs.size + 1) scope.names (cloFrom X.env.cells scope.names [])) fp
  have pt := ht s3 (upd H2 D (.dT [])) s3.heap.objs.size (cellsFrom (s3.heap.objs.size + 1) scope.names (cloFrom X.env.cells scope.names [])) fp
  have pk := hk s3 (upd H2 D (.dT [])) s3.heap.objs.size (cellsFrom (s3.heap.objs.size + 1) scope.names (cloFrom X.env.cells scope.names [])) fp
  have pe := he s3 (upd H2 D (.dT [])) s3.heap.objs.size (cellsFrom (s3.heap.objs.size + 1) scope.names (cloFrom X.env.cells scope.names [])) fp
  rw [← hs3]
  show codeAny _ _ (.compStart (.DictComp kx vx [⟨tg, iter, ifs, 0⟩] scope pos) 0 (.ref it) (.ref D) (compEnvC scope (cellsFrom (s3.heap.objs.size + 1) scope.names (cloFrom X.env.cells scope.names [])) s3.heap.objs.size X.env)) (compPost (model X.prog X.w) X.A X.xe none (EP X pins σ Q) (.ref D) s3.heap.objs.size) { s3 with heap := pushCells (s3.heap.push { cls := .type "dict", data := .dict #[] }) scope.names }
  have clear : ∀ b ∈ fp, (upd H2 D (.dT [])) b = none := fun b hb => (f3 b hb).1.1
  generalize hce : compEnvC scope (cellsFrom (s3.heap.objs.size + 1) scope.names (cloFrom X.env.cells scope.names [])) s3.heap.objs.size X.env = ce at I4 pg pt pk pe ⊢
  have cL : ce.locals = s3.heap.objs.size := by subst hce; rfl
  generalize upd H2 D (.dT []) = H3 at I3 I4 pg pt pk pe w0 clear f3
  generalize hs4 : ({ s3 with heap := pushCells (s3.heap.push { cls := .type "dict", data := .dict #[] }) scope.names } : Shared) = s4 at I4 ⊢
  have st4 : tn 0 s4.heap := T.keep _ _ _ st3 fun b _ o e => by rw [← hs4]; exact pushCells_keeps _ _ _ _ (Heap.get?_push_of_some _ e)
  have stat : ∀ {σ' : L2.St} {H' : Hp} {s' : Shared}, Inv (X.blk s3 H3 scope ce fp) [] σ' H' s' → (∀ b ∈ fp, H' b = none) → ∀ b ∈ fp, FpOk (X.blk s3 H3 scope ce fp) [] H' b := fun {σ' H' s'} I' hn b hb =>
    ⟨hn b hb, (I'.ok.exf b hb).1, I'.ok.exfs b hb, .inl hb, fun x c e => (I'.ok.exf b hb).2 x c e, fun p hp => absurd (show p ∈ ([] : List (Addr × Obj)) ++ [] from hp) (by simp)⟩
  have loop : codeAny (model X.prog X.w) X.A (.compLoop (.DictComp kx vx [⟨tg, iter, ifs, 0⟩] scope pos) 0 (.ref it) (.ref D) ce) (compPost (model X.prog X.w) X.A X.xe none (EP X pins σ Q) (.ref D) s3.heap.objs.size) s4 := by
    refine compLoop_anyD (fun n s' => ∃ i H', Inv (X.blk s3 H3 scope ce fp) [] (wipe σ (own.map (·.2))) H' s' ∧ tn i s'.heap ∧ (∀ b ∈ fp, H' b = none) ∧ W i n H') ?_ m0 ⟨0, H3, I4, st4, clear, w0⟩
    rintro n s5 ⟨i, H5, I5, st5, n5, w5⟩
    rcases turn i n H5 w5 with ⟨stop, qq⟩ | ⟨go, Nx, hNx, step⟩
    · refine thnF (T.done (X.blk s3 H3 scope ce fp) rfl rfl rfl hc i [] s5 _ H5 (fun _ _ => False) I5 (stat I5 n5) st5 stop) fun r s6 ⟨hr, I6⟩ => ?_
      subst hr
      have I7 : Inv X pins σ H5 s6 := I3.call' (ch := fp) I6.os I6.base I6.hok I6.bare fun b hb => ⟨(f3 b hb).1.2.2.2.1, (f3 b hb).1.2.1, (f3 b hb).1.2.2.2.2.1, (f3 b hb).1.2.2.2.2.2⟩
      have nC : H5 s3.heap.objs.size = none := cL ▸ (show H5 ce.locals = none from I6.free)
      obtain ⟨m, hn, _⟩ := I6.loc
      have hn' : s6.heap.Ns s3.heap.objs.size m := cL ▸ (show s6.heap.Ns ce.locals m from hn)
      obtain ⟨f0, f1, f3', f4, f5, f6⟩ := I3.fpOk (Nat.le_refl _) nC
      exact ⟨m, hn', fun h'' sb => ⟨.ref D, H5, I7.turned (t' := s6.toks) (fun b o hb e => (sb.2 b hb).trans e) f0 f1 f4 f5 f6, rfl, qq⟩⟩
    · refine thnF (T.item (X.blk s3 H3 scope ce fp) rfl rfl rfl hc i [] s5 _ H5 (fun _ _ => False) I5 (stat I5 n5) st5 go) fun r s6 ⟨u, hr, h6⟩ => ?_
      subst hr
      refine thnF h6 fun _ s7 ⟨x, H7, I7, r7, y7, st7, n7⟩ => ?_
      have P7 := I7.pinned (stat I7 n7) (T.obj _ _ st7)
      refine thnF (pg.run _ s7 _ H7 x u _ P7 r7 (step x H7 y7)) fun _ s8 ⟨σ8, H8, I8, hw8, q8⟩ => ?_
      refine thnF (pt.run _ s8 σ8 H8 _ I8 q8) fun b s9 ⟨H9, I9, q9⟩ => ?_
      have over : ∀ {s' : Shared} {H' : Hp}, Inv (X.blk s3 H3 scope ce fp) ([] ++ pinsAt fp s7.heap) σ8 H' s' → Nx H' → ∃ m, m < n ∧ ∃ i H', Inv (X.blk s3 H3 scope ce fp) [] (wipe σ (own.map (·.2))) H' s' ∧ tn i s'.heap ∧ (∀ b ∈ fp, H' b = none) ∧ W i m H' := fun {s' H'} I' nx => by
        obtain ⟨m', hm, w'⟩ := hNx H' nx
        have pin' : ∀ b ∈ fp, ∀ o, s7.heap.get? b = some o → s'.heap.get? b = some o ∧ H' b = none := fun b hb o e =>
          let z := I'.pin (b, o) (List.mem_append_right _ (List.mem_append_right _ (mem_pinsAt hb e)))
          ⟨z.1, z.2.1⟩
        refine ⟨m', hm, i + 1, H', (I'.unpinned (pins := [])).weak (by rw [← hw8, wipe_length]) (fun j v e => ?_), T.keep _ _ _ st7 fun b hb o e => (pin' b hb o e).1, fun b hb => ?_, w'⟩
        · rw [← hw8] at e
          exact (wipe_some e).1
        · obtain ⟨o, e, _⟩ := T.obj _ _ st7 b hb
          exact (pin' b hb o e).2
      cases b with
      | false => exact over I9 (by simpa using q9)
      | true =>
        simp only [if_true] at q9 ⊢
        refine thnF (pk.run _ s9 σ8 H9 _ I9 q9) fun z s10 ⟨yk, H10, I10, r10, q10⟩ => ?_
        refine thnF (pe.run _ s10 σ8 H10 _ I10 q10) fun z2 s11 ⟨yv, H11, I11, r11, kvs, k, c, ek, hc11, hD11, hz11, nx⟩ => ?_
        subst ek
        cases (show z = Value.ref c from r10)
        exact put_tup (X := X.blk s3 H3 scope ce fp) hu I11 hD11 hz11 hc11 r11 fun s12 I12 => over I12 nx
  exact codeAny_compStart_dict loop (T.self X.A 0 _ _ _ st4 loop)
end DR

/-! own rules: sorted(d) of a dict whose keys are pairs of ints -/
namespace DR
open PySem PySem.Spec PyProof.Rows L2 PySem.W
/-- the pair that a reference names -/
def keyP (H : Hp) : V → Int × Int
  | .ref t => match H t with
    | some (.tup [.int i, .int j]) => (i, j)
    | _ => (0, 0)
  | _ => (0, 0)
theorem keyP_of {H : Hp} {t : Addr} {i j : Int} (h : H t = some (.tup [.int i, .int j])) : keyP H (.ref t) = (i, j) := by
  show (match H t with | some (.tup [.int i, .int j]) => (i, j) | _ => ((0 : Int), (0 : Int))) = (i, j)
  rw [h]
def rSortedDT : List V → Hp → VK → Prop := fun vs H Q => ∃ (d : Addr) (kvs : List (List Key × V)), vs = [V.ref d] ∧ Rd H d (.dT kvs) ∧ (∀ p ∈ kvs, ∃ i j : Int, p.1 = [.inl i, .inl j]) ∧
  ∀ (bs : List Addr) (ys : List V) (p : Addr), IsKeys H kvs bs → ys.Perm (bs.map V.ref) → ys.Pairwise (fun x y => SrtO.lexB (keyP H y) (keyP H x) = false) → H p = none → Q (.ref p) (upd H p (.lst ys))
theorem isKeys_mem {H : Hp} : ∀ {kvs : List (List Key × V)} {bs : List Addr}, IsKeys H kvs bs → ∀ b ∈ bs, ∃ p ∈ kvs, H b = some (.tup (p.1.map kV))
  | _, _, .nil, b, hb => absurd hb (by simp)
  | p :: kvs, c :: bs, .cons r t, b, hb => by
    rcases List.mem_cons.mp hb with e | hb
    · exact ⟨p, List.mem_cons_self, e ▸ r⟩
    · obtain ⟨q, h1, h2⟩ := isKeys_mem (kvs := kvs) (bs := bs) t b hb
      exact ⟨q, List.mem_cons_of_mem _ h1, h2⟩
theorem cr_sortedDT {X : Cx} (hc : X.calm = true) : CallR X (.builtin "sorted") rSortedDT := by
  intro pins s σ H vs us Q I r h
  obtain ⟨d, kvs, rfl, hd, hkv, q⟩ := h
  obtain ⟨u, rfl, rx⟩ := r.one
  cases rx
  obtain ⟨z, hs, ks, pr, o, es, ep, ho, hx, hdt, he, hn⟩ := (show ObjOk X.prog X.w H s.heap d (.dT kvs) from hd.ok I.hok)
  have l1 : es.size = ks.length := size_of_entries he
  have l2 : kvs.length = ks.length := Paired.length pr
  refine Calls.call_function_entry kind_sorted plain_sorted entry_sorted (args_sorted1 _) ?_
  unfold Builtin.«sorted»
  refine wpAny_bind (m := checkCount "sorted" 1 1 _) (wpAny_pure ?_)
  refine wpAny_bind (kdu_collect (A := X.A.in1) (kdl_raw hs hx hdt) (I.ok.hd hc) ho (by omega) fun h' tk acc hk it => ?_)
  have ea : acc.toList = (ks.map fun x => x.2.1).map Value.ref := by
    rw [List.map_map]
    refine List.ext_getElem? fun j => ?_
    have hl : acc.toList.length = ks.length := by rw [Array.length_toList, it.1]; exact l1
    by_cases hj : j < ks.length
    · have gj : acc[j]? = some (acc[j]'(by rw [← Array.length_toList]; omega)) := Array.getElem?_eq_getElem _
      obtain ⟨en, hen, hv⟩ := it.2 j _ gj
      have qe := entry_at he j
      rw [hen, List.getElem?_eq_getElem hj] at qe
      have e2 : en = entryOfKey (tupleKind (mixKind X.prog X.w)) ks[j] := Option.some.inj qe
      rw [Array.getElem?_toList, gj, hv, e2, List.getElem?_map, List.getElem?_eq_getElem hj]
      rfl
    · rw [List.getElem?_eq_none (by omega), List.getElem?_eq_none (by rw [List.length_map]; omega)]
  have hik := isKeys_of pr
  generalize ks.map (fun x => x.2.1) = bs at ea hik
  have lb : bs.length = ks.length := by
    have := Paired.length hik
    omega
  rw [ea]
  refine wpAny_bind (wpAny_newList ?_ (by rw [List.length_map]; omega))
  have I1 : Inv X pins σ H { s with heap := h', toks := tk } := I.kept hk
  have I2 := I1.laid (t' := tk) (o := .lst (bs.map V.ref)) (h' := h'.push { cls := .type "list", data := .seq (bs.map Value.ref).toArray }) (a := h'.objs.size) (fun b u e => Heap.get?_push_of_some _ e) (Nat.le_refl _)
    ⟨by rw [List.length_map]; omega, bs.map Value.ref, 0, vals_refs bs, Heap.get?_push_size _ rfl⟩
  have nD : H h'.objs.size = none := I1.hok.fresh (Nat.le_refl _)
  have hob : (h'.push { cls := .type "list", data := .seq (bs.map Value.ref).toArray }).get? h'.objs.size = some (seqObj "list" (bs.map Value.ref).toArray 0) := Heap.get?_push_size _ rfl
  have isp : ∀ v ∈ bs.map Value.ref, Srt.IsPair (h'.push { cls := .type "list", data := .seq (bs.map Value.ref).toArray }) v (keyP H (backV v)).1 (keyP H (backV v)).2 := fun v hv => by
    obtain ⟨b, hb, rfl⟩ := List.mem_map.mp hv
    obtain ⟨p, hp, e⟩ := isKeys_mem hik b hb
    obtain ⟨i, j, e2⟩ := hkv p hp
    rw [e2] at e
    have e3 : H b = some (.tup [.int i, .int j]) := e
    have kp : keyP H (backV (Value.ref b)) = (i, j) := keyP_of e3
    rw [kp]
    obtain ⟨_, its2, r2, o2, ho2, hc2, n2, hd2⟩ := I2.hok b _ (by rw [upd_ne (ne_of_none e3 nD)]; exact e3)
    obtain ⟨u1, u2, rfl, ri, rj⟩ := vals2 r2
    obtain ⟨t1, rfl⟩ := ri
    obtain ⟨t2, rfl⟩ := rj
    exact ⟨b, o2, t1, t2, n2, rfl, ho2, hc2, hd2⟩
  have srt : wpAny (model X.prog X.w) X.A.in1 (call (.builtin "list.sort") [.ref h'.objs.size]) (fun _ s' => EP X pins σ Q (.ref h'.objs.size) s') X.xe { s with heap := h'.push { cls := .type "list", data := .seq (bs.map Value.ref).toArray }, toks := tk } := by
    refine wpAny_call_entry PyProof.Rows.slot_list_sort ⟨_, hob, rfl⟩ PyProof.Rows.entry_list_sort
      (SrtO.list_sort_ord (SrtO.swo_lex fun u => keyP H (backV u)) hob (by rw [List.length_map]; omega) (fun h2 => SrtO.pairs_sortableO (by omega) isp fun o' e => ?_) fun out h1 h2 => ⟨.none, rfl, ?_⟩) (PyProof.Rows.args_list_sort _)
    · have e' : some o' = some (seqObj "list" (bs.map Value.ref).toArray 0) := e.symm.trans hob
      cases e'
      intro c
      exact absurd (Value.type.inj c) (by decide)
    · have h3 : ∀ u ∈ out, ∃ a, u = Value.ref a := fun u hu => by
        obtain ⟨b, _, e⟩ := List.mem_map.mp (h2.perm.mem_iff.mp hu)
        exact ⟨b, e.symm⟩
      obtain ⟨ep', he'⟩ := PyProof.Rows.sortedHeap_at (vs := bs.map Value.ref) (out := out.toArray) hob
      have hp : (out.map backV).Perm (bs.map V.ref) := by
        have := h2.perm.map backV
        rw [List.map_map] at this
        exact this
      have I3 : Inv X pins σ (upd (upd H h'.objs.size (.lst (bs.map V.ref))) h'.objs.size (.lst (out.map backV))) { s with heap := PyProof.Rows.sortedHeap (h'.push { cls := .type "list", data := .seq (bs.map Value.ref).toArray }) h'.objs.size (bs.map Value.ref) out.toArray, toks := tk } := by
        refine I2.write (e := h'.objs.size) (t' := tk) (by rw [upd_same]; trivial) (.inl rfl) (fun b u hb hu => ?_) ⟨_, he'⟩ ⟨?_, out, ep', vals_back h3, he'⟩
        · rw [PyProof.Rows.sortedHeap_old hb (Heap.lt_size hu)]
          exact hu
        · rw [hp.length_eq, List.length_map]
          omega
      rw [upd_upd] at I3
      exact ⟨.ref _, _, I3, rfl, q bs _ _ hik hp (List.pairwise_map.mpr (h1.imp fun {x y} e => e)) nD⟩
  exact wpAny_bind (wpAny_holding (wpAny_mono srt (fun _ s' x => wpAny_pure ⟨_, rfl, x⟩) fun _ _ e => e))
end DR

/-! own rules: d.values() and list(d.values()) of a dict whose keys are tuples -/
namespace DR
open PySem PySem.Spec PyProof.Rows L2 PySem.W
/-- the view of d's values at p -/
def valsO (p d : Addr) : HO := .ext fun h => h.IsValuesView p d
theorem valsO_ok {P : Program} {w : World} {H : Hp} {h : Heap} {p d : Addr} (e : h.get? p = some { cls := .type "dict_values", data := .fields #[.ref d] }) : ObjOk P w H h p (valsO p d) :=
  ⟨⟨_, e, rfl, rfl⟩, ⟨_, e⟩, fun h1 h2 x k => let ⟨o, ho, r⟩ := x; ⟨o, k o ho, r⟩⟩
def rValsT : V → List V → Hp → VK → Prop := fun x xs H Q => ∃ (a : Addr) (kvs : List (List Key × V)), x = .ref a ∧ xs = [] ∧ H a = some (.dT kvs) ∧ ∀ p, H p = none → Q (.ref p) (upd H p (valsO p a))
theorem mt_valsT {X : Cx} : MtR X "dict.values" rValsT := by
  intro pins s σ H x xs v us Q I rx rxs h
  obtain ⟨a, kvs, rfl, rfl, ha, q⟩ := h
  cases rx
  cases rxs
  obtain ⟨z, lo, xs', rel, o, es, ep, ho, hx, hdat, _⟩ := dt_of I.hok ha
  have raw : s.heap.DictRaw a es ep := ⟨o, ho, hx, hdat⟩
  refine call_meetsIn PySem.F.slot_dict_values raw.typeIs PySem.F.entry_dict_values (PySem.F.args_dict_values_1 _) (meets_dict_values_raw a lo) ⟨⟨es, ep, raw⟩, ?_⟩
  exact ⟨.ref s.heap.objs.size, upd H s.heap.objs.size (valsO s.heap.objs.size a), I.laid (t' := s.toks) (fun b u e => Heap.get?_push_of_some _ e) (Nat.le_refl _) (valsO_ok (Heap.get?_push_size _ rfl)), rfl, q _ (I.hok.fresh (Nat.le_refl _))⟩
/-- list(view) -/
def rListVals : List V → Hp → VK → Prop := fun xs H Q => ∃ (p a : Addr) (kvs : List (List Key × V)), xs = [.ref p] ∧ H p = some (valsO p a) ∧ H a = some (.dT kvs) ∧ ∀ l, H l = none → Q (.ref l) (upd H l (.lst (kvs.map (·.2))))
theorem vals_snd {H : Hp} : ∀ {kvs : List (List Key × V)} {xs : List (List Key × Addr × Value)}, KT H kvs xs → Vals (kvs.map (·.2)) (xs.map fun x => x.2.2)
  | _, _, .nil => .nil
  | _ :: _, _ :: _, .cons r t => .cons r.2.2 (vals_snd t)
theorem cr_listVals {X : Cx} (hc : X.calm = true) : CallR X (.type "list") rListVals := by
  intro pins s σ H xs us Q I r h
  obtain ⟨p, a, kvs, rfl, hp, ha, q⟩ := h
  obtain ⟨u, rfl, rx⟩ := r.one
  cases rx
  obtain ⟨z, lo, ks, pr, o, es, ep, ho, hx, hdt, he, hn⟩ := (show ObjOk X.prog X.w H s.heap a (.dT kvs) from I.hok a _ ha)
  have hv : s.heap.IsValuesView p a := (I.hok p _ hp).1
  have raw : s.heap.DictRaw a es ep := ⟨o, ho, hx, hdt⟩
  have l1 : es.size = ks.length := size_of_entries he
  have l2 : kvs.length = ks.length := Paired.length pr
  refine kdl_call KdlSrc.rawValues (I.ok.hd hc) ⟨hv, raw⟩ (by omega) fun h' tk acc' c' kp e it => ?_
  have ea : acc'.toList = ks.map fun x => x.2.2 := by
    refine List.ext_getElem? fun j => ?_
    have hl : acc'.toList.length = ks.length := by rw [Array.length_toList, it.1]; exact l1
    by_cases hj : j < ks.length
    · have gj : acc'[j]? = some (acc'[j]'(by rw [← Array.length_toList]; omega)) := Array.getElem?_eq_getElem _
      obtain ⟨hi, hv'⟩ := it.2 j _ gj
      have qe := entry_at he j
      rw [Array.getElem?_eq_getElem hi, List.getElem?_eq_getElem hj] at qe
      have e2 : es[j] = entryOfKey (tupleKind (mixKind X.prog X.w)) ks[j] := Option.some.inj qe
      rw [Array.getElem?_toList, gj, hv', e2, List.getElem?_map, List.getElem?_eq_getElem hj]
      rfl
    · rw [List.getElem?_eq_none (by omega), List.getElem?_eq_none (by rw [List.length_map]; omega)]
  have rv : Vals (kvs.map (·.2)) acc'.toList := by
    rw [ea]
    exact vals_snd pr
  refine ⟨.ref s.heap.objs.size, _, I.laid (t' := tk) (o := .lst (kvs.map (·.2))) kp (Nat.le_refl _) ?_, rfl, q _ (I.hok.fresh (Nat.le_refl _))⟩
  exact ⟨by rw [List.length_map]; omega, acc'.toList, c', rv, by rw [Array.toArray_toList]; exact e⟩
end DR

namespace K1
open PySem PySem.Spec PyProof.Rows L2 Evl LX ZW ZM DM DR
/-! ### deals as dicts -/
def dk (p : Pl) : List Key := [.inl p.1, .inl p.2]
def ent (e : Pl × Int) : List Key × V := (dk e.1, .int e.2)
theorem dk_inj {p q : Pl} (h : dk p = dk q) : p = q := by
  unfold dk at h
  simp only [List.cons.injEq, Sum.inl.injEq, and_true] at h
  exact Prod.ext h.1 h.2
theorem any_ent (ds : Dl) (p : Pl) : ((ds.map ent).any fun kv => decide (kv.1 = dk p)) = ds.any fun e => decide (e.1 = p) := by
  rw [List.any_map]
  congr 1
  funext e
  exact decide_eq_decide.mpr ⟨fun h => dk_inj h, fun h => by show dk e.1 = dk p; rw [h]⟩
theorem putK_ent (ds : Dl) (p : Pl) (v : Int) : putK (ds.map ent) (dk p) (.int v) = (putE ds p v).map ent := by
  unfold putK putE
  rw [any_ent]
  split
  · rw [List.map_map, List.map_map]
    refine List.map_congr_left fun e _ => ?_
    show (if (ent e).1 = dk p then ((ent e).1, V.int v) else ent e) = ent (if e.1 = p then (e.1, v) else e)
    by_cases h : e.1 = p
    · rw [if_pos (show (ent e).1 = dk p by show dk e.1 = dk p; rw [h]), if_pos h]
      rfl
    · rw [if_neg (show ¬ (ent e).1 = dk p from fun z => h (dk_inj z)), if_neg h]
  · rw [List.map_append]
    rfl
theorem valV_ent (p : Pl) : ∀ ds : Dl, valV (ds.map ent) (dk p) = (getE ds p).map V.int
  | [] => rfl
  | e :: r => by
    rw [List.map_cons]
    by_cases h : e.1 = p
    · rw [valV_pos (show (ent e).1 = dk p by show dk e.1 = dk p; rw [h]), getE_pos h]
      rfl
    · rw [valV_neg (show ¬ (ent e).1 = dk p from fun z => h (dk_inj z)), getE_neg h]
      exact valV_ent p r
def DealAt (H : Hp) (a : Addr) (ds : Dl) : Prop := H a = some (.dT (ds.map ent))
/-- a deal that the package takes -/
structure DOk (rs : List (Int × Int)) (ds : Dl) (B : Int) : Prop where
  nk : NK ds
  keys : KIn rs ds
  abs : Ab ds ≤ B
  len : ds.length ≤ 1000
theorem Ex.unlock {H H' : Hp} {d : Addr} {od : Obj} {u : HO} (h : H d = some u) (e : Ex (upd H d (.frz od u)) H') : Ex H (upd H' d u) := fun b o hb => by
  by_cases z : b = d
  · rw [z, upd_same]
    rw [z, h] at hb
    exact hb
  · rw [upd_ne z]
    exact e b o (by rw [upd_ne z]; exact hb)
theorem keep_lock {H : Hp} {d : Addr} {o : HO} : Keep d H (upd H d o) := fun b u n h => by
  rw [upd_ne n]
  exact h
theorem Ex.of_keep {H H' : Hp} {d : Addr} {u : HO} (h : H d = some u) (k : Keep d H H') : Ex H (upd H' d u) := fun b o hb => by
  by_cases z : b = d
  · rw [z, upd_same]
    rw [z, h] at hb
    exact hb
  · rw [upd_ne z]
    exact k b o z hb
section
variable {P : Program} {w : World} {K : PySem.W.Frag} {mg : Str → Option Value} {base : Heap}
def spLiesOn (K : PySem.W.Frag) : Sp := fun vs H Q _ => ∃ c x xs rs p, vs = [.ref c, x] ∧ H c = some (.tup xs) ∧ RingsAt H 60 xs rs ∧ xs.length ≤ 12 ∧ PlaceAt H x p ∧ PlIn rs p ∧ ∀ H', Ex H H' → Q (.bl true) H'
theorem ok_lies_on (T : Txt K mg) {f : Addr} {fd : FuncData} (D : DefAt K mg "lies_on" sLiesOn ["chain", "value"] f fd) : FnOk P w K mg base CX0 3 f fd ["chain", "value"] (spLiesOn K) := by
  refine D.F.ok scLiesOn (fun vs H Q E h => ?_) (fun cdv A outer s₀ H vs Q E hr h => ?_)
  · obtain ⟨c, x, xs, rs, p, rfl, _⟩ := h
    rfl
  · obtain ⟨c, x, xs, rs, ⟨j, q⟩, rfl, hc, hR, hl, hp, hin, k⟩ := h
    obtain ⟨f1, fd1, D1⟩ := T.d_is_pair
    obtain ⟨f2, fd2, D2⟩ := T.d_is_between
    have hr1 : Room 1 _ := hr.mono (by decide)
    obtain ⟨t, rfl, ht⟩ := id hp
    obtain ⟨⟨j0, j1⟩, q0, q1⟩ := hin
    replace j0 : 0 ≤ j := j0
    replace j1 : j < (rs.length : Int) := j1
    replace q0 : 0 ≤ q := q0
    replace q1 : q < (K1N.nAt rs j.toNat : Int) := q1
    obtain ⟨y, hy, hyr⟩ := rings_nth hR (show j.toNat < rs.length by omega)
    have hl2 := paired_len hR
    refine ⟨_, pss_cons (ps_if (pt_not (pt_val (pe_call (ok_is_pair T D1) hr1 (by rfl) D1.g D1.F.kp D1.b .nil pass0 (pa_cons (pv 1) pa_nil)))) (pss_one (ps_ret pe_bl)) pss_nil)
      (pss_cons (ps_asg (pv 1) (pg_tup (by rfl) (pgs_cons (pg_name (i := 2) scLiesOn.nd rfl (.inl rfl)) (pgs_cons (pg_name (i := 3) scLiesOn.nd rfl (.inl rfl)) pgs_nil))))
      (pss_one (ps_ret (pe_and (pe_call (ok_is_between T D2) hr (by rfl) D2.g D2.F.kp D2.b .nil pass0 (pa_cons (pv 2) (pa_cons pe_int (pa_cons (pe_op op_sub (pe_callB call_len_seq (by rfl) T.z_len PySem.boot_len (pa_cons (pv 0) pa_nil)) pe_int) pa_nil))))
        (pe_one (pe_call (ok_is_between T D2) hr (by rfl) D2.g D2.F.kp D2.b .nil pass0 (pa_cons (pv 3) (pa_cons pe_int (pa_cons (pe_op op_sub (pe_ix ix_tup (pe_ix ix_tup (pv 0) (pv 2) (fun _ _ => rfl)) pe_int (fun _ _ => rfl)) pe_int) pa_nil))))))))), ?_⟩
    refine ⟨_, rfl, _, _, rfl, .tup ht, fun H1 e1 => ⟨true, rfl, iteF ?_⟩⟩
    refine ⟨_, rfl, t, _, rfl, SqT.of (e1 _ _ ht), rfl, .int j, [_], rfl, .int q, [], rfl, rfl, ?_⟩
    refine ⟨_, rfl, _, rfl, c, _, rfl, .inr (SqT.of (e1 _ _ hc)), _, _, rfl, rfl, .int j, 0, _, true, rfl, .yes j0 (by omega) (by omega) (by omega), fun H2 e2 => ⟨true, rfl, iteT ?_⟩⟩
    have e12 := e1.trans e2
    obtain ⟨t2, rfl, ht2, b1, b2, b3, b4⟩ := hyr.ex e12
    refine ⟨_, rfl, _, rfl, _, rfl, c, _, j, _, rfl, rfl, SqT.of (e12 _ _ hc), at_of (show j = ((j.toNat : Nat) : Int) by omega) hy, t2, _, 0, .int _, rfl, rfl, SqT.of ht2, rfl, _, _, rfl, rfl, .int q, 0, _, true, rfl, .yes q0 (by omega) (by omega) (by omega), fun H3 e3 => k _ (e12.trans e3)⟩
def spLiesDealt (K : PySem.W.Frag) : Sp := fun vs H Q _ => ∃ c a xs rs ds, vs = [.ref c, .ref a] ∧ H c = some (.tup xs) ∧ RingsAt H 60 xs rs ∧ xs.length ≤ 12 ∧ DealAt H a ds ∧ DOk rs ds (10 ^ 55) ∧ ∀ H', Ex H H' → Q (.bl true) H'
theorem ok_lies_dealt (T : Txt K mg) {f : Addr} {fd : FuncData} (D : DefAt K mg "lies_dealt" sLiesDealt ["chain", "value"] f fd) : FnOk P w K mg base CX0 4 f fd ["chain", "value"] (spLiesDealt K) := by
  refine D.F.ok scLiesDealt (fun vs H Q E h => ?_) (fun cdv A outer s₀ H vs Q E hr h => ?_)
  · obtain ⟨c, a, xs, rs, ds, rfl, _⟩ := h
    rfl
  · obtain ⟨c, a, xs, rs, ds, rfl, hc, hR, hl, ha, hd, k⟩ := h
    obtain ⟨f1, fd1, D1⟩ := T.d_lies_on
    obtain ⟨f2, fd2, D2⟩ := T.d_is_integer
    have hr1 : Room 1 _ := hr.mono (by decide)
    have hu1 := Nat.lt_of_le_of_lt (Nat.add_le_add_left (show 1 ≤ 64 by decide) _) hr.units
    refine ⟨_, pss_cons (ps_if (pt_not (pt_val (pe_callB call_isi (by rfl) T.z_isinstance (by decide +kernel) (pa_cons (pv 1) (pa_cons (pe_bltn (v := .ty "dict") (by rfl) T.z_dict (by decide +kernel) rfl) pa_nil))))) (pss_one (ps_ret pe_bl)) pss_nil)
      (pss_one (ps_ret (pe_lock (pe_callB (cr_all rfl) (by rfl) T.z_all (by decide +kernel) (pa_cons (pe_lc (own := [("place", 2)]) (g := gName 2) (tt := tYes) rfl scLiesDealt.nd (pi_keys (pv 1))
        (blkOk_by (N := nLiesDealt) (sc := defScope sLiesDealt) (by decide +kernel)) (fun _ _ _ _ _ => pg_name (i := 2) scLiesDealt.nd rfl (Or.inl rfl)) (fun _ _ _ _ _ => pts_nil)
        (fun _ _ _ _ _ => pe_and (pe_call (ok_lies_on T D1) hr (by rfl) D1.g D1.F.kp D1.b .nil pass0 (pa_cons (pv 0) (pa_cons (pv 2) pa_nil)))
          (pe_one (pe_call (ok_is_integer T D2) hr1 (by rfl) D2.g D2.F.kp D2.b .nil pass0 (pa_cons (pe_dget hu1 (pv 1) (pv 2) (fun _ _ => rfl)) pa_nil))))) pa_nil))))), ?_⟩
    refine ⟨_, rfl, .ref a, .ty "dict", .type "dict", .type "dict", true, rfl, .ty _, .base (.dT ha), kit_ty (by decide +kernel), true, rfl, iteF ?_⟩
    refine ⟨a, _, ha, trivial, fun od => ?_⟩
    have nca : c ≠ a := ne_of hc ha (by intro z; cases z)
    have hc1 : (upd H a (.frz od (.dT (ds.map ent)))) c = some (.tup xs) := by rw [upd_ne nca]; exact hc
    have kl : Keep a H (upd H a (.frz od (.dT (ds.map ent)))) := keep_lock
    have hR1 : RingsAt (upd H a (.frz od (.dT (ds.map ent)))) 60 xs rs := paired_imp (fun _ _ ⟨t, e, ht, z⟩ => ⟨t, e, by rw [upd_ne (ne_of ht ha (by intro z; cases z))]; exact ht, z⟩) hR
    have ha1 : (upd H a (.frz od (.dT (ds.map ent)))) a = some (.frz od (.dT (ds.map ent))) := upd_same
    refine ⟨_, rfl, a, od, rfl, .inr ⟨_, ha1, fun Dl hD => ?_⟩⟩
    have eun : ∀ H', Ex (upd H a (.frz od (.dT (ds.map ent)))) H' → Ex H (upd H' a (.dT (ds.map ent))) := fun H' e => Ex.unlock ha e
    generalize upd H a (.frz od (.dT (ds.map ent))) = H1 at hc1 hR1 ha1 hD eun ⊢
    refine lc_it walk_keysT (fun i H' => H' Dl = some (.lst ((List.replicate i true).map V.bl)) ∧ Ex H1 H') ⟨upd_same, Ex.new hD⟩ (fun i H' _ hp => hp.2 _ _ ha1) (fun i x H' H2 hi hp hy => ?_) (fun H' hp => ?_)
    · obtain ⟨w1, w2⟩ := hp
      obtain ⟨rfl, ky, v, q, hkv, rfl, hq⟩ := hy
      rw [List.getElem?_map] at hkv
      obtain ⟨e, he, hek⟩ := Option.map_eq_some_iff.mp hkv
      cases hek
      have hem := List.mem_of_getElem? he
      have hpl : PlaceAt H2 (.ref q) e.1 := ⟨q, rfl, hq⟩
      refine ⟨rfl, ?_⟩
      dsimp only [tYes]
      rw [if_pos rfl]
      refine ⟨_, rfl, _, rfl, c, _, xs, rs, e.1, rfl, w2 _ _ hc1, rings_ex4 w2 hR1, hl, hpl, hd.keys e hem, fun H3 e3 => ⟨true, rfl, iteT ?_⟩⟩
      have gv : getE ds e.1 = some e.2 := getE_of hd.nk hem
      have ab := Ab_mem hem
      have ab2 := hd.abs
      refine ⟨_, rfl, _, rfl, a, .int e.2, rfl, .inr ⟨_, dk e.1, q, .inr ⟨od, (w2.trans e3) _ _ ha1⟩, rfl, e3 _ _ hq, ?_⟩, _, true, rfl, ?_, fun H4 e4 => ⟨_, e4 _ _ (e3 _ _ w1), ?_, ?_, Ex.mut ((w2.trans e3).trans e4) hD⟩⟩
      · rw [valV_ent, gv]
        rfl
      · have := IntB.int (K := K) (H := H3) e.2
        rw [decide_eq_true (show -(10 ^ 60) < e.2 by omega), decide_eq_true (show e.2 < 10 ^ 60 by omega)] at this
        exact this
      · rw [List.length_map, List.length_replicate]
        rw [List.length_map] at hi
        have := hd.len
        exact small1000 (by omega)
      · rw [upd_same, List.replicate_succ', List.map_append]
        rfl
    · obtain ⟨w1, w2⟩ := hp
      refine ⟨Dl, List.replicate (ds.map ent).length true, rfl, SqL.of w1, w2 _ _ ha1, ?_⟩
      rw [show (List.replicate (ds.map ent).length true).all id = true by simp]
      exact k _ (eun _ w2)
def spCheckDeal (K : PySem.W.Frag) : Sp := fun vs H Q _ => ∃ c a xs rs ds, vs = [.ref c, .ref a] ∧ H c = some (.tup xs) ∧ RingsAt H 60 xs rs ∧ xs.length ≤ 12 ∧ DealAt H a ds ∧ DOk rs ds (10 ^ 55) ∧ ∀ H', Ex H H' → Q .non H'
theorem ok_check_deal (T : Txt K mg) {f : Addr} {fd : FuncData} (D : DefAt K mg "check_deal" sCheckDeal ["chain", "deal"] f fd) : FnOk P w K mg base CX0 5 f fd ["chain", "deal"] (spCheckDeal K) := by
  refine D.F.ok scCheckDeal (fun vs H Q E h => ?_) (fun cdv A outer s₀ H vs Q E hr h => ?_)
  · obtain ⟨c, a, xs, rs, ds, rfl, _⟩ := h
    rfl
  · obtain ⟨c, a, xs, rs, ds, rfl, hc, hR, hl, ha, hd, k⟩ := h
    obtain ⟨f1, fd1, D1⟩ := T.d_lies_dealt
    refine ⟨_, pss_one (ps_if (pt_not (pt_val (pe_call (ok_lies_dealt T D1) hr (by rfl) D1.g D1.F.kp D1.b .nil pass0 (pa_cons (pv 0) (pa_cons (pv 1) pa_nil))))) pss_never pss_nil), ?_⟩
    exact ⟨_, rfl, _, rfl, c, a, xs, rs, ds, rfl, hc, hR, hl, ha, hd, fun H1 e1 => ⟨true, rfl, iteF (k _ e1)⟩⟩
end
end K1

/-! own walk: a dict comprehension with tuple keys over anything that is walked -/
namespace DR
open PySem PySem.Spec PyProof.Rows L2
theorem dcT_it {J : It} {n : Nat} {G : Hp → Prop} {Y : Nat → Hp → V → Hp → Prop} (w : Walk J n G Y) {g : TG} {tt : TT} {tk tv : TE} {vs : List Nat} {σ : L2.St} {H1 : Hp} {D : Addr} {Qd : Hp → Prop} (Pv : Nat → Hp → Prop) (h0 : Pv 0 (upd H1 D (.dT []))) (hG : ∀ i H, i ≤ n → Pv i H → G H)
    (hs : ∀ i x H H', i < n → Pv i H → Y i H x H' → g x (wipe σ vs) H' fun σ2 H2 => wipe σ2 vs = wipe σ vs ∧ tt σ2 H2 fun b H3 =>
      if b = true then tk σ2 H3 fun y H4 => tv σ2 H4 fun z H5 => ∃ kvs k c, y = .ref c ∧ H5 c = some (.tup (k.map kV)) ∧ H5 D = some (.dT kvs) ∧ kvs.length < sizeLine ∧ Pv (i + 1) (upd H5 D (.dT (putK kvs k z))) else Pv (i + 1) H3) (hd : ∀ H, Pv n H → Qd H) :
    ∃ W : Nat → Nat → Hp → Prop, (∃ m, W 0 m (upd H1 D (.dT []))) ∧ ∀ i m H, W i m H →
      (J.stop i H ∧ Qd H) ∨ (J.go i H ∧ ∃ Nx : Hp → Prop, (∀ H', Nx H' → ∃ m', m' < m ∧ W (i + 1) m' H') ∧ ∀ x H', J.yld i H x H' → g x (wipe σ vs) H' fun σ2 H2 => wipe σ2 vs = wipe σ vs ∧ tt σ2 H2 fun b H3 =>
        if b = true then tk σ2 H3 fun y H4 => tv σ2 H4 fun z H5 => ∃ kvs k c, y = .ref c ∧ H5 c = some (.tup (k.map kV)) ∧ H5 D = some (.dT kvs) ∧ kvs.length < sizeLine ∧ Nx (upd H5 D (.dT (putK kvs k z))) else Nx H3) := by
  refine ⟨fun i m H => m = n - i ∧ i ≤ n ∧ Pv i H, ⟨n, (Nat.sub_zero n).symm, Nat.zero_le _, h0⟩, ?_⟩
  rintro i m H ⟨rfl, hi, p⟩
  by_cases c : i < n
  · exact .inr ⟨w.goes i H c (hG i H hi p), Pv (i + 1), fun H' p' => ⟨n - (i + 1), by omega, rfl, c, p'⟩, fun x H' y => hs i x H H' c p (w.yields i H x H' c (hG i H hi p) y)⟩
  · have e : i = n := by omega
    subst e
    exact .inl ⟨w.stops H (hG i H hi p), hd H p⟩
end DR

namespace K1
open PySem PySem.Spec PyProof.Rows L2 Evl LX ZW ZM DM DR
/-! ### sums of deals -/
abbrev Part := Int × Dl
def Ps (f : Pl → Int) : List Part → Int
  | [] => 0
  | p :: r => p.1 * Sf f p.2 + Ps f r
def Pb : List Part → Int
  | [] => 0
  | p :: r => (p.1.natAbs : Int) * Ab p.2 + Pb r
def Pn : List Part → Nat
  | [] => 0
  | p :: r => p.2.length + Pn r
theorem Ps_snoc (f : Pl → Int) (p : Part) : ∀ l : List Part, Ps f (l ++ [p]) = Ps f l + p.1 * Sf f p.2
  | [] => by
    show p.1 * Sf f p.2 + 0 = 0 + p.1 * Sf f p.2
    omega
  | q :: l => by
    show q.1 * Sf f q.2 + Ps f (l ++ [p]) = q.1 * Sf f q.2 + Ps f l + _
    rw [Ps_snoc f p l]
    omega
theorem Pb_snoc (p : Part) : ∀ l : List Part, Pb (l ++ [p]) = Pb l + (p.1.natAbs : Int) * Ab p.2
  | [] => by
    show (p.1.natAbs : Int) * Ab p.2 + 0 = 0 + (p.1.natAbs : Int) * Ab p.2
    omega
  | q :: l => by
    show (q.1.natAbs : Int) * Ab q.2 + Pb (l ++ [p]) = (q.1.natAbs : Int) * Ab q.2 + Pb l + _
    rw [Pb_snoc p l]
    omega
theorem Pn_snoc (p : Part) : ∀ l : List Part, Pn (l ++ [p]) = Pn l + p.2.length
  | [] => by
    show p.2.length + 0 = 0 + p.2.length
    omega
  | q :: l => by
    show q.2.length + Pn (l ++ [p]) = q.2.length + Pn l + _
    rw [Pn_snoc p l]
    omega
theorem Pn_take (l : List Part) : ∀ i, Pn (l.take i) ≤ Pn l := fun i => by
  induction l generalizing i with
  | nil => simp
  | cons p l ih =>
    cases i with
    | zero => exact Nat.zero_le _
    | succ i =>
      have := ih i
      show p.2.length + Pn (l.take i) ≤ p.2.length + Pn l
      omega
/-- a pair of a count and a deal -/
def PartAt (H : Hp) (x : V) (p : Part) : Prop := ∃ t a, x = .ref t ∧ H t = some (.tup [.int p.1, .ref a]) ∧ DealAt H a p.2
/-- a reading that does not look at the names -/
def Nl (rs : List (Int × Int)) (f : Pl → Int) : Prop := ∀ p, 0 ≤ p.1 → f (wname rs p) = f p
theorem wn_in {rs : List (Int × Int)} (hn : ∀ j, j < rs.length → 0 < K1N.nAt rs j) {p : Pl} (h : PlIn rs p) : PlIn rs (wname rs p) := by
  unfold wname
  by_cases o : K1N.own rs p = true
  · rw [if_pos o]
    exact h
  · rw [if_neg o]
    have o2 : 0 < p.1 := by
      unfold K1N.own at o
      have : 0 < p.1 ∧ p.2 = K1N.sAt rs p.1.toNat := by simpa using o
      exact this.1
    obtain ⟨⟨a, b⟩, _⟩ := h
    have := hn (p.1 - 1).toNat (by omega)
    exact ⟨⟨by show 0 ≤ p.1 - 1; omega, by show p.1 - 1 < _; omega⟩, Int.le_refl 0, by show (0 : Int) < (K1N.nAt rs (p.1 - 1).toNat : Int); omega⟩
theorem rings_pos {H : Hp} {xs : List V} {rs : List (Int × Int)} (h : RingsAt H 60 xs rs) (j : Nat) (hj : j < rs.length) : 0 < K1N.nAt rs j := by
  obtain ⟨x, _, t, _, _, b1, _⟩ := rings_nth h hj
  omega
theorem take_snoc {α : Type} {l : List α} {i : Nat} {x : α} (h : l[i]? = some x) : l.take (i + 1) = l.take i ++ [x] := by
  rw [List.take_add_one, h]
  rfl
theorem abs_mul (c v : Int) : ((c * v).natAbs : Int) = (c.natAbs : Int) * (v.natAbs : Int) := by
  rw [Int.natAbs_mul]
  omega
theorem getD_g0 (ds : Dl) (p : Pl) : ((getE ds p).map V.int).getD (.int 0) = .int (g0 ds p) := by
  unfold g0
  cases getE ds p <;> rfl
theorem put_new {ds : Dl} {p : Pl} {v : Int} (h : ∀ e ∈ ds, e.1 ≠ p) : putE ds p v = ds ++ [(p, v)] := by
  unfold putE
  rw [if_neg]
  intro t
  obtain ⟨e, he, z⟩ := List.any_eq_true.mp t
  exact h e he (of_decide_eq_true z)
theorem keys_ent {H : Hp} : ∀ {ds : Dl} {bs : List Addr}, IsKeys H (ds.map ent) bs → bs.map (fun b => keyP H (.ref b)) = ds.map (·.1) ∧ ∀ b ∈ bs, ∃ p ∈ ds.map (·.1), H b = some (.tup [.int p.1, .int p.2]) ∧ keyP H (.ref b) = p
  | [], _, .nil => ⟨rfl, fun b hb => absurd hb (by simp)⟩
  | e :: ds, b :: bs, .cons r t => by
    obtain ⟨h1, h2⟩ := keys_ent (ds := ds) (bs := bs) t
    have hb : H b = some (.tup [.int e.1.1, .int e.1.2]) := r
    have kb : keyP H (.ref b) = e.1 := keyP_of hb
    refine ⟨by rw [List.map_cons, List.map_cons, kb, h1], fun c hc => ?_⟩
    rcases List.mem_cons.mp hc with q | q
    · subst q
      exact ⟨e.1, List.mem_cons_self, hb, kb⟩
    · obtain ⟨p, hp, z⟩ := h2 c q
      exact ⟨p, List.mem_cons_of_mem _ hp, z⟩
theorem rings_keepD {H H' : Hp} {a : Addr} {kvs : List (List Key × V)} {xs : List V} {rs : List (Int × Int)} (ha : H a = some (.dT kvs)) (k : Keep a H H') (h : RingsAt H 60 xs rs) : RingsAt H' 60 xs rs :=
  paired_imp (fun _ _ ⟨t, e, ht, z⟩ => ⟨t, e, k _ _ (ne_of ht ha (by intro y; cases y)) ht, z⟩) h
section
variable {P : Program} {w : World} {K : PySem.W.Frag} {mg : Str → Option Value} {base : Heap}
def spCombined : Sp := fun vs H Q _ => ∃ c l xs rs zs, ∃ parts : List Part, vs = [.ref c, .ref l] ∧ H c = some (.tup xs) ∧ RingsAt H 60 xs rs ∧ H l = some (.lst zs) ∧ Paired (PartAt H) zs parts ∧ (∀ p ∈ parts, NK p.2 ∧ KIn rs p.2 ∧ p.1.natAbs < 2 ^ 300 ∧ Ab p.2 < 2 ^ 300) ∧ Pn parts ≤ 1000 ∧
  ∀ r H' res, Ex H H' → DealAt H' r res → NK res → KIn rs res → Ab res ≤ Pb parts → res.length ≤ Pn parts → (∀ f, Nl rs f → Sf f res = Ps f parts) → Q (.ref r) H'
theorem ok_combined (T : Txt K mg) {f : Addr} {fd : FuncData} (D : DefAt K mg "combined" sCombined ["chain", "parts"] f fd) : FnOk P w K mg base CX0 2 f fd ["chain", "parts"] spCombined := by
  refine D.F.ok scCombined (fun vs H Q E h => ?_) (fun cdv A outer s₀ H vs Q E hr h => ?_)
  · obtain ⟨c, l, xs, rs, zs, parts, rfl, _⟩ := h
    rfl
  · obtain ⟨c, l, xs, rs, zs, parts, rfl, hc, hR, hl, hP, hok, hpn, k⟩ := h
    obtain ⟨f1, fd1, D1⟩ := T.d_written_name
    have hu1 := Nat.lt_of_le_of_lt (Nat.add_le_add_left (show 1 ≤ 64 by decide) _) hr.units
    refine ⟨_, pss_cons (ps_set (i := 2) scCombined.nd rfl (.inr rfl) pe_dnewT)
      (pss_cons (ps_for PassesOwn.never rfl (pi_list (pv 1)) (pg_tup (by rfl) (pgs_cons (pg_name (i := 3) scCombined.nd rfl (.inl rfl)) (pgs_cons (pg_name (i := 4) scCombined.nd rfl (.inl rfl)) pgs_nil)))
        (pss_one (ps_lock (ps_for PassesOwn.never rfl (pi_keys (pv 4)) (pg_name (i := 5) scCombined.nd rfl (.inl rfl))
          (pss_cons (ps_set (i := 6) scCombined.nd rfl (.inl rfl) (pe_call (ok_written_name T D1) hr (by rfl) D1.g D1.F.kp D1.b .nil pass0 (pa_cons (pv 0) (pa_cons (pv 5) pa_nil))))
          (pss_one (ps_dput hu1 (pv 2) (pv 6) (pe_op op_add (pe_dget2 hu1 (pv 2) (pv 6) pe_int ⟨rfl, rfl, rfl, rfl⟩) (pe_op op_mulW (pv 3) (pe_dget hu1 (pv 4) (pv 5) (fun _ _ => rfl)))) rfl)))))))
      (pss_one (ps_ret (pe_dcT (own := [("name", 6)]) (g := gName 6) rfl hr.units0 scCombined.nd (pi_list (pe_callB (cr_sortedDT rfl) (by rfl) T.z_sorted (by decide +kernel) (pa_cons (pv 2) pa_nil)))
        (blkOk_by (N := nCombined) (sc := defScope sCombined) (by decide +kernel)) (fun _ _ _ _ _ => pg_name (i := 6) scCombined.nd rfl (Or.inl rfl))
        (fun _ _ _ _ _ => pts_one (pt_cmpR op_ne (pe_dget hu1 (pv 2) (pv 6) (fun _ _ => rfl)) pe_int (nomark _)))
        (fun _ _ _ _ _ => pv 6) (fun _ _ _ _ _ => pe_dget hu1 (pv 2) (pv 6) (fun _ _ => rfl)))))), ?_⟩
    intro sd hsd
    have e0 := Ex.new (o := .dT []) hsd
    refine ⟨_, rfl, l, rfl, ⟨_, SqL.of (e0 _ _ hl)⟩, for_list (K := K) (a := l) (xs := zs) (fun i σ' H' => ∃ (y3 y4 y5 y6 : Option V) (cur : Dl), σ' = [some (.ref c), some (.ref l), some (.ref sd), y3, y4, y5, y6] ∧ DealAt H' sd cur ∧ NK cur ∧ KIn rs cur ∧ Ab cur ≤ Pb (parts.take i) ∧ cur.length ≤ Pn (parts.take i) ∧ (∀ f, Nl rs f → Sf f cur = Ps f (parts.take i)) ∧ Ex H H')
      ⟨none, none, none, none, [], rfl, upd_same, List.nodup_nil, fun e he => absurd he (by simp), Int.le_refl 0, Nat.le_refl 0, fun f _ => rfl, e0⟩ (fun i σ' H' _ hW => ?_) (fun i x σ' H' hx hW => ?_) (fun σ' H' hW => ?_)⟩
    · obtain ⟨_, _, _, _, _, _, _, _, _, _, _, _, e⟩ := hW
      exact SqL.of (e _ _ hl)
    · obtain ⟨y3, y4, y5, y6, cur, rfl, w1, w2, w3, w4, w5, w6, w7⟩ := hW
      obtain ⟨⟨cnt, ds⟩, hpi, t, a, rfl, ht, ha⟩ := paired_get hP hx
      obtain ⟨nk, kin, cb, ab⟩ := hok _ (List.mem_of_getElem? hpi)
      replace ha : DealAt H a ds := ha
      replace nk : NK ds := nk
      replace kin : KIn rs ds := kin
      replace cb : cnt.natAbs < 2 ^ 300 := cb
      replace ab : Ab ds < 2 ^ 300 := ab
      have htk := take_snoc hpi
      have nsa : sd ≠ a := fun z => by
        rw [z, ha] at hsd
        cases hsd
      refine ⟨t, _, rfl, SqT.of (w7 _ _ ht), rfl, .int cnt, [_], rfl, .ref a, [], rfl, rfl, ?_⟩
      refine ⟨a, _, w7 _ _ ha, trivial, fun od => ?_⟩
      have k0 : Keep a H (upd H' a (.frz od (.dT (ds.map ent)))) := (Keep.ex w7).trans keep_lock
      have s0 : DealAt (upd H' a (.frz od (.dT (ds.map ent)))) sd cur := by
        show upd H' a _ sd = _
        rw [upd_ne nsa]
        exact w1
      refine ⟨_, rfl, a, od, rfl, .inr ⟨_, upd_same, for_it walk_keysT (fun k σ2 H2 => ∃ (z5 z6 : Option V) (cur2 : Dl), σ2 = [some (.ref c), some (.ref l), some (.ref sd), some (.int cnt), some (.ref a), z5, z6] ∧ DealAt H2 sd cur2 ∧ NK cur2 ∧ KIn rs cur2 ∧ Ab cur2 ≤ Ab cur + (cnt.natAbs : Int) * Ab (ds.take k) ∧ cur2.length ≤ cur.length + k ∧
          (∀ f, Nl rs f → Sf f cur2 = Sf f cur + cnt * Sf f (ds.take k)) ∧ H2 a = some (.frz od (.dT (ds.map ent))) ∧ Keep a H H2)
        ⟨y5, y6, cur, rfl, s0, w2, w3, by show Ab cur ≤ Ab cur + (cnt.natAbs : Int) * 0; omega, Nat.le_refl _, fun f _ => by show _ = Sf f cur + cnt * 0; omega, upd_same, k0⟩ (fun k σ2 H2 _ hW => ?_) (fun k x σ2 H2 H3 hk hW hy => ?_) (fun σ2 H2 hW => ?_)⟩⟩
      · obtain ⟨_, _, _, _, _, _, _, _, _, _, fz, _⟩ := hW
        exact fz
      · obtain ⟨z5, z6, cur2, rfl, v1, v2, v3, v4, v5, v6, v7, v8⟩ := hW
        obtain ⟨rfl, ky, v, q, hkv, rfl, hq⟩ := hy
        rw [List.getElem?_map] at hkv
        obtain ⟨e, he, hek⟩ := Option.map_eq_some_iff.mp hkv
        cases hek
        have hem := List.mem_of_getElem? he
        have hin := kin e hem
        have hpl : PlaceAt H3 (.ref q) e.1 := ⟨q, rfl, hq⟩
        have hc3 : H3 c = some (.tup xs) := v8 _ _ (ne_of hc ha (by intro y; cases y)) hc
        have hR3 := rings_keepD ha v8 hR
        have gv : getE ds e.1 = some e.2 := getE_of nk hem
        have hdk := take_snoc he
        refine ⟨_, rfl, _, rfl, c, xs, rs, .ref q, e.1, rfl, hc3, hR3, hpl, hin.1.1, hin.1.2, fun y H4 e4 hy4 => ?_⟩
        obtain ⟨t4, rfl, ht4⟩ := hy4
        replace ht4 : H4 t4 = some (.tup ((dk (wname rs e.1)).map kV)) := ht4
        have s4 : DealAt H4 sd cur2 := e4 _ _ v1
        have f4 := e4 _ _ v7
        have vb : e.2.natAbs < 2 ^ 300 := by
          have := Ab_mem hem
          have := Ab_nonneg ds
          omega
        have hl4 : (cur2.map ent).length < sizeLine := by
          rw [List.length_map]
          have hlen := Pn_take parts i
          have hlen2 := Pn_take parts (i + 1)
          rw [htk, Pn_snoc] at hlen2
          have : k < ds.length := by
            rw [List.length_map] at hk
            exact hk
          replace hlen2 : Pn (parts.take i) + ds.length ≤ Pn parts := hlen2
          exact small1000 (by omega)
        refine ⟨_, rfl, sd, rfl, .inr ⟨_, .inl s4⟩, _, rfl, _, DGet.t s4 ht4, _, rfl, _, rfl, _, rfl, a, .int e.2, rfl, .inr ⟨_, dk e.1, q, .inr ⟨od, f4⟩, rfl, e4 _ _ hq, by rw [valV_ent, gv]; rfl⟩, cnt, e.2, rfl, rfl, wide_mul (a := 300) (b := 300) cb vb (by decide) (by decide) (by decide), g0 cur2 (wname rs e.1), cnt * e.2, by rw [valV_ent]; exact getD_g0 _ _, rfl, _, rfl, _, rfl, sd, _, rfl, DPut.t (k := dk (wname rs e.1)) s4 ht4 hl4, ?_⟩
        obtain ⟨_, pa⟩ := put_sum (f := one) (p := wname rs e.1) (x := cnt * e.2) v2
        refine ⟨_, _, putE cur2 (wname rs e.1) (g0 cur2 (wname rs e.1) + cnt * e.2), rfl, ?_, put_nk v2, ?_, ?_, ?_, ?_, ?_, ?_⟩
        · show upd H4 sd _ sd = _
          rw [upd_same]
          dsimp only
          rw [putK_ent]
        · intro d hd
          rcases put_keys d hd with h1 | ⟨d2, h1, h2⟩
          · rw [h1]
            exact wn_in (fun j hj => rings_pos hR j hj) hin
          · rw [← h2]
            exact v3 d2 h1
        · rw [hdk, Ab_append, Int.mul_add]
          have a1 := abs_mul cnt e.2
          have a2 : Ab [e] = (e.2.natAbs : Int) + 0 := rfl
          rw [a2, Int.add_zero]
          omega
        · have := put_len cur2 (wname rs e.1) (g0 cur2 (wname rs e.1) + cnt * e.2)
          omega
        · intro f hf
          obtain ⟨ps, _⟩ := put_sum (f := f) (p := wname rs e.1) (x := cnt * e.2) v2
          rw [ps, v6 f hf, hf e.1 hin.1.1, hdk, Sf_append, Int.mul_add]
          have a2 : Sf f [e] = f e.1 * e.2 + 0 := rfl
          rw [a2, Int.add_zero, Int.mul_left_comm]
          omega
        · rw [upd_ne nsa.symm]
          exact f4
        · exact (v8.trans (Keep.ex e4)).mut hsd
      · obtain ⟨z5, z6, cur2, rfl, v1, v2, v3, v4, v5, v6, v7, v8⟩ := hW
        rw [List.length_map] at v4 v5 v6
        rw [List.take_length] at v4 v6
        refine ⟨v7, _, _, _, _, cur2, rfl, ?_, v2, v3, ?_, ?_, fun f hf => ?_, Ex.of_keep ha v8⟩
        · show upd H2 a _ sd = _
          rw [upd_ne nsa]
          exact v1
        · rw [htk, Pb_snoc]
          show _ ≤ _ + (cnt.natAbs : Int) * Ab ds
          omega
        · rw [htk, Pn_snoc]
          show _ ≤ _ + ds.length
          omega
        · rw [htk, Ps_snoc, v6 f hf, w6 f hf]
    · obtain ⟨y3, y4, y5, y6, cur, rfl, w1, w2, w3, w4, w5, w6, w7⟩ := hW
      have hzp := paired_len hP
      rw [hzp, List.take_length] at w4 w5 w6
      refine ⟨_, rfl, sd, cur.map ent, rfl, .inl w1, fun kv hkv => ?_, fun bs ys p hik hperm _ hp => ?_⟩
      · obtain ⟨e, _, rfl⟩ := List.mem_map.mp hkv
        exact ⟨e.1.1, e.1.2, rfl⟩
      · obtain ⟨kb, hbs⟩ := keys_ent hik
        have hks : (ys.map (keyP H')).Perm (cur.map (·.1)) := by
          have := hperm.map (keyP H')
          rw [List.map_map] at this
          rw [← kb]
          exact this
        have hnd : (ys.map (keyP H')).Nodup := hks.nodup_iff.mpr w2
        have e6 := Ex.new (o := .lst ys) hp
        have s6 := e6 _ _ w1
        have g6 : (upd H' p (.lst ys)) p = some (.lst ys) := upd_same
        have hyk : ∀ y ∈ ys, ∃ b, y = .ref b ∧ H' b = some (.tup ((dk (keyP H' y)).map kV)) ∧ keyP H' y ∈ cur.map (·.1) := fun y hy => by
          obtain ⟨b, hb, rfl⟩ := List.mem_map.mp (hperm.mem_iff.mp hy)
          obtain ⟨pp, h1, h2, h3⟩ := hbs b hb
          rw [h3]
          exact ⟨b, rfl, h2, h1⟩
        generalize upd H' p (.lst ys) = H6 at e6 s6 g6 ⊢
        refine ⟨p, rfl, ⟨_, SqL.of g6⟩, fun Dl hD => ?_⟩
        have nDs : sd ≠ Dl := ne_of_none s6 hD
        refine dcT_it (walk_list (K := K) (a := p) (xs := ys)) (fun i H2 => DealAt H2 Dl (told cur ((ys.map (keyP H')).take i)) ∧ Ex H6 H2) ⟨upd_same, Ex.new hD⟩ (fun i H2 _ hp2 => SqL.of (hp2.2 _ _ g6)) (fun i x H2 H3 hi hp2 hy => ?_) (fun H2 hp2 => ?_)
        · obtain ⟨v1, v2⟩ := hp2
          obtain ⟨rfl, hx⟩ := hy
          obtain ⟨b, rfl, hb, hin⟩ := hyk x (List.mem_of_getElem? hx)
          have hkx : (ys.map (keyP H'))[i]? = some (keyP H' (.ref b)) := by
            rw [List.getElem?_map, hx]
            rfl
          have htk := take_snoc hkx
          generalize keyP H' (.ref b) = kp at hb hin hkx htk
          have hb3 := (e6.trans v2) _ _ hb
          have s3 := v2 _ _ s6
          obtain ⟨e, hem, hek⟩ := List.mem_map.mp hin
          have gk : getE cur kp = some (g0 cur kp) := by
            rw [← hek]
            unfold g0
            rw [getE_of w2 (p := e.1) (v := e.2) hem]
            rfl
          have gv : valV (cur.map ent) (dk kp) = some (V.int (g0 cur kp)) := by
            rw [valV_ent, gk]
            rfl
          refine ⟨rfl, _, rfl, _, rfl, sd, .int (g0 cur kp), rfl, by have := DGet.t s3 hb3; rw [gv] at this; exact this, rfl, _, rfl, ite2 (fun cc => ?_) (fun cc => ?_)⟩
          · have nz : ¬ g0 cur kp = 0 := fun z => by
              rw [z] at cc
              exact absurd cc (by decide)
            have tl : (told cur ((ys.map (keyP H')).take i)).length ≤ 1000 := by
              unfold told
              have a1 := List.length_filter_le (fun e : Pl × Int => !decide (e.2 = 0)) ((((ys.map (keyP H')).take i)).map fun k => (k, g0 cur k))
              have a2 := hks.length_eq
              simp only [List.length_map, List.length_take] at a1 a2
              omega
            refine ⟨_, rfl, _, rfl, _, rfl, sd, .int (g0 cur kp), rfl, by have := DGet.t s3 hb3; rw [gv] at this; exact this, _, dk kp, b, rfl, hb3, v1, by rw [List.length_map]; exact small1000 tl, ?_, Ex.mut v2 hD⟩
            show upd H3 Dl _ Dl = _
            rw [upd_same, putK_ent, htk, told_snoc, if_neg nz, put_new]
            intro d hd z
            have h1 := told_keys d hd
            rw [z] at h1
            have h2 := hnd.sublist (List.take_sublist (i + 1) _)
            rw [htk] at h2
            exact (List.nodup_append.mp h2).2.2 _ h1 _ (List.mem_singleton.mpr rfl) rfl
          · have zz : g0 cur kp = 0 := by
              by_cases z : g0 cur kp = 0
              · exact z
              · exfalso
                apply cc
                rw [decide_eq_false (fun y => z (V.int.inj y))]
                rfl
            refine ⟨?_, v2⟩
            rw [htk, told_snoc, if_pos zz, List.append_nil]
            exact v1
        · obtain ⟨v1, v2⟩ := hp2
          rw [List.take_of_length_le (by rw [List.length_map]; exact Nat.le_refl _)] at v1
          refine k Dl H2 _ (w7.trans (e6.trans v2)) v1 (told_nk hnd) (fun e he => ?_) (Int.le_trans (told_abs w2 hks) w4) ?_ fun f hf => (told_sum w2 hks).trans (w6 f hf)
          · obtain ⟨d, hd, z⟩ := List.mem_map.mp (hks.mem_iff.mp (told_keys e he))
            rw [← z]
            exact w3 d hd
          · unfold told
            have a1 := List.length_filter_le (fun e : Pl × Int => !decide (e.2 = 0)) ((ys.map (keyP H')).map fun k => (k, g0 cur k))
            rw [List.length_map] at a1
            have a2 := hks.length_eq
            rw [List.length_map] at a2
            rw [List.length_map] at a1
            rw [List.length_map] at a2
            omega
end
end K1

/-! own rule: {k: v}, one pair, the key a tuple -/
namespace DR
open PySem PySem.Spec PyProof.Rows L2
def tDisp1T (tk tv : TE) : TE := fun σ H Q => ∀ p, H p = none → tk σ (upd H p (.dT [])) fun x H1 => tv σ H1 fun y H2 => ∃ b ky, x = .ref b ∧ H2 b = some (.tup (ky.map kV)) ∧ H2 p = some (.dT []) ∧ Q (.ref p) (upd H2 p (.dT [(ky, y)]))
theorem pe_disp1T {X : Cx} {pos : Pos} {k v : Expr} {tk tv : TE} (hu : X.A.units < cLine) (hk : PE X k tk) (hv : PE X v tv) : PE X (.Dict [some k] [v] pos) (tDisp1T tk tv) := by
  refine ⟨fun pins s σ H Q I q => ?_⟩
  have hn := I.hok.fresh (Nat.le_refl s.heap.objs.size)
  have I1 := I.laid (a := s.heap.objs.size) (o := .dT []) (h' := s.heap.push { cls := .type "dict", data := .dict #[] }) (t' := s.toks) (fun _ _ q => Heap.get?_push_of_some _ q) (Nat.le_refl _) (dt_empty s.heap I.big)
  have sh : (evalEachOpt [some k] X.env).zip ((evalEach [v] X.env).map fun u => do let x ← u; standAt pos; pure x) = [(eval k X.env, do let x ← eval v X.env; standAt pos; pure x)].map fun p => (some p.1, p.2) := rfl
  rw [arm_eval_Dict, sh, dictDisplay_pairs _ (by simp) (by show (1 : Nat) < 17; decide)]
  refine wpAny_bind (wpAny_standAt (wpAny_bind (wpAny_subDictH (knd := tupleKind (mixKind X.prog X.w)) (Q := fun d s' => wpAny (model X.prog X.w) X.A (pure (Value.ref d)) (EP X pins σ Q) X.xe s') hu (by show (1 : Nat) ≤ 15; decide) ?_)))
  have run := (pps_cons (pos := pos) hk hv pps_nil).run pins { s with heap := s.heap.push { cls := .type "dict", data := .dict #[] } } σ (upd H s.heap.objs.size (.dT [])) (fun ps H2 => match ps with
    | [(x, y)] => ∃ b ky, x = .ref b ∧ H2 b = some (.tup (ky.map kV)) ∧ H2 s.heap.objs.size = some (.dT []) ∧ Q (.ref s.heap.objs.size) (upd H2 s.heap.objs.size (.dT [(ky, y)]))
    | _ => False) I1 (q s.heap.objs.size hn)
  refine thn run fun ws s2 ⟨ps, H2, I2, rel, z⟩ => ?_
  cases rel with
  | nil => exact z.elim
  | @cons a w0 as ws' h t =>
    obtain ⟨x, y⟩ := a
    cases t with
    | cons h' t' => exact z.elim
    | nil =>
      obtain ⟨b, ky, ex, hb, hD, q2⟩ := z
      subst ex
      obtain ⟨w1, w2⟩ := w0
      obtain ⟨h1, h2⟩ := h
      cases (show w1 = Value.ref b from h1)
      obtain ⟨_, lo, xs, rel0, dd⟩ := dt_of I2.hok hD
      cases rel0
      refine ⟨[(ky, b, w2)], ⟨rfl, rfl, key_of I2.hok hb, trivial⟩, dd, fun h' tk dd' hs => wpAny_pure ?_⟩
      obtain ⟨qo, es, ep, hq, g2, g3, g4, _, g5⟩ := dd'
      have kt : KT (upd H2 s.heap.objs.size (.dT [(ky, y)])) [(ky, y)] (storedAllH [] [(ky, b, w2)]) := by
        refine .cons ⟨rfl, ?_, h2⟩ .nil
        rw [upd_ne (ne_of hb hD (fun z => nomatch z))]
        exact hb
      have ok : ObjOk X.prog X.w (upd H2 s.heap.objs.size (.dT [(ky, y)])) h' s.heap.objs.size (.dT [(ky, y)]) := ⟨by show 1 ≤ sizeLine; decide, lo, _, kt, qo, es, ep, hq, g2, g3, g4, g5⟩
      exact ⟨.ref s.heap.objs.size, _, d_write I2 (by rw [hD]; exact True.intro) hs ⟨qo, hq⟩ ok, rfl, q2⟩
end DR

set_option exponentiation.threshold 400
namespace K1
open PySem PySem.Spec PyProof.Rows L2 Evl LX ZW ZM DM DR
theorem DOk.mono {rs : List (Int × Int)} {ds : Dl} {B B' : Int} (h : DOk rs ds B) (hb : B ≤ B') : DOk rs ds B' := ⟨h.nk, h.keys, Int.le_trans h.abs hb, h.len⟩
section
variable {P : Program} {w : World} {K : PySem.W.Frag} {mg : Str → Option Value} {base : Heap}
def spToldSum : Sp := fun vs H Q _ => ∃ c l xs rs zs, ∃ parts : List Part, vs = [.ref c, .ref l] ∧ H c = some (.tup xs) ∧ RingsAt H 60 xs rs ∧ H l = some (.lst zs) ∧ Paired (PartAt H) zs parts ∧ (∀ p ∈ parts, NK p.2 ∧ KIn rs p.2 ∧ p.1.natAbs < 2 ^ 300 ∧ Ab p.2 < 2 ^ 300) ∧ Pn parts ≤ 1000 ∧ Pb parts ≤ 10 ^ 55 ∧
  ∀ r H' res, Ex H H' → DealAt H' r res → DOk rs res (Pb parts) → res.length ≤ Pn parts → (∀ f, Nl rs f → Sf f res = Ps f parts) → Q (.ref r) H'
theorem ok_told_sum (T : Txt K mg) {f : Addr} {fd : FuncData} (D : DefAt K mg "told_sum" sToldSum ["chain", "parts"] f fd) : FnOk P w K mg base CX0 3 f fd ["chain", "parts"] spToldSum := by
  refine D.F.ok scToldSum (fun vs H Q E h => ?_) (fun cdv A outer s₀ H vs Q E hr h => ?_)
  · obtain ⟨c, l, xs, rs, zs, parts, rfl, _⟩ := h
    rfl
  · obtain ⟨c, l, xs, rs, zs, parts, rfl, hc, hR, hl, hP, hok, hpn, hpb, k⟩ := h
    obtain ⟨f1, fd1, D1⟩ := T.d_combined
    obtain ⟨f2, fd2, D2⟩ := T.d_check_digits
    refine ⟨_, pss_cons (ps_set (i := 2) scToldSum.nd rfl (.inl rfl) (pe_call (ok_combined T D1) hr (by rfl) D1.g D1.F.kp D1.b .nil pass0 (pa_cons (pv 0) (pa_cons (pv 1) pa_nil))))
      (pss_cons (ps_expr (pe_call (ok_check_digits T D2) hr (by rfl) D2.g D2.F.kp D2.b .nil pass0 (pa_cons (pe_callTy (cr_listVals rfl) (by rfl) T.z_list (by decide +kernel) (pa_cons (pe_bm0 PySem.F.plainAttrs_dict PySem.F.slot_dict_values PySem.F.type_dict_values mt_valsT (pv 2)) pa_nil)) pa_nil)))
      (pss_one (ps_ret (pv 2)))), ?_⟩
    refine ⟨_, rfl, _, rfl, c, l, xs, rs, zs, parts, rfl, hc, hR, hl, hP, hok, hpn, fun r H1 res e1 hr1 nk kin hab hln hf => ?_⟩
    refine ⟨_, rfl, .inr (.inr (.inl ⟨rfl, .inr ⟨_, hr1⟩⟩)), r, _, rfl, rfl, hr1, fun p hp => ?_⟩
    have e2 := Ex.new (o := valsO p r) hp
    refine ⟨p, r, _, rfl, upd_same, e2 _ _ hr1, fun l2 hl2 => ?_⟩
    have e3 := e2.trans (Ex.new (o := .lst ((res.map ent).map (·.2))) hl2)
    have gv : (upd (upd H1 p (valsO p r)) l2 (.lst ((res.map ent).map (·.2)))) l2 = some (.lst ((res.map (·.2)).map V.int)) := by
      rw [upd_same, List.map_map, List.map_map]
      rfl
    refine ⟨l2, res.map (·.2), rfl, gv, by rw [List.length_map]; omega, fun z hz => ?_, fun H2 e4 => ?_⟩
    · obtain ⟨e, he, rfl⟩ := List.mem_map.mp hz
      have := Ab_mem he
      constructor <;> omega
    · exact ⟨_, rfl, k r H2 res ((e1.trans e3).trans e4) ((e3.trans e4) _ _ hr1) ⟨nk, kin, hab, by omega⟩ hln hf⟩
def spCheckDeals (K : PySem.W.Frag) : Sp := fun vs H Q _ => ∃ c a b xs rs ds es, vs = [.ref c, .ref a, .ref b] ∧ H c = some (.tup xs) ∧ RingsAt H 60 xs rs ∧ (1 ≤ xs.length ∧ xs.length ≤ 12) ∧ DealAt H a ds ∧ DealAt H b es ∧ DOk rs ds (10 ^ 55) ∧ DOk rs es (10 ^ 55) ∧ ∀ H', Ex H H' → Q .non H'
theorem ok_check_deals (T : Txt K mg) {f : Addr} {fd : FuncData} (D : DefAt K mg "check_deals" sCheckDeals ["chain", "one", "other"] f fd) : FnOk P w K mg base CX0 6 f fd ["chain", "one", "other"] (spCheckDeals K) := by
  refine D.F.ok scCheckDeals (fun vs H Q E h => ?_) (fun cdv A outer s₀ H vs Q E hr h => ?_)
  · obtain ⟨c, a, b, xs, rs, ds, es, rfl, _⟩ := h
    rfl
  · obtain ⟨c, a, b, xs, rs, ds, es, rfl, hc, hR, hl, ha, hb, hda, hdb, k⟩ := h
    obtain ⟨f1, fd1, D1⟩ := T.d_check_chain
    obtain ⟨f2, fd2, D2⟩ := T.d_check_deal
    refine ⟨_, pss_cons (ps_expr (pe_call (ok_check_chain T D1) hr (by rfl) D1.g D1.F.kp D1.b .nil pass0 (pa_cons (pv 0) pa_nil)))
      (pss_cons (ps_expr (pe_call (ok_check_deal T D2) hr (by rfl) D2.g D2.F.kp D2.b .nil pass0 (pa_cons (pv 0) (pa_cons (pv 1) pa_nil))))
      (pss_one (ps_expr (pe_call (ok_check_deal T D2) hr (by rfl) D2.g D2.F.kp D2.b .nil pass0 (pa_cons (pv 0) (pa_cons (pv 2) pa_nil)))))), ?_⟩
    refine ⟨_, rfl, .ref c, rfl, rings_chain4 hR hc hl.1 hl.2, fun H1 e1 => ?_⟩
    refine ⟨_, rfl, _, rfl, c, a, xs, rs, ds, rfl, e1 _ _ hc, rings_ex4 e1 hR, hl.2, e1 _ _ ha, hda, fun H2 e2 => ?_⟩
    have e12 := e1.trans e2
    exact ⟨_, rfl, _, rfl, c, b, xs, rs, es, rfl, e12 _ _ hc, rings_ex4 e12 hR, hl.2, e12 _ _ hb, hdb, fun H3 e3 => k _ (e12.trans e3)⟩
/-- two deals put together, the other one so many times -/
def spTwo (sg : Int) : Sp := fun vs H Q _ => ∃ c a b xs rs ds es B, vs = [.ref c, .ref a, .ref b] ∧ H c = some (.tup xs) ∧ RingsAt H 60 xs rs ∧ (1 ≤ xs.length ∧ xs.length ≤ 12) ∧ DealAt H a ds ∧ DealAt H b es ∧ DOk rs ds B ∧ DOk rs es B ∧ 2 * B ≤ 10 ^ 55 ∧ ds.length + es.length ≤ 1000 ∧
  ∀ r H' res, Ex H H' → DealAt H' r res → DOk rs res (2 * B) → res.length ≤ ds.length + es.length → (∀ f, Nl rs f → Sf f res = Sf f ds + sg * Sf f es) → Q (.ref r) H'
theorem DOk.raw {rs : List (Int × Int)} {ds : Dl} {B : Int} (h : DOk rs ds B) (hb : B ≤ 10 ^ 55) : NK ds ∧ KIn rs ds ∧ Ab ds < 2 ^ 300 := by
  refine ⟨h.nk, h.keys, ?_⟩
  have := h.abs
  have : (10 : Int) ^ 50 < 2 ^ 300 := by decide
  omega
theorem ok_added (T : Txt K mg) {f : Addr} {fd : FuncData} (D : DefAt K mg "added" sAdded ["chain", "one", "other"] f fd) : FnOk P w K mg base CX0 7 f fd ["chain", "one", "other"] (spTwo 1) := by
  refine D.F.ok scAdded (fun vs H Q E h => ?_) (fun cdv A outer s₀ H vs Q E hr h => ?_)
  · obtain ⟨c, a, b, xs, rs, ds, es, B, rfl, _⟩ := h
    rfl
  · obtain ⟨c, a, b, xs, rs, ds, es, B, rfl, hc, hR, hl, ha, hb, hda, hdb, h50, hln, k⟩ := h
    obtain ⟨f1, fd1, D1⟩ := T.d_check_deals
    obtain ⟨f2, fd2, D2⟩ := T.d_told_sum
    have hr3 : Room 3 _ := hr.mono (by decide)
    have B0 : 0 ≤ B := Int.le_trans (Ab_nonneg ds) hda.abs
    refine ⟨_, pss_cons (ps_expr (pe_call (ok_check_deals T D1) hr (by rfl) D1.g D1.F.kp D1.b .nil pass0 (pa_cons (pv 0) (pa_cons (pv 1) (pa_cons (pv 2) pa_nil)))))
      (pss_one (ps_ret (pe_call (ok_told_sum T D2) hr3 (by rfl) D2.g D2.F.kp D2.b .nil pass0 (pa_cons (pv 0) (pa_cons (pe_lst (pa_cons (pe_tup (pa_cons pe_int (pa_cons (pv 1) pa_nil))) (pa_cons (pe_tup (pa_cons pe_int (pa_cons (pv 2) pa_nil))) pa_nil))) pa_nil))))), ?_⟩
    refine ⟨_, rfl, _, rfl, _, rfl, c, a, b, xs, rs, ds, es, rfl, hc, hR, hl, ha, hb, hda.mono (by omega), hdb.mono (by omega), fun H1 e1 => ?_⟩
    refine ⟨_, rfl, _, rfl, by show 2 ≤ sizeLine; decide, fun p1 hp1 => ⟨_, rfl, by show 2 ≤ sizeLine; decide, fun p2 hp2 => ⟨by show 2 ≤ sizeLine; decide, fun l hl0 => ?_⟩⟩⟩
    have x1 := Ex.new (o := .tup [.int 1, .ref a]) hp1
    have x2 := Ex.new (o := .tup [.int 1, .ref b]) hp2
    have x3 := Ex.new (o := .lst [.ref p1, .ref p2]) hl0
    have e4 := ((e1.trans x1).trans x2).trans x3
    have g1 := (x2.trans x3) _ _ (show (upd H1 p1 (.tup [.int 1, .ref a])) p1 = _ from upd_same)
    have g2 := x3 _ _ (show (upd (upd H1 p1 (.tup [.int 1, .ref a])) p2 (.tup [.int 1, .ref b])) p2 = _ from upd_same)
    obtain ⟨n1, n2, n3⟩ := hda.raw (by omega)
    obtain ⟨m1, m2, m3⟩ := hdb.raw (by omega)
    refine ⟨c, l, xs, rs, [.ref p1, .ref p2], [(1, ds), (1, es)], rfl, e4 _ _ hc, rings_ex4 e4 hR, upd_same, .cons ⟨p1, a, rfl, g1, e4 _ _ ha⟩ (.cons ⟨p2, b, rfl, g2, e4 _ _ hb⟩ .nil), fun p hp => ?_, by show ds.length + (es.length + 0) ≤ 1000; omega, ?_, fun r H5 res e5 hr5 hd5 hln5 hf5 => ?_⟩
    · simp only [List.mem_cons, List.not_mem_nil, or_false] at hp
      rcases hp with rfl | rfl
      · exact ⟨n1, n2, by show (1 : Nat) < 2 ^ 300; decide, n3⟩
      · exact ⟨m1, m2, by show (1 : Nat) < 2 ^ 300; decide, m3⟩
    · have := hda.abs
      have := hdb.abs
      show ((1 : Nat) : Int) * Ab ds + (((1 : Nat) : Int) * Ab es + 0) ≤ _
      omega
    · refine k r H5 res (e4.trans e5) hr5 (hd5.mono ?_) ?_ fun f hf => ?_
      · have := hda.abs
        have := hdb.abs
        show ((1 : Nat) : Int) * Ab ds + (((1 : Nat) : Int) * Ab es + 0) ≤ _
        omega
      · replace hln5 : res.length ≤ ds.length + (es.length + 0) := hln5
        omega
      · rw [hf5 f hf]
        show 1 * Sf f ds + (1 * Sf f es + 0) = _
        omega
def spMultiplied : Sp := fun vs H Q _ => ∃ c a xs rs ds B, ∃ n : Int, vs = [.ref c, .int n, .ref a] ∧ H c = some (.tup xs) ∧ RingsAt H 60 xs rs ∧ (1 ≤ xs.length ∧ xs.length ≤ 12) ∧ DealAt H a ds ∧ DOk rs ds B ∧ 0 ≤ n ∧ n ≤ 100 ∧ 100 * B ≤ 10 ^ 55 ∧
  ∀ r H' res, Ex H H' → DealAt H' r res → DOk rs res (100 * B) → res.length ≤ ds.length → (∀ f, Nl rs f → Sf f res = n * Sf f ds) → Q (.ref r) H'
def spLeftName : Sp := fun vs H Q _ => ∃ c xs rs, vs = [.ref c] ∧ H c = some (.tup xs) ∧ RingsAt H 60 xs rs ∧ 1 ≤ xs.length ∧ ∀ y H', Ex H H' → PlaceAt H' y (0, K1N.sAt rs 0) → Q y H'
theorem ok_left_name (T : Txt K mg) {f : Addr} {fd : FuncData} (D : DefAt K mg "left_name" sLeftName ["chain"] f fd) : FnOk P w K mg base CX0 1 f fd ["chain"] spLeftName := by
  refine D.F.ok scLeftName (fun vs H Q E h => ?_) (fun cdv A outer s₀ H vs Q E hr h => ?_)
  · obtain ⟨c, xs, rs, rfl, _⟩ := h
    rfl
  · obtain ⟨c, xs, rs, rfl, hc, hR, hl, k⟩ := h
    have hl2 := paired_len hR
    obtain ⟨y, hy, t, rfl, ht, _⟩ := rings_nth hR (show 0 < rs.length by omega)
    refine ⟨_, pss_one (ps_ret (pe_tup (pa_cons pe_int (pa_cons (pe_ix ix_tup (pe_ix ix_tup (pv 0) pe_int (fun _ _ => rfl)) pe_int (fun _ _ => rfl)) pa_nil)))), ?_⟩
    exact ⟨_, rfl, c, _, 0, _, rfl, rfl, SqT.of hc, at_of (show (0 : Int) = ((0 : Nat) : Int) from rfl) hy, t, _, 1, _, rfl, rfl, SqT.of ht, rfl, by show 2 ≤ sizeLine; decide, fun p hp => k _ _ (Ex.new hp) ⟨p, rfl, upd_same⟩⟩
def spRightName : Sp := fun vs H Q _ => ∃ c xs, vs = [.ref c] ∧ H c = some (.tup xs) ∧ ∀ y H', Ex H H' → PlaceAt H' y ((xs.length : Int) - 1, 0) → Q y H'
theorem ok_right_name (T : Txt K mg) {f : Addr} {fd : FuncData} (D : DefAt K mg "right_name" sRightName ["chain"] f fd) : FnOk P w K mg base CX0 1 f fd ["chain"] spRightName := by
  refine D.F.ok scRightName (fun vs H Q E h => ?_) (fun cdv A outer s₀ H vs Q E hr h => ?_)
  · obtain ⟨c, xs, rfl, _⟩ := h
    rfl
  · obtain ⟨c, xs, rfl, hc, k⟩ := h
    refine ⟨_, pss_one (ps_ret (pe_tup (pa_cons (pe_op op_sub (pe_callB call_len_seq (by rfl) T.z_len PySem.boot_len (pa_cons (pv 0) pa_nil)) pe_int) (pa_cons pe_int pa_nil)))), ?_⟩
    exact ⟨_, rfl, c, _, rfl, .inr (SqT.of hc), _, _, rfl, rfl, by show 2 ≤ sizeLine; decide, fun p hp => k _ _ (Ex.new hp) ⟨p, rfl, upd_same⟩⟩
def spAtEnds : Sp := fun vs H Q _ => ∃ c xs rs, ∃ a b : Int, vs = [.ref c, .int a, .int b] ∧ H c = some (.tup xs) ∧ RingsAt H 60 xs rs ∧ (1 ≤ xs.length ∧ xs.length ≤ 12) ∧ (a.natAbs : Int) ≤ 10 ^ 40 ∧ (b.natAbs : Int) ≤ 10 ^ 40 ∧
  ∀ r H' res, Ex H H' → DealAt H' r res → DOk rs res (2 * 10 ^ 40) → res.length ≤ 2 → (∀ f, Nl rs f → Sf f res = a * f (0, K1N.sAt rs 0) + b * f ((xs.length : Int) - 1, 0)) → Q (.ref r) H'
theorem ok_at_ends (T : Txt K mg) {f : Addr} {fd : FuncData} (D : DefAt K mg "at_ends" sAtEnds ["chain", "a", "b"] f fd) : FnOk P w K mg base CX0 6 f fd ["chain", "a", "b"] spAtEnds := by
  refine D.F.ok scAtEnds (fun vs H Q E h => ?_) (fun cdv A outer s₀ H vs Q E hr h => ?_)
  · obtain ⟨c, xs, rs, a, b, rfl, _⟩ := h
    rfl
  · obtain ⟨c, xs, rs, a, b, rfl, hc, hR, hl, a1, b1, k⟩ := h
    obtain ⟨f1, fd1, D1⟩ := T.d_check_chain
    obtain ⟨f2, fd2, D2⟩ := T.d_check_integer
    obtain ⟨f3, fd3, D3⟩ := T.d_left_name
    obtain ⟨f4, fd4, D4⟩ := T.d_right_name
    obtain ⟨f5, fd5, D5⟩ := T.d_told_sum
    have hr1 : Room 1 _ := hr.mono (by decide)
    have hr2 : Room 2 _ := hr.mono (by decide)
    have hr3 : Room 3 _ := hr.mono (by decide)
    have hl2 := paired_len hR
    refine ⟨_, pss_cons (ps_expr (pe_call (ok_check_chain T D1) hr (by rfl) D1.g D1.F.kp D1.b .nil pass0 (pa_cons (pv 0) pa_nil)))
      (pss_cons (ps_expr (pe_call (ok_check_integer T D2) hr2 (by rfl) D2.g D2.F.kp D2.b .nil pass0 (pa_cons (pv 1) pa_nil)))
      (pss_cons (ps_expr (pe_call (ok_check_integer T D2) hr2 (by rfl) D2.g D2.F.kp D2.b .nil pass0 (pa_cons (pv 2) pa_nil)))
      (pss_one (ps_ret (pe_call (ok_told_sum T D5) hr3 (by rfl) D5.g D5.F.kp D5.b .nil pass0 (pa_cons (pv 0) (pa_cons (pe_lst (pa_cons (pe_tup (pa_cons (pv 1) (pa_cons (pe_disp1T hr.units0 (pe_call (ok_left_name T D3) hr1 (by rfl) D3.g D3.F.kp D3.b .nil pass0 (pa_cons (pv 0) pa_nil)) pe_int) pa_nil)))
        (pa_cons (pe_tup (pa_cons (pv 2) (pa_cons (pe_disp1T hr.units0 (pe_call (ok_right_name T D4) hr1 (by rfl) D4.g D4.F.kp D4.b .nil pass0 (pa_cons (pv 0) pa_nil)) pe_int) pa_nil))) pa_nil))) pa_nil))))))), ?_⟩
    refine ⟨_, rfl, .ref c, rfl, rings_chain4 hR hc hl.1 hl.2, fun H1 e1 => ?_⟩
    refine ⟨_, rfl, a, rfl, by omega, by omega, fun H2 e2' => ⟨_, rfl, b, rfl, by omega, by omega, fun H3 e3' => ?_⟩⟩
    have e3 := (e1.trans e2').trans e3'
    refine ⟨_, rfl, _, rfl, fun q1 hq1 => ?_⟩
    have x1 := Ex.new (o := .dT []) hq1
    have e4 := e3.trans x1
    refine ⟨_, rfl, c, xs, rs, rfl, e4 _ _ hc, rings_ex4 e4 hR, hl.1, fun y H5 e5 hy => ?_⟩
    obtain ⟨t1, rfl, ht1⟩ := hy
    have q1n : H3 q1 = none := hq1
    have q1e : H5 q1 = some (.dT []) := e5 _ _ upd_same
    refine ⟨t1, dk (0, K1N.sAt rs 0), rfl, ht1, q1e, ?_⟩
    have E5 : Ex H3 (upd H5 q1 (.dT [(dk (0, K1N.sAt rs 0), V.int 1)])) := Ex.mut (x1.trans e5) q1n
    have d1 : DealAt (upd H5 q1 (.dT [(dk (0, K1N.sAt rs 0), V.int 1)])) q1 [((0, K1N.sAt rs 0), 1)] := upd_same
    generalize upd H5 q1 (.dT [(dk (0, K1N.sAt rs 0), V.int 1)]) = H6 at E5 d1 ⊢
    refine ⟨by show 2 ≤ sizeLine; decide, fun p1 hp1 => ⟨_, rfl, fun q2 hq2 => ?_⟩⟩
    have y1 := Ex.new (o := .tup [.int a, .ref q1]) hp1
    have y2 := Ex.new (o := .dT []) hq2
    have e7 := (e3.trans E5).trans (y1.trans y2)
    refine ⟨_, rfl, c, xs, rfl, e7 _ _ hc, fun y H8 e8 hy => ?_⟩
    obtain ⟨t2, rfl, ht2⟩ := hy
    have q2e : H8 q2 = some (.dT []) := e8 _ _ upd_same
    refine ⟨t2, dk ((xs.length : Int) - 1, 0), rfl, ht2, q2e, ?_⟩
    have E8 : Ex (upd H6 p1 (.tup [.int a, .ref q1])) (upd H8 q2 (.dT [(dk ((xs.length : Int) - 1, 0), V.int 1)])) := Ex.mut (y2.trans e8) hq2
    have d2 : DealAt (upd H8 q2 (.dT [(dk ((xs.length : Int) - 1, 0), V.int 1)])) q2 [(((xs.length : Int) - 1, 0), 1)] := upd_same
    generalize upd H8 q2 (.dT [(dk ((xs.length : Int) - 1, 0), V.int 1)]) = H9 at E8 d2 ⊢
    refine ⟨by show 2 ≤ sizeLine; decide, fun p2 hp2 => ⟨by show 2 ≤ sizeLine; decide, fun l hl0 => ?_⟩⟩
    have z1 := Ex.new (o := .tup [.int b, .ref q2]) hp2
    have z2 := Ex.new (o := .lst [.ref p1, .ref p2]) hl0
    have E10 := E8.trans (z1.trans z2)
    have e10 := (e3.trans E5).trans (y1.trans E10)
    have g1 := E10 _ _ (show (upd H6 p1 (.tup [.int a, .ref q1])) p1 = _ from upd_same)
    have g2 := z2 _ _ (show (upd H9 p2 (.tup [.int b, .ref q2])) p2 = _ from upd_same)
    have d1' := (y1.trans E10) _ _ d1
    have d2' := (z1.trans z2) _ _ d2
    have s0 := rings_ok hR 0 (by omega)
    have n0 := rings_pos hR (rs.length - 1) (by omega)
    refine ⟨c, l, xs, rs, [.ref p1, .ref p2], [(a, [((0, K1N.sAt rs 0), 1)]), (b, [(((xs.length : Int) - 1, 0), 1)])], rfl, e10 _ _ hc, rings_ex4 e10 hR, upd_same, .cons ⟨p1, q1, rfl, g1, d1'⟩ (.cons ⟨p2, q2, rfl, g2, d2'⟩ .nil), fun p hp => ?_, by show 1 + (1 + 0) ≤ 1000; decide, ?_, fun r H11 res e11 hr11 hd11 hln11 hf11 => ?_⟩
    · have p40 : (10 : Nat) ^ 40 < 2 ^ 300 := by decide
      simp only [List.mem_cons, List.not_mem_nil, or_false] at hp
      rcases hp with rfl | rfl
      · refine ⟨by unfold NK; simp, fun e he => ?_, by show a.natAbs < 2 ^ 300; omega, by show ((1 : Nat) : Int) + 0 < 2 ^ 300; decide⟩
        rw [List.mem_singleton.mp he]
        exact ⟨⟨Int.le_refl 0, by show (0 : Int) < _; omega⟩, by show 0 ≤ K1N.sAt rs 0; omega, s0.2⟩
      · refine ⟨by unfold NK; simp, fun e he => ?_, by show b.natAbs < 2 ^ 300; omega, by show ((1 : Nat) : Int) + 0 < 2 ^ 300; decide⟩
        rw [List.mem_singleton.mp he]
        refine ⟨⟨by show 0 ≤ (xs.length : Int) - 1; omega, by show (xs.length : Int) - 1 < _; omega⟩, Int.le_refl 0, ?_⟩
        show (0 : Int) < (K1N.nAt rs ((xs.length : Int) - 1).toNat : Int)
        rw [show ((xs.length : Int) - 1).toNat = rs.length - 1 by omega]
        omega
    · show (a.natAbs : Int) * (((1 : Nat) : Int) + 0) + ((b.natAbs : Int) * (((1 : Nat) : Int) + 0) + 0) ≤ _
      omega
    · refine k r H11 res (e10.trans e11) hr11 (hd11.mono ?_) hln11 fun f hf => ?_
      · show (a.natAbs : Int) * (((1 : Nat) : Int) + 0) + ((b.natAbs : Int) * (((1 : Nat) : Int) + 0) + 0) ≤ _
        omega
      · rw [hf11 f hf]
        show a * (f (0, K1N.sAt rs 0) * 1 + 0) + (b * (f ((xs.length : Int) - 1, 0) * 1 + 0) + 0) = _
        rw [Int.mul_one, Int.mul_one, Int.add_zero, Int.add_zero, Int.add_zero]
end
end K1

set_option exponentiation.threshold 400
namespace K1
open PySem PySem.Spec PyProof.Rows L2 Evl LX ZW ZM DM DR
/-- a class -/
def ClassAt (H : Hp) (v : V) (deg : Int) (ps : List Int) : Prop := ∃ t a, v = .ref t ∧ H t = some (.tup [.int deg, .ref a]) ∧ PlacesT H a ps
/-- a class by its readings -/
abbrev CL (H : Hp) (v : V) (rs : List (Int × Int)) (deg : Int) (t : Nat → Int) : Prop := ClassAt H v deg (cx rs t)
theorem cx_ok {H : Hp} {xs : List V} {rs : List (Int × Int)} (h : RingsAt H 60 xs rs) (t : Nat → Int) : PlOk rs (cx rs t) := fun j hj => by
  rw [cx_len] at hj
  rw [cx_get hj]
  have := rings_pos h j hj
  exact ⟨Int.emod_nonneg _ (by omega), Int.emod_lt_of_pos _ (by omega)⟩
theorem rf_get {n i : Nat} (f : Nat → Int) (h : i < n) : ((List.range n).map fun j => V.int (f j))[i]? = some (V.int (f i)) := by
  rw [List.getElem?_map, List.getElem?_range h]
  rfl
theorem rf_set {n i : Nat} {z : Int} {f g : Nat → Int} (h : i < n) (hi : g i = z) (ho : ∀ j, j ≠ i → g j = f j) : ((List.range n).map fun j => V.int (f j)).set i (V.int z) = (List.range n).map fun j => V.int (g j) := by
  refine List.ext_getElem? fun j => ?_
  rw [List.getElem?_set]
  by_cases e : i = j
  · subst e
    rw [if_pos rfl, if_pos (by rw [List.length_map, List.length_range]; exact h), rf_get g h, hi]
  · rw [if_neg e]
    by_cases hj : j < n
    · rw [rf_get f hj, rf_get g hj, ho j (fun z => e z.symm)]
    · rw [List.getElem?_eq_none (by rw [List.length_map, List.length_range]; omega), List.getElem?_eq_none (by rw [List.length_map, List.length_range]; omega)]
theorem Sf_snoc (f : Pl → Int) (ds : Dl) (e : Pl × Int) : Sf f (ds ++ [e]) = Sf f ds + f e.1 * e.2 := by
  rw [Sf_append]
  show _ + (f e.1 * e.2 + 0) = _
  omega
section
variable {P : Program} {w : World} {K : PySem.W.Frag} {mg : Str → Option Value} {base : Heap}
def spCheckClass : Sp := fun vs H Q _ => ∃ c v xs rs deg ps, vs = [.ref c, v] ∧ H c = some (.tup xs) ∧ RingsAt H 60 xs rs ∧ xs.length ≤ 12 ∧ ClassAt H v deg ps ∧ -(10 ^ 60) < deg ∧ deg < 10 ^ 60 ∧ ps.length = xs.length ∧ PlOk rs ps ∧ ∀ H', Ex H H' → Q .non H'
/-- rests taken modulo the places -/
def modp (rs : List (Int × Int)) (ns : List Int) : List Int := (List.range ns.length).map fun j => ns.getD j 0 % (K1N.nAt rs j : Int)
def spToldClass : Sp := fun vs H Q _ => ∃ c l xs rs deg, ∃ ns : List Int, vs = [.ref c, .int deg, .ref l] ∧ H c = some (.tup xs) ∧ RingsAt H 60 xs rs ∧ xs.length ≤ 12 ∧ H l = some (.lst (ns.map V.int)) ∧ ns.length = xs.length ∧ -(10 ^ 60) < deg ∧ deg < 10 ^ 60 ∧
  ∀ r H', Ex H H' → ClassAt H' (.ref r) deg (modp rs ns) → Q (.ref r) H'
def spClassAt : Sp := fun vs H Q _ => ∃ c a xs rs ds B, vs = [.ref c, .ref a] ∧ H c = some (.tup xs) ∧ RingsAt H 60 xs rs ∧ xs.length ≤ 12 ∧ DealAt H a ds ∧ DOk rs ds B ∧ ∀ r H', Ex H H' → CL H' (.ref r) rs (Sf one ds) (fun i => Sf (tau rs i) ds) → Q (.ref r) H'
theorem ok_class_at (T : Txt K mg) {f : Addr} {fd : FuncData} (D : DefAt K mg "class_at" sClassAt ["chain", "deal"] f fd) : FnOk P w K mg base CX0 1 f fd ["chain", "deal"] spClassAt := by
  refine D.F.ok scClassAt (fun vs H Q E h => ?_) (fun cdv A outer s₀ H vs Q E hr h => ?_)
  · obtain ⟨c, a, xs, rs, ds, B, rfl, _⟩ := h
    rfl
  · obtain ⟨c, a, xs, rs, ds, B, rfl, hc, hR, hl, ha, hd, k⟩ := h
    have hu1 := Nat.lt_of_le_of_lt (Nat.add_le_add_left (show 1 ≤ 64 by decide) _) hr.units
    refine ⟨_, pss_cons (ps_setLc (i := 2) (own := [("_", 10)]) (g := gName 10) (tt := tYes) (by rfl) scClassAt.nd rfl rfl (sw_true rfl rfl rfl (by decide +kernel)) (pi_tup (pv 0)) (blkOk_by (N := nClassAt) (sc := defScope sClassAt) (by decide +kernel)) (fun _ _ _ _ _ => pg_name (i := 10) scClassAt.nd rfl (.inl rfl)) (fun _ _ _ _ _ => pts_nil) (fun _ _ _ _ _ => pe_int))
      (pss_cons (ps_setLc (i := 3) (own := [("_", 10)]) (g := gName 10) (tt := tYes) (by rfl) scClassAt.nd rfl rfl (sw_true rfl rfl rfl (by decide +kernel)) (pi_tup (pv 0)) (blkOk_by (N := nClassAt) (sc := defScope sClassAt) (by decide +kernel)) (fun _ _ _ _ _ => pg_name (i := 10) scClassAt.nd rfl (.inl rfl)) (fun _ _ _ _ _ => pts_nil) (fun _ _ _ _ _ => pe_int))
      (pss_cons (ps_lock (ps_for PassesOwn.never rfl (pi_keys (pv 1)) (pg_name (i := 4) scClassAt.nd rfl (.inl rfl))
        (pss_cons (ps_asg (pv 4) (pg_tup (by rfl) (pgs_cons (pg_name (i := 5) scClassAt.nd rfl (.inl rfl)) (pgs_cons (pg_name (i := 6) scClassAt.nd rfl (.inl rfl)) pgs_nil))))
        (pss_cons (ps_augS (pv 2) (pv 5) get_list (pe_dget hu1 (pv 1) (pv 4) (fun _ _ => rfl)) ip_add set_list)
        (pss_one (ps_augS (pv 3) (pv 5) get_list (pe_op op_mul (pv 6) (pe_dget hu1 (pv 1) (pv 4) (fun _ _ => rfl))) ip_add set_list))))))
      (pss_cons (ps_set (i := 7) scClassAt.nd rfl (.inl rfl) (pe_lst pa_nil))
      (pss_cons (ps_set (i := 8) scClassAt.nd rfl (.inl rfl) pe_int)
      (pss_cons (ps_for PassesOwn.never rfl (EnT.pi_enumT (by rfl) T.z_enumerate (pa_cons (pv 0) pa_nil)) (pg_tup rfl (pgs_cons (pg_name (i := 5) scClassAt.nd rfl (.inl rfl)) (pgs_cons (pg_name (i := 9) scClassAt.nd rfl (.inl rfl)) pgs_nil)))
        (pss_cons (ps_expr (pe_bm PySem.F.plainAttrs_list PySem.F.slot_list_append PySem.F.type_list_append mt_append (pv 7) (pa_cons (pe_op op_mod (pe_op op_add (pe_ix ix_list (pv 3) (pv 5) (fun _ _ => rfl)) (pe_op op_mul (pe_ix ix_tup (pv 9) pe_int (fun _ _ => rfl)) (pe_op op_sub (pv 8) (pv 5)))) (pe_ix ix_tup (pv 9) pe_int (fun _ _ => rfl))) pa_nil)))
        (pss_one (ps_aug (i := 8) scClassAt.nd rfl (.inl rfl) (pe_ix ix_list (pv 2) (pv 5) (fun _ _ => rfl)) ip_add))))
      (pss_one (ps_ret (pe_tup (pa_cons (pv 8) (pa_cons (pe_callTy call_tuple_of (by rfl) T.z_tuple (by decide +kernel) (pa_cons (pv 7) pa_nil)) pa_nil)))))))))), ?_⟩
    have hlen : xs.length = rs.length := paired_len hR
    refine ⟨_, rfl, c, rfl, ⟨_, SqT.of hc⟩, fun l1 hl1 => ?_⟩
    refine lc_tup (K := K) (a := c) (xs := xs) (fun i H' => H' l1 = some (.lst ((List.range i).map fun _ => V.int 0)) ∧ Ex H H') ⟨upd_same, Ex.new hl1⟩ (fun i H' _ hp => SqT.of (hp.2 _ _ hc)) (fun i x H' hx hp => ?_) (fun H1 hp => ?_)
    · obtain ⟨w1, w2⟩ := hp
      have hi := (List.getElem?_eq_some_iff.mp hx).1
      refine ⟨rfl, ?_⟩
      dsimp only [tYes]
      rw [if_pos rfl]
      refine ⟨_, w1, ?_, ?_, Ex.mut w2 hl1⟩
      · rw [List.length_map, List.length_range]
        exact small1000 (by omega)
      · rw [upd_same, List.range_succ, List.map_append]
        rfl
    obtain ⟨p1, e1⟩ := hp
    refine ⟨_, rfl, c, rfl, ⟨_, SqT.of (e1 _ _ hc)⟩, fun l2 hl2 => ?_⟩
    refine lc_tup (K := K) (a := c) (xs := xs) (fun i H' => H' l2 = some (.lst ((List.range i).map fun _ => V.int 0)) ∧ Ex H1 H') ⟨upd_same, Ex.new hl2⟩ (fun i H' _ hp => SqT.of ((e1.trans hp.2) _ _ hc)) (fun i x H' hx hp => ?_) (fun H2 hp => ?_)
    · obtain ⟨w1, w2⟩ := hp
      have hi := (List.getElem?_eq_some_iff.mp hx).1
      refine ⟨rfl, ?_⟩
      dsimp only [tYes]
      rw [if_pos rfl]
      refine ⟨_, w1, ?_, ?_, Ex.mut w2 hl2⟩
      · rw [List.length_map, List.length_range]
        exact small1000 (by omega)
      · rw [upd_same, List.range_succ, List.map_append]
        rfl
    obtain ⟨p2, e2⟩ := hp
    have n12 : l1 ≠ l2 := ne_of_none p1 hl2
    have f2 : H l2 = none := fresh_back e1 hl2
    replace p1 := e2 _ _ p1
    have e12 := e1.trans e2
    rw [hlen] at p1 p2
    have na1 : l1 ≠ a := fun z => by
      rw [z, ha] at hl1
      cases hl1
    have na2 : l2 ≠ a := fun z => by
      rw [z, ha] at f2
      cases f2
    refine ⟨a, _, e12 _ _ ha, trivial, fun od => ?_⟩
    have k0 : Keep a H (upd H2 a (.frz od (.dT (ds.map ent)))) := (Keep.ex e12).trans keep_lock
    have q1 : (upd H2 a (.frz od (.dT (ds.map ent)))) l1 = some (.lst ((List.range rs.length).map fun j => V.int (Sf (ind j) (ds.take 0)))) := by
      rw [upd_ne na1]
      exact p1
    have q2 : (upd H2 a (.frz od (.dT (ds.map ent)))) l2 = some (.lst ((List.range rs.length).map fun j => V.int (Sf (spt j) (ds.take 0)))) := by
      rw [upd_ne na2]
      exact p2
    refine ⟨_, rfl, a, od, rfl, .inr ⟨_, upd_same, for_it walk_keysT (fun k σ2 H3 => ∃ (y4 y5 y6 : Option V), σ2 = [some (.ref c), some (.ref a), some (.ref l1), some (.ref l2), y4, y5, y6, none, none, none, none] ∧
        H3 l1 = some (.lst ((List.range rs.length).map fun j => V.int (Sf (ind j) (ds.take k)))) ∧ H3 l2 = some (.lst ((List.range rs.length).map fun j => V.int (Sf (spt j) (ds.take k)))) ∧ H3 a = some (.frz od (.dT (ds.map ent))) ∧ Keep a H H3)
      ⟨none, none, none, rfl, q1, q2, upd_same, k0⟩ (fun k σ2 H3 _ hW => ?_) (fun k x σ2 H3 H4 hk hW hy => ?_) (fun σ2 H3 hW => ?_)⟩⟩
    · obtain ⟨_, _, _, _, _, _, fz, _⟩ := hW
      exact fz
    · obtain ⟨y4, y5, y6, rfl, v1, v2, v3, v4⟩ := hW
      obtain ⟨rfl, ky, v, q, hkv, rfl, hq⟩ := hy
      rw [List.getElem?_map] at hkv
      obtain ⟨e, he, hek⟩ := Option.map_eq_some_iff.mp hkv
      cases hek
      have hem := List.mem_of_getElem? he
      obtain ⟨⟨b0, b1⟩, b2, b3⟩ := hd.keys e hem
      obtain ⟨⟨ej, eq⟩, ev⟩ := e
      replace b0 : 0 ≤ ej := b0
      replace b1 : ej < (rs.length : Int) := b1
      replace b2 : 0 ≤ eq := b2
      replace b3 : eq < (K1N.nAt rs ej.toNat : Int) := b3
      have n60 := rings_n hR ej.toNat
      have hq2 : H4 q = some (.tup [.int ej, .int eq]) := hq
      have gv : getE ds (ej, eq) = some ev := getE_of hd.nk hem
      have hdk := take_snoc he
      have hj : ej.toNat < rs.length := by omega
      have ej2 : ej = ((ej.toNat : Nat) : Int) := by omega
      have gd : ∀ H5, H5 a = some (.frz od (.dT (ds.map ent))) → H5 q = some (.tup [.int ej, .int eq]) → DGet H5 a (.ref q) (some (V.int ev)) := fun H5 h1 h2 => .inr ⟨_, dk (ej, eq), q, .inr ⟨od, h1⟩, rfl, h2, by rw [valV_ent, gv]; rfl⟩
      have nq1 : q ≠ l1 := ne_of hq2 v1 (by intro z; cases z)
      have nq2 : q ≠ l2 := ne_of hq2 v2 (by intro z; cases z)
      refine ⟨_, rfl, q, _, rfl, SqT.of hq2, rfl, .int ej, [_], rfl, .int eq, [], rfl, rfl, ?_⟩
      refine ⟨_, rfl, _, rfl, l1, _, ej.toNat, _, rfl, by rw [← ej2], SqL.of v1, rf_get _ hj, _, rfl, _, rfl, a, _, rfl, gd _ v3 hq2, _, _, rfl, rfl, l1, _, ej, ej.toNat, rfl, rfl, v1, ?_, ?_⟩
      · rw [ej2]
        refine ixN_nat ?_
        rw [List.length_map, List.length_range]
        exact hj
      rw [rf_set (g := fun j => Sf (ind j) (ds.take (k + 1))) hj (by
          show Sf (ind ej.toNat) (ds.take (k + 1)) = _
          rw [hdk, Sf_snoc]
          unfold ind
          rw [if_pos ej2, Int.one_mul]) (fun j hne => by
          show Sf (ind j) (ds.take (k + 1)) = _
          rw [hdk, Sf_snoc]
          unfold ind
          rw [if_neg (by show ¬ ej = (j : Int); omega), Int.zero_mul, Int.add_zero])]
      have u1 : (upd H4 l1 (.lst ((List.range rs.length).map fun j => V.int (Sf (ind j) (ds.take (k + 1)))))) l1 = _ := upd_same
      have u2 : (upd H4 l1 (.lst ((List.range rs.length).map fun j => V.int (Sf (ind j) (ds.take (k + 1)))))) l2 = _ := (upd_ne n12.symm).trans v2
      have u3 : (upd H4 l1 (.lst ((List.range rs.length).map fun j => V.int (Sf (ind j) (ds.take (k + 1)))))) a = _ := (upd_ne na1.symm).trans v3
      have u4 : (upd H4 l1 (.lst ((List.range rs.length).map fun j => V.int (Sf (ind j) (ds.take (k + 1)))))) q = _ := (upd_ne nq1).trans hq2
      have u5 : Keep a H (upd H4 l1 (.lst ((List.range rs.length).map fun j => V.int (Sf (ind j) (ds.take (k + 1)))))) := v4.mut hl1
      generalize upd H4 l1 (.lst ((List.range rs.length).map fun j => V.int (Sf (ind j) (ds.take (k + 1))))) = H5 at u1 u2 u3 u4 u5 ⊢
      refine ⟨_, rfl, _, rfl, l2, _, ej.toNat, _, rfl, by rw [← ej2], SqL.of u2, rf_get _ hj, _, rfl, _, rfl, _, rfl, a, _, rfl, gd _ u3 u4, _, _, rfl, rfl, .inl (by constructor <;> omega), _, _, rfl, rfl, l2, _, ej, ej.toNat, rfl, rfl, u2, ?_, ?_⟩
      · rw [ej2]
        refine ixN_nat ?_
        rw [List.length_map, List.length_range]
        exact hj
      rw [rf_set (g := fun j => Sf (spt j) (ds.take (k + 1))) hj (by
          show Sf (spt ej.toNat) (ds.take (k + 1)) = _
          rw [hdk, Sf_snoc]
          unfold spt
          rw [if_pos ej2]) (fun j hne => by
          show Sf (spt j) (ds.take (k + 1)) = _
          rw [hdk, Sf_snoc]
          unfold spt
          rw [if_neg (by show ¬ ej = (j : Int); omega), Int.zero_mul, Int.add_zero])]
      exact ⟨_, _, _, rfl, (upd_ne n12).trans u1, upd_same, (upd_ne na2.symm).trans u3, u5.mut f2⟩
    obtain ⟨y4, y5, y6, rfl, v1, v2, v3, v4⟩ := hW
    rw [List.length_map, List.take_length] at v1 v2
    refine ⟨v3, ?_⟩
    have e3 := Ex.of_keep ha v4
    have w1 : (upd H3 a (.dT (ds.map ent))) l1 = _ := (upd_ne na1).trans v1
    have w2 : (upd H3 a (.dT (ds.map ent))) l2 = _ := (upd_ne na2).trans v2
    generalize upd H3 a (.dT (ds.map ent)) = H4 at e3 w1 w2 ⊢
    refine ⟨by show 0 ≤ sizeLine; decide, fun l3 hl3 => ?_⟩
    have e4 := Ex.new (o := .lst []) hl3
    have f3 : H l3 = none := fresh_back e3 hl3
    have w1' := e4 _ _ w1
    have w2' := e4 _ _ w2
    have n13 : l1 ≠ l3 := ne_of_none w1 hl3
    have n23 : l2 ≠ l3 := ne_of_none w2 hl3
    have e34 := e3.trans e4
    have w3 : (upd H4 l3 (.lst [])) l3 = some (.lst ((List.range 0).map fun j => V.int ((Sf (tau rs j) ds - (j : Int) * K1N.sAt rs j) % (K1N.nAt rs j : Int)))) := upd_same
    generalize upd H4 l3 (.lst []) = H5 at e34 w1' w2' w3 ⊢
    refine ⟨_, rfl, c, xs, rfl, SqT.of (e34 _ _ hc), for_enumT (K := K) (a := c) (xs := xs) (fun i σ' H' => ∃ (y4 y5 y6 y9 : Option V), σ' = [some (.ref c), some (.ref a), some (.ref l1), some (.ref l2), y4, y5, y6, some (.ref l3), some (.int (Sf (bef i) ds)), y9, none] ∧
        H' l1 = some (.lst ((List.range rs.length).map fun j => V.int (Sf (ind j) ds))) ∧ H' l2 = some (.lst ((List.range rs.length).map fun j => V.int (Sf (spt j) ds))) ∧ H' l3 = some (.lst ((List.range i).map fun j => V.int ((Sf (tau rs j) ds - (j : Int) * K1N.sAt rs j) % (K1N.nAt rs j : Int)))) ∧ Ex H H')
      ⟨y4, y5, y6, none, by rw [bef_zero hd.keys]; rfl, w1', w2', w3, e34⟩ (fun i σ' H' hp => ?_) (fun i x Tp σ' H' hx hp nT => ?_) (fun σ' H' hp => ?_)⟩
    · obtain ⟨_, _, _, _, _, _, _, _, e⟩ := hp
      exact SqT.of (e _ _ hc)
    · obtain ⟨z4, z5, z6, z9, rfl, x1, x2, x3, x4⟩ := hp
      have eT := Ex.new (o := .tup [.int (i : Nat), x]) nT
      have hi : i < xs.length := (List.getElem?_eq_some_iff.mp hx).1
      obtain ⟨t, rfl, ht, b1, b2, b3, b4⟩ := rings_nth4 (rings_ex4 (x4.trans eT) hR) hx
      have s1 := eT _ _ x1
      have s2 := eT _ _ x2
      have s3 := eT _ _ x3
      refine ⟨Tp, _, rfl, SqT.of upd_same, rfl, .int (i : Nat), [_], rfl, _, [], rfl, rfl, ?_⟩
      refine ⟨_, rfl, .inl ⟨rfl, _, SqL.of s3⟩, _, rfl, _, rfl, l2, _, _, _, rfl, rfl, SqL.of s2, atI_nat (rf_get _ (by omega)), _, rfl, t, _, 1, _, rfl, rfl, SqT.of ht, rfl, _, rfl, _, rfl, _, _, rfl, rfl, _, _, rfl, rfl, .inl (by constructor <;> omega), _, _, rfl, rfl, _, rfl, t, _, 0, _, rfl, rfl, SqT.of ht, rfl, _, _, rfl, rfl, by omega, ?_⟩
      refine ⟨l3, _, _, rfl, rfl, s3, ?_, ?_⟩
      · rw [List.length_map, List.length_range]
        exact small1000 (by omega)
      have n3T : ∀ {b : Addr} {o : HO}, b ≠ l3 → (upd H' Tp (.tup [.int (i : Nat), .ref t])) b = some o → (upd (upd H' Tp (.tup [.int (i : Nat), .ref t])) l3 (.lst (((List.range i).map fun j => V.int ((Sf (tau rs j) ds - (j : Int) * K1N.sAt rs j) % (K1N.nAt rs j : Int))) ++ [V.int ((Sf (spt i) ds + K1N.sAt rs i * (Sf (bef i) ds - (i : Int))) % (K1N.nAt rs i : Int))]))) b = some o := fun n h => (upd_ne n).trans h
      have r1 := n3T n13 s1
      have r2 := n3T n23 s2
      have r4 : Ex H (upd (upd H' Tp (.tup [.int (i : Nat), .ref t])) l3 (.lst (((List.range i).map fun j => V.int ((Sf (tau rs j) ds - (j : Int) * K1N.sAt rs j) % (K1N.nAt rs j : Int))) ++ [V.int ((Sf (spt i) ds + K1N.sAt rs i * (Sf (bef i) ds - (i : Int))) % (K1N.nAt rs i : Int))]))) := Ex.mut (x4.trans eT) f3
      have r3 : (upd (upd H' Tp (.tup [.int (i : Nat), .ref t])) l3 (.lst (((List.range i).map fun j => V.int ((Sf (tau rs j) ds - (j : Int) * K1N.sAt rs j) % (K1N.nAt rs j : Int))) ++ [V.int ((Sf (spt i) ds + K1N.sAt rs i * (Sf (bef i) ds - (i : Int))) % (K1N.nAt rs i : Int))]))) l3 = some (.lst ((List.range (i + 1)).map fun j => V.int ((Sf (tau rs j) ds - (j : Int) * K1N.sAt rs j) % (K1N.nAt rs j : Int)))) := by
        rw [upd_same, List.range_succ, List.map_append]
        have ee : Sf (spt i) ds + K1N.sAt rs i * (Sf (bef i) ds - (i : Int)) = Sf (tau rs i) ds - (i : Int) * K1N.sAt rs i := by
          rw [← tau_parts, Int.mul_sub, Int.mul_comm (K1N.sAt rs i) (i : Int)]
          omega
        rw [ee]
        rfl
      refine ⟨_, rfl, _, rfl, _, rfl, l1, _, _, _, rfl, rfl, SqL.of r1, atI_nat (rf_get _ (by omega)), _, _, rfl, rfl, ?_⟩
      exact ⟨_, _, _, _, by rw [bef_succ]; rfl, r1, r2, r3, r4⟩
    · obtain ⟨z4, z5, z6, z9, rfl, x1, x2, x3, x4⟩ := hp
      rw [hlen, bef_all hd.keys]
      refine ⟨_, rfl, _, rfl, l3, _, rfl, .inl ⟨SqL.of x3, fun r1 hr1 => ⟨by show 2 ≤ sizeLine; decide, fun r2 hr2 => k r2 _ ((x4.trans (Ex.new hr1)).trans (Ex.new hr2)) ⟨r2, r1, rfl, upd_same, ?_⟩⟩⟩⟩
      show (upd _ r2 _) r1 = _
      rw [Ex.new hr2 _ _ upd_same, hlen]
      unfold cx
      rw [List.map_map]
      rfl
end
end K1

set_option exponentiation.threshold 400
namespace K1
open PySem PySem.Spec PyProof.Rows L2 Evl LX ZW ZM DM DR
theorem one_ok (p : Pl) : one p = 1 ∨ one p = 0 := .inl rfl
theorem sf_one_le {rs : List (Int × Int)} {ds : Dl} {B : Int} (h : DOk rs ds B) : ((Sf one ds).natAbs : Int) ≤ B := by
  have a := Sf_le one_ok ds
  have b := Ab_nonneg ds
  have c := h.abs
  omega
section
variable {P : Program} {w : World} {K : PySem.W.Frag} {mg : Str → Option Value} {base : Heap}
def spClassOf : Sp := fun vs H Q _ => ∃ c a xs rs ds B, vs = [.ref c, .ref a] ∧ H c = some (.tup xs) ∧ RingsAt H 60 xs rs ∧ (1 ≤ xs.length ∧ xs.length ≤ 12) ∧ DealAt H a ds ∧ DOk rs ds B ∧ B ≤ 10 ^ 55 ∧ ∀ r H', Ex H H' → CL H' (.ref r) rs (Sf one ds) (fun i => Sf (tau rs i) ds) → Q (.ref r) H'
def spCheckClasses : Sp := fun vs H Q _ => ∃ c v1 v2 xs rs d1 d2 t u, vs = [.ref c, v1, v2] ∧ H c = some (.tup xs) ∧ RingsAt H 60 xs rs ∧ (1 ≤ xs.length ∧ xs.length ≤ 12) ∧ CL H v1 rs d1 t ∧ CL H v2 rs d2 u ∧ (d1.natAbs : Int) ≤ 10 ^ 55 ∧ (d2.natAbs : Int) ≤ 10 ^ 55 ∧ ∀ H', Ex H H' → Q .non H'
/-- two classes put together by sums or differences -/
def spClassTwo (op : Int → Int → Int) : Sp := fun vs H Q _ => ∃ c v1 v2 xs rs d1 d2 t u, vs = [.ref c, v1, v2] ∧ H c = some (.tup xs) ∧ RingsAt H 60 xs rs ∧ (1 ≤ xs.length ∧ xs.length ≤ 12) ∧ CL H v1 rs d1 t ∧ CL H v2 rs d2 u ∧ (d1.natAbs : Int) ≤ 10 ^ 55 ∧ (d2.natAbs : Int) ≤ 10 ^ 55 ∧
  ∀ r H', Ex H H' → CL H' (.ref r) rs (op d1 d2) (fun i => op (t i) (u i)) → Q (.ref r) H'
def spWithEnds : Sp := fun vs H Q _ => ∃ c v xs rs deg t, ∃ a b : Int, vs = [.ref c, v, .int a, .int b] ∧ H c = some (.tup xs) ∧ RingsAt H 60 xs rs ∧ (1 ≤ xs.length ∧ xs.length ≤ 12) ∧ CL H v rs deg t ∧ (deg.natAbs : Int) ≤ 10 ^ 55 ∧ (a.natAbs : Int) ≤ 10 ^ 55 ∧ (b.natAbs : Int) ≤ 10 ^ 55 ∧
  ∀ r H', Ex H H' → CL H' (.ref r) rs (deg + a + b) (fun i => t i + a * K1N.sAt rs i) → Q (.ref r) H'
end
end K1

set_option exponentiation.threshold 400
namespace K1
open PySem PySem.Spec PyProof.Rows L2 Evl LX ZW ZM DM DR
theorem RingsAt.keep {d : Addr} {H H' : Hp} {most : Int} {xs : List V} {rs : List (Int × Int)} (k : Keep d H H') (h : Dice H d) (r : RingsAt H most xs rs) : RingsAt H' most xs rs := paired_imp (fun _ _ z => RingAt.keep k h z) r
section
variable {P : Program} {w : World} {K : PySem.W.Frag} {mg : Str → Option Value} {base : Heap}
def spDeal : Sp := fun vs H Q _ => ∃ d c xs rs, ∃ most : Int, vs = [.ref d, .ref c, .int most] ∧ Dice H d ∧ H c = some (.tup xs) ∧ RingsAt H 60 xs rs ∧ xs.length ≤ 12 ∧ 1 ≤ most ∧ most ≤ 10 ^ 41 ∧
  ∀ r H' ds, DealAt H' r ds → DOk rs ds (36 * (most + 1)) → ds.length ≤ 36 → r ≠ d → Dice H' d → Keep d H H' → Q (.ref r) H'
def spJoined : Sp := fun vs H Q _ => ∃ c v1 v2 xs rs d1 d2 t u, ∃ sg : Int, vs = [.ref c, v1, v2, .int sg] ∧ (sg = 1 ∨ sg = -1) ∧ H c = some (.tup xs) ∧ RingsAt H 60 xs rs ∧ xs.length ≤ 12 ∧ CL H v1 rs d1 t ∧ CL H v2 rs d2 u ∧
  ∀ r H', Ex H H' → CL H' (.ref r) rs (d1 + sg * d2) (fun i => t i + sg * u i) → Q (.ref r) H'
end
end K1

set_option exponentiation.threshold 400
namespace K1
open PySem PySem.Spec PyProof.Rows L2 Evl LX ZW ZM DM DR
def clD (deg : Int) (ps : List Int) : PyData := .tuple [.int deg, .tuple (ps.map PyData.int)]
theorem nl_one (rs : List (Int × Int)) : Nl rs one := fun _ _ => rfl
theorem nl_tau (rs : List (Int × Int)) (i : Nat) : Nl rs (tau rs i) := fun _ hp => tau_wname hp i
section
variable {P : Program} {w : World} {K : PySem.W.Frag} {mg : Str → Option Value} {base : Heap}
def spSumsRight : Sp := fun vs H Q _ => ∃ c a b l xs rs ds es fs B, vs = [.ref c, .ref a, .ref b, .ref l] ∧ H c = some (.tup xs) ∧ RingsAt H 60 xs rs ∧ (1 ≤ xs.length ∧ xs.length ≤ 12) ∧ DealAt H a ds ∧ DealAt H b es ∧ DealAt H l fs ∧ DOk rs ds B ∧ DOk rs es B ∧ DOk rs fs B ∧ B ≤ 10 ^ 45 ∧ ds.length ≤ 36 ∧ es.length ≤ 36 ∧ ∀ H', Ex H H' → Q (.bl true) H'
end
end K1

set_option exponentiation.threshold 400
namespace K1
open PySem PySem.Spec PyProof.Rows L2 Evl LX ZW ZM DM DR
theorem Keep.deal {d a : Addr} {H H' : Hp} {ds : Dl} (k : Keep d H H') (hd : Dice H d) (h : DealAt H a ds) : DealAt H' a ds := by
  obtain ⟨_, _, _, z⟩ := hd
  exact k _ _ (ne_of h z (by intro y; cases y)) h
theorem tau_left {rs : List (Int × Int)} (i : Nat) : tau rs i (0, K1N.sAt rs 0) = K1N.sAt rs i := by
  unfold tau
  by_cases z : (0 : Int) = (i : Int)
  · rw [if_pos z, show i = 0 by omega]
  · rw [if_neg z, if_pos (show (0 : Int) < (i : Int) by omega)]
theorem tau_right {rs : List (Int × Int)} {i : Nat} {n : Nat} (hn : n = rs.length) (h : i < rs.length) : tau rs i ((n : Int) - 1, 0) = 0 := by
  unfold tau
  by_cases z : (n : Int) - 1 = (i : Int)
  · rw [if_pos z]
  · rw [if_neg z, if_neg (show ¬ (n : Int) - 1 < (i : Int) by omega)]
section
variable {P : Program} {w : World} {K : PySem.W.Frag} {mg : Str → Option Value} {base : Heap}
def spEndsRight : Sp := fun vs H Q _ => ∃ d c a xs rs ds B, vs = [.ref d, .ref c, .ref a] ∧ Dice H d ∧ H c = some (.tup xs) ∧ RingsAt H 60 xs rs ∧ (1 ≤ xs.length ∧ xs.length ≤ 12) ∧ DealAt H a ds ∧ DOk rs ds B ∧ B ≤ 10 ^ 45 ∧ ds.length ≤ 36 ∧ ∀ H', Dice H' d → Keep d H H' → Q (.bl true) H'
end
end K1

/-! own rules: dict(d), dict(pairs), d == e of dicts whose keys are tuples -/
namespace DR
open PySem PySem.Spec PyProof.Rows L2
section
variable {prog : Program} {w : World} {K : Type} [DecidableEq K] {knd : HeapKind prog w K} {A : Around} {E : Value → Shared → Prop} {s : Shared}
/-- the entries of one dict, all ints, beside the other's -/
def sameB (ka kb : List (K × Addr × Value)) : Bool := ka.all fun x => match atKey kb x.1 with
  | some p => (match x.2.2, p.2 with
    | .int i _, .int j _ => decide (i = j)
    | _, _ => false)
  | none => false
end
end DR

namespace DR
open PySem PySem.Spec PyProof.Rows L2
/-! ### pairs of small ints have unlike hashes -/
def hh (i j : Int) : Int := reduceHash (Builtin.Tuple.tupleHashOf [hashInt i, hashInt j])
def rr (n : Nat) : Nat := (hh ((n / 60 : Nat) : Int) ((n % 60 : Nat) : Int) % 4187).toNat
def chk : List Nat → Nat → Bool
  | [], _ => true
  | x :: r, acc => !(acc.testBit x) && chk r (acc ||| (1 <<< x))
/-- keys that are places -/
def SmallK (kvs : List (List Key × V)) : Prop := ∀ p ∈ kvs, ∃ i j : Nat, p.1 = [.inl (i : Int), .inl (j : Int)] ∧ i < 13 ∧ j < 60
section
variable {X : Cx}
/-- dict(d), a new dict with d's entries -/
def rDictCopyT : List V → Hp → VK → Prop := fun vs H Q => ∃ (d : Addr) (kvs : List (List Key × V)), vs = [V.ref d] ∧ Rd H d (.dT kvs) ∧ SmallK kvs ∧ ∀ p, H p = none → Q (.ref p) (upd H p (.dT kvs))
/-- what a dict's entries, all ints, say beside another's -/
def sameT (ks ls : List (List Key × V)) : Bool := decide (ks.length = ls.length) && ks.all fun p => decide (valV ls p.1 = some p.2)
def IntsT (ks : List (List Key × V)) : Prop := ∀ p ∈ ks, ∃ i : Int, p.2 = .int i
def rEqDT : R2 := fun x y H Q => ∃ a b ks ls, x = .ref a ∧ y = .ref b ∧ H a = some (.dT ks) ∧ H b = some (.dT ls) ∧ IntsT ks ∧ IntsT ls ∧ Q (.bl (sameT ks ls)) H
def rNeDT : R2 := fun x y H Q => ∃ a b ks ls, x = .ref a ∧ y = .ref b ∧ H a = some (.dT ks) ∧ H b = some (.dT ls) ∧ IntsT ks ∧ IntsT ls ∧ Q (.bl (!sameT ks ls)) H
end
end DR

/-! own rule: dict(xs) of a list of pairs whose keys are tuples, told apart -/
namespace DR
open PySem PySem.Spec PyProof.Rows L2
/-- one pair of the list: its address, the key, the key's address, the value -/
structure Pr where
  p : Addr
  k : List Key
  b : Addr
  v : V
def Pr.ok (H : Hp) (z : Pr) : Prop := H z.p = some (.tup [.ref z.b, z.v]) ∧ H z.b = some (.tup (z.k.map kV))
def kvsOf (zs : List Pr) : List (List Key × V) := zs.map fun z => (z.k, z.v)
section
variable {X : Cx}
def rDictPairsT (K : PySem.W.Frag) : List V → Hp → VK → Prop := fun vs H Q => ∃ (a : Addr) (zs : List Pr), vs = [V.ref a] ∧ SqL K H a (zs.map fun z => V.ref z.p) ∧ (∀ z ∈ zs, z.ok H) ∧ ((kvsOf zs).map (·.1)).Nodup ∧ ∀ p, H p = none → Q (.ref p) (upd H p (.dT (kvsOf zs)))
end
end DR

/-! own rule: name = {k: v for ..}, keys tuples -/
namespace DR
open PySem PySem.Spec PyProof.Rows L2
end DR

/-! own rules: slices of a tuple and sums of tuples, whole or empty ones too, by what stands afterwards -/
namespace TE
open PySem PySem.Spec PyProof.Rows L2 Evl
section
variable {X : Cx}
def rSlE : V → Option Int → Option Int → Hp → VK → Prop := fun x lo hi H Q => ∃ a xs, x = .ref a ∧ H a = some (.tup xs) ∧ ∀ p H', Ex H H' → H' p = some (.tup (cutV xs lo hi)) → Q (.ref p) H'
theorem sl_tupE : SlR X rSlE := by
  intro pins s σ H x v vl vu lo hi sl Q I rx hs pl pu h
  obtain ⟨a, xs, rfl, hx, q⟩ := h
  refine sl_tupA pins s σ H _ v vl vu lo hi sl Q I rx hs pl pu ⟨a, xs, rfl, SqT.of hx, fun w => q a H (Ex.refl _) ?_, fun _ p hp => q p _ (Ex.new hp) upd_same⟩
  obtain ⟨w1, w2⟩ := w
  have e : cutV xs lo hi = xs := by
    unfold cutV
    rw [w1, w2, List.drop_zero, Nat.sub_zero, List.take_length]
  rw [e]
  exact hx
def rCatE : R2 := fun x y H Q => ∃ a b xs ys, x = .ref a ∧ y = .ref b ∧ H a = some (.tup xs) ∧ H b = some (.tup ys) ∧ xs.length + ys.length ≤ sizeLine ∧ ∀ p H', Ex H H' → H' p = some (.tup (xs ++ ys)) → Q (.ref p) H'
end
end TE

set_option exponentiation.threshold 400
namespace K1
open PySem PySem.Spec PyProof.Rows L2 Evl LX ZW ZM DM DR TE
def inR (rs : List (Int × Int)) (ps : List Int) (j : Nat) : Bool := decide (0 ≤ ps.getD j 0) && decide (ps.getD j 0 ≤ (K1N.nAt rs j : Int) - 1)
def toldB (rs : List (Int × Int)) (ps : List Int) : Bool := decide (ps.length = rs.length) && ((List.range rs.length).map (inR rs ps)).all id
inductive TupB (H : Hp) (rs : List (Int × Int)) : V → Bool → Prop where
  | lst {a : Addr} {xs : List V} (e : H a = some (.lst xs)) : TupB H rs (.ref a) false
  | tup {a : Addr} {ps : List Int} (e : PlacesT H a ps) (hb : ∀ j : Nat, -(10 ^ 60) < ps.getD j 0 ∧ ps.getD j 0 < 10 ^ 60) : TupB H rs (.ref a) (toldB rs ps)
/-- a chip on each ring -/
def chipsOf (ps : List Int) (n : Nat) : Dl := (List.range n).map fun (j : Nat) => (((j : Int), ps.getD j 0), 1)
theorem chips_succ (ps : List Int) (n : Nat) : chipsOf ps (n + 1) = chipsOf ps n ++ [(((n : Int), ps.getD n 0), 1)] := by
  unfold chipsOf
  rw [List.range_succ, List.map_append]
  rfl
theorem chips_one (ps : List Int) : ∀ n : Nat, Sf one (chipsOf ps n) = (n : Int)
  | 0 => rfl
  | n + 1 => by
    rw [chips_succ, Sf_snoc, chips_one ps n]
    show (n : Int) + 1 * 1 = _
    omega
theorem chips_tau (rs : List (Int × Int)) (ps : List Int) (i : Nat) : ∀ n : Nat, Sf (tau rs i) (chipsOf ps n) = if i < n then ps.getD i 0 + (i : Int) * K1N.sAt rs i else (n : Int) * K1N.sAt rs i
  | 0 => by
    rw [if_neg (Nat.not_lt_zero i)]
    show (0 : Int) = 0 * _
    rw [Int.zero_mul]
  | n + 1 => by
    rw [chips_succ, Sf_snoc, chips_tau rs ps i n]
    unfold tau
    dsimp only
    by_cases h1 : i < n
    · rw [if_pos h1, if_pos (show i < n + 1 by omega), if_neg (show ¬ (n : Int) = (i : Int) by omega), if_neg (show ¬ (n : Int) < (i : Int) by omega)]
      omega
    · rw [if_neg h1]
      by_cases h2 : i = n
      · subst h2
        rw [if_pos (show i < i + 1 by omega), if_pos rfl]
        omega
      · rw [if_neg (show ¬ i < n + 1 by omega), if_neg (show ¬ (n : Int) = (i : Int) by omega), if_pos (show (n : Int) < (i : Int) by omega), Int.natCast_add, Int.add_mul]
        show _ + _ * 1 = _ + 1 * _
        omega
section
variable {P : Program} {w : World} {K : PySem.W.Frag} {mg : Str → Option Value} {base : Heap}
def spLiesTold2 : Sp := fun vs H Q _ => ∃ c v xs rs b, vs = [.ref c, v] ∧ H c = some (.tup xs) ∧ RingsAt H 60 xs rs ∧ xs.length ≤ 12 ∧ TupB H rs v b ∧ ∀ H', Ex H H' → Q (.bl b) H'
def spIsTuple : Sp := fun vs H Q _ => ∃ c v xs rs b, vs = [.ref c, v] ∧ H c = some (.tup xs) ∧ RingsAt H 60 xs rs ∧ (1 ≤ xs.length ∧ xs.length ≤ 12) ∧ TupB H rs v b ∧ ∀ H', Ex H H' → Q (.bl b) H'
def sameCl (rs : List (Int × Int)) (ds es : Dl) : Bool := decide (Sf one ds = Sf one es ∧ (cx rs fun i => Sf (tau rs i) ds) = cx rs fun i => Sf (tau rs i) es)
end
end K1

set_option exponentiation.threshold 400
namespace K1
open PySem PySem.Spec PyProof.Rows L2 Evl LX ZW ZM DM DR TE
/-- the places and chips on one ring -/
def mineOf (ds : Dl) (j : Nat) : List (Int × Int) := (ds.filter fun e => decide (e.1.1 = (j : Int))).map fun e => (e.1.2, e.2)
section
variable {P : Program} {w : World} {K : PySem.W.Frag} {mg : Str → Option Value} {base : Heap}
end
end K1

set_option exponentiation.threshold 400
namespace K1
open PySem PySem.Spec PyProof.Rows L2 Evl LX ZW ZM DM DR TE
section
variable {P : Program} {w : World} {K : PySem.W.Frag} {mg : Str → Option Value} {base : Heap}
def spPlain : Sp := fun vs H Q _ => ∃ c x xs rs ps, ∃ tot : Int, vs = [.ref c, .int tot, .ref x] ∧ H c = some (.tup xs) ∧ RingsAt H 60 xs rs ∧ (1 ≤ xs.length ∧ xs.length ≤ 12) ∧ PlacesT H x ps ∧ ps.length = xs.length ∧ PlOk rs ps ∧ (tot.natAbs : Int) ≤ 10 ^ 45 ∧
  ∀ r H' res, Ex H H' → H r = none → DealAt H' r res → DOk rs res (10 ^ 46) → res.length ≤ 13 → (∀ f, Sf f res = Sf f (chipsOf ps xs.length) + (tot - xs.length) * f ((xs.length : Int) - 1, 0)) → Q (.ref r) H'
theorem ok_plain (T : Txt K mg) {f : Addr} {fd : FuncData} (D : DefAt K mg "_law_plain" sLPlain ["_law_chain", "_law_total", "_law_x"] f fd) : FnOk P w K mg base CX0 1 f fd ["_law_chain", "_law_total", "_law_x"] spPlain := by
  refine D.F.ok scLPlain (fun vs H Q E h => ?_) (fun cdv A outer s₀ H vs Q E hr h => ?_)
  · obtain ⟨c, x, xs, rs, ps, tot, rfl, _⟩ := h
    rfl
  · obtain ⟨c, x, xs, rs, ps, tot, rfl, hc, hR, hl, hx, hpl, hok, ht, k⟩ := h
    have hlen : xs.length = rs.length := paired_len hR
    have hu1 := Nat.lt_of_le_of_lt (Nat.add_le_add_left (show 1 ≤ 64 by decide) _) hr.units
    refine ⟨_, pss_cons (ps_set (i := 3) scLPlain.nd rfl (.inl rfl) pe_dnewT)
      (pss_cons (ps_for PassesOwn.never rfl (pi_range1 (by rfl) T.z_range (pa_cons (pe_callB call_len_seq (by rfl) T.z_len PySem.boot_len (pa_cons (pv 0) pa_nil)) pa_nil)) (pg_name (i := 4) scLPlain.nd rfl (.inl rfl))
        (pss_one (ps_dput hu1 (pv 3) (pe_tup (pa_cons (pv 4) (pa_cons (pe_ix ix_tup (pv 2) (pv 4) (fun _ _ => rfl)) pa_nil))) (pe_op op_add (pe_dget2 hu1 (pv 3) (pe_tup (pa_cons (pv 4) (pa_cons (pe_ix ix_tup (pv 2) (pv 4) (fun _ _ => rfl)) pa_nil))) pe_int ⟨rfl, rfl, rfl, rfl⟩) pe_int) rfl)))
      (pss_cons (ps_set (i := 5) scLPlain.nd rfl (.inl rfl) (pe_tup (pa_cons (pe_op op_sub (pe_callB call_len_seq (by rfl) T.z_len PySem.boot_len (pa_cons (pv 0) pa_nil)) pe_int) (pa_cons pe_int pa_nil))))
      (pss_cons (ps_dput hu1 (pv 3) (pv 5) (pe_op op_sub (pe_op op_add (pe_dget2 hu1 (pv 3) (pv 5) pe_int ⟨rfl, rfl, rfl, rfl⟩) (pv 1)) (pe_callB call_len_seq (by rfl) T.z_len PySem.boot_len (pa_cons (pv 0) pa_nil))) rfl)
      (pss_one (ps_ret (pv 3)))))), ?_⟩
    intro sd hsd
    have e0 := Ex.new (o := .dT []) hsd
    refine ⟨_, rfl, c, _, rfl, .inr (SqT.of (e0 _ _ hc)), _, rfl, by omega, by omega, ?_⟩
    refine for_range (lo := 0) (n := Int.toNat _) (fun i σ' H' => ∃ (y4 : Option V) (cur : Dl), σ' = [some (.ref c), some (.int tot), some (.ref x), some (.ref sd), y4, none] ∧ DealAt H' sd cur ∧ NK cur ∧ KIn rs cur ∧ Ab cur ≤ (i : Int) ∧ cur.length ≤ i ∧ (∀ f, Sf f cur = Sf f (chipsOf ps i)) ∧ Ex H H')
      ⟨none, [], rfl, upd_same, List.nodup_nil, fun e he => absurd he (by simp), Int.le_refl 0, Nat.le_refl 0, fun f => rfl, e0⟩ (fun i σ' H' hi hW => ?_) (fun σ' H' hW => ?_)
    · obtain ⟨y4, cur, rfl, w1, w2, w3, w4, w5, w6, w7⟩ := hW
      have hi' : i < rs.length := by omega
      have e0i : (0 : Int) + (i : Int) = ((i : Nat) : Int) := by omega
      rw [e0i]
      have hx1 : PlacesT H' x ps := w7 _ _ hx
      have hb := hok i (by omega)
      refine ⟨_, rfl, sd, rfl, .inr ⟨_, .inl w1⟩, _, rfl, _, rfl, _, rfl, x, _, _, _, rfl, rfl, SqT.of hx1, atI_nat (int_get5 (by omega)), by show 2 ≤ sizeLine; decide, fun k1 hk1 => ?_⟩
      have x1 := Ex.new (o := .tup [.int (i : Nat), .int (ps.getD i 0)]) hk1
      have g1 : (upd H' k1 (.tup [.int (i : Nat), .int (ps.getD i 0)])) k1 = some (.tup ((dk ((i : Int), ps.getD i 0)).map kV)) := upd_same
      refine ⟨_, DGet.t (x1 _ _ w1) g1, g0 cur ((i : Int), ps.getD i 0), 1, by rw [valV_ent]; exact getD_g0 _ _, rfl, _, rfl, _, rfl, _, rfl, _, rfl, x, _, _, _, rfl, rfl, SqT.of (x1 _ _ hx1), atI_nat (int_get5 (by omega)), by show 2 ≤ sizeLine; decide, fun k2 hk2 => ?_⟩
      have x2 := x1.trans (Ex.new (o := .tup [.int (i : Nat), .int (ps.getD i 0)]) hk2)
      have g2 : (upd (upd H' k1 (.tup [.int (i : Nat), .int (ps.getD i 0)])) k2 (.tup [.int (i : Nat), .int (ps.getD i 0)])) k2 = some (.tup ((dk ((i : Int), ps.getD i 0)).map kV)) := upd_same
      generalize upd (upd H' k1 (.tup [.int (i : Nat), .int (ps.getD i 0)])) k2 (.tup [.int (i : Nat), .int (ps.getD i 0)]) = H2 at x2 g2 ⊢
      obtain ⟨_, pab⟩ := put_sum (f := one) (p := ((i : Int), ps.getD i 0)) (x := 1) w2
      refine ⟨sd, _, rfl, DPut.t (k := dk ((i : Int), ps.getD i 0)) (x2 _ _ w1) g2 (by rw [List.length_map]; exact small1000 (by omega)), ?_⟩
      refine ⟨_, putE cur ((i : Int), ps.getD i 0) (g0 cur ((i : Int), ps.getD i 0) + 1), rfl, ?_, put_nk w2, ?_, ?_, ?_, ?_, (w7.trans x2).mut hsd⟩
      · show upd H2 sd _ sd = _
        rw [upd_same]
        dsimp only
        rw [putK_ent]
      · intro e he
        rcases put_keys e he with h1 | ⟨d2, h1, h2⟩
        · rw [h1]
          exact ⟨⟨by show (0 : Int) ≤ (i : Int); omega, by show (i : Int) < _; omega⟩, hb.1, by show _ < (K1N.nAt rs ((i : Int)).toNat : Int); rw [Int.toNat_natCast]; exact hb.2⟩
        · rw [← h2]
          exact w3 d2 h1
      · have : ((1 : Int).natAbs : Int) = 1 := rfl
        omega
      · have := put_len cur ((i : Int), ps.getD i 0) (g0 cur ((i : Int), ps.getD i 0) + 1)
        omega
      · intro f
        rw [(put_sum (f := f) (p := ((i : Int), ps.getD i 0)) (x := 1) w2).1, w6 f, chips_succ, Sf_snoc]
    · obtain ⟨y4, cur, rfl, w1, w2, w3, w4, w5, w6, w7⟩ := hW
      rw [show ((xs.length : Int)).toNat = xs.length by omega] at w4 w5 w6
      refine ⟨_, rfl, c, _, rfl, .inr (SqT.of (w7 _ _ hc)), _, _, rfl, rfl, by show 2 ≤ sizeLine; decide, fun k1 hk1 => ?_⟩
      have x1 := Ex.new (o := .tup [.int ((xs.length : Int) - 1), .int 0]) hk1
      have g1 : (upd H' k1 (.tup [.int ((xs.length : Int) - 1), .int 0])) k1 = some (.tup ((dk ((xs.length : Int) - 1, 0)).map kV)) := upd_same
      have w1' := x1 _ _ w1
      have w7' := w7.trans x1
      dsimp only
      generalize upd H' k1 (.tup [.int ((xs.length : Int) - 1), .int 0]) = H2 at g1 w1' w7' ⊢
      have n0 := rings_pos hR (rs.length - 1) (by omega)
      refine ⟨_, rfl, sd, rfl, .inr ⟨_, .inl w1'⟩, _, rfl, _, DGet.t w1' g1, _, rfl, g0 cur ((xs.length : Int) - 1, 0), tot, by rw [valV_ent]; exact getD_g0 _ _, rfl, _, rfl, c, _, rfl, .inr (SqT.of (w7' _ _ hc)), _, _, rfl, rfl, _, rfl, _, rfl, sd, _, rfl, DPut.t (k := dk ((xs.length : Int) - 1, 0)) w1' g1 (by rw [List.length_map]; exact small1000 (by omega)), ?_⟩
      have pab := put_sum (f := one) (p := ((xs.length : Int) - 1, 0)) (x := tot - (xs.length : Int)) w2
      have ev : g0 cur ((xs.length : Int) - 1, 0) + tot - (xs.length : Int) = g0 cur ((xs.length : Int) - 1, 0) + (tot - (xs.length : Int)) := by omega
      refine ⟨_, rfl, k sd _ (putE cur ((xs.length : Int) - 1, 0) (g0 cur ((xs.length : Int) - 1, 0) + (tot - (xs.length : Int)))) (w7'.mut hsd) hsd ?_ ⟨put_nk w2, ?_, ?_, ?_⟩ ?_ ?_⟩
      · show upd H2 sd _ sd = _
        rw [upd_same]
        dsimp only
        rw [putK_ent, ev]
      · intro e he
        rcases put_keys e he with h1 | ⟨d2, h1, h2⟩
        · rw [h1]
          refine ⟨⟨by show (0 : Int) ≤ (xs.length : Int) - 1; omega, by show (xs.length : Int) - 1 < _; omega⟩, Int.le_refl 0, ?_⟩
          show (0 : Int) < (K1N.nAt rs ((xs.length : Int) - 1).toNat : Int)
          rw [show ((xs.length : Int) - 1).toNat = rs.length - 1 by omega]
          omega
        · rw [← h2]
          exact w3 d2 h1
      · have := pab.2
        omega
      · have := put_len cur ((xs.length : Int) - 1, 0) (g0 cur ((xs.length : Int) - 1, 0) + (tot - (xs.length : Int)))
        omega
      · have := put_len cur ((xs.length : Int) - 1, 0) (g0 cur ((xs.length : Int) - 1, 0) + (tot - (xs.length : Int)))
        omega
      · intro f
        rw [(put_sum (f := f) (p := ((xs.length : Int) - 1, 0)) (x := tot - (xs.length : Int)) w2).1, w6 f, Int.mul_comm]
end
end K1

/-! plain mathematics of heaps: how many columns reach to a diagonal; heaps of two rules that are one but moved -/
namespace HM
/-- just k columns end at or below the diagonal t -/
def IsF (h : List Nat) (t : Int) (k : Nat) : Prop := (∀ c, c < k → dg h c ≤ t) ∧ t < dg h k
open Classical in
noncomputable def F (h : List Nat) (t : Int) : Nat := if e : ∃ k, IsF h t k then Classical.choose e else 0
theorem dg_ge {h : List Nat} (H : IsHeap h) (c : Nat) : (c : Int) - (hAt h 0 : Int) ≤ dg h c := by
  have := H.le (Nat.zero_le c)
  unfold dg
  omega
theorem dg_le (h : List Nat) (c : Nat) : dg h c ≤ (c : Int) := by
  unfold dg
  omega
theorem exF {h : List Nat} (H : IsHeap h) (t : Int) : ∃ k, IsF h t k := by
  have key : ∀ n : Nat, (∃ k, IsF h t k) ∨ ∀ c, c < n → dg h c ≤ t := by
    intro n
    induction n with
    | zero => exact .inr fun c hc => absurd hc (Nat.not_lt_zero c)
    | succ n ih =>
      rcases ih with e | a
      · exact .inl e
      · by_cases q : dg h n ≤ t
        · refine .inr fun c hc => ?_
          rcases Nat.lt_or_ge c n with z | z
          · exact a c z
          · have : c = n := by omega
            subst this
            exact q
        · exact .inl ⟨n, a, by omega⟩
  rcases key ((t + hAt h 0 + 1).toNat + 1) with e | a
  · exact e
  · have h1 := a _ (Nat.lt_succ_self _)
    have h2 := dg_ge H (t + hAt h 0 + 1).toNat
    omega
theorem F_spec {h : List Nat} (H : IsHeap h) (t : Int) : IsF h t (F h t) := by
  unfold F
  rw [dif_pos (exF H t)]
  exact Classical.choose_spec (exF H t)
theorem IsF.uniq {h : List Nat} {t : Int} {j k : Nat} (a : IsF h t j) (b : IsF h t k) : j = k := by
  rcases Nat.lt_trichotomy j k with q | q | q
  · have := b.1 j q
    have := a.2
    omega
  · exact q
  · have := a.1 k q
    have := b.2
    omega
theorem F_eq {h : List Nat} (H : IsHeap h) {t : Int} {k : Nat} (a : IsF h t k) : F h t = k := (F_spec H t).uniq a
theorem F_mono {h : List Nat} (H : IsHeap h) (t : Int) : F h t ≤ F h (t + 1) ∧ F h (t + 1) ≤ F h t + 1 := by
  have a := F_spec H t
  have b := F_spec H (t + 1)
  constructor
  · refine Nat.le_of_not_lt fun q => ?_
    have := a.1 _ q
    have := b.2
    omega
  · refine Nat.le_of_not_lt fun q => ?_
    have h1 := b.1 _ q
    have h3 := a.2
    have h2 := dg_lt H (Nat.lt_succ_self (F h t))
    show False
    have : dg h (F h t + 1) = dg h (F h t).succ := rfl
    omega
/-- the rule of growth in these numbers -/
theorem F_grow {h : List Nat} (H : IsHeap h) {L : Int → Prop} [DecidablePred L] {g : Nat → Bool} (hg : ∀ c, g c = (opn h c && decide (L (dg h c)))) (t : Int) :
    F (grow h g) t = F h t + if L (t + 1) ∧ F h (t + 1) = F h t + 1 ∧ F h (t - 1) = F h t then 1 else 0 := by
  have ho : ∀ c, g c = true → opn h c = true := fun c z => by
    rw [hg, Bool.and_eq_true] at z
    exact z.1
  have hd : ∀ c, dg (grow h g) c = dg h c - (b2n (g c) : Int) := fun c => by
    unfold dg
    rw [hAt_grow ho]
    omega
  have G := grow_heap H ho
  have a := F_spec H t
  have ap := F_spec H (t + 1)
  have am := F_spec H (t - 1)
  have m1 := F_mono H t
  have m2 := F_mono H (t - 1)
  rw [show t - 1 + 1 = t by omega] at m2
  refine F_eq G ?_
  generalize hk : F h t = k at *
  by_cases c : L (t + 1) ∧ F h (t + 1) = k + 1 ∧ F h (t - 1) = k
  · rw [if_pos c]
    obtain ⟨c1, c2, c3⟩ := c
    rw [c2] at ap
    rw [c3] at am
    have e1 := ap.1 k (Nat.lt_succ_self k)
    have e2 := a.2
    have e : dg h k = t + 1 := by omega
    have op : opn h k = true := by
      cases k with
      | zero => rfl
      | succ j =>
        unfold opn
        rw [Bool.or_eq_true]
        refine .inr (decide_eq_true ?_)
        show hAt h (j + 1) < hAt h j
        have e3 := am.1 j (Nat.lt_succ_self j)
        unfold dg at e e3
        omega
    have gk : g k = true := by
      rw [hg, op, e, decide_eq_true c1]
      rfl
    refine ⟨fun x hx => ?_, ?_⟩
    · rw [hd]
      by_cases z : x = k
      · rw [z, gk]
        show _ - ((1 : Nat) : Int) ≤ _
        omega
      · have := a.1 x (by omega)
        omega
    · rw [hd]
      have h1 := dg_lt H (Nat.lt_succ_self k)
      have h2 := b2n_le (g (k + 1))
      have : dg h (k + 1) = dg h k.succ := rfl
      have h3 : g (k + 1) = true → False ∨ True := fun _ => .inr trivial
      by_cases z : dg h (k + 1) = t + 2
      · have : g (k + 1) = false ∨ g (k + 1) = true := by cases g (k + 1) <;> simp
        rcases this with q | q
        · rw [q]
          show _ < _ - ((0 : Nat) : Int)
          omega
        · have q2 := ho _ q
          have := opn_lt q2
          unfold dg at z e
          omega
      · omega
  · rw [if_neg c, Nat.add_zero]
    refine ⟨fun x hx => ?_, ?_⟩
    · rw [hd]
      have := a.1 x hx
      omega
    · rw [hd]
      have a2 := a.2
      cases q : g k with
      | false =>
        show _ < _ - ((0 : Nat) : Int)
        omega
      | true =>
        show _ < _ - ((1 : Nat) : Int)
        refine Int.lt_of_not_ge fun z => c ?_
        have e : dg h k = t + 1 := by omega
        have q1 := q
        rw [hg, Bool.and_eq_true] at q1
        refine ⟨by have := of_decide_eq_true q1.2; rwa [e] at this, ?_, ?_⟩
        · have : F h (t + 1) ≠ k := fun y => by
            have := ap.2
            rw [y] at this
            omega
          omega
        · refine Nat.le_antisymm m2.1 (Nat.le_of_not_lt fun y => ?_)
          have hj : k = F h (t - 1) + 1 := by omega
          have e1 := am.2
          have e2 := a.1 _ y
          have op := q1.1
          rw [hj] at op
          have := opn_lt op
          rw [hj] at e
          unfold dg at e e1 e2
          omega
/-- two heaps, the second with one column more that reaches, all diagonals moved by one -/
def Rl (h m : List Nat) : Prop := ∀ t : Int, F h t ≤ F m (t + 1) ∧ F m (t + 1) ≤ F h t + 1 ∧ F m (t + 1) + F h (t + 1) ≤ F m (t + 2) + F h t
theorem F_nil (t : Int) : F [] t = (t + 1).toNat := by
  refine F_eq IsHeap.nil ⟨fun c hc => ?_, ?_⟩
  · have := dg_le [] c
    omega
  · unfold dg
    rw [hAt_ge (Nat.zero_le _)]
    omega
theorem F_low {h : List Nat} (H : IsHeap h) (t : Int) : (t + 1).toNat ≤ F h t := by
  refine Nat.le_of_not_lt fun q => ?_
  have := (F_spec H t).2
  have := dg_le h (F h t)
  omega
theorem F_high {h : List Nat} (H : IsHeap h) {t : Int} (q : (h.length : Int) ≤ t + 1) : F h t = (t + 1).toNat := by
  refine F_eq H ⟨fun c hc => ?_, ?_⟩
  · have := dg_le h c
    omega
  · unfold dg
    rw [hAt_ge (by omega)]
    omega
theorem F_zero {h : List Nat} (H : IsHeap h) {t : Int} (q : t < -(hAt h 0 : Int)) : F h t = 0 :=
  F_eq H ⟨fun c hc => absurd hc (Nat.not_lt_zero c), by unfold dg; omega⟩
end HM

namespace K1
open PySem PySem.Spec PyProof.Rows L2 Evl HM LX
/-- places with chips more at the left end -/
def mvp (rs : List (Int × Int)) (a : Int) (ps : List Int) : List Int := (List.range ps.length).map fun j => (ps.getD j 0 + a * K1N.sAt rs j) % (K1N.nAt rs j : Int)
theorem mvp_len (rs : List (Int × Int)) (a : Int) (ps : List Int) : (mvp rs a ps).length = ps.length := by
  unfold mvp
  rw [List.length_map, List.length_range]
theorem mvp_get (rs : List (Int × Int)) (a : Int) {ps : List Int} {j : Nat} (hj : j < ps.length) : (mvp rs a ps).getD j 0 = (ps.getD j 0 + a * K1N.sAt rs j) % (K1N.nAt rs j : Int) := by
  unfold mvp
  rw [mapr_get _ hj]
theorem mvp_zero {rs : List (Int × Int)} {ps : List Int} (h : PlOk rs ps) : mvp rs 0 ps = ps := by
  refine List.ext_getElem (mvp_len _ _ _) fun i h1 h2 => ?_
  have e := mvp_get rs 0 h2
  have q := h i h2
  rw [Int.zero_mul, Int.add_zero, Int.emod_eq_of_lt q.1 q.2] at e
  rw [List.getD_eq_getElem?_getD, List.getElem?_eq_getElem h1, List.getD_eq_getElem?_getD, List.getElem?_eq_getElem h2] at e
  exact e
theorem rule_mv (d s p a n : Int) : (d * s - (p + a * s) % n) % n = 0 ↔ ((d - a) * s - p) % n = 0 := by
  have e : ((d - a) * s - p) % n = (d * s - (p + a * s) % n) % n := by
    have := Int.mul_ediv_add_emod (p + a * s) n
    rw [show (d - a) * s - p = (d * s - (p + a * s) % n) + n * (-((p + a * s) / n)) by rw [Int.sub_mul, Int.mul_neg]; omega, Int.add_mul_emod_self_left]
  rw [e]
/-- richness and 1, by columns -/
noncomputable def rich1 (rs : List (Int × Int)) (ps : List Int) (tot : Int) : Nat := F (hseq rs ps ps.length) (tot - ps.length)
theorem rich_neg (rs : List (Int × Int)) (ps : List Int) {tot : Int} (h : tot < 0) : rich1 rs ps tot = 0 := by
  have q := (hseq_ok rs ps ps.length)
  exact F_zero q.1 (by have := q.2.2; omega)
theorem rich_great (rs : List (Int × Int)) (ps : List Int) {tot : Int} (h : 2 * (ps.length : Int) - 2 < tot) : rich1 rs ps tot = (tot - ps.length + 1).toNat := by
  have q := (hseq_ok rs ps ps.length)
  exact F_high q.1 (by have := q.2.1; omega)
end K1

/-! the map of a chain: exchanges of neighbours, ring by ring; what it counts; plain mathematics -/
namespace MP
/-- exchanged where they rise -/
def stepP (M : Int → Bool) (f : Int → Int) (i : Int) : Int := if M i = true then max (f i) (f (i + 1)) else if M (i - 1) = true then min (f (i - 1)) (f i) else f i
/-- no two neighbours -/
def Sparse (M : Int → Bool) : Prop := ∀ i, M i = true → M (i + 1) = false
theorem Sparse.ahead {M : Int → Bool} (S : Sparse M) {i : Int} (h : M i = true) : M (i - 1) = false := by
  cases q : M (i - 1) with
  | false => rfl
  | true =>
    have := S _ q
    rw [show i - 1 + 1 = i by omega, h] at this
    cases this
theorem stepP_at {M : Int → Bool} {f : Int → Int} {i : Int} (h : M i = true) : stepP M f i = max (f i) (f (i + 1)) := if_pos h
theorem stepP_next {M : Int → Bool} (S : Sparse M) {f : Int → Int} {i : Int} (h : M i = true) : stepP M f (i + 1) = min (f i) (f (i + 1)) := by
  unfold stepP
  rw [if_neg (by rw [S i h]; decide), show i + 1 - 1 = i by omega, if_pos h]
theorem stepP_none {M : Int → Bool} {f : Int → Int} (h : ∀ i, M i = false) : stepP M f = f := by
  funext i
  unfold stepP
  rw [if_neg (by rw [h]; decide), if_neg (by rw [h]; decide)]
/-- the map, the last ring first -/
def pmap : List (Int → Bool) → (Int → Int) → Int → Int
  | [], f => f
  | M :: Ms, f => stepP M (pmap Ms f)
theorem pmap_bound {e : Int} : ∀ (Ms : List (Int → Bool)) (i : Int), i + e - Ms.length ≤ pmap Ms (fun i => i + e) i ∧ pmap Ms (fun i => i + e) i ≤ i + e + Ms.length
  | [], i => by
    show i + e - 0 ≤ i + e ∧ i + e ≤ i + e + 0
    omega
  | M :: Ms, i => by
    have h0 := pmap_bound (e := e) Ms i
    have h1 := pmap_bound (e := e) Ms (i + 1)
    have h2 := pmap_bound (e := e) Ms (i - 1)
    rw [List.length_cons]
    show i + e - ((Ms.length + 1 : Nat) : Int) ≤ stepP M _ i ∧ stepP M _ i ≤ i + e + ((Ms.length + 1 : Nat) : Int)
    unfold stepP
    split
    · omega
    · split
      · omega
      · omega
/-- each value once -/
def Bij (f : Int → Int) : Prop := ∀ t, ∃ i, f i = t ∧ ∀ j, f j = t → j = i
/-- where the value comes from -/
def sw (M : Int → Bool) (f : Int → Int) (i : Int) : Int := if M i = true then (if f i < f (i + 1) then i + 1 else i) else if M (i - 1) = true then (if f (i - 1) < f i then i - 1 else i) else i
/-! ### what is counted -/
def opN (M : Int → Bool) (F : Int → Int) (v : Int) : Int := if M v = true then min (F (v - 1) + 1) (F (v + 1)) else F v
def opE (M : Int → Bool) (E : Int → Int) (v : Int) : Int := if M v = true then min (E (v + 1) + 1) (E (v - 1)) else E v
def Up (F : Int → Int) : Prop := ∀ v, F (v - 1) ≤ F v ∧ F v ≤ F (v - 1) + 1
def Down (E : Int → Int) : Prop := ∀ v, E v ≤ E (v - 1) ∧ E (v - 1) ≤ E v + 1
def ind (b : Int) (f : Int → Int) (v : Int) : Int := if -b ≤ f v then 1 else 0
/-- F counts the values of f from -b on -/
def Counts (b : Int) (f F : Int → Int) : Prop := ∀ v, F v - F (v - 1) = ind b f v
theorem counts_step {M : Int → Bool} (S : Sparse M) {b : Int} {f F : Int → Int} (C : Counts b f F) : Counts b (stepP M f) (opN M F) := fun v => by
  have c0 : F v - F (v - 1) = if -b ≤ f v then 1 else 0 := C v
  have c1 : F (v + 1) - F (v + 1 - 1) = if -b ≤ f (v + 1) then 1 else 0 := C (v + 1)
  have c2 : F (v - 1) - F (v - 1 - 1) = if -b ≤ f (v - 1) then 1 else 0 := C (v - 1)
  rw [show v + 1 - 1 = v by omega] at c1
  rw [show v - 1 - 1 = v - 2 by omega] at c2
  show opN M F v - opN M F (v - 1) = if -b ≤ stepP M f v then 1 else 0
  by_cases m : M v = true
  · have e1 : opN M F v = min (F (v - 1) + 1) (F (v + 1)) := if_pos m
    have e2 : opN M F (v - 1) = F (v - 1) := if_neg (by rw [S.ahead m]; decide)
    rw [e1, e2, stepP_at m]
    split at c0 <;> split at c1 <;> split <;> omega
  · have e1 : opN M F v = F v := if_neg m
    rw [e1]
    by_cases m2 : M (v - 1) = true
    · have e2 : opN M F (v - 1) = min (F (v - 1 - 1) + 1) (F (v - 1 + 1)) := if_pos m2
      have e3 := stepP_next S (f := f) m2
      rw [show v - 1 + 1 = v by omega] at e3
      rw [e2, show v - 1 - 1 = v - 2 by omega, show v - 1 + 1 = v by omega, e3]
      split at c0 <;> split at c2 <;> split <;> omega
    · have e2 : opN M F (v - 1) = F (v - 1) := if_neg m2
      have e3 : stepP M f v = f v := by
        unfold stepP
        rw [if_neg m, if_neg m2]
      rw [e2, e3]
      exact c0
def napp : List (Int → Bool) → (Int → Int) → Int → Int
  | [], F => F
  | M :: Ms, F => opN M (napp Ms F)
theorem counts_pmap {b : Int} {f F : Int → Int} (C : Counts b f F) : ∀ Ms : List (Int → Bool), (∀ M ∈ Ms, Sparse M) → Counts b (pmap Ms f) (napp Ms F)
  | [], _ => C
  | M :: Ms, h => counts_step (h M (List.mem_cons_self ..)) (counts_pmap C Ms fun N hN => h N (List.mem_cons_of_mem _ hN))
/-- the beginning: all from V + 1 on -/
def base (V v : Int) : Int := max 0 (v - V)
theorem counts_base {b e : Int} : Counts b (fun i => i + e) (base (-b - e - 1)) := fun v => by
  show max 0 (v - (-b - e - 1)) - max 0 (v - 1 - (-b - e - 1)) = if -b ≤ v + e then 1 else 0
  split <;> omega
theorem opE_down {M : Int → Bool} (S : Sparse M) {E : Int → Int} (D : Down E) : Down (opE M E) := fun v => by
  have d0 := D v
  have d1 := D (v + 1)
  have d2 := D (v - 1)
  rw [show v + 1 - 1 = v by omega] at d1
  rw [show v - 1 - 1 = v - 2 by omega] at d2
  unfold opE
  rw [show v - 1 - 1 = v - 2 by omega, show v - 1 + 1 = v by omega]
  by_cases m : M v = true
  · rw [if_pos m, if_neg (by rw [S.ahead m]; decide)]
    omega
  · rw [if_neg m]
    split <;> omega
/-- one ring may be counted at either side -/
theorem pair {M : Int → Bool} (S : Sparse M) {E F : Int → Int} (D : Down E) (U : Up F) (B : Int) : (∀ v, B ≤ opE M E v + F v) ↔ ∀ v, B ≤ E v + opN M F v := by
  constructor
  · intro h v
    by_cases m : M v = true
    · have h1 := h (v - 1)
      have h2 := h (v + 1)
      have mp : ¬ M (v - 1) = true := by rw [S.ahead m]; decide
      have mn : ¬ M (v + 1) = true := by rw [S v m]; decide
      unfold opE at h1 h2
      rw [if_neg mp] at h1
      rw [if_neg mn] at h2
      unfold opN
      rw [if_pos m]
      have d0 := D v
      have d1 := D (v + 1)
      rw [show v + 1 - 1 = v by omega] at d1
      omega
    · have h1 := h v
      unfold opE at h1
      rw [if_neg m] at h1
      unfold opN
      rw [if_neg m]
      exact h1
  · intro h v
    by_cases m : M v = true
    · have h1 := h (v - 1)
      have h2 := h (v + 1)
      have mp : ¬ M (v - 1) = true := by rw [S.ahead m]; decide
      have mn : ¬ M (v + 1) = true := by rw [S v m]; decide
      unfold opN at h1 h2
      rw [if_neg mp] at h1
      rw [if_neg mn] at h2
      unfold opE
      rw [if_pos m]
      have d0 := U v
      have d1 := U (v + 1)
      rw [show v + 1 - 1 = v by omega] at d1
      omega
    · have h1 := h v
      unfold opN at h1
      rw [if_neg m] at h1
      unfold opE
      rw [if_neg m]
      exact h1
theorem opN_up {M : Int → Bool} (S : Sparse M) {F : Int → Int} (U : Up F) : Up (opN M F) := fun v => by
  have d0 := U v
  have d1 := U (v + 1)
  have d2 := U (v - 1)
  rw [show v + 1 - 1 = v by omega] at d1
  rw [show v - 1 - 1 = v - 2 by omega] at d2
  unfold opN
  rw [show v - 1 - 1 = v - 2 by omega, show v - 1 + 1 = v by omega]
  by_cases m : M v = true
  · rw [if_pos m, if_neg (by rw [S.ahead m]; decide)]
    omega
  · rw [if_neg m]
    split <;> omega
theorem napp_up {F : Int → Int} (U : Up F) : ∀ Ms : List (Int → Bool), (∀ M ∈ Ms, Sparse M) → Up (napp Ms F)
  | [], _ => U
  | M :: Ms, h => opN_up (h M (List.mem_cons_self ..)) (napp_up U Ms fun N hN => h N (List.mem_cons_of_mem _ hN))
def eapp : List (Int → Bool) → (Int → Int) → Int → Int
  | [], E => E
  | M :: Ms, E => eapp Ms (opE M E)
theorem pairs {F : Int → Int} (U : Up F) (B : Int) : ∀ (Ms : List (Int → Bool)) (E : Int → Int), (∀ M ∈ Ms, Sparse M) → Down E → ((∀ v, B ≤ E v + napp Ms F v) ↔ ∀ v, B ≤ eapp Ms E v + F v)
  | [], _, _, _ => Iff.rfl
  | M :: Ms, E, h, D => by
    have S := h M (List.mem_cons_self ..)
    have h' : ∀ N ∈ Ms, Sparse N := fun N hN => h N (List.mem_cons_of_mem _ hN)
    exact (pair S D (napp_up U Ms h') B).symm.trans (pairs U B Ms (opE M E) h' (opE_down S D))
theorem up_far {F : Int → Int} (U : Up F) : ∀ (n : Nat) (v : Int), F (v - n) ≤ F v ∧ F v ≤ F (v - n) + n
  | 0, v => by
    rw [show v - ((0 : Nat) : Int) = v by omega]
    omega
  | n + 1, v => by
    have h := up_far U n v
    have q := U (v - n)
    rw [show v - ((n + 1 : Nat) : Int) = v - n - 1 by omega]
    omega
theorem down_far {E : Int → Int} (D : Down E) : ∀ (n : Nat) (v : Int), E v ≤ E (v - n) ∧ E (v - n) ≤ E v + n
  | 0, v => by
    rw [show v - ((0 : Nat) : Int) = v by omega]
    omega
  | n + 1, v => by
    have h := down_far D n v
    have q := D (v - n)
    rw [show v - ((n + 1 : Nat) : Int) = v - n - 1 by omega]
    omega
theorem end_left {F : Int → Int} (U : Up F) (a B : Int) : (∀ v, B ≤ max 0 (a - v) + F v) ↔ B ≤ F a := by
  constructor
  · intro h
    have := h a
    omega
  · intro h v
    by_cases c : v ≤ a
    · have := up_far U (a - v).toNat a
      rw [show a - ((a - v).toNat : Int) = v by omega] at this
      omega
    · have := up_far U (v - a).toNat v
      rw [show v - ((v - a).toNat : Int) = a by omega] at this
      omega
theorem end_right {E : Int → Int} (D : Down E) (V B : Int) : (∀ v, B ≤ E v + base V v) ↔ B ≤ E V := by
  unfold base
  constructor
  · intro h
    have := h V
    omega
  · intro h v
    by_cases c : v ≤ V
    · have := down_far D (V - v).toNat V
      rw [show V - ((V - v).toNat : Int) = v by omega] at this
      omega
    · have := down_far D (v - V).toNat v
      rw [show v - ((v - V).toNat : Int) = V by omega] at this
      omega
theorem eapp_down : ∀ (Ms : List (Int → Bool)) (E : Int → Int), (∀ M ∈ Ms, Sparse M) → Down E → Down (eapp Ms E)
  | [], _, _, D => D
  | M :: Ms, E, h, D => eapp_down Ms (opE M E) (fun N hN => h N (List.mem_cons_of_mem _ hN)) (opE_down (h M (List.mem_cons_self ..)) D)
theorem up_base (V : Int) : Up (base V) := fun v => by
  unfold base
  omega
def start (a v : Int) : Int := max 0 (a - v)
theorem down_start (a : Int) : Down (start a) := fun v => by
  unfold start
  omega
/-- by the map, and from the other end -/
theorem both_ends (Ms : List (Int → Bool)) (h : ∀ M ∈ Ms, Sparse M) (a V : Int) : napp Ms (base V) a = eapp Ms (start a) V := by
  have U := napp_up (up_base V) Ms h
  have D := eapp_down Ms (start a) h (down_start a)
  have k : ∀ B, B ≤ napp Ms (base V) a ↔ B ≤ eapp Ms (start a) V := fun B =>
    (end_left U a B).symm.trans ((pairs (up_base V) B Ms (start a) h (down_start a)).trans (end_right D V B))
  have h1 := (k (napp Ms (base V) a)).mp (Int.le_refl _)
  have h2 := (k (eapp Ms (start a) V)).mpr (Int.le_refl _)
  omega
/-! ### windows -/
/-- a row of values from low on -/
def win (f : Int → Int) (low : Int) (n : Nat) : List Int := (List.range n).map fun (k : Nat) => f (low + k)
theorem win_len (f : Int → Int) (low : Int) (n : Nat) : (win f low n).length = n := by simp [win]
theorem win_get {f : Int → Int} {low : Int} {n k : Nat} (h : k < n) : (win f low n)[k]? = some (f (low + k)) := by
  unfold win
  rw [List.getElem?_map, List.getElem?_range h]
  rfl
/-- the row is that of f, but for e places at both ends -/
def Near (vs : List Int) (f : Int → Int) (low : Int) (n e : Nat) : Prop := vs.length = n ∧ ∀ k : Nat, e ≤ k → k + e < n → vs[k]? = some (f (low + k))
/-- exchanged at the places of M ahead of B -/
def part (M : Int → Bool) (low : Int) (vs : List Int) (B : Nat) : List Int := (List.range vs.length).map fun (k : Nat) =>
  if M (low + k) = true ∧ k + 1 < vs.length ∧ k < B then max (vs.getD k 0) (vs.getD (k + 1) 0)
  else if 1 ≤ k ∧ M (low + k - 1) = true ∧ k - 1 < B then min (vs.getD (k - 1) 0) (vs.getD k 0) else vs.getD k 0
theorem part_len (M : Int → Bool) (low : Int) (vs : List Int) (B : Nat) : (part M low vs B).length = vs.length := by simp [part]
theorem part_get {M : Int → Bool} {low : Int} {vs : List Int} {B k : Nat} (h : k < vs.length) : (part M low vs B).getD k 0 =
    if M (low + k) = true ∧ k + 1 < vs.length ∧ k < B then max (vs.getD k 0) (vs.getD (k + 1) 0)
    else if 1 ≤ k ∧ M (low + k - 1) = true ∧ k - 1 < B then min (vs.getD (k - 1) 0) (vs.getD k 0) else vs.getD k 0 := by
  unfold part
  rw [List.getD_eq_getElem?_getD, List.getElem?_map, List.getElem?_range h]
  rfl
theorem list_ext {a b : List Int} (h : a.length = b.length) (e : ∀ k, k < a.length → a.getD k 0 = b.getD k 0) : a = b := by
  refine List.ext_getElem h fun k h1 h2 => ?_
  have := e k h1
  rw [List.getD_eq_getElem?_getD, List.getD_eq_getElem?_getD, List.getElem?_eq_getElem h1, List.getElem?_eq_getElem h2] at this
  exact this
theorem part_zero {M : Int → Bool} {low : Int} {vs : List Int} : part M low vs 0 = vs := list_ext (part_len ..) fun k hk => by
  rw [part_len] at hk
  rw [part_get hk, if_neg (by omega), if_neg (by omega)]
/-- no place of M from B to B2 -/
theorem part_skip {M : Int → Bool} {low : Int} {vs : List Int} {B B2 : Nat} (hB : B ≤ B2) (no : ∀ k : Nat, B ≤ k → k < B2 → k + 1 < vs.length → M (low + k) = false) : part M low vs B2 = part M low vs B := list_ext (by rw [part_len, part_len]) fun k hk => by
  rw [part_len] at hk
  rw [part_get hk, part_get hk]
  have e1 : (M (low + k) = true ∧ k + 1 < vs.length ∧ k < B2) ↔ (M (low + k) = true ∧ k + 1 < vs.length ∧ k < B) := by
    constructor
    · intro c
      refine ⟨c.1, c.2.1, Nat.lt_of_not_le fun q => ?_⟩
      have := no k q c.2.2 c.2.1
      rw [c.1] at this
      cases this
    · intro c
      exact ⟨c.1, c.2.1, by omega⟩
  have e2 : (1 ≤ k ∧ M (low + k - 1) = true ∧ k - 1 < B2) ↔ (1 ≤ k ∧ M (low + k - 1) = true ∧ k - 1 < B) := by
    constructor
    · intro c
      refine ⟨c.1, c.2.1, Nat.lt_of_not_le fun q => ?_⟩
      have h1 := c.1
      have := no (k - 1) q c.2.2 (by omega)
      rw [show low + ((k - 1 : Nat) : Int) = low + k - 1 by omega, c.2.1] at this
      cases this
    · intro c
      exact ⟨c.1, c.2.1, by omega⟩
  simp only [e1, e2]
theorem getD_set {l : List Int} {i k : Nat} {v : Int} (hi : i < l.length) : (l.set i v).getD k 0 = if k = i then v else l.getD k 0 := by
  rw [List.getD_eq_getElem?_getD, List.getElem?_set]
  by_cases c : i = k
  · subst c
    rw [if_pos rfl, if_pos rfl, if_pos hi]
    rfl
  · rw [if_neg c, if_neg (Ne.symm c), List.getD_eq_getElem?_getD]
/-- one exchange, at a place of M -/
theorem part_next {M : Int → Bool} (S : Sparse M) {low : Int} {vs : List Int} {B : Nat} (hB : B + 1 < vs.length) (m : M (low + B) = true) :
    (part M low vs B).getD B 0 = vs.getD B 0 ∧ (part M low vs B).getD (B + 1) 0 = vs.getD (B + 1) 0 ∧
    part M low vs (B + 1) = ((part M low vs B).set B (max (vs.getD B 0) (vs.getD (B + 1) 0))).set (B + 1) (min (vs.getD B 0) (vs.getD (B + 1) 0)) := by
  have mp : ¬ M (low + B - 1) = true := by rw [S.ahead m]; decide
  have mn : ¬ M (low + B + 1) = true := by rw [S _ m]; decide
  refine ⟨?_, ?_, list_ext (by rw [part_len, List.length_set, List.length_set, part_len]) fun k hk => ?_⟩
  · rw [part_get (by omega), if_neg (by omega), if_neg (fun q => mp q.2.1)]
  · rw [part_get hB, if_neg (by omega), if_neg (by omega)]
  · rw [part_len] at hk
    rw [getD_set (by rw [List.length_set, part_len]; exact hB), getD_set (by rw [part_len]; omega), part_get hk]
    by_cases k1 : k = B + 1
    · subst k1
      rw [if_pos rfl, if_neg (fun q => by omega), if_pos ⟨by omega, by rw [show low + ((B + 1 : Nat) : Int) - 1 = low + B by omega]; exact m, by omega⟩]
      rfl
    · rw [if_neg k1]
      by_cases k2 : k = B
      · subst k2
        rw [if_pos rfl, if_pos ⟨m, hB, by omega⟩]
      · rw [if_neg k2, part_get hk]
        have e1 : (M (low + k) = true ∧ k + 1 < vs.length ∧ k < B + 1) ↔ (M (low + k) = true ∧ k + 1 < vs.length ∧ k < B) := by
          constructor
          · intro c
            exact ⟨c.1, c.2.1, by omega⟩
          · intro c
            exact ⟨c.1, c.2.1, by omega⟩
        have e2 : (1 ≤ k ∧ M (low + k - 1) = true ∧ k - 1 < B + 1) ↔ (1 ≤ k ∧ M (low + k - 1) = true ∧ k - 1 < B) := by
          constructor
          · intro c
            exact ⟨c.1, c.2.1, by omega⟩
          · intro c
            exact ⟨c.1, c.2.1, by omega⟩
        simp only [e1, e2]
/-- a whole ring -/
theorem near_step {M : Int → Bool} {vs : List Int} {f : Int → Int} {low : Int} {n e : Nat} (h : Near vs f low n e) {B : Nat} (hB : n ≤ B + 1) : Near (part M low vs B) (stepP M f) low n (e + 1) := by
  obtain ⟨h1, h2⟩ := h
  refine ⟨by rw [part_len, h1], fun k k1 k2 => ?_⟩
  have gd : ∀ j : Nat, e ≤ j → j + e < n → vs.getD j 0 = f (low + j) := fun j a b => by
    rw [List.getD_eq_getElem?_getD, h2 j a b]
    rfl
  have hk : k < (part M low vs B).length := by rw [part_len]; omega
  have e1 : (part M low vs B)[k]? = some ((part M low vs B).getD k 0) := by
    rw [List.getD_eq_getElem?_getD, List.getElem?_eq_getElem hk]
    rfl
  rw [e1, part_get (by omega)]
  congr 1
  rw [gd k (by omega) (by omega), gd (k + 1) (by omega) (by omega), gd (k - 1) (by omega) (by omega)]
  unfold stepP
  rw [show low + ((k + 1 : Nat) : Int) = low + k + 1 by omega, show low + ((k - 1 : Nat) : Int) = low + k - 1 by omega]
  by_cases m : M (low + k) = true
  · rw [if_pos ⟨m, by omega, by omega⟩, if_pos m]
  · rw [if_neg (fun q => m q.1), if_neg m]
    by_cases m2 : M (low + k - 1) = true
    · rw [if_pos ⟨by omega, m2, by omega⟩, if_pos m2]
    · rw [if_neg (fun q => m2 q.2.1), if_neg m2]
theorem near_more {vs : List Int} {f : Int → Int} {low : Int} {n e e2 : Nat} (h : Near vs f low n e) (he : e ≤ e2) : Near vs f low n e2 := ⟨h.1, fun k a b => h.2 k (by omega) (by omega)⟩
theorem near_win (f : Int → Int) (low : Int) (n : Nat) : Near (win f low n) f low n 0 := ⟨win_len .., fun k _ h => win_get (by omega)⟩
/-- the inner part -/
theorem near_cut {vs : List Int} {f : Int → Int} {low : Int} {n e : Nat} (h : Near vs f low n e) (hn : 2 * e ≤ n) : (vs.drop e).take (n - 2 * e) = win f (low + e) (n - 2 * e) := by
  refine List.ext_getElem? fun k => ?_
  by_cases c : k < n - 2 * e
  · rw [List.getElem?_take_of_lt c, List.getElem?_drop, h.2 (e + k) (by omega) (by omega), win_get c]
    congr 2
    omega
  · rw [List.getElem?_eq_none (by rw [List.length_take]; omega), List.getElem?_eq_none (by rw [win_len]; omega)]
end MP

namespace K1
open PySem PySem.Spec PyProof.Rows L2 Evl HM LX MP
/-! ### the map of a class and its richness at both ends -/
/-- the exchanges of a ring -/
def mL (rs : List (Int × Int)) (ps : List Int) (j : Nat) (i : Int) : Bool := decide ((i * K1N.sAt rs j + ps.getD j 0) % (K1N.nAt rs j : Int) = 0)
def RsOk (rs : List (Int × Int)) (m : Nat) : Prop := ∀ j, j < m → 1 ≤ K1N.sAt rs j ∧ K1N.sAt rs j < (K1N.nAt rs j : Int)
theorem mL_sparse {rs : List (Int × Int)} {ps : List Int} {j : Nat} (o1 : 1 ≤ K1N.sAt rs j) (o2 : K1N.sAt rs j < (K1N.nAt rs j : Int)) : Sparse (mL rs ps j) := fun i h => by
  unfold mL at h ⊢
  generalize (K1N.nAt rs j : Int) = n at *
  generalize K1N.sAt rs j = s at *
  generalize ps.getD j 0 = p at *
  have h1 := of_decide_eq_true h
  refine decide_eq_false fun h2 => ?_
  have d := Int.emod_eq_emod_iff_emod_sub_eq_zero (m := (i + 1) * s + p) (n := n) (k := i * s + p)
  have h3 := d.mp (by rw [h1, h2])
  rw [show (i + 1) * s + p - (i * s + p) = s by rw [Int.add_mul]; omega, Int.emod_eq_of_lt (by omega) o2] at h3
  omega
def mls (rs : List (Int × Int)) (ps : List Int) : Nat → Nat → List (Int → Bool)
  | 0, _ => []
  | k + 1, i => mL rs ps i :: mls rs ps k (i + 1)
theorem mls_len (rs : List (Int × Int)) (ps : List Int) : ∀ k i, (mls rs ps k i).length = k
  | 0, _ => rfl
  | k + 1, i => by
    show (mls rs ps k (i + 1)).length + 1 = k + 1
    rw [mls_len rs ps k]
theorem mls_sparse {rs : List (Int × Int)} {ps : List Int} {m : Nat} (ok : RsOk rs m) : ∀ k i, i + k ≤ m → ∀ M ∈ mls rs ps k i, Sparse M
  | 0, _, _, M, h => absurd h (by simp [mls])
  | k + 1, i, hi, M, h => by
    rcases List.mem_cons.mp h with e | h2
    · subst e
      exact mL_sparse (ok i (by omega)).1 (ok i (by omega)).2
    · exact mls_sparse ok k (i + 1) (by omega) M h2
/-- columns from the other end -/
noncomputable def ecol (rs : List (Int × Int)) (ps : List Int) (a : Int) (j : Nat) (v : Int) : Int := (F (hseq rs (mvp rs a ps) j) (a - 1 - v) : Int)
theorem ecol_zero (rs : List (Int × Int)) (ps : List Int) (a : Int) : ecol rs ps a 0 = start a := by
  funext v
  show ((F [] (a - 1 - v) : Nat) : Int) = max 0 (a - v)
  rw [F_nil]
  omega
theorem neg_rule (v s p n : Int) : ((-v) * s - p) % n = 0 ↔ (v * s + p) % n = 0 := by
  rw [show (-v) * s - p = -(v * s + p) by rw [Int.neg_mul]; omega]
  rw [← Int.dvd_iff_emod_eq_zero, ← Int.dvd_iff_emod_eq_zero]
  exact Int.dvd_neg
theorem ecol_step (rs : List (Int × Int)) {ps : List Int} (a : Int) {j : Nat} (hj : j < ps.length) : opE (mL rs ps j) (ecol rs ps a j) = ecol rs ps a (j + 1) := by
  funext v
  have H := (hseq_ok rs (mvp rs a ps) j).1
  have g := F_grow H (L := fun d => (d * K1N.sAt rs j - (mvp rs a ps).getD j 0) % (K1N.nAt rs j : Int) = 0) (g := gl (hseq rs (mvp rs a ps) j) (K1N.nAt rs j : Int) (K1N.sAt rs j) ((mvp rs a ps).getD j 0)) (fun c => rfl) (a - 1 - v)
  have e : ecol rs ps a (j + 1) v = ((F (grow (hseq rs (mvp rs a ps) j) (gl (hseq rs (mvp rs a ps) j) (K1N.nAt rs j : Int) (K1N.sAt rs j) ((mvp rs a ps).getD j 0))) (a - 1 - v) : Nat) : Int) := rfl
  rw [e, g]
  have m1 := F_mono H (a - 1 - v)
  have m2 := F_mono H (a - 1 - v - 1)
  rw [show a - 1 - v - 1 + 1 = a - 1 - v by omega] at m2
  have hL : ((a - 1 - v + 1) * K1N.sAt rs j - (mvp rs a ps).getD j 0) % (K1N.nAt rs j : Int) = 0 ↔ mL rs ps j v = true := by
    rw [mvp_get rs a hj, rule_mv, show a - 1 - v + 1 - a = -v by omega, neg_rule]
    unfold mL
    rw [decide_eq_true_iff]
  unfold opE ecol
  rw [show a - 1 - (v + 1) = a - 1 - v - 1 by omega, show a - 1 - (v - 1) = a - 1 - v + 1 by omega]
  generalize F (hseq rs (mvp rs a ps) j) (a - 1 - v) = x1 at *
  generalize F (hseq rs (mvp rs a ps) j) (a - 1 - v - 1) = x0 at *
  generalize F (hseq rs (mvp rs a ps) j) (a - 1 - v + 1) = x2 at *
  by_cases m : mL rs ps j v = true
  · rw [if_pos m]
    by_cases c : x2 = x1 + 1 ∧ x0 = x1
    · rw [if_pos ⟨hL.mpr m, c.1, c.2⟩]
      omega
    · rw [if_neg (fun q => c ⟨q.2.1, q.2.2⟩)]
      omega
  · rw [if_neg m, if_neg (fun q => m (hL.mp q.1))]
    rfl
theorem ecol_all (rs : List (Int × Int)) {ps : List Int} (a : Int) : ∀ k i, i + k ≤ ps.length → eapp (mls rs ps k i) (ecol rs ps a i) = ecol rs ps a (i + k)
  | 0, _, _ => rfl
  | k + 1, i, h => by
    show eapp (mls rs ps k (i + 1)) (opE (mL rs ps i) (ecol rs ps a i)) = _
    rw [ecol_step rs a (by omega), ecol_all rs a k (i + 1) (by omega), show i + 1 + k = i + (k + 1) by omega]
/-- richness and 1 with chips at both ends -/
noncomputable def hh (rs : List (Int × Int)) (ps : List Int) (tot a b : Int) : Int := (rich1 rs (mvp rs a ps) (tot + a + b) : Int)
/-- the map -/
def fm (rs : List (Int × Int)) (ps : List Int) (tot : Int) : Int → Int := pmap (mls rs ps ps.length 0) fun i => i + (tot - ps.length)
theorem hh_napp {rs : List (Int × Int)} {ps : List Int} (ok : RsOk rs ps.length) (tot a b : Int) : napp (mls rs ps ps.length 0) (base (-b - (tot - ps.length) - 1)) a = hh rs ps tot a b := by
  rw [both_ends _ (mls_sparse ok _ _ (by omega)), ← ecol_zero rs ps a, ecol_all rs a ps.length 0 (by omega)]
  unfold ecol hh rich1
  rw [mvp_len, Nat.zero_add, show a - 1 - (-b - (tot - (ps.length : Int)) - 1) = tot + a + b - (ps.length : Int) by omega]
theorem hh_counts {rs : List (Int × Int)} {ps : List Int} (ok : RsOk rs ps.length) (tot b : Int) : Counts b (fm rs ps tot) fun a => hh rs ps tot a b := by
  have c := counts_pmap (counts_base (b := b) (e := tot - ps.length)) (mls rs ps ps.length 0) (mls_sparse ok _ _ (by omega))
  have e : (fun a => hh rs ps tot a b) = napp (mls rs ps ps.length 0) (base (-b - (tot - ps.length) - 1)) := funext fun a => (hh_napp ok tot a b).symm
  rw [e]
  exact c
theorem fm_bound (rs : List (Int × Int)) (ps : List Int) (tot i : Int) : i + tot - 2 * (ps.length : Int) ≤ fm rs ps tot i ∧ fm rs ps tot i ≤ i + tot := by
  have := pmap_bound (e := tot - ps.length) (mls rs ps ps.length 0) i
  rw [mls_len] at this
  unfold fm
  omega
theorem hh_low {rs : List (Int × Int)} {ps : List Int} {tot a b : Int} (h : a < -tot - b) : hh rs ps tot a b = 0 := by
  unfold hh
  rw [rich_neg _ _ (by omega)]
  rfl
theorem hh_step {rs : List (Int × Int)} {ps : List Int} (ok : RsOk rs ps.length) (tot a b : Int) : hh rs ps tot a b - hh rs ps tot (a - 1) b = if -b ≤ fm rs ps tot a then 1 else 0 := hh_counts ok tot b a
/-- the rings' letters -/
theorem mL_per {rs : List (Int × Int)} {ps : List Int} {j : Nat} (hn : 1 ≤ K1N.nAt rs j) (hs : 0 ≤ K1N.sAt rs j) {c : Int} (hc : mL rs ps j c = true) (i : Int) : mL rs ps j i = true ↔ (i - c) % (K1M.ord (K1N.nAt rs j) (K1N.sAt rs j).natAbs : Int) = 0 := by
  unfold mL at hc ⊢
  have h1 := of_decide_eq_true hc
  rw [decide_eq_true_iff]
  obtain ⟨s, hs'⟩ : ∃ s : Nat, K1N.sAt rs j = (s : Int) := ⟨(K1N.sAt rs j).toNat, by omega⟩
  rw [hs'] at h1 ⊢
  generalize K1N.nAt rs j = n at *
  generalize ps.getD j 0 = p at *
  rw [Int.natAbs_natCast]
  have d := Int.emod_eq_emod_iff_emod_sub_eq_zero (m := i * (s : Int) + p) (n := (n : Int)) (k := c * (s : Int) + p)
  rw [h1, show i * (s : Int) + p - (c * (s : Int) + p) = (i - c) * (s : Int) by rw [Int.sub_mul]; omega] at d
  rw [d]
  have q := K1M.istp (s := s) hn (i - c)
  rw [q]
  have hm := K1M.ord_pos (s := s) hn
  have z := K1M.stp_zero_iff (s := s) (i := ((i - c) % (K1M.ord n s : Int)).toNat) hn
  have r0 := Int.emod_nonneg (i - c) (show (K1M.ord n s : Int) ≠ 0 by omega)
  have r1 := Int.emod_lt_of_pos (i - c) (show (0 : Int) < (K1M.ord n s : Int) by omega)
  constructor
  · intro h
    have h2 : K1M.stp n s ((i - c) % (K1M.ord n s : Int)).toNat = 0 := by omega
    have h3 := Nat.eq_zero_of_dvd_of_lt (z.mp h2) (by omega)
    omega
  · intro h
    have h2 := z.mpr (by rw [h]; exact Nat.dvd_zero _)
    omega
/-- a mute ring -/
theorem mL_mute {rs : List (Int × Int)} {ps : List Int} {j : Nat} (hn : 1 ≤ K1N.nAt rs j) (hs : 0 ≤ K1N.sAt rs j) (h : ∀ c : Nat, c < K1M.ord (K1N.nAt rs j) (K1N.sAt rs j).natAbs → mL rs ps j c = false) (i : Int) : mL rs ps j i = false := by
  cases q : mL rs ps j i with
  | false => rfl
  | true =>
    have hm := K1M.ord_pos (s := (K1N.sAt rs j).natAbs) hn
    have r0 := Int.emod_nonneg i (show (K1M.ord (K1N.nAt rs j) (K1N.sAt rs j).natAbs : Int) ≠ 0 by omega)
    have r1 := Int.emod_lt_of_pos i (show (0 : Int) < (K1M.ord (K1N.nAt rs j) (K1N.sAt rs j).natAbs : Int) by omega)
    have p := (mL_per hn hs q (i % (K1M.ord (K1N.nAt rs j) (K1N.sAt rs j).natAbs : Int))).mpr (by
      have := Int.emod_add_mul_ediv i (K1M.ord (K1N.nAt rs j) (K1N.sAt rs j).natAbs : Int)
      rw [show i % (K1M.ord (K1N.nAt rs j) (K1N.sAt rs j).natAbs : Int) - i = (K1M.ord (K1N.nAt rs j) (K1N.sAt rs j).natAbs : Int) * (-(i / (K1M.ord (K1N.nAt rs j) (K1N.sAt rs j).natAbs : Int))) by rw [Int.mul_neg]; omega]
      exact Int.mul_emod_right _ _)
    have e := h (i % (K1M.ord (K1N.nAt rs j) (K1N.sAt rs j).natAbs : Int)).toNat (by omega)
    rw [show (((i % (K1M.ord (K1N.nAt rs j) (K1N.sAt rs j).natAbs : Int)).toNat : Nat) : Int) = i % (K1M.ord (K1N.nAt rs j) (K1N.sAt rs j).natAbs : Int) by omega, p] at e
    cases e
end K1

namespace K1
open HM MP
/-! levels: the map's values in one round, by their floors -/
/-- all rings have one order -/
def Eqo (rs : List (Int × Int)) (m k : Nat) : Prop := ∀ j, j < m → K1M.ord (K1N.nAt rs j) (K1N.sAt rs j).natAbs = k
theorem ord_mul {n : Nat} {s : Int} (hn : 1 ≤ n) (hs : 0 ≤ s) : ((K1M.ord n s.natAbs : Int) * s) % (n : Int) = 0 := by
  have h := (K1M.dvd_iff (n := n) (s := s.natAbs) (i := K1M.ord n s.natAbs) hn).mpr (Nat.dvd_refl _)
  have e : ((K1M.ord n s.natAbs : Int) * s) = ((K1M.ord n s.natAbs * s.natAbs : Nat) : Int) := by
    rw [Int.natCast_mul, Int.natAbs_of_nonneg hs]
  rw [e, ← Int.natCast_emod, h]
  rfl
theorem mvp_round {rs : List (Int × Int)} {ps : List Int} {k : Nat} (ok : RsOk rs ps.length) (eq : Eqo rs ps.length k) (a c : Int) : mvp rs (a + c * k) ps = mvp rs a ps := by
  refine list_ext (by rw [mvp_len, mvp_len]) fun j hj => ?_
  rw [mvp_len] at hj
  rw [mvp_get _ _ hj, mvp_get _ _ hj]
  obtain ⟨o1, o2⟩ := ok j hj
  have h := ord_mul (n := K1N.nAt rs j) (s := K1N.sAt rs j) (by omega) (by omega)
  rw [eq j hj] at h
  obtain ⟨q, hq⟩ := Int.dvd_of_emod_eq_zero h
  rw [Int.add_mul, Int.mul_assoc, hq, ← Int.add_assoc, Int.mul_left_comm]
  exact Int.add_mul_emod_self_left _ _ _
theorem hh_round {rs : List (Int × Int)} {ps : List Int} {k : Nat} (ok : RsOk rs ps.length) (eq : Eqo rs ps.length k) (tot a b c : Int) : hh rs ps tot (a + c * k) b = hh rs ps tot a (b + c * k) := by
  unfold hh
  rw [mvp_round ok eq, show tot + (a + c * (k : Int)) + b = tot + a + (b + c * (k : Int)) by omega]
theorem hh_block {rs : List (Int × Int)} {ps : List Int} (ok : RsOk rs ps.length) (tot low b : Int) : ∀ n : Nat, hh rs ps tot (low + n - 1) b - hh rs ps tot (low - 1) b = ((win (fm rs ps tot) low n).map fun v => if -b ≤ v then (1 : Int) else 0).sum
  | 0 => by
    rw [show low + ((0 : Nat) : Int) - 1 = low - 1 by omega]
    show _ = (0 : Int)
    omega
  | n + 1 => by
    have h1 := hh_block ok tot low b n
    have h2 := hh_step ok tot (low + n) b
    rw [show low + ((n + 1 : Nat) : Int) - 1 = low + n by omega]
    unfold win at h1 ⊢
    rw [List.range_succ, List.map_append, List.map_append, List.sum_append]
    show _ = _ + ((if -b ≤ fm rs ps tot (low + n) then (1 : Int) else 0) + 0)
    omega
def lvs0 (rs : List (Int × Int)) (ps : List Int) (tot : Int) (k : Nat) : List Int := (win (fm rs ps tot) (1 - (k : Int)) k).map fun v => v / (k : Int)
theorem lvs0_len (rs : List (Int × Int)) (ps : List Int) (tot : Int) (k : Nat) : (lvs0 rs ps tot k).length = k := by
  unfold lvs0
  rw [List.length_map, win_len]
/-- what levels tell -/
def tell (ls : List Int) (c : Int) : Int := (ls.map fun l => max 0 (l + c + 1)).sum
theorem tell_step : ∀ (ls : List Int) (c : Int), tell ls c - tell ls (c - 1) = (ls.map fun l => if 0 ≤ l + c then (1 : Int) else 0).sum
  | [], _ => rfl
  | l :: ls, c => by
    have h := tell_step ls c
    show (max 0 (l + c + 1) + tell ls c) - (max 0 (l + (c - 1) + 1) + tell ls (c - 1)) = (if 0 ≤ l + c then (1 : Int) else 0) + (ls.map fun l => if 0 ≤ l + c then (1 : Int) else 0).sum
    split <;> omega
theorem tell_low : ∀ (ls : List Int) (c : Int), (∀ l ∈ ls, l + c + 1 ≤ 0) → tell ls c = 0
  | [], _, _ => rfl
  | l :: ls, c, h => by
    have h1 := tell_low ls c fun x hx => h x (List.mem_cons_of_mem _ hx)
    have h2 := h l (List.mem_cons_self ..)
    show max 0 (l + c + 1) + tell ls c = 0
    omega
theorem tell_high : ∀ (ls : List Int) (c : Int), (∀ l ∈ ls, 0 ≤ l + c + 1) → tell ls c = ls.sum + ls.length * (c + 1)
  | [], _, _ => by
    show (0 : Int) = 0 + ((0 : Nat) : Int) * _
    omega
  | l :: ls, c, h => by
    have h1 := tell_high ls c fun x hx => h x (List.mem_cons_of_mem _ hx)
    have h2 := h l (List.mem_cons_self ..)
    show max 0 (l + c + 1) + tell ls c = (l + ls.sum) + ((ls.length + 1 : Nat) : Int) * (c + 1)
    rw [h1, Int.natCast_add, Int.add_mul]
    omega
theorem sum_perm {a b : List Int} (p : a.Perm b) : a.sum = b.sum := by
  induction p with
  | nil => rfl
  | cons x _ ih => rw [List.sum_cons, List.sum_cons, ih]
  | swap x y l =>
    simp only [List.sum_cons]
    omega
  | trans _ _ h1 h2 => exact h1.trans h2
theorem tell_perm {a b : List Int} (p : a.Perm b) (c : Int) : tell a c = tell b c := sum_perm (p.map _)
theorem lvs0_mem {rs : List (Int × Int)} {ps : List Int} {tot : Int} {k : Nat} {l : Int} (hk : 1 ≤ k) (h : l ∈ lvs0 rs ps tot k) : tot - k - 2 * (ps.length : Int) ≤ l * k + k ∧ l * k ≤ tot := by
  obtain ⟨v, hv, rfl⟩ := List.mem_map.mp h
  unfold win at hv
  obtain ⟨i, hi, rfl⟩ := List.mem_map.mp hv
  have hi := List.mem_range.mp hi
  have b := fm_bound rs ps tot (1 - (k : Int) + i)
  have e1 := Int.emod_add_mul_ediv (fm rs ps tot (1 - (k : Int) + i)) (k : Int)
  have e2 := Int.emod_nonneg (fm rs ps tot (1 - (k : Int) + i)) (show (k : Int) ≠ 0 by omega)
  have e3 := Int.emod_lt_of_pos (fm rs ps tot (1 - (k : Int) + i)) (show (0 : Int) < k by omega)
  rw [Int.mul_comm] at e1
  constructor <;> omega
theorem abs_div {l k : Int} {A : Int} (hk : 1 ≤ k) (h1 : -A ≤ l * k + k) (h2 : l * k ≤ A) (hA : 0 ≤ A) : -A - 1 ≤ l ∧ l ≤ A := by
  constructor
  · refine Int.not_lt.mp fun z => ?_
    have : (l + 1) * k ≤ (l + 1) * 1 := Int.mul_le_mul_of_nonpos_left (by omega) hk
    have e : (l + 1) * k = l * k + k := by rw [Int.add_mul, Int.one_mul]
    omega
  · refine Int.not_lt.mp fun z => ?_
    have : l * 1 ≤ l * k := Int.mul_le_mul_of_nonneg_left hk (by omega)
    omega
theorem lvs0_abs {rs : List (Int × Int)} {ps : List Int} {tot : Int} {k : Nat} {l : Int} (hk : 1 ≤ k) (h : l ∈ lvs0 rs ps tot k) : -((tot.natAbs : Int) + k + 2 * ps.length) - 1 ≤ l ∧ l ≤ (tot.natAbs : Int) + k + 2 * ps.length := by
  have b := lvs0_mem hk h
  exact abs_div (k := (k : Int)) (by omega) (by omega) (by omega) (by omega)
theorem mul_low {c k : Int} (hc : c ≤ 0) (hk : 2 ≤ k) : c * k ≤ c * 2 := Int.mul_le_mul_of_nonpos_left hc hk
theorem mul_up {c k : Int} (hc : 0 ≤ c) (hk : 2 ≤ k) : c * 2 ≤ c * k := Int.mul_le_mul_of_nonneg_left hk hc
/-- levels tell the number at the right end for all multiples -/
theorem tell_hh {rs : List (Int × Int)} {ps : List Int} {k : Nat} (ok : RsOk rs ps.length) (eq : Eqo rs ps.length k) (hk : 2 ≤ k) (tot c : Int) : tell (lvs0 rs ps tot k) c = hh rs ps tot 0 (c * k) := by
  have step : ∀ c : Int, hh rs ps tot 0 (c * k) - hh rs ps tot 0 ((c - 1) * k) = tell (lvs0 rs ps tot k) c - tell (lvs0 rs ps tot k) (c - 1) := fun c => by
    have h1 := hh_block ok tot (1 - (k : Int)) (c * k) k
    have h2 := hh_round ok eq tot 0 (c * k) (-1)
    rw [show (0 : Int) + -1 * (k : Int) = 1 - (k : Int) - 1 by omega, show c * (k : Int) + -1 * (k : Int) = (c - 1) * (k : Int) by rw [Int.sub_mul]; omega] at h2
    rw [show 1 - (k : Int) + ((k : Nat) : Int) - 1 = 0 by omega, h2] at h1
    rw [h1, tell_step]
    unfold lvs0
    rw [List.map_map]
    congr 1
    refine List.map_congr_left fun v _ => ?_
    show (if -(c * (k : Int)) ≤ v then (1 : Int) else 0) = if 0 ≤ v / (k : Int) + c then (1 : Int) else 0
    have := Int.le_ediv_iff_mul_le (a := -c) (b := v) (show (0 : Int) < k by omega)
    rw [Int.neg_mul] at this
    by_cases z : -(c * (k : Int)) ≤ v
    · rw [if_pos z, if_pos (by have := this.mpr z; omega)]
    · rw [if_neg z, if_neg (fun y => z (this.mp (by omega)))]
  obtain ⟨M, hM⟩ : ∃ M : Int, M = (tot.natAbs : Int) + k + 2 * ps.length + 2 := ⟨_, rfl⟩
  have low : ∀ c : Int, c ≤ -M → tell (lvs0 rs ps tot k) c = hh rs ps tot 0 (c * k) := fun c hc => by
    rw [tell_low _ _ fun l hl => by have := lvs0_abs (by omega) hl; omega, hh_low]
    have := mul_low (c := c) (k := (k : Int)) (by omega) (by omega)
    omega
  have up : ∀ n : Nat, tell (lvs0 rs ps tot k) (-M + n) = hh rs ps tot 0 ((-M + n) * k) := fun n => by
    induction n with
    | zero => exact low _ (by omega)
    | succ n ih =>
      have := step (-M + ((n + 1 : Nat) : Int))
      rw [show -M + ((n + 1 : Nat) : Int) - 1 = -M + n by omega] at this
      omega
  by_cases z : c ≤ -M
  · exact low c z
  · have := up (c + M).toNat
    rw [show -M + (((c + M).toNat : Nat) : Int) = c by omega] at this
    exact this
theorem lvs0_sum {rs : List (Int × Int)} {ps : List Int} {k : Nat} (ok : RsOk rs ps.length) (eq : Eqo rs ps.length k) (hk : 2 ≤ k) (tot : Int) : (lvs0 rs ps tot k).sum = tot + 1 - ps.length - k := by
  obtain ⟨C, hC⟩ : ∃ C : Int, C = (tot.natAbs : Int) + k + 2 * ps.length + 2 := ⟨_, rfl⟩
  have h := tell_hh ok eq hk tot C
  rw [tell_high _ _ fun l hl => by have := lvs0_abs (by omega) hl; omega, lvs0_len] at h
  have m := mul_up (c := C) (k := (k : Int)) (by omega) (by omega)
  unfold hh at h
  rw [rich_great _ _ (by rw [mvp_len]; omega), mvp_len, Int.mul_add, Int.mul_comm] at h
  omega
theorem tell_rich {rs : List (Int × Int)} {ps : List Int} {k : Nat} (ok : RsOk rs ps.length) (pl : PlOk rs ps) (eq : Eqo rs ps.length k) (hk : 2 ≤ k) (tot c : Int) : tell (lvs0 rs ps tot k) c = rich1 rs ps (tot + c * k) := by
  rw [tell_hh ok eq hk]
  unfold hh
  rw [mvp_zero pl, Int.add_zero]
/-- the levels of a class: ascending -/
structure Lvs (rs : List (Int × Int)) (ps : List Int) (tot : Int) (k : Nat) (ls : List Int) : Prop where
  perm : ls.Perm (lvs0 rs ps tot k)
  asc : ls.Pairwise (· ≤ ·)
theorem Lvs.len {rs : List (Int × Int)} {ps : List Int} {tot : Int} {k : Nat} {ls : List Int} (h : Lvs rs ps tot k ls) : ls.length = k := h.perm.length_eq.trans (lvs0_len ..)
theorem Lvs.uniq {rs : List (Int × Int)} {ps : List Int} {tot : Int} {k : Nat} {ls ls' : List Int} (h : Lvs rs ps tot k ls) (h' : Lvs rs ps tot k ls') : ls = ls' := sorted_eq (h.perm.trans h'.perm.symm) h.asc h'.asc
theorem Lvs.abs {rs : List (Int × Int)} {ps : List Int} {tot : Int} {k : Nat} {ls : List Int} (h : Lvs rs ps tot k ls) (hk : 1 ≤ k) : ∀ l ∈ ls, -((tot.natAbs : Int) + k + 2 * ps.length) - 1 ≤ l ∧ l ≤ (tot.natAbs : Int) + k + 2 * ps.length := fun l hl => lvs0_abs hk (h.perm.mem_iff.mp hl)
theorem Lvs.sum {rs : List (Int × Int)} {ps : List Int} {tot : Int} {k : Nat} {ls : List Int} (h : Lvs rs ps tot k ls) (ok : RsOk rs ps.length) (eq : Eqo rs ps.length k) (hk : 2 ≤ k) : ls.sum = tot + 1 - ps.length - k := (sum_perm h.perm).trans (lvs0_sum ok eq hk tot)
theorem Lvs.tell {rs : List (Int × Int)} {ps : List Int} {tot : Int} {k : Nat} {ls : List Int} (h : Lvs rs ps tot k ls) (ok : RsOk rs ps.length) (pl : PlOk rs ps) (eq : Eqo rs ps.length k) (hk : 2 ≤ k) (c : Int) : K1.tell ls c = rich1 rs ps (tot + c * k) := (tell_perm h.perm c).trans (tell_rich ok pl eq hk tot c)
end K1

namespace K1
open PySem PySem.Spec PyProof.Rows L2 Evl
/-! own words: comprehensions that map, without a test; nothing is changed -/
section
variable {K : PySem.W.Frag} {g : TG} {te : TE} {vs : List Nat} {σ : L2.St} {H1 : Hp} {D : Addr} {Qd : Hp → Prop}
theorem lc_tupM {a : Addr} {xs : List V} (f : Nat → V) (hD : H1 D = none) (ha : H1 a = some (.tup xs)) (hl : xs.length ≤ 1000)
    (hs : ∀ i x H (Qk : VK), xs[i]? = some x → Ex H1 H → (∀ H4, Ex H H4 → Qk (f i) H4) → g x (wipe σ vs) H fun σ2 H2 => wipe σ2 vs = wipe σ vs ∧ te σ2 H2 Qk)
    (hd : ∀ H, Ex H1 H → H D = some (.lst ((List.range xs.length).map f)) → Qd H) :
    ∃ W : Nat → Nat → Hp → Prop, (∃ m, W 0 m (upd H1 D (.lst []))) ∧ ∀ i m H, W i m H →
      ((Itt K a).stop i H ∧ Qd H) ∨ ((Itt K a).go i H ∧ ∃ Nx : Hp → Prop, (∀ H', Nx H' → ∃ m', m' < m ∧ W (i + 1) m' H') ∧ ∀ x H', (Itt K a).yld i H x H' → g x (wipe σ vs) H' fun σ2 H2 => wipe σ2 vs = wipe σ vs ∧ tYes σ2 H2 fun b H3 =>
        if b = true then te σ2 H3 fun y H4 => ∃ acc, H4 D = some (.lst acc) ∧ acc.length < sizeLine ∧ Nx (upd H4 D (.lst (acc ++ [y]))) else Nx H3) := by
  refine lc_tup (K := K) (a := a) (xs := xs) (fun i H' => H' D = some (.lst ((List.range i).map f)) ∧ Ex H1 H') ⟨upd_same, Ex.new hD⟩ (fun i H' _ hp => SqT.of (hp.2 _ _ ha)) (fun i x H' hx hp => ?_) (fun H hp => hd H hp.2 hp.1)
  have hi := (List.getElem?_eq_some_iff.mp hx).1
  refine hs i x H' _ hx hp.2 fun H4 e4 => ⟨_, e4 _ _ hp.1, ?_, ?_, Ex.mut (hp.2.trans e4) hD⟩
  · rw [List.length_map, List.length_range]
    exact small1000 (by omega)
  · rw [upd_same, List.range_succ, List.map_append]
    rfl
theorem lc_listM {a : Addr} {xs : List V} (f : Nat → V) (hD : H1 D = none) (ha : H1 a = some (.lst xs)) (hl : xs.length ≤ 1000)
    (hs : ∀ i x H (Qk : VK), xs[i]? = some x → Ex H1 H → (∀ H4, Ex H H4 → Qk (f i) H4) → g x (wipe σ vs) H fun σ2 H2 => wipe σ2 vs = wipe σ vs ∧ te σ2 H2 Qk)
    (hd : ∀ H, Ex H1 H → H D = some (.lst ((List.range xs.length).map f)) → Qd H) :
    ∃ W : Nat → Nat → Hp → Prop, (∃ m, W 0 m (upd H1 D (.lst []))) ∧ ∀ i m H, W i m H →
      ((Itl K a).stop i H ∧ Qd H) ∨ ((Itl K a).go i H ∧ ∃ Nx : Hp → Prop, (∀ H', Nx H' → ∃ m', m' < m ∧ W (i + 1) m' H') ∧ ∀ x H', (Itl K a).yld i H x H' → g x (wipe σ vs) H' fun σ2 H2 => wipe σ2 vs = wipe σ vs ∧ tYes σ2 H2 fun b H3 =>
        if b = true then te σ2 H3 fun y H4 => ∃ acc, H4 D = some (.lst acc) ∧ acc.length < sizeLine ∧ Nx (upd H4 D (.lst (acc ++ [y]))) else Nx H3) := by
  refine lc_list (K := K) (a := a) (xs := xs) (fun i H' => H' D = some (.lst ((List.range i).map f)) ∧ Ex H1 H') ⟨upd_same, Ex.new hD⟩ (fun i H' _ hp => SqL.of (hp.2 _ _ ha)) (fun i x H' hx hp => ?_) (fun H hp => hd H hp.2 hp.1)
  have hi := (List.getElem?_eq_some_iff.mp hx).1
  refine hs i x H' _ hx hp.2 fun H4 e4 => ⟨_, e4 _ _ hp.1, ?_, ?_, Ex.mut (hp.2.trans e4) hD⟩
  · rw [List.length_map, List.length_range]
    exact small1000 (by omega)
  · rw [upd_same, List.range_succ, List.map_append]
    rfl
theorem lc_rangeM {lo : Int} {n : Nat} (f : Nat → V) (hD : H1 D = none) (hl : n ≤ 1000)
    (hs : ∀ i H (Qk : VK), i < n → Ex H1 H → (∀ H4, Ex H H4 → Qk (f i) H4) → g (.int (lo + i)) (wipe σ vs) H fun σ2 H2 => wipe σ2 vs = wipe σ vs ∧ te σ2 H2 Qk)
    (hd : ∀ H, Ex H1 H → H D = some (.lst ((List.range n).map f)) → Qd H) :
    ∃ W : Nat → Nat → Hp → Prop, (∃ m, W 0 m (upd H1 D (.lst []))) ∧ ∀ i m H, W i m H →
      ((Itr lo n).stop i H ∧ Qd H) ∨ ((Itr lo n).go i H ∧ ∃ Nx : Hp → Prop, (∀ H', Nx H' → ∃ m', m' < m ∧ W (i + 1) m' H') ∧ ∀ x H', (Itr lo n).yld i H x H' → g x (wipe σ vs) H' fun σ2 H2 => wipe σ2 vs = wipe σ vs ∧ tYes σ2 H2 fun b H3 =>
        if b = true then te σ2 H3 fun y H4 => ∃ acc, H4 D = some (.lst acc) ∧ acc.length < sizeLine ∧ Nx (upd H4 D (.lst (acc ++ [y]))) else Nx H3) := by
  refine lc_range (lo := lo) (n := n) (fun i H' => H' D = some (.lst ((List.range i).map f)) ∧ Ex H1 H') ⟨upd_same, Ex.new hD⟩ (fun i H' hi hp => ?_) (fun H hp => hd H hp.2 hp.1)
  refine hs i H' _ hi hp.2 fun H4 e4 => ⟨_, e4 _ _ hp.1, ?_, ?_, Ex.mut (hp.2.trans e4) hD⟩
  · rw [List.length_map, List.length_range]
    exact small1000 (by omega)
  · rw [upd_same, List.range_succ, List.map_append]
    rfl
end
theorem mapI (n : Nat) (f : Nat → Int) : (List.range n).map (fun i => V.int (f i)) = ((List.range n).map f).map V.int := by
  rw [List.map_map]
  rfl
theorem mapB (n : Nat) (b : Bool) : (List.range n).map (fun _ => V.bl b) = (List.replicate n b).map V.bl := by
  rw [List.map_replicate, List.map_const', List.length_range]
theorem all_rep (n : Nat) : (List.replicate n true).all id = true := by simp
theorem any_rep (n : Nat) : (List.replicate n false).any id = false := by simp
theorem range_getD (ns : List Int) (f : Int → Int) : (List.range ns.length).map (fun i => f (ns.getD i 0)) = ns.map f := by
  refine List.ext_getElem (by rw [List.length_map, List.length_map, List.length_range]) fun i h1 h2 => ?_
  rw [List.length_map] at h2
  rw [List.getElem_map, List.getElem_map, List.getElem_range, List.getD_eq_getElem?_getD, List.getElem?_eq_getElem h2]
  rfl
end K1

set_option exponentiation.threshold 400
namespace K1
open PySem PySem.Spec PyProof.Rows L2 Evl HM LX ZW ZM DM DR TE
theorem F_next {h : List Nat} (H : IsHeap h) {t : Int} {m : Nat} (hm : m ≤ F h t) (q : dg h m ≤ t) : m + 1 ≤ F h t := by
  have := (F_spec H t).2
  rcases Nat.lt_or_ge m (F h t) with z | z
  · exact z
  · have e : m = F h t := by omega
    rw [← e] at this
    omega
theorem F_stop {h : List Nat} (H : IsHeap h) {t : Int} {m : Nat} (hm : m ≤ F h t) (q : t < dg h m) : F h t = m := by
  rcases Nat.lt_or_ge m (F h t) with z | z
  · have := (F_spec H t).1 m z
    omega
  · omega
section
variable {P : Program} {w : World} {K : PySem.W.Frag} {mg : Str → Option Value} {base : Heap}
def spHasBox : Sp := fun vs H Q _ => ∃ p h, ∃ (k : Nat) (r : Int), vs = [.ref p, .int ((k : Int) + 1), .int r] ∧ HeapAt H p h ∧ 1 ≤ r ∧ ∀ H', Ex H H' → Q (.bl (decide (r ≤ (hAt h k : Int)))) H'
theorem ok_has_box (T : Txt K mg) {f : Addr} {fd : FuncData} (D : DefAt K mg "has_box" sHasBox ["heap", "columns", "rows"] f fd) : FnOk P w K mg base CX0 2 f fd ["heap", "columns", "rows"] spHasBox := by
  refine D.F.ok scHasBox (fun vs H Q E h => ?_) (fun cdv A outer s₀ H vs Q E hr h => ?_)
  · obtain ⟨p, h, k, r, rfl, _⟩ := h
    rfl
  · obtain ⟨p, h, k, r, rfl, hp, h1, q⟩ := h
    obtain ⟨f1, fd1, D1⟩ := T.d_height_at
    have hr1 : Room 1 _ := hr.mono (by decide)
    refine ⟨_, pss_one (ps_ret (pe_or (pe_cmpR op_lt (pv 1) pe_int (nomark _)) (pe_or (pe_cmpR op_lt (pv 2) pe_int (nomark _)) (pe_one (pe_cmpR op_ge (pe_call (ok_height_at T D1) hr1 (by rfl) D1.g D1.F.kp D1.b .nil pass0 (pa_cons (pv 0) (pa_cons (pe_op op_sub (pv 1) pe_int) pa_nil))) (pv 2) (nomark _)))))), ?_⟩
    refine ⟨_, rfl, _, _, rfl, rfl, _, rfl, ?_⟩
    rw [decide_eq_false (show ¬ ((k : Int) + 1 < 1) by omega)]
    refine iteF ⟨_, rfl, _, _, rfl, rfl, _, rfl, ?_⟩
    rw [decide_eq_false (show ¬ (r < 1) by omega)]
    refine iteF ⟨_, rfl, _, rfl, _, _, rfl, rfl, p, h, k, ?_, hp, fun H1 e1 => ⟨_, rfl, _, _, rfl, rfl, q _ e1⟩⟩
    dsimp only
    rw [show (k : Int) + 1 - 1 = (k : Int) by omega]
    rfl
end
end K1

set_option exponentiation.threshold 400
namespace K1
open PySem PySem.Spec PyProof.Rows L2 Evl HM LX ZW ZM DM DR TE
section
variable {P : Program} {w : World} {K : PySem.W.Frag} {mg : Str → Option Value} {base : Heap}
def spRichnessAt : Sp := fun vs H Q _ => ∃ c a xs rs ps, ∃ deg : Int, vs = [.ref c, .int deg, .ref a] ∧ H c = some (.tup xs) ∧ RingsAt H 60 xs rs ∧ xs.length ≤ 12 ∧ PlacesT H a ps ∧ ps.length = xs.length ∧ ∀ H', Ex H H' → Q (.int ((rich1 rs ps deg : Int) - 1)) H'
theorem ok_richness_at (T : Txt K mg) {f : Addr} {fd : FuncData} (D : DefAt K mg "richness_at" sRichnessAt ["chain", "degree", "places"] f fd) : FnOk P w K mg base CX0 5 f fd ["chain", "degree", "places"] spRichnessAt := by
  refine D.F.ok scRichnessAt (fun vs H Q E h => ?_) (fun cdv A outer s₀ H vs Q E hr h => ?_)
  · obtain ⟨c, a, xs, rs, ps, deg, rfl, _⟩ := h
    rfl
  · obtain ⟨c, a, xs, rs, ps, deg, rfl, hc, hR, hl, ha, hlen, q⟩ := h
    obtain ⟨f1, fd1, D1⟩ := T.d_has_box
    obtain ⟨f2, fd2, D2⟩ := T.d_heaps_of
    have hr2 : Room 2 _ := hr.mono (by decide)
    have hr4 : Room 4 _ := hr.mono (by decide)
    refine ⟨_, pss_cons (ps_set (i := 3) scRichnessAt.nd rfl (.inl rfl) (pe_ix ix_list (pe_call (ok_heaps_of T D2) hr4 (by rfl) D2.g D2.F.kp D2.b .nil pass0 (pa_cons (pv 0) (pa_cons (pv 2) pa_nil))) (pe_un un_neg pe_int) (fun _ _ => rfl)))
      (pss_cons (ps_set (i := 4) scRichnessAt.nd rfl (.inl rfl) (pe_op op_sub (pe_callB call_len_seq (by rfl) T.z_len PySem.boot_len (pa_cons (pv 0) pa_nil)) (pv 1)))
      (pss_cons (ps_set (i := 5) scRichnessAt.nd rfl (.inl rfl) (pe_callB (call_max2 rfl) (by rfl) T.z_max (by decide +kernel) (pa_cons pe_int (pa_cons (pe_op op_sub pe_int (pv 4)) pa_nil))))
      (pss_cons (ps_while PassesOwn.never (pt_val (pe_call (ok_has_box T D1) hr2 (by rfl) D1.g D1.F.kp D1.b .nil pass0 (pa_cons (pv 3) (pa_cons (pe_op op_add (pv 5) pe_int) (pa_cons (pe_op op_add (pv 4) (pv 5)) pa_nil))))) (pss_one (ps_aug (i := 5) scRichnessAt.nd rfl (.inl rfl) pe_int ip_add)))
      (pss_one (ps_ret (pe_op op_sub (pv 5) pe_int)))))), ?_⟩
    refine ⟨_, rfl, _, rfl, c, a, xs, rs, ps, rfl, hc, hR, hl, ha, hlen, fun p as H1 e1 hp0 hp hal hh => ?_⟩
    have IH := (hseq_ok rs ps xs.length).1
    have hb := hh _ _ (List.getElem?_eq_getElem (show xs.length < as.length by omega))
    refine ⟨1, rfl, p, _, -1, _, rfl, rfl, SqL.of hp, at_end hal, ?_⟩
    generalize as[xs.length]'(by omega) = b at hb ⊢
    refine ⟨_, rfl, c, _, rfl, .inr (SqT.of (e1 _ _ hc)), _, rfl, _, _, rfl, rfl, ?_⟩
    have low := F_low IH (deg - xs.length)
    have er : rich1 rs ps deg = F (hseq rs ps xs.length) (deg - xs.length) := by
      unfold rich1
      rw [hlen]
    generalize hseq rs ps xs.length = h at IH hb low er
    generalize htt : deg - (xs.length : Int) = t at low er
    refine ⟨_, rfl, _, _, rfl, rfl, 0, _, rfl, ?_⟩
    have hm : (if 1 - ((xs.length : Int) - deg) > 0 then 1 - ((xs.length : Int) - deg) else 0) = (((t + 1).toNat : Nat) : Int) := by
      split <;> omega
    rw [hm]
    refine ⟨fun n σ' H' => ∃ m : Nat, n = F h t - m ∧ m ≤ F h t ∧ (t + 1).toNat ≤ m ∧ σ' = [some (.ref c), some (.int deg), some (.ref a), some (.ref b), some (.int ((xs.length : Int) - deg)), some (.int (m : Int))] ∧ Ex H1 H', ⟨_, _, rfl, low, Nat.le_refl _, rfl, Ex.refl _⟩, fun n σ' H' hW => ?_⟩
    obtain ⟨m, rfl, w1, w2, rfl, e⟩ := hW
    have hd : dg h m = (m : Int) - (hAt h m : Int) := rfl
    refine ⟨_, rfl, _, rfl, _, _, rfl, rfl, _, rfl, _, rfl, _, _, rfl, rfl, b, h, m, _, rfl, e _ _ hb, ?_, fun H2 e2 => ⟨_, rfl, ?_⟩⟩
    · omega
    dsimp only
    by_cases z : (xs.length : Int) - deg + (m : Int) ≤ (hAt h m : Int)
    · rw [decide_eq_true z]
      have nx := F_next IH (t := t) w1 (by omega)
      refine iteT ⟨fun σ2 H3 => σ2 = [some (.ref c), some (.int deg), some (.ref a), some (.ref b), some (.int ((xs.length : Int) - deg)), some (.int ((m + 1 : Nat) : Int))] ∧ H3 = H2, fun σ2 H3 hN => ?_, ?_⟩
      · obtain ⟨rfl, rfl⟩ := hN
        exact ⟨F h t - (m + 1), by omega, m + 1, rfl, nx, by omega, rfl, e.trans e2⟩
      · exact ⟨_, rfl, _, _, rfl, rfl, rfl, rfl⟩
    · rw [decide_eq_false z]
      have st := F_stop IH (t := t) w1 (by omega)
      refine iteF ⟨_, rfl, _, _, rfl, rfl, ?_⟩
      have := q _ ((e1.trans e).trans e2)
      rw [er, st] at this
      exact this
end
end K1

set_option exponentiation.threshold 400
namespace K1
open PySem PySem.Spec PyProof.Rows L2 Evl HM LX ZW ZM DM DR TE
section
variable {P : Program} {w : World} {K : PySem.W.Frag} {mg : Str → Option Value} {base : Heap}
def spRichnessOf : Sp := fun vs H Q _ => ∃ c a xs rs ds B, vs = [.ref c, .ref a] ∧ H c = some (.tup xs) ∧ RingsAt H 60 xs rs ∧ xs.length ≤ 12 ∧ DealAt H a ds ∧ DOk rs ds B ∧ ∀ H', Ex H H' → Q (.int ((rich1 rs (cx rs fun i => Sf (tau rs i) ds) (Sf one ds) : Int) - 1)) H'
theorem ok_richness_of (T : Txt K mg) {f : Addr} {fd : FuncData} (D : DefAt K mg "richness_of" sRichnessOf ["chain", "deal"] f fd) : FnOk P w K mg base CX0 6 f fd ["chain", "deal"] spRichnessOf := by
  refine D.F.ok scRichnessOf (fun vs H Q E h => ?_) (fun cdv A outer s₀ H vs Q E hr h => ?_)
  · obtain ⟨c, a, xs, rs, ds, B, rfl, _⟩ := h
    rfl
  · obtain ⟨c, a, xs, rs, ds, B, rfl, hc, hR, hl, ha, da, q⟩ := h
    obtain ⟨f1, fd1, D1⟩ := T.d_richness_at
    obtain ⟨f2, fd2, D2⟩ := T.d_class_at
    have hr1 : Room 1 _ := hr.mono (by decide)
    have hr5 : Room 5 _ := hr.mono (by decide)
    refine ⟨_, pss_cons (ps_asg (pe_call (ok_class_at T D2) hr1 (by rfl) D2.g D2.F.kp D2.b .nil pass0 (pa_cons (pv 0) (pa_cons (pv 1) pa_nil))) (pg_tup (by rfl) (pgs_cons (pg_name (i := 2) scRichnessOf.nd rfl (.inl rfl)) (pgs_cons (pg_name (i := 3) scRichnessOf.nd rfl (.inl rfl)) pgs_nil))))
      (pss_one (ps_ret (pe_call (ok_richness_at T D1) hr5 (by rfl) D1.g D1.F.kp D1.b .nil pass0 (pa_cons (pv 0) (pa_cons (pv 2) (pa_cons (pv 3) pa_nil)))))), ?_⟩
    refine ⟨_, rfl, _, rfl, c, a, xs, rs, ds, B, rfl, hc, hR, hl, ha, da, fun r1 H1 e1 q1 => ?_⟩
    obtain ⟨t1, x, er, ht1, hx⟩ := id q1
    cases er
    have hlen : xs.length = rs.length := paired_len hR
    refine ⟨r1, _, rfl, SqT.of ht1, rfl, .int _, [_], rfl, .ref x, [], rfl, rfl, ?_⟩
    refine ⟨_, rfl, _, rfl, _, rfl, c, x, xs, rs, _, _, rfl, e1 _ _ hc, rings_ex4 e1 hR, hl, hx, by rw [cx_len, hlen], fun H2 e2 => ?_⟩
    exact q _ (e1.trans e2)
end
end K1

set_option exponentiation.threshold 400
namespace K1
open PySem PySem.Spec PyProof.Rows L2 Evl HM LX ZW ZM DM DR TE
theorem iteT9 {b : Bool} {A B : Prop} (h : b = true) (a : A) : if b = true then A else B := by
  rw [if_pos h]
  exact a
section
variable {P : Program} {w : World} {K : PySem.W.Frag} {mg : Str → Option Value} {base : Heap}
def spRichness : Sp := fun vs H Q _ => ∃ c a xs rs ds, vs = [.ref c, .ref a] ∧ H c = some (.tup xs) ∧ RingsAt H 60 xs rs ∧ (1 ≤ xs.length ∧ xs.length ≤ 12) ∧ DealAt H a ds ∧ DOk rs ds (10 ^ 55) ∧ ∀ H', Ex H H' → Q (.int ((rich1 rs (cx rs fun i => Sf (tau rs i) ds) (Sf one ds) : Int) - 1)) H'
theorem ok_richness (T : Txt K mg) {f : Addr} {fd : FuncData} (D : DefAt K mg "richness" sRichness ["chain", "deal"] f fd) : FnOk P w K mg base CX0 7 f fd ["chain", "deal"] spRichness := by
  refine D.F.ok scRichness (fun vs H Q E h => ?_) (fun cdv A outer s₀ H vs Q E hr h => ?_)
  · obtain ⟨c, a, xs, rs, ds, rfl, _⟩ := h
    rfl
  · obtain ⟨c, a, xs, rs, ds, rfl, hc, hR, hl, ha, da, q⟩ := h
    obtain ⟨f1, fd1, D1⟩ := T.d_richness_of
    obtain ⟨f2, fd2, D2⟩ := T.d_check_deal
    obtain ⟨f3, fd3, D3⟩ := T.d_check_chain
    have hr5 : Room 5 _ := hr.mono (by decide)
    have hr6 : Room 6 _ := hr.mono (by decide)
    refine ⟨_, pss_cons (ps_expr (pe_call (ok_check_chain T D3) hr5 (by rfl) D3.g D3.F.kp D3.b .nil pass0 (pa_cons (pv 0) pa_nil)))
      (pss_cons (ps_expr (pe_call (ok_check_deal T D2) hr5 (by rfl) D2.g D2.F.kp D2.b .nil pass0 (pa_cons (pv 0) (pa_cons (pv 1) pa_nil))))
      (pss_one (ps_ret (pe_call (ok_richness_of T D1) hr6 (by rfl) D1.g D1.F.kp D1.b .nil pass0 (pa_cons (pv 0) (pa_cons (pv 1) pa_nil)))))), ?_⟩
    refine ⟨_, rfl, .ref c, rfl, rings_chain4 hR hc hl.1 hl.2, fun H1 e1 => ?_⟩
    refine ⟨_, rfl, _, rfl, c, a, xs, rs, ds, rfl, e1 _ _ hc, rings_ex4 e1 hR, hl.2, e1 _ _ ha, da, fun H2 e2 => ?_⟩
    have e12 := e1.trans e2
    exact ⟨_, rfl, _, rfl, c, a, xs, rs, ds, _, rfl, e12 _ _ hc, rings_ex4 e12 hR, hl.2, e12 _ _ ha, da, fun H3 e3 => q _ (e12.trans e3)⟩
def spRich : Sp := fun vs H Q _ => ∃ p rs ps, ∃ tot : Int, vs = [.ref p, .int (ps.length : Int), .int tot] ∧ ps.length ≤ 12 ∧ HeapAt H p (hseq rs ps ps.length) ∧ ∀ H', Ex H H' → Q (.int ((rich1 rs ps tot : Int) - 1)) H'
theorem ok_rich (T : Txt K mg) {f : Addr} {fd : FuncData} (D : DefAt K mg "_law_rich" sLRich ["_law_heap_here", "_law_rings", "_law_total"] f fd) : FnOk P w K mg base CX0 1 f fd ["_law_heap_here", "_law_rings", "_law_total"] spRich := by
  refine D.F.ok scLRich (fun vs H Q E h => ?_) (fun cdv A outer s₀ H vs Q E hr h => ?_)
  · obtain ⟨p, rs, ps, tot, rfl, _⟩ := h
    rfl
  · obtain ⟨p, rs, ps, tot, rfl, hl, hp, q⟩ := h
    refine ⟨_, pss_cons (ps_if (PW.pt (pw_or (pt_cmpR op_gt (pv 2) (pe_op op_sub (pe_op op_mul pe_int (pv 1)) pe_int) (nomark _))
          (pw_or1 (pt_cmpR op_lt (pv 2) pe_int (nomark _))))) (pss_one (ps_ret (pe_callB (call_max2 rfl) (by rfl) T.z_max (by decide +kernel) (pa_cons (pe_un un_neg pe_int) (pa_cons (pe_op op_sub (pv 2) (pv 1)) pa_nil))))) pss_nil)
      (pss_cons (ps_set (i := 3) scLRich.nd rfl (.inl rfl) (pe_un un_neg pe_int))
      (pss_one (ps_while PassesOwn.never (pt_val pe_bl) (pss_cons (ps_set (i := 4) scLRich.nd rfl (.inl rfl) (pe_op op_add (pe_op op_add (pe_op op_sub (pv 1) (pv 2)) (pv 3)) pe_int))
      (pss_cons (ps_if (PW.pt (pw_and (pt_cmpR op_gt (pv 4) pe_int (nomark _))
          (pw_and1 (PW.pt (pw_or (pt_cmpR op_lt (pe_callB call_len_seq (by rfl) T.z_len PySem.boot_len (pa_cons (pv 0) pa_nil)) (pe_op op_add (pv 3) pe_int) (nomark _))
          (pw_or1 (pt_cmpR op_lt (pe_ix ix_tup (pv 0) (pe_op op_add (pv 3) pe_int) (fun _ _ => rfl)) (pv 4) (nomark _)))))))) (pss_one (ps_ret (pv 3))) pss_nil)
      (pss_cons (ps_if (PW.pt (pw_and (pt_cmpR op_le (pv 4) pe_int (nomark _))
          (pw_and1 (pt_cmpR op_gt (pe_op op_add (pv 3) pe_int) (pv 2) (nomark _))))) (pss_one (ps_ret (pv 3))) pss_nil)
      (pss_one (ps_set (i := 3) scLRich.nd rfl (.inl rfl) (pe_op op_add (pv 3) pe_int))))))))), ?_⟩
    have great : 2 * (ps.length : Int) - 2 < tot → rich1 rs ps tot = (tot - ps.length + 1).toNat := rich_great rs ps
    have neg : tot < 0 → rich1 rs ps tot = 0 := rich_neg rs ps
    have vg : ∀ m : Nat, rich1 rs ps tot = m → m = (tot - (ps.length : Int) + 1).toNat → Q (.int (if tot - (ps.length : Int) > -1 then tot - (ps.length : Int) else -1)) H := fun m e1 e2 => by
      have := q _ (Ex.refl _)
      rw [e1, e2] at this
      rw [show (if tot - (ps.length : Int) > -1 then tot - (ps.length : Int) else -1) = ((tot - (ps.length : Int) + 1).toNat : Int) - 1 by split <;> omega]
      exact this
    have IH := (hseq_ok rs ps ps.length)
    have hlen : (hseq rs ps ps.length).length ≤ ps.length := IH.2.1
    replace IH := IH.1
    have er : rich1 rs ps tot = F (hseq rs ps ps.length) (tot - ps.length) := rfl
    generalize hseq rs ps ps.length = h at hp IH er hlen
    generalize htt : tot - (ps.length : Int) = t at er vg
    refine ⟨_, rfl, _, rfl, _, _, rfl, rfl, .inr (by constructor <;> omega), _, _, rfl, rfl, _, _, rfl, rfl, _, rfl, ite2 (fun c => ?_) (fun c => ?_)⟩
    · have c1 := of_decide_eq_true c
      have e := great (by omega)
      refine iteT ⟨1, rfl, _, rfl, _, rfl, _, _, rfl, rfl, _, _, rfl, ?_⟩
      dsimp only
      rw [htt]
      exact vg _ e (by omega)
    · have c1 : ¬ (tot > 2 * (ps.length : Int) - 2) := fun z => c (decide_eq_true z)
      refine ⟨_, rfl, _, _, rfl, rfl, _, rfl, ite2 (fun c2 => ?_) (fun c2 => ?_)⟩
      · have c3 := of_decide_eq_true c2
        have e := neg (by omega)
        refine ⟨1, rfl, _, rfl, _, rfl, _, _, rfl, rfl, _, _, rfl, ?_⟩
        dsimp only
        rw [htt]
        exact vg _ e (by omega)
      · have c3 : ¬ (tot < 0) := fun z => c2 (decide_eq_true z)
        refine ⟨1, rfl, fun n σ' H' => ∃ (m : Nat) (y4 : Option V), n = F h t - m ∧ m ≤ F h t ∧ σ' = [some (.ref p), some (.int (ps.length : Int)), some (.int tot), some (.int ((m : Int) - 1)), y4] ∧ Ex H H', ⟨_, 0, none, rfl, Nat.zero_le _, rfl, Ex.refl _⟩, fun n σ' H' hW => ?_⟩
        obtain ⟨m, y4, rfl, w1, rfl, e⟩ := hW
        have hp1 := e _ _ hp
        have hd : dg h m = (m : Int) - (hAt h m : Int) := rfl
        have gr : (ps.length : Int) - tot + ((m : Int) - 1) + 1 = (m : Int) - t := by omega
        have fin : F h t = m → Q (.int ((m : Int) - 1)) H' := fun z => by
          have := q _ e
          rw [er, z] at this
          exact this
        refine ⟨true, rfl, iteT ⟨fun σ2 H2 => σ2 = [some (.ref p), some (.int (ps.length : Int)), some (.int tot), some (.int (((m + 1 : Nat) : Int) - 1)), some (.int ((m : Int) - t))] ∧ H2 = H' ∧ m + 1 ≤ F h t, fun σ2 H2 hN => ?_, ?_⟩⟩
        · obtain ⟨rfl, rfl, nx⟩ := hN
          exact ⟨F h t - (m + 1), by omega, m + 1, _, rfl, nx, rfl, e⟩
        refine ⟨_, rfl, _, rfl, _, _, rfl, rfl, _, rfl, _, _, rfl, rfl, _, _, rfl, rfl, ?_⟩
        dsimp only
        rw [gr]
        have stq : (m : Int) - 1 + 1 = ((m + 1 : Nat) : Int) - 1 := by omega
        have hz : (hv h).length = h.length := hv_len h
        refine ⟨_, rfl, _, _, rfl, rfl, _, rfl, ite2 (fun d1 => ?_) (fun d1 => ?_)⟩
        · have d2 := of_decide_eq_true d1
          refine ⟨_, rfl, p, _, rfl, .inr (SqT.of hp1), _, rfl, _, _, rfl, rfl, _, _, rfl, rfl, _, rfl, ite2 (fun f1 => ?_) (fun f1 => ?_)⟩
          · have f2 := of_decide_eq_true f1
            have z0 : hAt h m = 0 := hAt_ge (by omega)
            exact iteT ⟨_, rfl, fin (F_stop IH w1 (by omega))⟩
          · have f2 : ¬ (((hv h).length : Int) < (m : Int) - 1 + 2) := fun z => f1 (decide_eq_true z)
            refine ⟨_, rfl, _, rfl, _, _, rfl, rfl, p, _, _, _, rfl, rfl, SqT.of hp1, at_of (show (m : Int) - 1 + 1 = (m : Int) by omega) (hv_get (by omega)), _, rfl, _, _, rfl, rfl, _, rfl, ite2 (fun f3 => ?_) (fun f3 => ?_)⟩
            · have f4 := of_decide_eq_true f3
              exact ⟨_, rfl, fin (F_stop IH w1 (by omega))⟩
            · have f4 : ¬ ((hAt h m : Int) < (m : Int) - t) := fun z => f3 (decide_eq_true z)
              refine ⟨_, rfl, _, _, rfl, rfl, _, rfl, ite2 (fun f5 => ?_) (fun _ => iteF ⟨_, rfl, _, _, rfl, rfl, ?_, rfl, F_next IH w1 (by omega)⟩)⟩
              · have := of_decide_eq_true f5
                omega
              · simp only [List.set]
                rw [stq]
        · have d2 : ¬ (0 < (m : Int) - t) := fun z => d1 (decide_eq_true z)
          refine iteF ⟨_, rfl, _, _, rfl, rfl, _, rfl, iteT9 (decide_eq_true (by omega)) ⟨_, rfl, _, _, rfl, rfl, _, rfl, _, _, rfl, rfl, _, rfl, ite2 (fun f5 => ?_) (fun _ => ⟨_, rfl, _, _, rfl, rfl, ?_, rfl, F_next IH w1 (by omega)⟩)⟩⟩
          · have := of_decide_eq_true f5
            omega
          · simp only [List.set]
            rw [stq]
end
end K1

/-! own rule: range(i, j) with ends of any size, walked -/
namespace LR
open PySem PySem.Spec PyProof.Rows L2
theorem turn_long {P : Program} {w : World} {K : PySem.W.Frag} {tg : Expr} (it : Addr) (lo : Int) (n : Nat) : Turn P w K tg (Itr lo n) [it] it (fun i h => IsLongIter h it (lo + (i : Nat) * 1) ((n : Int) - (i : Nat)) 1) where
  mem := by simp
  obj := fun i h st b hb => by
    have e : b = it := by simpa using hb
    subst e
    exact ⟨_, st, fun v z => nomatch z⟩
  keep := fun i h h' st k => k it (by simp) _ st
  item := by
    intro X hP hw hK hc i pins s σ H E I hf st hg
    subst hP hw hK
    obtain ⟨f0, f1, f2, f3, f4, f5⟩ := hf it (by simp)
    have W := Walks.longrange (prog := X.prog) (w := X.w) (I.ok.hd hc) it lo 1 n
    refine W.item i s _ _ hg st fun v h' tk hv st' kk => ?_
    obtain ⟨t, rfl⟩ := hv
    have I1 : Inv X pins σ H { s with heap := h', toks := tk } := I.turned (fun b o hb e => kk b o (by simpa using hb) e) f0 f1 f3 f4 f5
    exact ⟨_, rfl, go_of (s := { s with heap := h', toks := tk }) (n := "longrange_iterator") st' rfl rfl (by decide) ⟨.int (lo + (i : Nat) * 1), H, I1, ⟨t, rfl⟩, ⟨rfl, by simp⟩, st', fun b hb => (hf b hb).1⟩⟩
  done := by
    intro X hP hw hK hc i pins s σ H E I hf st hg
    subst hP hw hK
    obtain ⟨f0, f1, f2, f3, f4, f5⟩ := hf it (by simp)
    exact wpAny_pyNext_long_end (I.ok.hd hc) st (by have : n ≤ i := hg; omega) fun h' eb => ⟨rfl, I.turned (t' := s.toks) (fun b o hb e => eb b o hb e) f0 f1 f3 f4 f5⟩
  self := fun A i s Q E st h => wpAny_pyIter_longiter st h
theorem range_itL {X : Cx} {tg : Expr} {pins : List (Addr × Obj)} {σ : L2.St} {H : Hp} {s : Shared} {R : It → Hp → Prop} {E : Value → Shared → Prop} {lo hi : Int} {t u v : Tok} {tk : Nat} (I : Inv X pins σ H s) (hb : Builtin.Range.small lo hi 1 = false)
    (q : R (Itr lo (hi - lo).toNat) H) : wpAny (model X.prog X.w) X.A (pyIter (.ref s.heap.objs.size)) (PIE X pins σ tg R) E { s with heap := s.heap.push { cls := .type "range", data := .fields #[.int lo t, .int hi u, .int 1 v] }, toks := tk } := by
  refine wpAny_pyIter_longrange (IsRange.new ..) hb ?_
  have I1 : Inv X pins σ H { s with heap := s.heap.push { cls := .type "range", data := .fields #[.int lo t, .int hi u, .int 1 v] }, toks := tk } := I.kept fun b o e => Heap.get?_push_of_some _ e
  refine ⟨(s.heap.push { cls := .type "range", data := .fields #[.int lo t, .int hi u, .int 1 v] }).objs.size, [(s.heap.push { cls := .type "range", data := .fields #[.int lo t, .int hi u, .int 1 v] }).objs.size], _, _, H, rfl,
    I1.kept (t' := tk) fun b o e => Heap.get?_push_of_some _ e, turn_long _ lo (hi - lo).toNat, ?_, fun b hb => ?_, q⟩
  · have e1 : lo + ((0 : Nat) : Int) * 1 = lo := by simp
    have e2 : (((hi - lo).toNat : Nat) : Int) - ((0 : Nat) : Int) = Builtin.Range.rangeSize lo hi 1 := by rw [rangeSize_one]; split <;> omega
    show IsLongIter _ _ (lo + ((0 : Nat) : Int) * 1) ((((hi - lo).toNat : Nat) : Int) - ((0 : Nat) : Int)) 1
    rw [e1, e2]
    exact Heap.get?_push_size _ rfl
  · have e : b = (s.heap.push { cls := .type "range", data := .fields #[.int lo t, .int hi u, .int 1 v] }).objs.size := by simpa using hb
    subst e
    exact I1.fpOk (Nat.le_refl _) (I1.hok.fresh (Nat.le_refl _))
/-- small or not -/
theorem range_itS {X : Cx} {tg : Expr} {pins : List (Addr × Obj)} {σ : L2.St} {H : Hp} {s : Shared} {R : It → Hp → Prop} {E : Value → Shared → Prop} {lo hi : Int} {t u v : Tok} {tk : Nat} (I : Inv X pins σ H s) (hb : Builtin.Range.small lo hi 1 = true)
    (q : R (Itr lo (hi - lo).toNat) H) : wpAny (model X.prog X.w) X.A (pyIter (.ref s.heap.objs.size)) (PIE X pins σ tg R) E { s with heap := s.heap.push { cls := .type "range", data := .fields #[.int lo t, .int hi u, .int 1 v] }, toks := tk } := by
  refine wpAny_pyIter_range (IsRange.new ..) hb ?_
  have I1 : Inv X pins σ H { s with heap := s.heap.push { cls := .type "range", data := .fields #[.int lo t, .int hi u, .int 1 v] }, toks := tk } := I.kept fun b o e => Heap.get?_push_of_some _ e
  refine ⟨(s.heap.push { cls := .type "range", data := .fields #[.int lo t, .int hi u, .int 1 v] }).objs.size, [(s.heap.push { cls := .type "range", data := .fields #[.int lo t, .int hi u, .int 1 v] }).objs.size], _, _, H, rfl,
    I1.kept (t' := tk) fun b o e => Heap.get?_push_of_some _ e, turn_range _ lo (hi - lo).toNat, ?_, fun b hb => ?_, q⟩
  · have e1 : lo + ((0 : Nat) : Int) * 1 = lo := by simp
    have e2 : (((hi - lo).toNat : Nat) : Int) - ((0 : Nat) : Int) = Builtin.Range.rangeSize lo hi 1 := by rw [rangeSize_one]; split <;> omega
    show IsRangeIter _ _ (lo + ((0 : Nat) : Int) * 1) ((((hi - lo).toNat : Nat) : Int) - ((0 : Nat) : Int)) 1
    rw [e1, e2]
    exact Heap.get?_push_size _ rfl
  · have e : b = (s.heap.push { cls := .type "range", data := .fields #[.int lo t, .int hi u, .int 1 v] }).objs.size := by simpa using hb
    subst e
    exact I1.fpOk (Nat.le_refl _) (I1.hok.fresh (Nat.le_refl _))
def iRng2L (ta : TA) : TI := fun σ H R => ta σ H fun vs H1 => ∃ i j : Int, vs = [.int i, .int j] ∧ R (Itr i (j - i).toNat) H1
theorem pi_range2L {X : Cx} {tg : Expr} {a b : Expr} {ta : TA} {p pos : Pos} (hg : Gl X "range") (hm : X.mg "range" = none) (ha : PA X [a, b] ta) (hs : starEach [a, b] X.env = [(false, eval a X.env), (false, eval b X.env)] := by rfl) (hs2 : starEach [b] X.env = [(false, eval b X.env)] := by rfl) :
    PI X tg (.Call (.Name "range" p) [a, b] [] pos) (iRng2L ta) := by
  refine ⟨fun pins s σ H R I h => ?_⟩
  refine Call_ (ld_blt I hg hm boot_range (PyProof.Rows.callWith_type1 (thn (ha.run pos pins s σ H _ I h) fun us s1 ⟨vs, H1, I1, r1, q1⟩ => ?_) (by rw [hs, hs2]) (by rw [hs2]; rfl)))
  obtain ⟨i, j, e, q⟩ := q1
  subst e
  cases r1 with
  | cons r rr =>
    cases rr with
    | cons r' rr =>
      cases rr
      obtain ⟨t, rfl⟩ := r
      obtain ⟨t', rfl⟩ := r'
      cases hb : Builtin.Range.small i j 1 with
      | true => exact call_range_2 (range_itS I1 hb q)
      | false => exact call_range_2 (range_itL I1 hb q)
end LR

set_option exponentiation.threshold 400
namespace K1
open PySem PySem.Spec PyProof.Rows L2 Evl HM LX ZW ZM
theorem iteF9 {b : Bool} {A B : Prop} (h : b = false) (a : B) : if b = true then A else B := by
  rw [if_neg (by rw [h]; decide)]
  exact a
/-! ### letters and maps -/
section
variable {P : Program} {w : World} {K : PySem.W.Frag} {mg : Str → Option Value} {base : Heap}
def spLetterOf : Sp := fun vs H Q _ => ∃ x n s p, vs = [x, .int p] ∧ RingAt H 60 x n s ∧ 
  (∀ (t : Addr) (c : Nat) (H' : Hp), Ex H H' → H' t = some (.tup [.int (K1M.ord n.natAbs s.natAbs : Nat), .int (c : Int)]) → c < K1M.ord n.natAbs s.natAbs → ((c : Int) * s + p) % n = 0 → Q (.ref t) H') ∧
  ((∀ c : Nat, c < K1M.ord n.natAbs s.natAbs → ¬ ((c : Int) * s + p) % n = 0) → ∀ H', Ex H H' → Q .non H')
theorem ok_letter_of (T : Txt K mg) {f : Addr} {fd : FuncData} (D : DefAt K mg "letter_of" sLetterOf ["ring", "place"] f fd) : FnOk P w K mg base CX0 6 f fd ["ring", "place"] spLetterOf := by
  refine D.F.ok scLetterOf (fun vs H Q E h => ?_) (fun cdv A outer s₀ H vs Q E hr h => ?_)
  · obtain ⟨x, n, s, p, rfl, _⟩ := h
    rfl
  · obtain ⟨x, n, s, p, rfl, hx, q1, q2⟩ := h
    obtain ⟨f1, fd1, D1⟩ := T.d_order_of
    have hr5 : Room 5 _ := hr.mono (by decide)
    refine ⟨_, pss_cons (ps_set (i := 2) scLetterOf.nd rfl (.inl rfl) (pe_call (ok_order_of T D1) hr5 (by rfl) D1.g D1.F.kp D1.b .nil pass0 (pa_cons (pv 0) pa_nil)))
      (pss_cons (ps_for PassesOwn.never rfl (pi_range1 (by rfl) T.z_range (pa_cons (pv 2) pa_nil)) (pg_name (i := 3) scLetterOf.nd rfl (.inl rfl))
        (pss_one (ps_if (pt_cmpR op_eq (pe_op op_mod (pe_op op_add (pe_op op_mul (pv 3) (pe_ix ix_tup (pv 0) pe_int (fun _ _ => rfl))) (pv 1)) (pe_ix ix_tup (pv 0) pe_int (fun _ _ => rfl))) pe_int (nomark _)) (pss_one (ps_ret (pe_tup (pa_cons (pv 2) (pa_cons (pv 3) pa_nil))))) pss_nil)))
      (pss_one (ps_ret pe_non))), ?_⟩
    refine ⟨_, rfl, x, n, s, rfl, hx, fun H1 e1 => ?_⟩
    have hx1 := hx.ex e1
    obtain ⟨t, rfl, ht, b1, b2, b3, b4⟩ := hx1
    have hle : K1M.ord n.natAbs s.natAbs ≤ n.natAbs := K1M.ord_le
    refine ⟨_, rfl, _, rfl, by omega, by omega, for_range (lo := 0) (n := Int.toNat _) (fun i σ' H' => ∃ y3 : Option V, σ' = [some (.ref t), some (.int p), some (.int (K1M.ord n.natAbs s.natAbs : Nat)), y3] ∧ Ex H1 H' ∧ ∀ c : Nat, c < i → ¬ ((c : Int) * s + p) % n = 0) ⟨none, rfl, Ex.refl _, fun c hc => absurd hc (Nat.not_lt_zero c)⟩ (fun i σ' H' hi hp => ?_) (fun σ' H' hp => ?_)⟩
    · obtain ⟨y3, rfl, e2, no⟩ := hp
      refine ⟨_, rfl, _, rfl, t, _, 1, .int s, rfl, rfl, SqT.of (e2 _ _ ht), rfl, _, _, rfl, rfl, .inr (by constructor <;> omega), _, rfl, _, _, rfl, rfl, _, rfl, t, _, 0, .int n, rfl, rfl, SqT.of (e2 _ _ ht), rfl, _, _, rfl, rfl, by omega, rfl, _, rfl, ?_⟩
      dsimp only
      rw [show (0 : Int) + (i : Int) = (i : Int) by omega]
      by_cases z : ((i : Int) * s + p) % n = 0
      · rw [decide_eq_true (show V.int (((i : Int) * s + p) % n) = V.int 0 by rw [z])]
        refine iteT ⟨_, rfl, _, rfl, (show 2 ≤ sizeLine by decide), fun p1 h1 => ?_⟩
        exact q1 p1 i _ ((e1.trans e2).trans (Ex.new h1)) upd_same (by omega) z
      · rw [decide_eq_false (show ¬ V.int (((i : Int) * s + p) % n) = V.int 0 from fun y => z (by injection y))]
        refine iteF ⟨_, rfl, e2, fun c hc => ?_⟩
        by_cases e : c = i
        · subst e
          exact z
        · exact no c (by omega)
    · obtain ⟨y3, rfl, e2, no⟩ := hp
      exact q2 (fun c hc => no c (by omega)) _ (e1.trans e2)
def spCheckClassAt : Sp := fun vs H Q _ => ∃ c x xs rs ps, ∃ tot : Int, vs = [.ref c, .int tot, .ref x] ∧ H c = some (.tup xs) ∧ RingsAt H 60 xs rs ∧ (1 ≤ xs.length ∧ xs.length ≤ 12) ∧ PlacesT H x ps ∧ ps.length = xs.length ∧ PlOk rs ps ∧ tot.natAbs < 10 ^ 60 ∧ ∀ H', Ex H H' → Q .non H'
end
end K1

/-! walks with steps over a row, cuts: mathematics -/
namespace MP
open PySem L2
theorem set_same {l : List Int} {i : Nat} {v : Int} (hi : i < l.length) (h : l.getD i 0 = v) : l.set i v = l := by
  refine list_ext (by rw [List.length_set]) fun k hk => ?_
  rw [getD_set hi]
  split
  · rename_i e
    rw [e, h]
  · rfl
/-- one exchange and on to the next -/
theorem part_turn {M : Int → Bool} (S : Sparse M) {low : Int} {vs : List Int} {B k : Nat} (hk : 1 ≤ k) (hB : B + 1 < vs.length) (m : M (low + B) = true) (no : ∀ j : Nat, B < j → j < B + k → M (low + j) = false) :
    (part M low vs B).getD B 0 = vs.getD B 0 ∧ (part M low vs B).getD (B + 1) 0 = vs.getD (B + 1) 0 ∧
    (vs.getD B 0 < vs.getD (B + 1) 0 → ((part M low vs B).set B (vs.getD (B + 1) 0)).set (B + 1) (vs.getD B 0) = part M low vs (B + k)) ∧
    (¬ vs.getD B 0 < vs.getD (B + 1) 0 → part M low vs B = part M low vs (B + k)) := by
  obtain ⟨h1, h2, h3⟩ := part_next S hB m
  have h4 : part M low vs (B + k) = part M low vs (B + 1) := part_skip (by omega) fun j a b c => no j (by omega) b
  refine ⟨h1, h2, fun c => ?_, fun c => ?_⟩
  · rw [h4, h3, show max (vs.getD B 0) (vs.getD (B + 1) 0) = vs.getD (B + 1) 0 by omega, show min (vs.getD B 0) (vs.getD (B + 1) 0) = vs.getD B 0 by omega]
  · rw [h4, h3, show max (vs.getD B 0) (vs.getD (B + 1) 0) = vs.getD B 0 by omega, show min (vs.getD B 0) (vs.getD (B + 1) 0) = vs.getD (B + 1) 0 by omega]
    rw [set_same (l := part M low vs B) (by rw [part_len]; omega) h1, set_same (l := part M low vs B) (by rw [part_len]; omega) h2]
theorem shiftm {low c k x : Int} : (low + x - c) % k = 0 ↔ (x - (c - low) % k) % k = 0 := by
  have := Int.mul_ediv_add_emod (c - low) k
  rw [show x - (c - low) % k = (low + x - c) + k * ((c - low) / k) by omega, Int.add_mul_emod_self_left]
/-- where the steps hit -/
theorem step_hit {M : Int → Bool} {low c k : Int} (hk : 1 ≤ k) (per : ∀ i, M i = true ↔ (i - c) % k = 0) (m : Nat) : M (low + ((c - low) % k + (m : Int) * k)) = true := by
  rw [per, shiftm, show (c - low) % k + (m : Int) * k - (c - low) % k = (m : Int) * k by omega]
  exact Int.mul_emod_left _ _
theorem step_miss {M : Int → Bool} {low c k : Int} (hk : 1 ≤ k) (per : ∀ i, M i = true ↔ (i - c) % k = 0) (m : Nat) {x : Int} (h1 : (c - low) % k + (m : Int) * k < x) (h2 : x < (c - low) % k + (m : Int) * k + k) : M (low + x) = false := by
  cases q : M (low + x) with
  | false => rfl
  | true =>
    rw [per, shiftm] at q
    rw [show x - (c - low) % k = (x - (c - low) % k - (m : Int) * k) + (m : Int) * k by omega, Int.add_mul_emod_self_right, Int.emod_eq_of_lt (by omega) (by omega)] at q
    omega
theorem step_first {M : Int → Bool} {low c k : Int} (hk : 1 ≤ k) (per : ∀ i, M i = true ↔ (i - c) % k = 0) {x : Int} (h1 : 0 ≤ x) (h2 : x < (c - low) % k) : M (low + x) = false := by
  cases q : M (low + x) with
  | false => rfl
  | true =>
    have r1 := Int.emod_lt_of_pos (c - low) (show 0 < k by omega)
    rw [per, shiftm] at q
    rw [show x - (c - low) % k = (x - (c - low) % k + k) + k * (-1) by omega, Int.add_mul_emod_self_left, Int.emod_eq_of_lt (by omega) (by omega)] at q
    omega
/-- how many steps -/
def stn (i j c : Int) : Nat := if i < j then ((j - i - 1) / c + 1).toNat else 0
theorem stn_lt {i j c : Int} (hc : 1 ≤ c) {m : Nat} (h : m < stn i j c) : i + (m : Int) * c < j := by
  unfold stn at h
  split at h
  · rename_i q
    have h1 : (m : Int) ≤ (j - i - 1) / c := by omega
    have h2 := Int.mul_le_mul_of_nonneg_right h1 (show 0 ≤ c by omega)
    have h3 := Int.ediv_mul_le (j - i - 1) (show c ≠ 0 by omega)
    omega
  · omega
theorem stn_end {i j c : Int} (hc : 1 ≤ c) : j ≤ i + (stn i j c : Int) * c := by
  unfold stn
  split
  · rename_i q
    have h0 := Int.ediv_nonneg (show 0 ≤ j - i - 1 by omega) (show 0 ≤ c by omega)
    have h3 := Int.lt_ediv_add_one_mul_self (j - i - 1) (show 0 < c by omega)
    rw [show ((((j - i - 1) / c + 1).toNat : Nat) : Int) = (j - i - 1) / c + 1 by omega]
    omega
  · rename_i q
    show j ≤ i + ((0 : Nat) : Int) * c
    omega
theorem rgc_pos {i j c : Int} (hi : 0 ≤ i) (hi' : i ≤ 1000000) (hj : -1000000 ≤ j) (hj' : j ≤ 1000000) (hc : 1 ≤ c) (hc' : c ≤ 1000) : RgC i j c (stn i j c) := by
  have hs : Builtin.Range.rangeSize i j c = (stn i j c : Int) := by
    unfold Builtin.Range.rangeSize stn
    rw [if_pos (show c > 0 by omega)]
    split
    · have h0 := Int.ediv_nonneg (show 0 ≤ j - i - 1 by omega) (show 0 ≤ c by omega)
      omega
    · rfl
  refine ⟨by omega, by omega, ?_, hs⟩
  have hb : (stn i j c : Int) ≤ 2000001 := by
    unfold stn
    split
    · have h0 := Int.ediv_le_self c (show 0 ≤ j - i - 1 by omega)
      omega
    · omega
  unfold Builtin.Range.small
  rw [hs]
  simp only [Builtin.Range.rangeFitsLong, Bool.and_eq_true, Bool.or_eq_true, decide_eq_true_eq, beq_iff_eq, show c > 0 by omega, if_true]
  omega
theorem cut_mid {xs : List V} {g : Nat} : cutV xs (some (g : Int)) (some ((xs.length : Int) - g)) = (xs.drop g).take (xs.length - 2 * g) := by
  unfold cutV
  rw [HT.sIx_nat]
  have e : HT.sIx xs.length xs.length (some ((xs.length : Int) - g)) - min g xs.length = xs.length - 2 * g := by
    show (if (xs.length : Int) - g < 0 then ((xs.length : Int) - g + (xs.length : Int)).toNat else min ((xs.length : Int) - g).toNat xs.length) - min g xs.length = _
    split <;> omega
  rw [e]
  by_cases c : 2 * g ≤ xs.length
  · rw [Nat.min_eq_left (by omega)]
  · rw [show xs.length - 2 * g = 0 by omega, List.take_zero, List.take_zero]
end MP

set_option exponentiation.threshold 400
namespace K1
open PySem PySem.Spec PyProof.Rows L2 Evl HM LX ZW ZM MP
theorem win_snoc (f : Int → Int) (low : Int) (n : Nat) : win f low (n + 1) = win f low n ++ [f (low + n)] := by
  unfold win
  rw [List.range_succ, List.map_append]
  rfl
theorem mls_cons {rs : List (Int × Int)} {ps : List Int} {g i : Nat} (h : i < g) : mls rs ps (i + 1) (g - 1 - i) = mL rs ps (g - 1 - i) :: mls rs ps i (g - i) := by
  show mL rs ps (g - 1 - i) :: mls rs ps i (g - 1 - i + 1) = _
  rw [show g - 1 - i + 1 = g - i by omega]
theorem ixN_at {n B : Nat} (h : B < n) : ixN n (B : Int) = some B := by
  unfold ixN
  rw [if_pos (by omega), if_pos (by omega), Int.toNat_natCast]
theorem int_at {vs : List Int} {j : Nat} (h : j < vs.length) : (vs.map V.int)[j]? = some (V.int (vs.getD j 0)) := int_get5 h
section
variable {P : Program} {w : World} {K : PySem.W.Frag} {mg : Str → Option Value} {base : Heap}
def spMapValues : Sp := fun vs H Q _ => ∃ c x xs rs ps, ∃ tot first last : Int, vs = [.ref c, .int tot, .ref x, .int first, .int last] ∧ H c = some (.tup xs) ∧ RingsAt H 60 xs rs ∧ (1 ≤ xs.length ∧ xs.length ≤ 12) ∧ PlacesT H x ps ∧ ps.length = xs.length ∧
  last - first ≤ 900 ∧ ∀ a H', Ex H H' → H a = none → H' a = some (.lst ((win (fm rs ps tot) first (last - first + 1).toNat).map V.int)) → Q (.ref a) H'
theorem ok_map_values (T : Txt K mg) {f : Addr} {fd : FuncData} (D : DefAt K mg "map_values" sMapValues ["chain", "degree", "places", "first", "last"] f fd) : FnOk P w K mg base CX0 7 f fd ["chain", "degree", "places", "first", "last"] spMapValues := by
  refine D.F.ok scMapValues (fun vs H Q E h => ?_) (fun cdv A outer s₀ H vs Q E hr h => ?_)
  · obtain ⟨c, x, xs, rs, ps, tot, first, last, rfl, _⟩ := h
    rfl
  · obtain ⟨c, x, xs, rs, ps, tot, first, last, rfl, hc, hR, hl, hx, hlen, b3, q⟩ := h
    obtain ⟨f1, fd1, D1⟩ := T.d_letter_of
    have hr6 : Room 6 _ := hr.mono (by decide)
    refine ⟨_, pss_cons (ps_set (i := 5) scMapValues.nd rfl (.inr rfl) (pe_callB call_len_seq (by rfl) T.z_len PySem.boot_len (pa_cons (pv 0) pa_nil)))
      (pss_cons (ps_set (i := 6) scMapValues.nd rfl (.inl rfl) (pe_op op_sub (pv 3) (pv 5)))
      (pss_cons (ps_setLc (i := 8) (own := [("at", 7)]) (g := gName 7) (tt := tYes) (by rfl) scMapValues.nd rfl rfl (sw_true rfl rfl rfl (by decide +kernel)) (LR.pi_range2L (by rfl) T.z_range (pa_cons (pv 6) (pa_cons (pe_op op_add (pe_op op_add (pv 4) (pv 5)) pe_int) pa_nil)))
        (blkOk_by (N := nMapValues) (sc := defScope sMapValues) (by decide +kernel)) (fun _ _ _ _ _ => (pg_name (i := 7) scMapValues.nd rfl (.inl rfl))) (fun _ _ _ _ _ => pts_nil)
        (fun _ _ _ _ _ => (pe_op op_sub (pe_op op_add (pv 7) (pv 1)) (pv 5))))
      (pss_cons (ps_for PassesOwn.never rfl (pi_revR (by rfl) T.z_reversed (prg_1 (by rfl) T.z_range (pv 5))) (pg_name (i := 9) scMapValues.nd rfl (.inl rfl))
        (pss_cons (ps_set (i := 10) scMapValues.nd rfl (.inl rfl) (pe_call (ok_letter_of T D1) hr6 (by rfl) D1.g D1.F.kp D1.b .nil pass0 (pa_cons (pe_ix ix_tup (pv 0) (pv 9) (fun _ _ => rfl)) (pa_cons (pe_ix ix_tup (pv 2) (pv 9) (fun _ _ => rfl)) pa_nil))))
      (pss_one (ps_if (pt_cmpR op_notN (pv 10) pe_non (nomark _)) (pss_one (ps_for PassesOwn.never rfl (pi_range3 (by rfl) T.z_range (pa_cons (pe_op op_mod (pe_op op_sub (pe_ix ix_tup (pv 10) pe_int (fun _ _ => rfl)) (pv 6)) (pe_ix ix_tup (pv 10) pe_int (fun _ _ => rfl))) (pa_cons (pe_op op_sub (pe_callB call_len_seq (by rfl) T.z_len PySem.boot_len (pa_cons (pv 8) pa_nil)) pe_int) (pa_cons (pe_ix ix_tup (pv 10) pe_int (fun _ _ => rfl)) pa_nil)))) (pg_name (i := 7) scMapValues.nd rfl (.inl rfl))
        (pss_one (ps_if (pt_cmpR op_lt (pe_ix ix_list (pv 8) (pv 7) (fun _ _ => rfl)) (pe_ix ix_list (pv 8) (pe_op op_add (pv 7) pe_int) (fun _ _ => rfl)) (nomark _)) (pss_one (ps_asg (pe_tup (pa_cons (pe_ix ix_list (pv 8) (pe_op op_add (pv 7) pe_int) (fun _ _ => rfl)) (pa_cons (pe_ix ix_list (pv 8) (pv 7) (fun _ _ => rfl)) pa_nil))) (pg_tup (by rfl) (pgs_cons (pg_sub (pv 8) (pv 7) set_list) (pgs_cons (pg_sub (pv 8) (pe_op op_add (pv 7) pe_int) set_list) pgs_nil))))) pss_nil)))) pss_nil))))
      (pss_one (ps_ret (pe_slice sl_list (pv 8) (po_some (pv 5)) (po_some (pe_op op_sub (pe_callB call_len_seq (by rfl) T.z_len PySem.boot_len (pa_cons (pv 8) pa_nil)) (pv 5))))))))), ?_⟩
    refine ⟨_, rfl, c, _, rfl, .inr (SqT.of hc), _, rfl, _, rfl, _, _, rfl, rfl, _, rfl, _, rfl, _, rfl, _, _, rfl, rfl, _, _, rfl, rfl, _, _, rfl, fun l hl0 => ?_⟩
    refine lc_range (fun i H' => H' l = some (.lst ((win (fun y => y + (tot - (ps.length : Int))) (first - (xs.length : Int)) i).map V.int)) ∧ Ex H H') ⟨upd_same, Ex.new hl0⟩ (fun i H' hi hp => ?_) (fun H' hp => ?_)
    · obtain ⟨w1, w2⟩ := hp
      refine ⟨rfl, ?_⟩
      dsimp only [tYes]
      rw [if_pos rfl]
      refine ⟨_, rfl, _, rfl, _, _, rfl, rfl, _, rfl, _, _, rfl, rfl, _, w1, ?_, ?_, Ex.mut w2 hl0⟩
      · rw [List.length_map, win_len]
        exact small1000 (by omega)
      · rw [upd_same, win_snoc, List.map_append, hlen]
        show some (HO.lst (_ ++ [V.int _])) = some (HO.lst (_ ++ [V.int _]))
        congr 5
        omega
    · obtain ⟨w1, w2⟩ := hp
      have ok : RsOk rs ps.length := fun j hj => by
        obtain ⟨y, hy⟩ : ∃ y, xs[j]? = some y := ⟨xs[j]'(by omega), List.getElem?_eq_getElem (by omega)⟩
        obtain ⟨_, _, _, b1, _, b2, b3⟩ := rings_nth4 hR hy
        exact ⟨by omega, by omega⟩
      generalize hN : (last + (xs.length : Int) + 1 - (first - (xs.length : Int))).toNat = N at *
      have hNe : N = (last - first + 1 + 2 * (xs.length : Int)).toNat := by omega
      generalize hlow : first - (xs.length : Int) = low at *
      refine ⟨_, rfl, _, rfl, by omega, by omega, by omega, by omega, ?_⟩
      refine for_rangeC (n := Int.toNat _) (fun i σ' H' => ∃ (y7 y9 y10 : Option V) (vs : List Int), σ' = [some (.ref c), some (.int tot), some (.ref x), some (.int first), some (.int last), some (.int (xs.length : Int)), some (.int low), y7, some (.ref l), y9, y10] ∧ H' l = some (.lst (vs.map V.int)) ∧
        Near vs (pmap (mls rs ps i (ps.length - i)) fun y => y + (tot - (ps.length : Int))) low N i ∧ Ex H H') ⟨none, none, none, win (fun y => y + (tot - (ps.length : Int))) low N, by rw [← hlow]; rfl, w1, ?_, w2⟩ (fun i σ' H2 hi hp => ?_) (fun σ' H2 hp => ?_)
      · exact near_win _ _ _
      · obtain ⟨y7, y9, y10, vs, rfl, v1, v2, v3⟩ := hp
        have hi' : i < xs.length := by omega
        have hidx : (0 : Int) + (((((xs.length : Int) - 0).toNat : Nat) : Int)) - 1 + (i : Nat) * (-1) = ((xs.length - 1 - i : Nat) : Int) := by omega
        rw [hidx]
        obtain ⟨y, hy⟩ : ∃ y, xs[xs.length - 1 - i]? = some y := ⟨xs[xs.length - 1 - i]'(by omega), List.getElem?_eq_getElem (by omega)⟩
        have ry := rings_nth4 (rings_ex4 v3 hR) hy
        have hj : ps.length - 1 - i = xs.length - 1 - i := by rw [hlen]
        have ms : mls rs ps (i + 1) (ps.length - (i + 1)) = mL rs ps (xs.length - 1 - i) :: mls rs ps i (ps.length - i) := by
          rw [show ps.length - (i + 1) = ps.length - 1 - i by omega, mls_cons (by omega), hj]
        refine ⟨_, rfl, _, rfl, c, xs, _, y, rfl, rfl, SqT.of (v3 _ _ hc), atI_nat hy, _, rfl, _, rfl, x, _, _, .int (ps.getD (xs.length - 1 - i) 0), rfl, rfl, SqT.of (v3 _ _ hx), atI_nat (int_at (by omega)), y, _, _, _, rfl, ry, ?_, ?_⟩
        · intro t cc H3 e3 ht hcc hz
          obtain ⟨o1, o2⟩ := ok (xs.length - 1 - i) (by omega)
          rw [Int.natAbs_natCast] at ht hcc
          have hn1 : 1 ≤ K1N.nAt rs (xs.length - 1 - i) := by omega
          have hn60 : K1N.nAt rs (xs.length - 1 - i) ≤ 60 := by
            obtain ⟨_, _, _, _, b2, _⟩ := ry
            omega
          have mc : mL rs ps (xs.length - 1 - i) (cc : Int) = true := by
            unfold mL
            exact decide_eq_true hz
          have per := mL_per (ps := ps) hn1 (by omega) mc
          have S := mL_sparse (ps := ps) o1 o2
          have hk1 : 1 ≤ K1M.ord (K1N.nAt rs (xs.length - 1 - i)) (K1N.sAt rs (xs.length - 1 - i)).natAbs := K1M.ord_pos (by omega)
          have hk2 : K1M.ord (K1N.nAt rs (xs.length - 1 - i)) (K1N.sAt rs (xs.length - 1 - i)).natAbs ≤ K1N.nAt rs (xs.length - 1 - i) := K1M.ord_le
          generalize K1M.ord (K1N.nAt rs (xs.length - 1 - i)) (K1N.sAt rs (xs.length - 1 - i)).natAbs = k at *
          generalize hM : mL rs ps (xs.length - 1 - i) = M at *
          have v1' := e3 _ _ v1
          have hNl : vs.length = N := v2.1
          refine ⟨_, rfl, rfl, _, rfl, iteT9 (by rw [decide_eq_false (fun z => by cases z)]; rfl) ?_⟩
          refine ⟨_, rfl, t, _, 1, _, rfl, rfl, SqT.of ht, rfl, _, rfl, _, _, rfl, rfl, _, rfl, t, _, 0, _, rfl, rfl, SqT.of ht, rfl, _, _, rfl, rfl, by omega, _, rfl, l, _, rfl, .inl (SqL.of v1'), _, _, rfl, rfl, _, rfl, t, _, 0, _, rfl, rfl, SqT.of ht, rfl, _, _, _, stn (((cc : Int) - low) % (k : Int)) ((N : Int) - 1) (k : Int), rfl, ?_, ?_⟩
          · rw [List.length_map, hNl]
            have r0 := Int.emod_nonneg ((cc : Int) - low) (show (k : Int) ≠ 0 by omega)
            have r1 := Int.emod_lt_of_pos ((cc : Int) - low) (show (0 : Int) < (k : Int) by omega)
            exact rgc_pos r0 (by omega) (by omega) (by omega) (by omega) (by omega)
          · have r0 := Int.emod_nonneg ((cc : Int) - low) (show (k : Int) ≠ 0 by omega)
            have r1 := Int.emod_lt_of_pos ((cc : Int) - low) (show (0 : Int) < (k : Int) by omega)
            have hkI : (1 : Int) ≤ (k : Int) := by omega
            refine for_rangeC (fun m σ' H' => ∃ (y7 : Option V), σ' = [some (.ref c), some (.int tot), some (.ref x), some (.int first), some (.int last), some (.int (xs.length : Int)), some (.int low), y7, some (.ref l), some (.int ((xs.length - 1 - i : Nat) : Int)), some (.ref t)] ∧
              H' l = some (.lst ((part M low vs (((cc : Int) - low) % (k : Int) + (m : Int) * (k : Int)).toNat).map V.int)) ∧ Ex H H') ⟨y7, rfl, ?_, v3.trans e3⟩ (fun m σ' H4 hm hp => ?_) (fun σ' H4 hp => ?_)
            · rw [v1']
              congr 3
              have z : part M low vs 0 = vs := part_zero
              rw [part_skip (B := 0) (by omega) (fun j _ j2 _ => ?_), z]
              exact step_first hkI per (by omega) (by
                rw [show ((cc : Int) - low) % (k : Int) + ((0 : Nat) : Int) * (k : Int) = ((cc : Int) - low) % (k : Int) by omega] at j2
                omega)
            · obtain ⟨y7, rfl, w1, w2⟩ := hp
              have lt := stn_lt hkI hm
              have mk0 : 0 ≤ (m : Int) * (k : Int) := Int.mul_nonneg (by omega) (by omega)
              have hit := step_hit (low := low) hkI per m
              have miss := fun (y : Int) => step_miss (low := low) hkI per m (x := y)
              have esucc : ((cc : Int) - low) % (k : Int) + ((m + 1 : Nat) : Int) * (k : Int) = ((cc : Int) - low) % (k : Int) + (m : Int) * (k : Int) + k := by
                rw [show ((m + 1 : Nat) : Int) = (m : Int) + 1 by omega, Int.add_mul]
                omega
              obtain ⟨B, hB⟩ : ∃ B : Nat, ((cc : Int) - low) % (k : Int) + (m : Int) * (k : Int) = (B : Int) := ⟨(((cc : Int) - low) % (k : Int) + (m : Int) * (k : Int)).toNat, by omega⟩
              rw [hB] at lt hit miss esucc w1 ⊢
              rw [Int.toNat_natCast] at w1
              have hB1 : B + 1 < vs.length := by omega
              obtain ⟨p1, p2, p3, p4⟩ := part_turn S (k := k) hk1 hB1 hit (fun j j1 j2 => miss j (by omega) (by omega))
              have pl : (part M low vs B).length = vs.length := part_len ..
              have a1 : atI ((part M low vs B).map V.int) (B : Int) = some (V.int (vs.getD B 0)) := atI_nat (by rw [int_at (by omega), p1])
              have a2 : atI ((part M low vs B).map V.int) ((B : Int) + 1) = some (V.int (vs.getD (B + 1) 0)) := by
                rw [show (B : Int) + 1 = ((B + 1 : Nat) : Int) by omega]
                exact atI_nat (by rw [int_at (by omega), p2])
              refine ⟨_, rfl, _, rfl, l, _, _, _, rfl, rfl, SqL.of w1, a1, _, rfl, _, rfl, _, _, rfl, rfl, l, _, _, _, rfl, rfl, SqL.of w1, a2, _, _, rfl, rfl, _, rfl, ite2 (fun cl => ?_) (fun cl => ?_)⟩
              · have cl1 := of_decide_eq_true cl
                refine ⟨_, rfl, _, rfl, _, _, rfl, rfl, l, _, _, _, rfl, rfl, SqL.of w1, a2, _, rfl, _, rfl, l, _, _, _, rfl, rfl, SqL.of w1, a1, (show 2 ≤ sizeLine by decide), fun tp htp => ?_⟩
                have w5 := Ex.new (o := .tup [V.int (vs.getD (B + 1) 0), V.int (vs.getD B 0)]) htp _ _ w1
                have e5 := w2.trans (Ex.new (o := .tup [V.int (vs.getD (B + 1) 0), V.int (vs.getD B 0)]) htp)
                refine ⟨tp, _, rfl, SqT.of upd_same, rfl, _, _, rfl, _, rfl, _, rfl, l, _, _, B, rfl, rfl, w5, ixN_at (by rw [List.length_map, pl]; omega), ?_⟩
                refine ⟨_, _, rfl, _, rfl, _, rfl, _, _, rfl, rfl, l, _, _, B + 1, rfl, rfl, upd_same, ?_, ?_⟩
                · rw [show (B : Int) + 1 = ((B + 1 : Nat) : Int) by omega]
                  exact ixN_at (by rw [List.length_set, List.length_map, pl]; exact hB1)
                · refine ⟨rfl, _, rfl, ?_, ?_⟩
                  · rw [upd_same, esucc, show ((B : Int) + (k : Int)).toNat = B + k by omega, ← p3 cl1, List.map_set, List.map_set]
                  · exact Ex.mut (Ex.mut e5 hl0) hl0
              · have cl1 : ¬ vs.getD B 0 < vs.getD (B + 1) 0 := fun z => cl (decide_eq_true z)
                refine ⟨_, rfl, ?_, w2⟩
                rw [esucc, show ((B : Int) + (k : Int)).toNat = B + k by omega, ← p4 cl1]
                exact w1
            · obtain ⟨y7, rfl, w1, w2⟩ := hp
              refine ⟨_, _, _, _, rfl, w1, ?_, w2⟩
              rw [ms]
              have en := stn_end (i := ((cc : Int) - low) % (k : Int)) (j := (N : Int) - 1) hkI
              exact near_step v2 (by omega)
        · intro no H3 e3
          have e : stepP (mL rs ps (xs.length - 1 - i)) (pmap (mls rs ps i (ps.length - i)) fun y => y + (tot - (ps.length : Int))) = pmap (mls rs ps i (ps.length - i)) fun y => y + (tot - (ps.length : Int)) := by
            obtain ⟨o1, o2⟩ := ok (xs.length - 1 - i) (by omega)
            refine stepP_none fun y => mL_mute (by omega) (by omega) (fun cc hcc => ?_) y
            rw [Int.natAbs_natCast] at no
            unfold mL
            exact decide_eq_false (no cc hcc)
          refine ⟨_, rfl, rfl, _, rfl, iteF ?_⟩
          refine ⟨_, _, _, vs, rfl, e3 _ _ v1, ?_, v3.trans e3⟩
          rw [ms]
          show Near vs (stepP (mL rs ps (xs.length - 1 - i)) (pmap (mls rs ps i (ps.length - i)) fun y => y + (tot - (ps.length : Int)))) low N (i + 1)
          rw [e]
          exact near_more v2 (by omega)
      · obtain ⟨y7, y9, y10, vs, rfl, v1, v2, v3⟩ := hp
        refine ⟨_, rfl, _, rfl, _, rfl, _, rfl, l, _, rfl, .inl (SqL.of v1), _, rfl, _, _, rfl, rfl, _, rfl, l, _, rfl, SqL.of v1, fun p hp => ?_⟩
        have hNl : vs.length = N := v2.1
        refine q p _ (v3.trans (Ex.new hp)) ?_ ?_
        · cases z : H p with
          | none => rfl
          | some o =>
            rw [v3 _ _ z] at hp
            cases hp
        · rw [upd_same, cut_mid, List.length_map, hNl, ← List.map_drop, ← List.map_take]
          have e0 : pmap (mls rs ps ((xs.length : Int) - 0).toNat (ps.length - ((xs.length : Int) - 0).toNat)) (fun y => y + (tot - (ps.length : Int))) = fm rs ps tot := by
            unfold fm
            rw [show ((xs.length : Int) - 0).toNat = ps.length by omega, Nat.sub_self]
          rw [e0, show ((xs.length : Int) - 0).toNat = xs.length by omega] at v2
          by_cases z : 2 * xs.length ≤ N
          · rw [near_cut v2 z, show low + (xs.length : Int) = first by omega, show N - 2 * xs.length = (last - first + 1).toNat by omega]
          · rw [show N - 2 * xs.length = 0 by omega, show (last - first + 1).toNat = 0 by omega, List.take_zero]
            rfl
end
end K1

set_option exponentiation.threshold 400
namespace K1
open PySem PySem.Spec PyProof.Rows L2 Evl HM LX ZW ZM MP
def distL (ls : List Int) : Int := ((List.range ls.length).map fun late => ((List.range late).map fun early => max 0 (ls.getD late 0 - ls.getD early 0 - 1)).sum).sum
def Short (ls : List Int) : Prop := ∀ i : Nat, -(10 ^ 50) < ls.getD i 0 ∧ ls.getD i 0 < 10 ^ 50
theorem asc_next {ls : List Int} (h : ls.Pairwise (· ≤ ·)) {i : Nat} (hi : i + 1 < ls.length) : ls.getD i 0 ≤ ls.getD (i + 1) 0 := by
  rw [List.getD_eq_getElem?_getD, List.getD_eq_getElem?_getD, List.getElem?_eq_getElem (by omega), List.getElem?_eq_getElem hi]
  exact List.pairwise_iff_getElem.mp h i (i + 1) (by omega) hi (by omega)
theorem int_inv9 {ns : List Int} {i : Nat} {x : V} (h : (ns.map V.int)[i]? = some x) : i < ns.length ∧ x = V.int (ns.getD i 0) := by
  have hi := (List.getElem?_eq_some_iff.mp h).1
  rw [List.length_map] at hi
  rw [int_at hi] at h
  exact ⟨hi, (Option.some.inj h).symm⟩
section
variable {P : Program} {w : World} {K : PySem.W.Frag} {mg : Str → Option Value} {base : Heap}
def spIsShort : Sp := fun vs H Q _ => ∃ i : Int, vs = [.int i] ∧ -(10 ^ 50) < i ∧ i < 10 ^ 50 ∧ ∀ H', Ex H H' → Q (.bl true) H'
theorem ok_is_short (T : Txt K mg) {f : Addr} {fd : FuncData} (D : DefAt K mg "is_short" sIsShort ["value"] f fd) : FnOk P w K mg base CX0 3 f fd ["value"] spIsShort := by
  refine D.F.ok scIsShort (fun vs H Q E h => ?_) (fun cdv A outer s₀ H vs Q E hr h => ?_)
  · obtain ⟨i, rfl, _⟩ := h
    rfl
  · obtain ⟨i, rfl, h1, h2, q⟩ := h
    obtain ⟨f1, fd1, D1⟩ := T.d_is_between
    obtain ⟨tSHORT_BOUND, vSHORT_BOUND⟩ := T.v_SHORT_BOUND
    have hr2 : Room 2 _ := hr.mono (by decide)
    refine ⟨_, pss_one (ps_ret (pe_call (ok_is_between T D1) hr2 (by rfl) D1.g D1.F.kp D1.b .nil pass0 (pa_cons (pv 0) (pa_cons (pe_op op_sub pe_int (pe_glob (v := .int (10 ^ 50)) rfl vSHORT_BOUND ⟨_, rfl⟩)) (pa_cons (pe_op op_sub (pe_glob (v := .int (10 ^ 50)) rfl vSHORT_BOUND ⟨_, rfl⟩) pe_int) pa_nil))))), ?_⟩
    refine ⟨_, rfl, _, _, rfl, rfl, _, _, rfl, rfl, _, _, _, true, rfl, .yes (by omega) (by omega) (by omega) (by omega), fun H1 e1 => q _ e1⟩
def spAreShort : Sp := fun vs H Q _ => ∃ (a : Addr) (ls : List Int), vs = [.ref a] ∧ H a = some (.tup (ls.map V.int)) ∧ ls.length ≤ 100 ∧ Short ls ∧ ∀ H', Ex H H' → Q (.bl true) H'
theorem ok_are_short (T : Txt K mg) {f : Addr} {fd : FuncData} (D : DefAt K mg "are_short" sAreShort ["numbers"] f fd) : FnOk P w K mg base CX0 4 f fd ["numbers"] spAreShort := by
  refine D.F.ok scAreShort (fun vs H Q E h => ?_) (fun cdv A outer s₀ H vs Q E hr h => ?_)
  · obtain ⟨a, ls, rfl, _⟩ := h
    rfl
  · obtain ⟨a, ls, rfl, ha, hl, hs, q⟩ := h
    obtain ⟨f1, fd1, D1⟩ := T.d_is_short
    have hr3 : Room 3 _ := hr.mono (by decide)
    refine ⟨_, pss_one (ps_ret (pe_callB (cr_all rfl) (by rfl) T.z_all (by decide +kernel) (pa_cons (pe_lc (own := [("number", 1)]) (g := gName 1) (tt := tYes) rfl scAreShort.nd (pi_tup (pv 0))
        (blkOk_by (N := nAreShort) (sc := defScope sAreShort) (by decide +kernel)) (fun _ _ _ _ _ => (pg_name (i := 1) scAreShort.nd rfl (.inl rfl))) (fun _ _ _ _ _ => pts_nil)
        (fun _ _ _ _ _ => (pe_call (ok_is_short T D1) hr3 (by rfl) D1.g D1.F.kp D1.b .nil pass0 (pa_cons (pv 1) pa_nil)))) pa_nil))), ?_⟩
    refine ⟨_, rfl, a, rfl, ⟨_, SqT.of ha⟩, fun D hD => ?_⟩
    refine lc_tupM (K := K) (fun _ => V.bl true) hD ha (by rw [List.length_map]; omega) (fun i x H' Qk hx e' qk => ?_) (fun H' e' h' => ?_)
    · obtain ⟨hi, rfl⟩ := int_inv9 hx
      exact ⟨rfl, _, rfl, _, rfl, (hs i).1, (hs i).2, fun H2 e2 => qk _ e2⟩
    · rw [mapB] at h'
      refine ⟨D, _, rfl, SqL.of h', ?_⟩
      rw [all_rep]
      exact q _ e'
def spLevels : Sp := fun vs H Q _ => ∃ (a : Addr) (ls : List Int), vs = [.ref a] ∧ H a = some (.tup (ls.map V.int)) ∧ 2 ≤ ls.length ∧ ls.length ≤ 60 ∧ Short ls ∧ ls.Pairwise (· ≤ ·) ∧ ∀ H', Ex H H' → Q (.bl true) H'
theorem ok_is_levels (T : Txt K mg) {f : Addr} {fd : FuncData} (D : DefAt K mg "is_levels" sIsLevels ["value"] f fd) : FnOk P w K mg base CX0 5 f fd ["value"] spLevels := by
  refine D.F.ok scIsLevels (fun vs H Q E h => ?_) (fun cdv A outer s₀ H vs Q E hr h => ?_)
  · obtain ⟨a, ls, rfl, _⟩ := h
    rfl
  · obtain ⟨a, ls, rfl, ha, hl2, hl, hs, hasc, q⟩ := h
    obtain ⟨f1, fd1, D1⟩ := T.d_are_short
    obtain ⟨tMAX_ORDER, vMAX_ORDER⟩ := T.v_MAX_ORDER
    have hr4 : Room 4 _ := hr.mono (by decide)
    refine ⟨_, pss_cons (ps_if (PW.pt (pw_or (pt_not (pt_val (pe_callB call_isi (by rfl) T.z_isinstance (by decide +kernel) (pa_cons (pv 0) (pa_cons (pe_bltn (v := .ty "tuple") (by rfl) T.z_tuple (by decide +kernel) rfl) pa_nil)))))
          (pw_or1 (pt_not (pt_chain op_le op_le pe_int (pe_callB call_len_seq (by rfl) T.z_len PySem.boot_len (pa_cons (pv 0) pa_nil)) (pe_glob (v := .int 60) rfl vMAX_ORDER ⟨_, rfl⟩)))))) (pss_one (ps_ret pe_bl)) pss_nil)
      (pss_cons (ps_if (pt_not (pt_val (pe_call (ok_are_short T D1) hr4 (by rfl) D1.g D1.F.kp D1.b .nil pass0 (pa_cons (pv 0) pa_nil)))) (pss_one (ps_ret pe_bl)) pss_nil)
      (pss_one (ps_ret (pe_callB (cr_all rfl) (by rfl) T.z_all (by decide +kernel) (pa_cons (pe_lc (own := [("at", 1)]) (g := gName 1) (tt := tYes) rfl scIsLevels.nd (pi_range1 (by rfl) T.z_range (pa_cons (pe_op op_sub (pe_callB call_len_seq (by rfl) T.z_len PySem.boot_len (pa_cons (pv 0) pa_nil)) pe_int) pa_nil))
        (blkOk_by (N := nIsLevels) (sc := defScope sIsLevels) (by decide +kernel)) (fun _ _ _ _ _ => (pg_name (i := 1) scIsLevels.nd rfl (.inl rfl))) (fun _ _ _ _ _ => pts_nil)
        (fun _ _ _ _ _ => (pe_cmpR op_le (pe_ix (show IxR _ (rIxT K) from ix_tup) (pv 0) (pv 1) (fun _ _ => rfl)) (pe_ix (show IxR _ (rIxT K) from ix_tup) (pv 0) (pe_op op_add (pv 1) pe_int) (fun _ _ => rfl)) (nomark _)))) pa_nil))))), ?_⟩
    refine ⟨_, rfl, .ref a, .ty "tuple", .type "tuple", .type "tuple", true, rfl, .ty _, .base (.tup ha), kit_ty (by decide +kernel), true, rfl, iteF ?_⟩
    refine ⟨_, rfl, a, _, rfl, .inr (SqT.of ha), _, _, rfl, rfl, _, rfl, iteT9 (by rw [List.length_map]; exact decide_eq_true (by omega)) ⟨_, _, rfl, rfl, _, rfl, iteF9 (by rw [List.length_map, decide_eq_true (show (ls.length : Int) ≤ 60 by omega)]; rfl) ?_⟩⟩
    refine ⟨_, rfl, a, ls, rfl, ha, by omega, hs, fun H1 e1 => ⟨true, rfl, iteF ?_⟩⟩
    have ha1 := e1 _ _ ha
    refine ⟨_, rfl, a, _, rfl, .inr (SqT.of ha1), _, _, rfl, rfl, _, rfl, by omega, by rw [List.length_map]; omega, fun D hD => ?_⟩
    rw [List.length_map]
    refine lc_rangeM (fun _ => V.bl true) hD (by omega) (fun i H' Qk hi e' qk => ?_) (fun H' e' h' => ?_)
    · have hi' : i + 1 < ls.length := by omega
      rw [show (0 : Int) + (i : Int) = ((i : Nat) : Int) by omega]
      refine ⟨rfl, _, rfl, _, rfl, a, _, _, _, rfl, rfl, SqT.of (e' _ _ ha1), atI_nat (int_at (by omega)), _, rfl, _, rfl, _, _, rfl, rfl, a, _, _, .int (ls.getD (i + 1) 0), rfl, rfl, SqT.of (e' _ _ ha1), ?_, _, _, rfl, rfl, ?_⟩
      · rw [show ((i : Nat) : Int) + 1 = ((i + 1 : Nat) : Int) by omega]
        exact atI_nat (int_at hi')
      · show Qk (V.bl (decide (ls.getD i 0 ≤ ls.getD (i + 1) 0))) H'
        rw [decide_eq_true (asc_next hasc hi')]
        exact qk _ (Ex.refl _)
    · rw [mapB] at h'
      refine ⟨D, _, rfl, SqL.of h', ?_⟩
      rw [all_rep]
      exact q _ (e1.trans e')
def spCheckLevels : Sp := fun vs H Q _ => ∃ (a : Addr) (ls : List Int), vs = [.ref a] ∧ H a = some (.tup (ls.map V.int)) ∧ 2 ≤ ls.length ∧ ls.length ≤ 60 ∧ Short ls ∧ ls.Pairwise (· ≤ ·) ∧ ∀ H', Ex H H' → Q .non H'
theorem ok_check_levels (T : Txt K mg) {f : Addr} {fd : FuncData} (D : DefAt K mg "check_levels" sCheckLevels ["levels"] f fd) : FnOk P w K mg base CX0 6 f fd ["levels"] spCheckLevels := by
  refine D.F.ok scCheckLevels (fun vs H Q E h => ?_) (fun cdv A outer s₀ H vs Q E hr h => ?_)
  · obtain ⟨a, ls, rfl, _⟩ := h
    rfl
  · obtain ⟨a, ls, rfl, ha, hl2, hl, hs, hasc, q⟩ := h
    obtain ⟨f1, fd1, D1⟩ := T.d_is_levels
    have hr5 : Room 5 _ := hr.mono (by decide)
    refine ⟨_, pss_one (ps_if (pt_not (pt_val (pe_call (ok_is_levels T D1) hr5 (by rfl) D1.g D1.F.kp D1.b .nil pass0 (pa_cons (pv 0) pa_nil)))) pss_never pss_nil), ?_⟩
    exact ⟨_, rfl, a, ls, rfl, ha, hl2, hl, hs, hasc, fun H1 e1 => ⟨true, rfl, iteF (q _ e1)⟩⟩
def spCheckOneOrder : Sp := fun vs H Q _ => ∃ (c : Addr) (xs : List V) (rs : List (Int × Int)) (k : Nat), vs = [.ref c] ∧ H c = some (.tup xs) ∧ RingsAt H 60 xs rs ∧ (1 ≤ xs.length ∧ xs.length ≤ 12) ∧ Eqo rs xs.length k ∧ ∀ H', Ex H H' → Q .non H'
theorem ok_check_one_order (T : Txt K mg) {f : Addr} {fd : FuncData} (D : DefAt K mg "check_one_order" sCheckOneOrder ["chain"] f fd) : FnOk P w K mg base CX0 6 f fd ["chain"] spCheckOneOrder := by
  refine D.F.ok scCheckOneOrder (fun vs H Q E h => ?_) (fun cdv A outer s₀ H vs Q E hr h => ?_)
  · obtain ⟨c, xs, rs, k, rfl, _⟩ := h
    rfl
  · obtain ⟨c, xs, rs, k, rfl, hc, hR, hl, eq, q⟩ := h
    obtain ⟨f1, fd1, D1⟩ := T.d_order_of
    obtain ⟨f2, fd2, D2⟩ := T.d_check_chain
    have hr5 : Room 5 _ := hr.mono (by decide)
    refine ⟨_, pss_cons (ps_expr (pe_call (ok_check_chain T D2) hr5 (by rfl) D2.g D2.F.kp D2.b .nil pass0 (pa_cons (pv 0) pa_nil)))
      (pss_one (ps_if (pt_val (pe_callB (cr_any rfl) (by rfl) T.z_any (by decide +kernel) (pa_cons (pe_lc (own := [("ring", 1)]) (g := gName 1) (tt := tYes) rfl scCheckOneOrder.nd (pi_tup (pv 0))
        (blkOk_by (N := nCheckOneOrder) (sc := defScope sCheckOneOrder) (by decide +kernel)) (fun _ _ _ _ _ => (pg_name (i := 1) scCheckOneOrder.nd rfl (.inl rfl))) (fun _ _ _ _ _ => pts_nil)
        (fun _ _ _ _ _ => (pe_cmpR op_ne (pe_call (ok_order_of T D1) hr5 (by rfl) D1.g D1.F.kp D1.b .nil pass0 (pa_cons (pv 1) pa_nil)) (pe_call (ok_order_of T D1) hr5 (by rfl) D1.g D1.F.kp D1.b .nil pass0 (pa_cons (pe_ix (show IxR _ (rIxT K) from ix_tup) (pv 0) pe_int (fun _ _ => rfl)) pa_nil)) (nomark _)))) pa_nil))) pss_never pss_nil)), ?_⟩
    refine ⟨_, rfl, .ref c, rfl, rings_chain4 hR hc hl.1 hl.2, fun H1 e1 => ?_⟩
    have hc1 := e1 _ _ hc
    have hR1 := rings_ex4 e1 hR
    obtain ⟨y0, hy0⟩ : ∃ y, xs[0]? = some y := ⟨xs[0]'(by omega), List.getElem?_eq_getElem (by omega)⟩
    refine ⟨_, rfl, c, rfl, ⟨_, SqT.of hc1⟩, fun D hD => ?_⟩
    refine lc_tupM (K := K) (fun _ => V.bl false) hD hc1 (by omega) (fun i x H' Qk hx e' qk => ?_) (fun H' e' h' => ?_)
    · have hi := (List.getElem?_eq_some_iff.mp hx).1
      have hR' := rings_ex4 e' hR1
      refine ⟨rfl, _, rfl, x, _, _, rfl, rings_nth4 hR' hx, fun H2 e2 => ?_⟩
      refine ⟨_, rfl, c, _, _, _, rfl, rfl, SqT.of (e2 _ _ (e' _ _ hc1)), atI_nat (j := 0) hy0, y0, _, _, rfl, rings_nth4 (rings_ex4 e2 hR') hy0, fun H3 e3 => ?_⟩
      have z1 := eq i hi
      have z2 := eq 0 (by omega)
      rw [show (K1N.nAt rs i : Int).natAbs = K1N.nAt rs i from rfl, show (K1N.nAt rs 0 : Int).natAbs = K1N.nAt rs 0 from rfl, z1, z2]
      exact ⟨rfl, by rw [decide_eq_true rfl]; exact qk _ (e2.trans e3)⟩
    · rw [mapB] at h'
      refine ⟨D, _, rfl, SqL.of h', ?_⟩
      rw [any_rep]
      exact ⟨false, rfl, iteF (q _ (e1.trans e'))⟩
end
end K1

set_option exponentiation.threshold 400
namespace K1
open PySem PySem.Spec PyProof.Rows L2 Evl HM LX ZW ZM MP
theorem imax0 (x : Int) : (if x > 0 then x else 0) = max 0 x := by
  split <;> omega
theorem tellR (ls : List Int) (c : Int) : ((List.range ls.length).map fun i => max 0 (ls.getD i 0 + c + 1)).sum = tell ls c := by
  rw [range_getD ls fun l => max 0 (l + c + 1)]
  rfl
def drow (ls : List Int) (late : Nat) : List Int := (List.range late).map fun early => max 0 (ls.getD late 0 - ls.getD early 0 - 1)
def dacc (ls : List Int) (i j : Nat) : List Int := ((List.range i).map (drow ls)).flatten ++ ((List.range j).map fun early => max 0 (ls.getD i 0 - ls.getD early 0 - 1))
theorem acc0 (ls : List Int) (i : Nat) : dacc ls i 0 = ((List.range i).map (drow ls)).flatten := List.append_nil _
theorem drow_len (ls : List Int) (i : Nat) : (drow ls i).length = i := by
  unfold drow
  rw [List.length_map, List.length_range]
theorem accS (ls : List Int) (i : Nat) : dacc ls i i = dacc ls (i + 1) 0 := by
  rw [acc0, List.range_succ, List.map_append, List.flatten_append]
  show _ = _ ++ (drow ls i ++ [])
  rw [List.append_nil]
  rfl
theorem accN (ls : List Int) (i j : Nat) : dacc ls i (j + 1) = dacc ls i j ++ [max 0 (ls.getD i 0 - ls.getD j 0 - 1)] := by
  unfold dacc
  rw [List.range_succ, List.map_append, ← List.append_assoc]
  rfl
theorem accL (ls : List Int) : ∀ i, i ≤ 60 → (dacc ls i 0).length ≤ 60 * i
  | 0, _ => Nat.le_refl _
  | i + 1, hi => by
    have h1 := accL ls i (by omega)
    rw [acc0] at h1
    rw [acc0, List.range_succ, List.map_append, List.flatten_append, List.length_append]
    have : ((List.map (drow ls) [i]).flatten).length = i := by
      show (drow ls i ++ []).length = i
      rw [List.append_nil, drow_len]
    omega
theorem accLj (ls : List Int) (i j : Nat) (hi : i ≤ 60) (hj : j ≤ 60) : (dacc ls i j).length ≤ 60 * i + j := by
  have h1 := accL ls i hi
  rw [acc0] at h1
  unfold dacc
  rw [List.length_append, List.length_map, List.length_range]
  omega
theorem acc_sum (ls : List Int) : ∀ n : Nat, (dacc ls n 0).sum = ((List.range n).map fun late => (drow ls late).sum).sum
  | 0 => rfl
  | n + 1 => by
    have ih := acc_sum ls n
    rw [acc0] at ih
    rw [acc0, List.range_succ, List.map_append, List.flatten_append, List.sum_append, ih, List.map_append, List.sum_append]
    show _ + (drow ls n ++ []).sum = _ + ((drow ls n).sum + 0)
    rw [List.append_nil, Int.add_zero]
section
variable {P : Program} {w : World} {K : PySem.W.Frag} {mg : Str → Option Value} {base : Heap}
def spDistance : Sp := fun vs H Q _ => ∃ (a : Addr) (ls : List Int), vs = [.ref a] ∧ H a = some (.tup (ls.map V.int)) ∧ 2 ≤ ls.length ∧ ls.length ≤ 60 ∧ Short ls ∧ ls.Pairwise (· ≤ ·) ∧ ∀ H', Ex H H' → Q (.int (distL ls)) H'
theorem ok_distance_in (T : Txt K mg) {f : Addr} {fd : FuncData} (D : DefAt K mg "distance_in" sDistanceIn ["levels"] f fd) : FnOk P w K mg base CX0 1 f fd ["levels"] spDistance := by
  refine D.F.ok scDistanceIn (fun vs H Q E h => ?_) (fun cdv A outer s₀ H vs Q E hr h => ?_)
  · obtain ⟨a, ls, rfl, _⟩ := h
    rfl
  · obtain ⟨a, ls, rfl, ha, hl2, hl, hs, hasc, q⟩ := h
    refine ⟨_, pss_cons (ps_set (i := 1) scDistanceIn.nd rfl (.inl rfl) (pe_callB call_len_seq (by rfl) T.z_len PySem.boot_len (pa_cons (pv 0) pa_nil)))
      (pss_one (ps_ret (pe_callB (cr_sum rfl) (by rfl) T.z_sum (by decide +kernel) (pa_cons (pe_lc2 (own := [("late", 2), ("early", 3)]) (vs1 := [3]) (g := gName 2) (g1 := gName 3) (tt := tYes) (tt1 := tYes) (wi1 := iRng1 (tCons (tVar 2) tNil)) rfl scDistanceIn.nd (pi_range1 (by rfl) T.z_range (pa_cons (pv 1) pa_nil))
        (blkOk_by (N := nDistanceIn) (sc := defScope sDistanceIn) (by decide +kernel)) (by decide) (fun _ _ _ _ _ => (pg_name (i := 2) scDistanceIn.nd rfl (.inl rfl))) (fun _ _ _ _ _ => pts_nil) (fun _ _ _ _ _ => (pi_range1 (by rfl) T.z_range (pa_cons (pv 2) pa_nil))) (fun _ _ _ _ _ => (pg_name (i := 3) scDistanceIn.nd rfl (.inl rfl))) (fun _ _ _ _ _ => pts_nil) (fun _ _ _ _ _ => (pe_callB (call_max2 rfl) (by rfl) T.z_max (by decide +kernel) (pa_cons pe_int (pa_cons (pe_op op_sub (pe_op op_sub (pe_ix (show IxR _ (rIxT K) from ix_tup) (pv 0) (pv 2) (fun _ _ => rfl)) (pe_ix (show IxR _ (rIxT K) from ix_tup) (pv 0) (pv 3) (fun _ _ => rfl))) pe_int) pa_nil))))) pa_nil)))), ?_⟩
    refine ⟨_, rfl, a, _, rfl, .inr (SqT.of ha), ?_⟩
    rw [List.length_map]
    refine ⟨_, rfl, _, rfl, by omega, by omega, fun D hD => ?_⟩
    refine ⟨fun i m H' => i ≤ ls.length ∧ m = ls.length - i ∧ H' D = some (.lst ((dacc ls i 0).map V.int)) ∧ Ex H H', ⟨ls.length, Nat.zero_le _, rfl, upd_same, Ex.new hD⟩, fun i m H' hW => ?_⟩
    obtain ⟨hi, rfl, a1, a2⟩ := hW
    by_cases hlt : i < ls.length
    · refine .inr ⟨(show i < ((ls.length : Int)).toNat by omega), fun H2 => H2 D = some (.lst ((dacc ls (i + 1) 0).map V.int)) ∧ Ex H H2, fun H2 z => ⟨ls.length - (i + 1), by omega, by omega, rfl, z.1, z.2⟩, fun v H2 hy => ?_⟩
      obtain ⟨rfl, rfl⟩ := hy
      rw [show (0 : Int) + (i : Int) = ((i : Nat) : Int) by omega]
      refine ⟨rfl, ?_⟩
      dsimp only [tYes]
      rw [if_pos rfl]
      refine ⟨_, rfl, _, rfl, by omega, by omega, ?_⟩
      refine ⟨fun j k H6 => j ≤ i ∧ k = i - j ∧ H6 D = some (.lst ((dacc ls i j).map V.int)) ∧ Ex H H6, ⟨i, Nat.zero_le _, rfl, a1, a2⟩, fun j k H6 hW1 => ?_⟩
      obtain ⟨hj, rfl, b1, b2⟩ := hW1
      by_cases hjl : j < i
      · refine .inr ⟨(show j < ((i : Int)).toNat by omega), fun H7 => H7 D = some (.lst ((dacc ls i (j + 1)).map V.int)) ∧ Ex H H7, fun H7 z => ⟨i - (j + 1), by omega, by omega, rfl, z.1, z.2⟩, fun v H7 hy => ?_⟩
        obtain ⟨rfl, rfl⟩ := hy
        rw [show (0 : Int) + (j : Int) = ((j : Nat) : Int) by omega]
        refine ⟨rfl, ?_⟩
        dsimp only [tYes]
        rw [if_pos rfl]
        have ha6 := b2 _ _ ha
        refine ⟨_, rfl, _, rfl, a, _, _, .int (ls.getD i 0), rfl, rfl, SqT.of ha6, atI_nat (int_at hlt), _, rfl, _, rfl, a, _, _, .int (ls.getD j 0), rfl, rfl, SqT.of ha6, atI_nat (int_at (by omega)), _, _, rfl, rfl, _, _, rfl, rfl, _, _, rfl, _, b1, ?_, ?_, Ex.mut b2 hD⟩
        · rw [List.length_map]
          have := accLj ls i j (by omega) (by omega)
          exact Nat.lt_of_le_of_lt (show _ ≤ 3700 by omega) (by decide)
        · rw [upd_same, accN, List.map_append, imax0]
          rfl
      · refine .inl ⟨(show ((i : Int)).toNat ≤ j by omega), ?_, b2⟩
        have : j = i := by omega
        subst this
        rw [← accS]
        exact b1
    · have hie : i = ls.length := by omega
      subst hie
      refine .inl ⟨(show ((ls.length : Int)).toNat ≤ ls.length by omega), D, dacc ls ls.length 0, rfl, SqL.of a1, ?_⟩
      rw [show (dacc ls ls.length 0).sum = distL ls from acc_sum ls _]
      exact q _ a2
end
end K1

/-! plain mathematics of heaps: what two have in common, what one holds, heaps turned over -/
namespace HM
/-- the open columns whose diagonal is let -/
def gp (p : Int → Bool) (h : List Nat) (c : Nat) : Bool := opn h c && p (dg h c)
/-! ### what two heaps have in common -/
def meet (a b : List Nat) : List Nat := (List.range (min a.length b.length)).map fun c => min (hAt a c) (hAt b c)
theorem bool_ext {a b : Bool} (h : a = true ↔ b = true) : a = b := by
  cases a <;> cases b <;> simp_all
/-! ### what is held -/
def Sub (f h : List Nat) : Prop := ∀ c, hAt f c ≤ hAt h c
/-! ### turned over -/
def conj (h : List Nat) : List Nat := (List.range (hAt h 0)).map fun r => (h.filter fun x => decide (r < x)).length
theorem IsHeap.pairs {h : List Nat} (H : IsHeap h) : h.Pairwise (fun a b => b ≤ a) := by
  refine List.pairwise_iff_getElem.mpr fun i j hi hj hij => ?_
  have := H.le (Nat.le_of_lt hij)
  have a := hAt_lt hi
  have b := hAt_lt hj
  rw [List.getElem?_eq_getElem hi] at a
  rw [List.getElem?_eq_getElem hj] at b
  rw [Option.some.inj a, Option.some.inj b]
  exact this
theorem cnt_iff : ∀ (l : List Nat), l.Pairwise (fun a b => b ≤ a) → ∀ c r, c < (l.filter fun x => decide (r < x)).length ↔ r < hAt l c
  | [], _, c, r => by
    rw [hAt_ge (Nat.zero_le _)]
    constructor
    · intro z
      exact absurd z (Nat.not_lt_zero c)
    · intro z
      exact absurd z (Nat.not_lt_zero r)
  | x :: l, hp, c, r => by
    obtain ⟨h1, h2⟩ := List.pairwise_cons.mp hp
    by_cases q : r < x
    · rw [List.filter_cons, if_pos (decide_eq_true q), List.length_cons]
      cases c with
      | zero => exact ⟨fun _ => q, fun _ => Nat.zero_lt_succ _⟩
      | succ c =>
        have := cnt_iff l h2 c r
        show c + 1 < _ + 1 ↔ r < hAt l c
        omega
    · have none : ∀ y ∈ x :: l, ¬ r < y := fun y hy => by
        rcases List.mem_cons.mp hy with rfl | hy
        · exact q
        · have := h1 y hy
          omega
      have e : ((x :: l).filter fun y => decide (r < y)) = [] := List.filter_eq_nil_iff.mpr fun y hy => by
        rw [decide_eq_false (none y hy)]
        decide
      rw [e]
      constructor
      · intro z
        exact absurd z (Nat.not_lt_zero c)
      · intro z
        by_cases u : c < (x :: l).length
        · exact absurd z (none _ (List.mem_of_getElem? (hAt_lt u)))
        · rw [hAt_ge (by omega)] at z
          exact absurd z (Nat.not_lt_zero r)
theorem conj_len (h : List Nat) : (conj h).length = hAt h 0 := by
  unfold conj
  rw [List.length_map, List.length_range]
theorem conj_iff {h : List Nat} (H : IsHeap h) (c r : Nat) : c < hAt (conj h) r ↔ r < hAt h c := by
  by_cases q : r < hAt h 0
  · have e : hAt (conj h) r = (h.filter fun x => decide (r < x)).length := by
      unfold hAt conj
      rw [List.getD_eq_getElem?_getD, List.getElem?_map, List.getElem?_range q]
      rfl
    rw [e]
    exact cnt_iff h H.pairs c r
  · rw [hAt_ge (by rw [conj_len]; omega)]
    have := H.le (Nat.zero_le c)
    constructor
    · intro z
      exact absurd z (Nat.not_lt_zero c)
    · intro z
      omega
theorem conj_heap {h : List Nat} (H : IsHeap h) : IsHeap (conj h) := by
  refine ⟨fun r hr => ?_, fun r => ?_⟩
  · rw [conj_len] at hr
    exact (conj_iff H 0 r).mpr hr
  · rcases Nat.lt_or_ge (hAt (conj h) r) (hAt (conj h) (r + 1)) with z | z
    · have a := (conj_iff H _ _).mp z
      exact absurd ((conj_iff H (hAt (conj h) r) r).mpr (by omega)) (Nat.lt_irrefl _)
    · exact z
end HM

/-! own walk: zip of three tuples -/
namespace Z3
open PySem PySem.Spec PyProof.Rows L2
/-- three tuples, their items in new threes -/
def It3 (K : PySem.W.Frag) (a b c : Addr) : It :=
  ⟨fun i H => ∃ (xs ys us : List V) (x y u : V), SqT K H a xs ∧ SqT K H b ys ∧ SqT K H c us ∧ xs[i]? = some x ∧ ys[i]? = some y ∧ us[i]? = some u,
    fun i H v H' => ∃ T x y u, v = .ref T ∧ H T = none ∧ H' = upd H T (.tup [x, y, u]) ∧ (∀ xs, SqT K H a xs → xs[i]? = some x) ∧ (∀ ys, SqT K H b ys → ys[i]? = some y) ∧ ∀ us, SqT K H c us → us[i]? = some u,
    fun i H => ∃ xs ys us : List V, SqT K H a xs ∧ SqT K H b ys ∧ SqT K H c us ∧ xs.length = i ∧ ys.length = i ∧ us.length = i⟩
def iZip3 (K : PySem.W.Frag) (ta : TA) : TI := fun σ H R => ta σ H fun vs H1 => ∃ a b c xs ys us, vs = [.ref a, .ref b, .ref c] ∧ SqT K H1 a xs ∧ SqT K H1 b ys ∧ SqT K H1 c us ∧ R (It3 K a b c) H1
end Z3

set_option exponentiation.threshold 400
namespace K1
open PySem PySem.Spec PyProof.Rows L2 Evl HM LX ZW Z3 ZM
section
variable {P : Program} {w : World} {K : PySem.W.Frag} {mg : Str → Option Value} {base : Heap}
def rLenS (K : PySem.W.Frag) : List V → Hp → VK → Prop := fun xs H Q => ∃ (p : Addr) (ys : List V), xs = [V.ref p] ∧ (SqL K H p ys ∨ SqT K H p ys) ∧ Q (V.int (ys.length : Int)) H
def scRows : Scope := { kind := .function, names := [(".0", .local), ("row", .cell), ("len", .globalImplicit), ("heap", .free)], isGenerator := false, isCoroutine := false, more := [] }
def spLengthsOf (K : PySem.W.Frag) : Sp := fun vs H Q _ => ∃ p h, vs = [.ref p] ∧ HeapAt H p h ∧ Good h ∧ ∀ r H', Ex H H' → HeapAt H' r (conj h) → Q (.ref r) H'
theorem ok_lengths_of (T : Txt K mg) {f : Addr} {fd : FuncData} (D : DefAt K mg "lengths_of" sLengthsOf ["heap"] f fd) : FnOk P w K mg base CX0 2 f fd ["heap"] (spLengthsOf K) := by
  refine D.F.ok scLengthsOf (fun vs H Q E h => ?_) (fun cdv A outer s H vs Q E hr h => ?_)
  · obtain ⟨p, h, rfl, _⟩ := h
    rfl
  · obtain ⟨p, h, rfl, hp1, G, k⟩ := h
    obtain ⟨f1, fd1, D1⟩ := T.d_height_at
    have hr1 : Room 1 _ := hr.mono (by decide)
    refine ⟨_, pss_one (ps_ret (pe_callTy call_tuple_of (by rfl) T.z_tuple (by decide +kernel) (pa_cons (pe_lc (own := [("row", 2)]) (g := gName 2) (tt := tYes) rfl scLengthsOf.nd (pi_range1 (by rfl) T.z_range (pa_cons (pe_call (ok_height_at T D1) hr1 (by rfl) D1.g D1.F.kp D1.b .nil pass0 (pa_cons (pv 0) (pa_cons pe_int pa_nil))) pa_nil))
        (blkOk_by (N := nLengthsOf) (sc := defScope sLengthsOf) (by decide +kernel)) (fun _ _ _ _ _ => (pg_name (i := 2) scLengthsOf.nd rfl (.inr rfl))) (fun _ _ _ _ _ => pts_nil)
        (fun _ _ _ _ _ => pe_callB (show CallR _ _ (rLenS K) from call_len_seq) (by rfl) T.z_len PySem.boot_len (pa_cons (pe_lc (own := [("height", 1)]) (g := gName 1) (wi := iTup K (tVar 0)) rfl scLengthsOf.nd (pi_tup (pv 0))
          (blkOk_by (N := nLengthsOf) (sc := relS scRows (defScope sLengthsOf)) (by decide +kernel)) (fun _ _ _ _ _ => pg_name (i := 1) scLengthsOf.nd rfl (Or.inl rfl))
          (fun _ _ _ _ _ => pts_one (pt_cmpR op_gt (pv 1) (pv 2) (nomark _))) (fun _ _ _ _ _ => pv 1)) pa_nil))) pa_nil))), ?_⟩
    refine ⟨_, rfl, p, h, 0, rfl, hp1, fun H2 e2 => ?_⟩
    have hp2 := e2 _ _ hp1
    have ht := G.top
    have hl60 := G.len
    refine ⟨_, rfl, by omega, by omega, fun Dl hD => ?_⟩
    refine lc_range (lo := 0) (n := (hAt h 0 : Int).toNat) (fun i H' => H' Dl = some (.lst (hv ((List.range i).map fun r => (h.filter fun x => decide (r < x)).length))) ∧ Ex H2 H') ⟨upd_same, Ex.new hD⟩ (fun i H' hi hW => ?_) (fun H' hW => ?_)
    · obtain ⟨w1, w2⟩ := hW
      have hp4 := w2 _ _ hp2
      refine ⟨rfl, ?_⟩
      dsimp only [tYes]
      rw [if_pos rfl]
      refine ⟨_, rfl, p, rfl, ⟨_, SqT.of hp4⟩, fun D2 hD2 => ?_⟩
      refine lc_tup (K := K) (a := p) (xs := hv h) (fun j H5 => H5 D2 = some (.lst (hv ((h.take j).filter fun x => decide (i < x)))) ∧ Ex H' H5) ⟨upd_same, Ex.new hD2⟩ (fun j H5 _ hp5 => SqT.of (hp5.2 _ _ hp4)) (fun j x H5 hx hp5 => ?_) (fun H5 hp5 => ?_)
      · obtain ⟨u1, u2⟩ := hp5
        obtain ⟨y, hy, rfl⟩ := hv_inv hx
        refine ⟨rfl, _, rfl, _, rfl, _, _, rfl, rfl, _, rfl, ite2 (fun cc => ?_) (fun cc => ?_)⟩
        · have c0 : i < y := by
            have := of_decide_eq_true cc
            omega
          refine ⟨_, rfl, _, u1, ?_, ?_, Ex.mut u2 hD2⟩
          · rw [hv_len]
            have a1 := List.length_filter_le (fun x => decide (i < x)) (h.take j)
            rw [List.length_take] at a1
            exact small1000 (by omega)
          · rw [upd_same, take_filter_snoc _ hy, if_pos (decide_eq_true c0), hv_snoc]
        · have c0 : ¬ i < y := fun z => cc (decide_eq_true (by omega))
          refine ⟨?_, u2⟩
          rw [take_filter_snoc _ hy, if_neg (by rw [decide_eq_false c0]; decide), List.append_nil]
          exact u1
      · obtain ⟨u1, u2⟩ := hp5
        rw [hv_len, List.take_length] at u1
        refine ⟨D2, _, rfl, .inl (SqL.of u1), _, u2 _ _ w1, ?_, ?_, Ex.mut (w2.trans u2) hD⟩
        · rw [hv_len, List.length_map, List.length_range]
          exact small1000 (by omega)
        · rw [upd_same, List.range_succ, List.map_append, hv_len]
          show _ = some (HO.lst (hv (_ ++ [(h.filter fun x => decide (i < x)).length])))
          rw [hv_snoc]
    · obtain ⟨w1, w2⟩ := hW
      rw [show (hAt h 0 : Int).toNat = hAt h 0 by omega] at w1
      exact ⟨Dl, _, rfl, .inl ⟨SqL.of w1, fun r' hr' => k r' _ ((e2.trans w2).trans (Ex.new hr')) upd_same⟩⟩
def spCheckHeaps (K : PySem.W.Frag) : Sp := fun vs H Q _ => ∃ p q h f, vs = [.ref p, .ref q] ∧ HeapAt H p h ∧ HeapAt H q f ∧ Good h ∧ Good f ∧ ∀ H', Ex H H' → Q .non H'
end
end K1

namespace K1
open HM
def lamr (h : List Nat) (r : Nat) : Nat := hAt (conj h) r
def bead (h : List Nat) (c : Nat) : Int := (hAt h c : Int) - (c : Int) - 1
def hk (h : List Nat) (c r : Nat) : Int := (hAt h c : Int) - (r : Int) + (lamr h r : Int) - (c : Int) - 1
def isB (h : List Nat) (z : Int) : Prop := ∃ c, c < h.length ∧ z = bead h c
def coreB (h : List Nat) (k : Int) : Prop := ∀ c, c < h.length → isB h (bead h c - k) ∨ bead h c - k < -(h.length : Int)
theorem bead_split {h : List Nat} (H : IsHeap h) (z : Int) : ∀ n : Nat, ∃ j, j ≤ n ∧ (∀ c, c < j → z < bead h c) ∧ ∀ c, j ≤ c → c < n → bead h c ≤ z
  | 0 => ⟨0, Nat.le_refl _, fun c hc => absurd hc (Nat.not_lt_zero _), fun c _ hc => absurd hc (Nat.not_lt_zero _)⟩
  | n + 1 => by
    obtain ⟨j, a, b, d⟩ := bead_split H z n
    by_cases q : z < bead h n
    · refine ⟨n + 1, Nat.le_refl _, fun c hc => ?_, fun c h1 h2 => by omega⟩
      have := H.le (show c ≤ n by omega)
      unfold bead at q ⊢
      omega
    · refine ⟨j, by omega, b, fun c h1 h2 => ?_⟩
      by_cases e : c = n
      · rw [e]
        omega
      · exact d c h1 (by omega)
theorem lam_le {h : List Nat} (H : IsHeap h) (r : Nat) : lamr h r ≤ h.length := by
  rcases Nat.lt_or_ge h.length (lamr h r) with q | q
  · have := (conj_iff H h.length r).mp q
    rw [hAt_ge (Nat.le_refl _)] at this
    omega
  · exact q
theorem hole {h : List Nat} (H : IsHeap h) {z : Int} (hz : -(h.length : Int) ≤ z) (nb : ¬ isB h z) : ∃ r : Nat, z = (r : Int) - (lamr h r : Int) := by
  obtain ⟨j, a, b, d⟩ := bead_split H z h.length
  have nn : 0 ≤ z + (j : Int) := by
    by_cases q : j < h.length
    · have h1 := d j (Nat.le_refl _) q
      have h2 : z ≠ bead h j := fun e => nb ⟨j, q, e⟩
      unfold bead at h1 h2
      omega
    · omega
  refine ⟨(z + j).toNat, ?_⟩
  have key : ∀ c, c < j ↔ (z + j).toNat < hAt h c := fun c => by
    constructor
    · intro hc
      have h1 := b (j - 1) (by omega)
      have h2 := H.le (show c ≤ j - 1 by omega)
      unfold bead at h1
      omega
    · intro hc
      rcases Nat.lt_or_ge c j with q | q
      · exact q
      · exfalso
        by_cases q2 : c < h.length
        · have h1 := d j (Nat.le_refl _) (by omega)
          have h2 : z ≠ bead h j := fun e => nb ⟨j, by omega, e⟩
          have h3 := H.le q
          unfold bead at h1 h2
          omega
        · rw [hAt_ge (by omega)] at hc
          omega
  have e : lamr h (z + j).toNat = j := by
    have k := fun c => (conj_iff H c (z + j).toNat).trans (key c).symm
    rcases Nat.lt_trichotomy (lamr h (z + j).toNat) j with q | q | q
    · exact absurd ((k _).mpr q) (Nat.lt_irrefl _)
    · exact q
    · exact absurd ((k _).mp q) (Nat.lt_irrefl _)
  rw [e]
  omega
theorem no_both {h : List Nat} (H : IsHeap h) {r : Nat} (b : isB h ((r : Int) - (lamr h r : Int))) : False := by
  obtain ⟨c, hc, e⟩ := b
  have k := conj_iff H c r
  unfold bead at e
  rcases Nat.lt_or_ge r (hAt h c) with q | q
  · have : c < lamr h r := k.mpr q
    omega
  · have : ¬ c < lamr h r := fun z => absurd (k.mp z) (by omega)
    omega
theorem not_low {h : List Nat} (H : IsHeap h) {r : Nat} : ¬ (r : Int) - (lamr h r : Int) < -(h.length : Int) := by
  have := lam_le H r
  omega
end K1

set_option exponentiation.threshold 400
namespace K1
open PySem PySem.Spec PyProof.Rows L2 Evl HM LX
section
variable {P : Program} {w : World} {K : PySem.W.Frag} {mg : Str → Option Value} {base : Heap}
end
end K1

/-! own rule: name = {k: v for ..}, keys ints or texts -/
namespace DI
open PySem PySem.Spec PyProof.Rows L2
end DI
namespace DI
open PySem PySem.Spec PyProof.Rows L2
theorem dcK_it {J : It} {n : Nat} {G : Hp → Prop} {Y : Nat → Hp → V → Hp → Prop} (w : Walk J n G Y) {g : TG} {tt : TT} {tk tv : TE} {vs : List Nat} {σ : L2.St} {H1 : Hp} {D : Addr} {Qd : Hp → Prop} (Pv : Nat → Hp → Prop) (h0 : Pv 0 (upd H1 D (.dK []))) (hG : ∀ i H, i ≤ n → Pv i H → G H)
    (hs : ∀ i x H H', i < n → Pv i H → Y i H x H' → g x (wipe σ vs) H' fun σ2 H2 => wipe σ2 vs = wipe σ vs ∧ tt σ2 H2 fun b H3 =>
      if b = true then tk σ2 H3 fun y H4 => tv σ2 H4 fun z H5 => ∃ kvs k, y = kV k ∧ H5 D = some (.dK kvs) ∧ kvs.length < sizeLine ∧ Pv (i + 1) (upd H5 D (.dK (putK kvs k z))) else Pv (i + 1) H3) (hd : ∀ H, Pv n H → Qd H) :
    ∃ W : Nat → Nat → Hp → Prop, (∃ m, W 0 m (upd H1 D (.dK []))) ∧ ∀ i m H, W i m H →
      (J.stop i H ∧ Qd H) ∨ (J.go i H ∧ ∃ Nx : Hp → Prop, (∀ H', Nx H' → ∃ m', m' < m ∧ W (i + 1) m' H') ∧ ∀ x H', J.yld i H x H' → g x (wipe σ vs) H' fun σ2 H2 => wipe σ2 vs = wipe σ vs ∧ tt σ2 H2 fun b H3 =>
        if b = true then tk σ2 H3 fun y H4 => tv σ2 H4 fun z H5 => ∃ kvs k, y = kV k ∧ H5 D = some (.dK kvs) ∧ kvs.length < sizeLine ∧ Nx (upd H5 D (.dK (putK kvs k z))) else Nx H3) := by
  refine ⟨fun i m H => m = n - i ∧ i ≤ n ∧ Pv i H, ⟨n, (Nat.sub_zero n).symm, Nat.zero_le _, h0⟩, ?_⟩
  rintro i m H ⟨rfl, hi, p⟩
  by_cases c : i < n
  · exact .inr ⟨w.goes i H c (hG i H hi p), Pv (i + 1), fun H' p' => ⟨n - (i + 1), by omega, rfl, c, p'⟩, fun x H' y => hs i x H H' c p (w.yields i H x H' c (hG i H hi p) y)⟩
  · have e : i = n := by omega
    subst e
    exact .inl ⟨w.stops H (hG i H hi p), hd H p⟩
end DI

set_option exponentiation.threshold 400
namespace K1
open PySem PySem.Spec PyProof.Rows L2 Evl HM LX ZW TE
/-- what is_heap tells of a value -/
inductive HeapB (K : PySem.W.Frag) (H : Hp) : V → Bool → Prop where
  | no {x : V} (h : NotTup K H x) : HeapB K H x false
  | yes {p : Addr} {h : List Nat} (e : HeapAt H p h) (G : Good h) : HeapB K H (.ref p) true
  | bad {p : Addr} {h : List Nat} {y : V} (e : H p = some (.tup (hv h ++ [y]))) (G : Good h) (l : h.length < 60) (b : BtwB K H 1 (if h.length = 0 then 60 else (hAt h (h.length - 1) : Int)) y false) : HeapB K H (.ref p) false
theorem iteT' {b : Bool} {A B : Prop} (h : b = true) (a : A) : if b = true then A else B := by
  rw [if_pos h]
  exact a
theorem iteF' {b : Bool} {A B : Prop} (h : b = false) (a : B) : if b = true then A else B := by
  rw [if_neg (by rw [h]; decide)]
  exact a
theorem walk_enumT {K : PySem.W.Frag} {a : Addr} {xs : List V} : Walk (EnT.IteT K a) xs.length (fun H => SqT K H a xs) (YPair (fun i => some (.int (i : Nat))) (fun i => xs[i]?)) :=
  ⟨fun i _ hi q => ⟨xs, xs[i], q, by simp [hi]⟩, fun _ q => ⟨xs, q, rfl⟩, fun i H v H' _ q y => by
    obtain ⟨T, x, h1, h2, h3, h4⟩ := y
    exact ⟨T, .int (i : Nat), x, h1, h2, h3, rfl, h4 xs q⟩⟩
section
variable {P : Program} {w : World} {K : PySem.W.Frag} {mg : Str → Option Value} {base : Heap}
def spIsHeapB (K : PySem.W.Frag) : Sp := fun vs H Q _ => ∃ x b, vs = [x] ∧ HeapB K H x b ∧ ∀ H', Ex H H' → Q (.bl b) H'
theorem ok_is_heapV (T : Txt K mg) {f : Addr} {fd : FuncData} (D : DefAt K mg "is_heap" sIsHeap ["value"] f fd) : FnOk P w K mg base CX0 3 f fd ["value"] (spIsHeapB K) := by
  refine D.F.ok scIsHeap (fun vs H Q E h => ?_) (fun cdv A outer s H vs Q E hr h => ?_)
  · obtain ⟨x, b, rfl, _⟩ := h
    rfl
  · obtain ⟨x, b, rfl, hb, q⟩ := h
    obtain ⟨f1, fd1, D1⟩ := T.d_is_between
    obtain ⟨tMOST_SIDE, vMOST_SIDE⟩ := T.v_SIDE
    have hr2 : Room 2 _ := hr.mono (by decide)
    refine ⟨_, pss_cons (ps_if (PW.pt (pw_or (pt_not (pt_val (pe_callB call_isi (by rfl) T.z_isinstance (by decide +kernel) (pa_cons (pv 0) (pa_cons (pe_bltn (v := .ty "tuple") (by rfl) T.z_tuple (by decide +kernel) rfl) pa_nil)))))
          (pw_or1 (pt_cmpR op_gt (pe_callB call_len_seq (by rfl) T.z_len PySem.boot_len (pa_cons (pv 0) pa_nil)) (pe_glob (v := .int 60) rfl vMOST_SIDE ⟨_, rfl⟩) (nomark _))))) (pss_one (ps_ret pe_bl)) pss_nil)
      (pss_cons (ps_set (i := 1) scIsHeap.nd rfl (.inl rfl) (pe_glob (v := .int 60) rfl vMOST_SIDE ⟨_, rfl⟩))
      (pss_cons (ps_for PassesOwn.never rfl (pi_tup (pv 0)) (pg_name (i := 2) scIsHeap.nd rfl (.inl rfl))
        (pss_cons (ps_if (pt_not (pt_val (pe_call (ok_is_between T D1) hr2 (by rfl) D1.g D1.F.kp D1.b .nil pass0 (pa_cons (pv 2) (pa_cons pe_int (pa_cons (pv 1) pa_nil)))))) (pss_one (ps_ret pe_bl)) pss_nil)
      (pss_one (ps_set (i := 1) scIsHeap.nd rfl (.inl rfl) (pv 2)))))
      (pss_one (ps_ret pe_bl)))), ?_⟩
    cases hb with
    | no hn =>
      obtain ⟨t, ty, h⟩ := hn.ty
      exact ⟨_, rfl, x, .ty "tuple", t, .type "tuple", false, rfl, .ty _, ty, h, false, rfl, iteT (q _ (Ex.refl _))⟩
    | @yes p h e G =>
      have Gl := G.len
      refine ⟨_, rfl, .ref p, .ty "tuple", .type "tuple", .type "tuple", true, rfl, .ty _, .base (.tup e), kit_ty (by decide +kernel), true, rfl, iteF ?_⟩
      refine ⟨_, rfl, p, _, rfl, .inr (SqT.of e), _, _, rfl, rfl, _, rfl, iteF' (decide_eq_false (by rw [hv_len]; omega)) ?_⟩
      refine ⟨_, rfl, p, rfl, ⟨_, SqT.of e⟩, for_tup (K := K) (a := p) (xs := hv h) (fun i σ' H' => ∃ (a : Nat) (y : Option V), σ' = [some (.ref p), some (.int (a : Int)), y] ∧ hAt h i ≤ a ∧ a ≤ 60 ∧ Ex H H') ⟨60, none, rfl, G.all 0, Nat.le_refl _, Ex.refl _⟩ (fun i σ' H' _ hW => ?_) (fun i x σ' H' hx hW => ?_) (fun σ' H' hW => ?_)⟩
      · obtain ⟨_, _, _, _, _, e'⟩ := hW
        exact SqT.of (e' _ _ e)
      · obtain ⟨a, y, rfl, h1, h2, e'⟩ := hW
        have hi : i < h.length := by
          have := (List.getElem?_eq_some_iff.mp hx).1
          rw [hv_len] at this
          exact this
        rw [hv_get hi] at hx
        obtain rfl := Option.some.inj hx
        have hp0 := G.heap.pos i hi
        refine ⟨_, rfl, _, rfl, _, 1, a, true, rfl, .yes (by omega) (by omega) (by omega) (by omega), fun H1 e1 => ⟨true, rfl, iteF ?_⟩⟩
        exact ⟨_, rfl, hAt h i, _, rfl, G.heap.fall i, by omega, e'.trans e1⟩
      · obtain ⟨a, y, rfl, h1, h2, e'⟩ := hW
        exact q _ e'
    | @bad p h y e G l hy =>
      have ln : (hv h ++ [y]).length = h.length + 1 := by rw [List.length_append, hv_len]; rfl
      refine ⟨_, rfl, .ref p, .ty "tuple", .type "tuple", .type "tuple", true, rfl, .ty _, .base (.tup e), kit_ty (by decide +kernel), true, rfl, iteF ?_⟩
      refine ⟨_, rfl, p, _, rfl, .inr (SqT.of e), _, _, rfl, rfl, _, rfl, iteF' (decide_eq_false (by rw [ln]; omega)) ?_⟩
      refine ⟨_, rfl, p, rfl, ⟨_, SqT.of e⟩, for_tup (K := K) (a := p) (xs := hv h ++ [y]) (fun i σ' H' => ∃ y2, i ≤ h.length ∧ σ' = [some (.ref p), some (.int (if i = 0 then 60 else (hAt h (i - 1) : Int))), y2] ∧ Ex H H') ⟨none, Nat.zero_le _, rfl, Ex.refl _⟩ (fun i σ' H' _ hW => ?_) (fun i x σ' H' hx hW => ?_) (fun σ' H' hW => ?_)⟩
      · obtain ⟨_, _, _, e'⟩ := hW
        exact SqT.of (e' _ _ e)
      · obtain ⟨y2, hi, rfl, e'⟩ := hW
        by_cases c : i < h.length
        · rw [List.getElem?_append_left (by rw [hv_len]; exact c), hv_get c] at hx
          obtain rfl := Option.some.inj hx
          have hp0 := G.heap.pos i c
          have up : (hAt h i : Int) ≤ (if i = 0 then 60 else (hAt h (i - 1) : Int)) := by
            split
            · have := G.all i
              omega
            · have := G.heap.le (show i - 1 ≤ i by omega)
              omega
          refine ⟨_, rfl, _, rfl, _, 1, _, true, rfl, .yes (by omega) up (by omega) (by have := G.all i; omega), fun H1 e1 => ⟨true, rfl, iteF ?_⟩⟩
          exact ⟨_, rfl, _, by omega, by rw [if_neg (show ¬ i + 1 = 0 by omega), Nat.add_sub_cancel]; rfl, e'.trans e1⟩
        · have ei : i = h.length := by omega
          subst ei
          rw [List.getElem?_append_right (by rw [hv_len]; exact Nat.le_refl _), hv_len, Nat.sub_self] at hx
          obtain rfl := Option.some.inj hx
          exact ⟨_, rfl, _, rfl, _, 1, _, false, rfl, hy.mono e', fun H1 e1 => ⟨false, rfl, iteT (q _ (e'.trans e1))⟩⟩
      · obtain ⟨y2, hi, rfl, e'⟩ := hW
        rw [ln] at hi
        omega
def sqr (h : List Nat) (i j : Nat) : List (Int × Int) := ((List.range i).map fun (c : Nat) => (List.range (hAt h c)).map fun (r : Nat) => ((c : Int), (r : Int))).flatten ++ (List.range j).map fun (r : Nat) => ((i : Int), (r : Int))
def sqAll (h : List Nat) : List (Int × Int) := sqr h h.length 0
def PlAt (H : Hp) (x : V) (p : Int × Int) : Prop := ∃ t, x = .ref t ∧ H t = some (.tup [.int p.1, .int p.2])
abbrev Pls (H : Hp) (xs : List V) (ps : List (Int × Int)) : Prop := Paired (PlAt H) xs ps
end
end K1

set_option exponentiation.threshold 400
namespace K1
open PySem PySem.Spec PyProof.Rows L2 Evl HM LX
section
variable {P : Program} {w : World} {K : PySem.W.Frag} {mg : Str → Option Value} {base : Heap}
def rowsL (ls : List Int) (c : Int) : Int := (ls.map fun l => max 0 (-l - c - 1)).sum
theorem tell_cons (x : Int) (r : List Int) (c : Int) : tell (x :: r) c = max 0 (x + c + 1) + tell r c := by
  unfold tell
  rw [List.map_cons, List.sum_cons]
theorem rows_cons (x : Int) (r : List Int) (c : Int) : rowsL (x :: r) c = max 0 (-x - c - 1) + rowsL r c := by
  unfold rowsL
  rw [List.map_cons, List.sum_cons]
theorem tell_app (a b : List Int) (c : Int) : tell (a ++ b) c = tell a c + tell b c := by
  unfold tell
  rw [List.map_append, List.sum_append]
theorem lin_cons (x : Int) (r : List Int) (c : Int) : (x :: r).sum + ((x :: r).length : Int) * (c + 1) = x + (c + 1) + (r.sum + (r.length : Int) * (c + 1)) := by
  rw [List.sum_cons, List.length_cons, show ((r.length + 1 : Nat) : Int) = (r.length : Int) + 1 by omega, Int.add_mul, Int.one_mul]
  omega
theorem rows_tell : ∀ (ls : List Int) (c : Int), rowsL ls c = tell ls c - (ls.sum + (ls.length : Int) * (c + 1))
  | [], c => by
    show (0 : Int) = 0 - (0 + ((0 : Nat) : Int) * (c + 1))
    rw [show ((0 : Nat) : Int) = 0 from rfl, Int.zero_mul]
    omega
  | x :: r, c => by
    rw [rows_cons, tell_cons, lin_cons, rows_tell r c]
    omega
theorem tell_nn : ∀ (ls : List Int) (c : Int), 0 ≤ tell ls c
  | [], c => Int.le_refl _
  | x :: r, c => by
    have := tell_nn r c
    rw [tell_cons]
    omega
theorem rows_nn : ∀ (ls : List Int) (c : Int), 0 ≤ rowsL ls c
  | [], c => Int.le_refl _
  | x :: r, c => by
    have := rows_nn r c
    rw [rows_cons]
    omega
theorem tell_mono {c d : Int} (h : c ≤ d) : ∀ ls : List Int, tell ls c ≤ tell ls d
  | [] => Int.le_refl _
  | x :: r => by
    have := tell_mono h r
    rw [tell_cons, tell_cons]
    omega
theorem rows_anti {c d : Int} (h : c ≤ d) : ∀ ls : List Int, rowsL ls d ≤ rowsL ls c
  | [] => Int.le_refl _
  | x :: r => by
    have := rows_anti h r
    rw [rows_cons, rows_cons]
    omega
theorem tell_lo : ∀ (ls : List Int) (c : Int), (∀ l ∈ ls, l + c + 1 ≤ 0) → tell ls c = 0
  | [], c, _ => rfl
  | x :: r, c, h => by
    have h1 := h x (List.mem_cons_self ..)
    have := tell_lo r c fun l hl => h l (List.mem_cons_of_mem _ hl)
    rw [tell_cons]
    omega
theorem tell_hi : ∀ (ls : List Int) (c : Int), (∀ l ∈ ls, 0 ≤ l + c + 1) → tell ls c = ls.sum + (ls.length : Int) * (c + 1)
  | [], c, _ => by
    show (0 : Int) = 0 + ((0 : Nat) : Int) * (c + 1)
    rw [show ((0 : Nat) : Int) = 0 from rfl, Int.zero_mul]
    omega
  | x :: r, c, h => by
    have h1 := h x (List.mem_cons_self ..)
    have := tell_hi r c fun l hl => h l (List.mem_cons_of_mem _ hl)
    rw [tell_cons, lin_cons]
    omega
theorem tell_lin : ∀ (ls : List Int) (c : Int), ls.sum + (ls.length : Int) * (c + 1) ≤ tell ls c
  | [], c => by
    show 0 + ((0 : Nat) : Int) * (c + 1) ≤ 0
    rw [show ((0 : Nat) : Int) = 0 from rfl, Int.zero_mul]
    omega
  | x :: r, c => by
    have := tell_lin r c
    rw [tell_cons, lin_cons]
    omega
theorem tell_pos : ∀ {ls : List Int} {c : Int}, 0 < tell ls c → ∃ l ∈ ls, 0 ≤ l + c
  | [], c, h => absurd h (by show ¬ (0 : Int) < 0; omega)
  | x :: r, c, h => by
    by_cases q : 0 ≤ x + c
    · exact ⟨x, List.mem_cons_self .., q⟩
    · rw [tell_cons] at h
      obtain ⟨l, hl, h2⟩ := tell_pos (ls := r) (c := c) (by omega)
      exact ⟨l, List.mem_cons_of_mem _ hl, h2⟩
theorem rows_pos : ∀ {ls : List Int} {c : Int}, 0 < rowsL ls c → ∃ l ∈ ls, l + c + 2 ≤ 0
  | [], c, h => absurd h (by show ¬ (0 : Int) < 0; omega)
  | x :: r, c, h => by
    by_cases q : x + c + 2 ≤ 0
    · exact ⟨x, List.mem_cons_self .., q⟩
    · rw [rows_cons] at h
      obtain ⟨l, hl, h2⟩ := rows_pos (ls := r) (c := c) (by omega)
      exact ⟨l, List.mem_cons_of_mem _ hl, h2⟩
theorem tell_ge : ∀ {ls : List Int} {c l : Int}, l ∈ ls → l + c + 1 ≤ tell ls c
  | x :: r, c, l, h => by
    rw [tell_cons]
    have := tell_nn r c
    rcases List.mem_cons.mp h with rfl | h2
    · omega
    · have := tell_ge (c := c) h2
      omega
theorem rows_ge : ∀ {ls : List Int} {c l : Int}, l ∈ ls → -l - c - 1 ≤ rowsL ls c
  | x :: r, c, l, h => by
    rw [rows_cons]
    have := rows_nn r c
    rcases List.mem_cons.mp h with rfl | h2
    · omega
    · have := rows_ge (c := c) h2
      omega
theorem split_at {c : Int} : ∀ {ls : List Int}, ls.Pairwise (· ≤ ·) → ∃ i, i ≤ ls.length ∧ (∀ l ∈ ls.take i, l + c + 1 ≤ 0) ∧ ∀ l ∈ ls.drop i, 0 ≤ l + c + 1
  | [], _ => ⟨0, Nat.le_refl _, fun l h => absurd h (by simp), fun l h => absurd h (by simp)⟩
  | x :: r, h => by
    obtain ⟨h1, h2⟩ := List.pairwise_cons.mp h
    by_cases q : x + c + 1 ≤ 0
    · obtain ⟨i, a, b, d⟩ := split_at (c := c) h2
      refine ⟨i + 1, by rw [List.length_cons]; omega, fun l hl => ?_, fun l hl => d l hl⟩
      rw [List.take_succ_cons] at hl
      rcases List.mem_cons.mp hl with rfl | hl
      · exact q
      · exact b l hl
    · refine ⟨0, Nat.zero_le _, fun l hl => absurd hl (by simp), fun l hl => ?_⟩
      rcases List.mem_cons.mp hl with rfl | hl
      · omega
      · have := h1 l hl
        omega
theorem tell_split (ls : List Int) (i : Nat) (c : Int) : tell ls c = tell (ls.take i) c + tell (ls.drop i) c := by
  rw [← tell_app, List.take_append_drop]
theorem above_tell {one other : List Int} (hl : one.length = other.length) (so : other.Pairwise (· ≤ ·)) (h : ∀ i, i < one.length → (other.drop i).sum ≤ (one.drop i).sum) (c : Int) : tell other c ≤ tell one c := by
  obtain ⟨i, hi, h1, h2⟩ := split_at (c := c) so
  rw [tell_split other i, tell_lo _ _ h1, tell_hi _ _ h2, tell_split one i]
  have a1 := tell_nn (one.take i) c
  have a2 := tell_lin (one.drop i) c
  have a3 : (other.drop i).sum ≤ (one.drop i).sum := by
    by_cases q : i < one.length
    · exact h i q
    · rw [List.drop_of_length_le (by omega), List.drop_of_length_le (by omega)]
      exact Int.le_refl _
  rw [List.length_drop] at a2 ⊢
  rw [hl] at a2
  omega
theorem pw_get {ls : List Int} (h : ls.Pairwise (· ≤ ·)) {i j : Nat} (hij : i ≤ j) (hj : j < ls.length) : ls.getD i 0 ≤ ls.getD j 0 := by
  rw [List.getD_eq_getElem?_getD, List.getD_eq_getElem?_getD, List.getElem?_eq_getElem hj, List.getElem?_eq_getElem (show i < ls.length by omega)]
  show ls[i] ≤ ls[j]
  by_cases q : i = j
  · subst q
    exact Int.le_refl _
  · exact List.pairwise_iff_getElem.mp h i j (by omega) hj (by omega)
theorem mem_get {ls : List Int} {l : Int} (h : l ∈ ls) : ∃ j, j < ls.length ∧ l = ls.getD j 0 := by
  obtain ⟨j, hj, e⟩ := List.getElem_of_mem h
  exact ⟨j, hj, by rw [List.getD_eq_getElem?_getD, List.getElem?_eq_getElem hj, ← e]; rfl⟩
theorem get_mem {ls : List Int} {j : Nat} (hj : j < ls.length) : ls.getD j 0 ∈ ls := by
  rw [List.getD_eq_getElem?_getD, List.getElem?_eq_getElem hj]
  exact List.getElem_mem hj
theorem tell_above {one other : List Int} (hl : one.length = other.length) (s1 : one.Pairwise (· ≤ ·)) {i : Nat} (hi : i < one.length) (h : tell other (-(one.getD i 0) - 1) ≤ tell one (-(one.getD i 0) - 1)) : (other.drop i).sum ≤ (one.drop i).sum := by
  have t1 : ∀ l ∈ one.take i, l + (-(one.getD i 0) - 1) + 1 ≤ 0 := fun l hl1 => by
    obtain ⟨j, hj, rfl⟩ := mem_get hl1
    rw [List.length_take] at hj
    have e : (one.take i).getD j 0 = one.getD j 0 := by
      rw [List.getD_eq_getElem?_getD, List.getD_eq_getElem?_getD, List.getElem?_take, if_pos (by omega)]
    rw [e]
    have := pw_get s1 (show j ≤ i by omega) hi
    omega
  have t2 : ∀ l ∈ one.drop i, 0 ≤ l + (-(one.getD i 0) - 1) + 1 := fun l hl1 => by
    obtain ⟨j, hj, rfl⟩ := mem_get hl1
    rw [List.length_drop] at hj
    have e : (one.drop i).getD j 0 = one.getD (i + j) 0 := by
      rw [List.getD_eq_getElem?_getD, List.getD_eq_getElem?_getD, List.getElem?_drop]
    rw [e]
    have := pw_get s1 (show i ≤ i + j by omega) (by omega)
    omega
  rw [tell_split one i, tell_lo _ _ t1, tell_hi _ _ t2, tell_split other i] at h
  have a1 := tell_nn (other.take i) (-(one.getD i 0) - 1)
  have a2 := tell_lin (other.drop i) (-(one.getD i 0) - 1)
  rw [List.length_drop] at a2 h
  rw [hl] at h
  omega
def uni (a b : List Nat) : List Nat := (List.range (max a.length b.length)).map fun c => max (hAt a c) (hAt b c)
theorem hAt_uni (a b : List Nat) (c : Nat) : hAt (uni a b) c = max (hAt a c) (hAt b c) := by
  by_cases q : c < max a.length b.length
  · unfold uni
    show (((List.range (max a.length b.length)).map fun c => max (hAt a c) (hAt b c)).getD c 0) = _
    rw [List.getD_eq_getElem?_getD, List.getElem?_map, List.getElem?_range q]
    rfl
  · rw [hAt_ge (show (uni a b).length ≤ c by unfold uni; rw [List.length_map, List.length_range]; omega), hAt_ge (show a.length ≤ c by omega), hAt_ge (show b.length ≤ c by omega)]
    rfl
def bxh (n r : Nat) : List Nat := List.replicate n r
theorem hAt_bxh (n r c : Nat) : hAt (bxh n r) c = if c < n then r else 0 := by
  unfold hAt bxh
  rw [List.getD_eq_getElem?_getD, List.getElem?_replicate]
  split <;> rfl
theorem good_bxh {n r : Nat} (h1 : 1 ≤ r) (h2 : r ≤ 60) (h3 : n ≤ 60) : Good (bxh n r) := by
  refine ⟨⟨fun c hc => ?_, fun c => ?_⟩, ?_, ?_⟩
  · unfold bxh at hc
    rw [List.length_replicate] at hc
    rw [hAt_bxh, if_pos hc]
    omega
  · rw [hAt_bxh, hAt_bxh]
    split <;> split <;> omega
  · unfold bxh
    rw [List.length_replicate]
    exact h3
  · rw [hAt_bxh]
    split <;> omega
theorem good_uni {a b : List Nat} (A : Good a) (B : Good b) : Good (uni a b) := by
  have l : (uni a b).length = max a.length b.length := by unfold uni; rw [List.length_map, List.length_range]
  refine ⟨⟨fun c hc => ?_, fun c => ?_⟩, ?_, ?_⟩
  · rw [hAt_uni]
    rw [l] at hc
    by_cases q : c < a.length
    · have := A.heap.pos c q
      omega
    · have := B.heap.pos c (by omega)
      omega
  · rw [hAt_uni, hAt_uni]
    have := A.heap.fall c
    have := B.heap.fall c
    omega
  · have := A.len
    have := B.len
    omega
  · rw [hAt_uni]
    have := A.top
    have := B.top
    omega
def coreH (ls : List Int) (lo : Int) : Nat → List Nat
  | 0 => []
  | m + 1 => uni (coreH ls lo m) (bxh (tell ls (lo + m)).toNat (rowsL ls (lo + m)).toNat)
theorem coreH_at (ls : List Int) (lo : Int) (col r : Nat) : ∀ m : Nat, r + 1 ≤ hAt (coreH ls lo m) col ↔ ∃ j : Nat, j < m ∧ (col : Int) < tell ls (lo + j) ∧ (r : Int) + 1 ≤ rowsL ls (lo + j)
  | 0 => by
    constructor
    · intro h
      rw [show coreH ls lo 0 = [] from rfl, hAt_ge (Nat.zero_le _)] at h
      omega
    · rintro ⟨j, h, _⟩
      omega
  | m + 1 => by
    have ih := coreH_at ls lo col r m
    show r + 1 ≤ hAt (uni (coreH ls lo m) (bxh (tell ls (lo + m)).toNat (rowsL ls (lo + m)).toNat)) col ↔ _
    rw [hAt_uni, hAt_bxh]
    constructor
    · intro h
      by_cases q : r + 1 ≤ hAt (coreH ls lo m) col
      · obtain ⟨j, a, b⟩ := ih.mp q
        exact ⟨j, by omega, b⟩
      · refine ⟨m, by omega, ?_⟩
        split at h
        · constructor <;> omega
        · omega
    · rintro ⟨j, a, b, d⟩
      by_cases q : j = m
      · subst q
        rw [if_pos (by omega)]
        omega
      · have := ih.mpr ⟨j, by omega, b, d⟩
        omega
def coreL (ls : List Int) : List Nat := coreH ls (-(ls.getD (ls.length - 1) 0)) (-(ls.getD 0 0) - 1 + ls.getD (ls.length - 1) 0).toNat
theorem core_at {ls : List Int} (s : ls.Pairwise (· ≤ ·)) (hl : 1 ≤ ls.length) (col r : Nat) : r + 1 ≤ hAt (coreL ls) col ↔ ∃ c : Int, (col : Int) < tell ls c ∧ (r : Int) + 1 ≤ rowsL ls c := by
  unfold coreL
  rw [coreH_at]
  constructor
  · rintro ⟨j, _, a, b⟩
    exact ⟨_, a, b⟩
  · rintro ⟨c, a, b⟩
    obtain ⟨l, h1, h2⟩ := tell_pos (ls := ls) (c := c) (by omega)
    obtain ⟨l', h3, h4⟩ := rows_pos (ls := ls) (c := c) (by omega)
    obtain ⟨i, hi, rfl⟩ := mem_get h1
    obtain ⟨i', hi', rfl⟩ := mem_get h3
    have p1 := pw_get s (show i ≤ ls.length - 1 by omega) (by omega)
    have p2 := pw_get s (Nat.zero_le i') hi'
    refine ⟨(c + ls.getD (ls.length - 1) 0).toNat, by omega, ?_⟩
    rw [show -(ls.getD (ls.length - 1) 0) + ((c + ls.getD (ls.length - 1) 0).toNat : Int) = c by omega]
    exact ⟨a, b⟩
theorem sum_le {α : Type} {f g : α → Int} : ∀ {l : List α}, (∀ x ∈ l, f x ≤ g x) → (l.map f).sum ≤ (l.map g).sum
  | [], _ => Int.le_refl _
  | x :: r, h => by
    rw [List.map_cons, List.map_cons, List.sum_cons, List.sum_cons]
    have := h x (List.mem_cons_self ..)
    have := sum_le fun y hy => h y (List.mem_cons_of_mem (a := y) x hy)
    omega
theorem sum_zero {α : Type} : ∀ l : List α, (l.map fun _ => (0 : Int)).sum = 0
  | [] => rfl
  | x :: r => by
    rw [List.map_cons, List.sum_cons, sum_zero r]
    rfl
theorem sum_one {α : Type} {f : α → Int} : ∀ {l : List α}, (∀ x ∈ l, 0 ≤ f x) → ∀ x ∈ l, f x ≤ (l.map f).sum
  | y :: r, h, x, hx => by
    rw [List.map_cons, List.sum_cons]
    have h0 := h y (List.mem_cons_self ..)
    have hr : ∀ z ∈ r, 0 ≤ f z := fun z hz => h z (List.mem_cons_of_mem _ hz)
    have hs : 0 ≤ (r.map f).sum := by
      have := sum_le (f := fun _ => (0 : Int)) (g := f) (l := r) hr
      rw [sum_zero] at this
      exact this
    rcases List.mem_cons.mp hx with rfl | hx
    · omega
    · have := sum_one hr x hx
      omega
theorem rowsR (ls : List Int) (c : Int) : ((List.range ls.length).map fun i => max 0 (-(ls.getD i 0) - c - 1)).sum = rowsL ls c := by
  unfold rowsL
  congr 1
  refine List.ext_getElem (by rw [List.length_map, List.length_map, List.length_range]) fun i h1 h2 => ?_
  rw [List.length_map] at h2
  rw [List.getElem_map, List.getElem_map, List.getElem_range, List.getD_eq_getElem?_getD, List.getElem?_eq_getElem h2]
  rfl
theorem drow_nn (ls : List Int) (i : Nat) : ∀ x ∈ List.range i, 0 ≤ max 0 (ls.getD i 0 - ls.getD x 0 - 1) := fun x _ => by omega
theorem sides {ls : List Int} (hl : 1 ≤ ls.length) {c : Int} (h1 : -(ls.getD (ls.length - 1) 0) ≤ c) (h2 : c ≤ -(ls.getD 0 0) - 2) : tell ls c ≤ distL ls ∧ rowsL ls c ≤ distL ls := by
  constructor
  · rw [← tellR]
    unfold distL
    refine sum_le fun i hi => ?_
    by_cases q : i = 0
    · subst q
      show max 0 (ls.getD 0 0 + c + 1) ≤ 0
      omega
    · have := sum_one (f := fun x => max 0 (ls.getD i 0 - ls.getD x 0 - 1)) (drow_nn ls i) 0 (List.mem_range.mpr (by omega))
      show max 0 (ls.getD i 0 + c + 1) ≤ _
      have t : max 0 (ls.getD i 0 - ls.getD 0 0 - 1) ≤ ((List.range i).map fun x => max 0 (ls.getD i 0 - ls.getD x 0 - 1)).sum := this
      omega
  · rw [← rowsR]
    have k := sum_one (f := fun i => ((List.range i).map fun x => max 0 (ls.getD i 0 - ls.getD x 0 - 1)).sum) (l := List.range ls.length) (fun i _ => by
      have := sum_le (f := fun _ => (0 : Int)) (g := fun x => max 0 (ls.getD i 0 - ls.getD x 0 - 1)) (l := List.range i) (drow_nn ls i)
      rw [sum_zero] at this
      exact this) (ls.length - 1) (List.mem_range.mpr (by omega))
    refine Int.le_trans ?_ k
    obtain ⟨n, hn⟩ : ∃ n, ls.length = n + 1 := ⟨ls.length - 1, by omega⟩
    rw [hn, Nat.add_sub_cancel] at h1 ⊢
    rw [List.range_succ, List.map_append, List.sum_append]
    show _ + (max 0 (-(ls.getD n 0) - c - 1) + 0) ≤ _
    have := sum_le (f := fun i => max 0 (-(ls.getD i 0) - c - 1)) (g := fun x => max 0 (ls.getD n 0 - ls.getD x 0 - 1)) (l := List.range n) fun x _ => by
      show max 0 (-(ls.getD x 0) - c - 1) ≤ max 0 (ls.getD n 0 - ls.getD x 0 - 1)
      omega
    omega
theorem good_core {ls : List Int} (hl : 1 ≤ ls.length) (s : ls.Pairwise (· ≤ ·)) (hd : distL ls ≤ 12) : ∀ m : Nat, (m : Int) ≤ -(ls.getD 0 0) - 1 + ls.getD (ls.length - 1) 0 → Good (coreH ls (-(ls.getD (ls.length - 1) 0)) m)
  | 0, _ => ⟨IsHeap.nil, Nat.zero_le _, Nat.zero_le _⟩
  | m + 1, hm => by
    have sd := sides hl (c := -(ls.getD (ls.length - 1) 0) + m) (by omega) (by omega)
    have p := rows_ge (c := -(ls.getD (ls.length - 1) 0) + m) (get_mem (show 0 < ls.length by omega))
    have ih := good_core hl s hd m (by omega)
    exact good_uni ih (good_bxh (by omega) (by omega) (by omega))
end
end K1

namespace K1
open HM
/-- the beads of all columns, those beyond the heap too -/
def inB (h : List Nat) (z : Int) : Prop := ∃ c : Nat, z = bead h c
theorem bead_out {h : List Nat} {c : Nat} (hc : h.length ≤ c) : bead h c = -(c : Int) - 1 := by
  unfold bead
  rw [hAt_ge hc]
  omega
theorem inB_iff {h : List Nat} (z : Int) : inB h z ↔ isB h z ∨ z < -(h.length : Int) := by
  constructor
  · rintro ⟨c, rfl⟩
    by_cases hc : c < h.length
    · exact .inl ⟨c, hc, rfl⟩
    · rw [bead_out (by omega)]
      exact .inr (by omega)
  · rintro (⟨c, _, rfl⟩ | hz)
    · exact ⟨c, rfl⟩
    · exact ⟨(-z - 1).toNat, by rw [bead_out (by omega)]; omega⟩
theorem core_inB {h : List Nat} {k : Int} (hk : 0 ≤ k) : coreB h k ↔ ∀ z, inB h z → inB h (z - k) := by
  constructor
  · intro C z hz
    rcases (inB_iff z).mp hz with ⟨c, hc, rfl⟩ | hz
    · exact (inB_iff _).mpr (C c hc)
    · exact (inB_iff _).mpr (.inr (by omega))
  · intro a c hc
    exact (inB_iff _).mp (a _ ⟨c, rfl⟩)
theorem bead_lt {h : List Nat} (IH : IsHeap h) {c d : Nat} (hcd : c < d) : bead h d < bead h c := by
  have := IH.le (show c ≤ d by omega)
  unfold bead
  omega
theorem opn_inB {h : List Nat} (IH : IsHeap h) (c : Nat) : opn h c = true ↔ ¬ inB h (bead h c + 1) := by
  have key : opn h c = true ↔ (c = 0 ∨ hAt h c < hAt h (c - 1)) := by
    unfold opn
    simp
  rw [key]
  constructor
  · rintro o ⟨d, hd⟩
    rcases Nat.lt_trichotomy d c with z | z | z
    · rcases o with o | o
      · omega
      · have := IH.le (show d ≤ c - 1 by omega)
        unfold bead at hd
        omega
    · subst z
      omega
    · have := bead_lt IH z
      omega
  · intro o
    by_cases z : c = 0
    · exact .inl z
    · refine .inr ?_
      have := IH.le (show c - 1 ≤ c by omega)
      rcases Nat.lt_or_ge (hAt h c) (hAt h (c - 1)) with y | y
      · exact y
      · exfalso
        apply o
        refine ⟨c - 1, ?_⟩
        unfold bead
        omega
theorem bead_grow {h : List Nat} {g : Nat → Bool} (hg : ∀ c, g c = true → opn h c = true) (c : Nat) : bead (grow h g) c = bead h c + (b2n (g c) : Int) := by
  unfold bead
  rw [hAt_grow hg]
  omega
theorem dg_bead (h : List Nat) (c : Nat) : dg h c = -(bead h c) - 1 := by
  unfold dg bead
  omega

/-! ### sums -/
def sm : Nat → (Nat → Int) → Int
  | 0, _ => 0
  | n + 1, f => sm n f + f n
theorem sm_congr {f g : Nat → Int} : ∀ {n : Nat}, (∀ i, i < n → f i = g i) → sm n f = sm n g
  | 0, _ => rfl
  | n + 1, h => by
    show sm n f + f n = sm n g + g n
    rw [sm_congr (n := n) (fun i hi => h i (by omega)), h n (by omega)]
theorem sm_add (f g : Nat → Int) : ∀ n : Nat, sm n (fun i => f i + g i) = sm n f + sm n g
  | 0 => rfl
  | n + 1 => by
    show sm n (fun i => f i + g i) + (f n + g n) = sm n f + f n + (sm n g + g n)
    rw [sm_add f g n]
    omega
theorem sm_zero : ∀ n : Nat, sm n (fun _ => 0) = 0
  | 0 => rfl
  | n + 1 => by
    show sm n (fun _ => 0) + 0 = 0
    rw [sm_zero n]
    rfl
theorem sm_swap (f : Nat → Nat → Int) (m : Nat) : ∀ n : Nat, sm n (fun i => sm m (fun j => f i j)) = sm m (fun j => sm n (fun i => f i j))
  | 0 => (sm_zero m).symm
  | n + 1 => by
    show sm n (fun i => sm m (fun j => f i j)) + sm m (fun j => f n j) = sm m (fun j => sm n (fun i => f i j) + f n j)
    rw [sm_swap f m n, ← sm_add]
theorem sm_pick (f : Nat → Int) {i : Nat} : ∀ {n : Nat}, i < n → sm n f = f i + sm n (fun x => if x = i then 0 else f x)
  | 0, h => absurd h (Nat.not_lt_zero _)
  | n + 1, h => by
    show sm n f + f n = f i + (sm n (fun x => if x = i then 0 else f x) + (if n = i then 0 else f n))
    by_cases e : i = n
    · subst e
      rw [if_pos rfl, sm_congr (n := i) (g := fun x => if x = i then 0 else f x) (fun j hj => (if_neg (show ¬ j = i by omega)).symm)]
      omega
    · rw [if_neg (show ¬ n = i by omega), sm_pick f (i := i) (n := n) (by omega)]
      omega
theorem sm_pick2 (f : Nat → Int) {i j n : Nat} (hi : i < n) (hj : j < n) (hij : i ≠ j) : sm n f = f i + f j + sm n (fun x => if x = i ∨ x = j then 0 else f x) := by
  rw [sm_pick f hi, sm_pick (fun x => if x = i then 0 else f x) hj]
  show f i + ((if j = i then 0 else f j) + _) = _
  rw [if_neg (by omega), sm_congr (g := fun x => if x = i ∨ x = j then 0 else f x) (fun x _ => ?_)]
  · omega
  · by_cases a : x = i <;> by_cases b : x = j <;> simp [a, b]
theorem sm_split (f : Nat → Int) (m : Nat) : ∀ n : Nat, sm (m + n) f = sm m f + sm n (fun i => f (m + i))
  | 0 => by show sm m f = sm m f + 0; omega
  | n + 1 => by
    show sm (m + n) f + f (m + n) = sm m f + (sm n (fun i => f (m + i)) + f (m + n))
    rw [sm_split f m n]
    omega
theorem sm_front (f : Nat → Int) : ∀ n : Nat, sm (n + 1) f = f 0 + sm n (fun i => f (i + 1))
  | 0 => by show 0 + f 0 = f 0 + 0; omega
  | n + 1 => by
    show sm (n + 1) f + f (n + 1) = f 0 + (sm n (fun i => f (i + 1)) + f (n + 1))
    rw [sm_front f n]
    omega
theorem sm_rev (f : Nat → Int) : ∀ n : Nat, sm n f = sm n (fun i => f (n - 1 - i))
  | 0 => rfl
  | n + 1 => by
    rw [sm_front (fun i => f (n + 1 - 1 - i)) n]
    show sm n f + f n = f (n + 1 - 1 - 0) + sm n (fun i => f (n + 1 - 1 - (i + 1)))
    rw [show n + 1 - 1 - 0 = n by omega, sm_rev f n, sm_congr (g := fun i => f (n + 1 - 1 - (i + 1))) (fun i hi => by
      show f (n - 1 - i) = f (n + 1 - 1 - (i + 1))
      rw [show n - 1 - i = n + 1 - 1 - (i + 1) by omega])]
    omega
theorem sm_cls {n k : Nat} (cls : Nat → Nat) (g : Nat → Int) (h : ∀ i, i < n → cls i < k) : sm n g = sm k (fun r => sm n (fun i => if cls i = r then g i else 0)) := by
  rw [← sm_swap (fun i r => if cls i = r then g i else 0) k n]
  refine sm_congr fun i hi => ?_
  rw [sm_pick (fun r => if cls i = r then g i else 0) (h i hi), sm_congr (g := fun _ => 0) (fun x _ => ?_), sm_zero, if_pos rfl]
  · omega
  · show (if x = cls i then 0 else if cls i = x then g i else 0) = 0
    by_cases e : x = cls i
    · rw [if_pos e]
    · rw [if_neg e, if_neg (fun z => e z.symm)]
theorem sm_cnt (p : Nat → Bool) : ∀ n : Nat, (((List.range n).filter p).length : Int) = sm n (fun i => if p i = true then 1 else 0)
  | 0 => rfl
  | n + 1 => by
    show _ = sm n (fun i => if p i = true then 1 else 0) + (if p n = true then 1 else 0)
    rw [← sm_cnt p n, List.range_succ, List.filter_append, List.length_append]
    by_cases e : p n = true
    · rw [if_pos e]
      simp [e]
    · rw [if_neg e]
      simp [e]
theorem sm_sum (f : Nat → Int) : ∀ n : Nat, ((List.range n).map f).sum = sm n f
  | 0 => rfl
  | n + 1 => by
    show _ = sm n f + f n
    rw [List.range_succ, List.map_append, List.sum_append, sm_sum f n]
    simp
theorem cnt_bij {n m : Nat} {p q : Nat → Bool} (φ : Nat → Nat) (inj : ∀ i j, i < n → j < n → p i = true → p j = true → φ i = φ j → i = j) (to : ∀ i, i < n → p i = true → φ i < m ∧ q (φ i) = true) (on : ∀ j, j < m → q j = true → ∃ i, i < n ∧ p i = true ∧ φ i = j) : ((List.range n).filter p).length = ((List.range m).filter q).length := by
  rw [← List.length_map (f := φ)]
  refine List.Perm.length_eq ((List.perm_ext_iff_of_nodup ?_ (List.nodup_range.filter _)).mpr fun j => ?_)
  · refine List.pairwise_map.mpr (List.Pairwise.imp ?_ (List.Pairwise.and_mem.mp ((List.nodup_range (n := n)).filter p)))
    rintro x y ⟨hx, hy, ne⟩ e
    obtain ⟨hx1, hx2⟩ := List.mem_filter.mp hx
    obtain ⟨hy1, hy2⟩ := List.mem_filter.mp hy
    exact ne (inj x y (List.mem_range.mp hx1) (List.mem_range.mp hy1) hx2 hy2 e)
  · rw [List.mem_map, List.mem_filter, List.mem_range]
    constructor
    · rintro ⟨i, hi, rfl⟩
      obtain ⟨h1, h2⟩ := List.mem_filter.mp hi
      exact to i (List.mem_range.mp h1) h2
    · rintro ⟨h1, h2⟩
      obtain ⟨i, hi, hp, e⟩ := on j h1 h2
      exact ⟨i, List.mem_filter.mpr ⟨List.mem_range.mpr hi, hp⟩, e⟩
theorem cnt_all (n : Nat) : ((List.range n).filter fun _ => true).length = n := by
  rw [List.filter_eq_self.mpr (fun _ _ => rfl), List.length_range]
end K1

namespace K1
open HM
/-! ### runners of a core -/
/-- the beads of each rest are those with a quotient below a number -/
def fl (h : List Nat) (k : Int) (a : Nat → Int) : Prop := ∀ z, inB h z ↔ z / k < a (z % k).toNat
theorem inB_low {h : List Nat} {z : Int} (hz : z < -(h.length : Int)) : inB h z := (inB_iff z).mpr (.inr hz)
theorem bead_top {h : List Nat} (IH : IsHeap h) (c : Nat) : bead h c < (hAt h 0 : Int) := by
  have := IH.le (Nat.zero_le c)
  unfold bead
  omega
theorem inB_top {h : List Nat} (IH : IsHeap h) {z : Int} (hz : inB h z) : z < (hAt h 0 : Int) := by
  obtain ⟨c, rfl⟩ := hz
  exact bead_top IH c
theorem inB_down {h : List Nat} {k : Int} (hk : 0 ≤ k) (C : coreB h k) {z : Int} (hz : inB h z) : ∀ m : Nat, inB h (z - (m : Int) * k)
  | 0 => by rw [show z - ((0 : Nat) : Int) * k = z by rw [show ((0 : Nat) : Int) = 0 from rfl, Int.zero_mul]; omega]; exact hz
  | m + 1 => by
    have := (core_inB hk).mp C _ (inB_down hk C hz m)
    rw [show z - ((m + 1 : Nat) : Int) * k = z - (m : Int) * k - k by rw [show ((m + 1 : Nat) : Int) = (m : Int) + 1 by omega, Int.add_mul, Int.one_mul]; omega]
    exact this
theorem fl_ex {h : List Nat} (IH : IsHeap h) {k : Int} (hk : 1 ≤ k) (C : coreB h k) : ∃ a, fl h k a := by
  have key : ∀ r : Int, ∃ t : Int, ∀ u : Int, inB h (r + u * k) ↔ u < t := fun r => by
    -- the least quotient without a bead
    have up : ∀ u : Int, inB h (r + u * k) → ∀ v, v ≤ u → inB h (r + v * k) := fun u hu v hv => by
      have := inB_down (by omega) C hu (u - v).toNat
      rw [Int.toNat_of_nonneg (by omega), Int.sub_mul] at this
      rw [show r + v * k = r + u * k - (u * k - v * k) by omega]
      exact this
    have lo : ∃ L : Int, inB h (r + L * k) := by
      refine ⟨-(h.length : Int) - 1 - r.natAbs, inB_low ?_⟩
      have : (-(h.length : Int) - 1 - (r.natAbs : Int)) * k ≤ (-(h.length : Int) - 1 - (r.natAbs : Int)) * 1 := Int.mul_le_mul_of_nonpos_left (by omega) hk
      omega
    have hi : ∃ U : Int, ¬ inB h (r + U * k) := by
      refine ⟨(hAt h 0 : Int) + r.natAbs, fun z => ?_⟩
      have := inB_top IH z
      have : ((hAt h 0 : Int) + (r.natAbs : Int)) * 1 ≤ ((hAt h 0 : Int) + (r.natAbs : Int)) * k := Int.mul_le_mul_of_nonneg_left hk (by omega)
      omega
    obtain ⟨L, hL⟩ := lo
    obtain ⟨U, hU⟩ := hi
    have lu : L < U := by
      rcases Int.lt_or_le L U with q | q
      · exact q
      · exact absurd (up L hL U q) hU
    -- go up from L
    have st : ∀ n : Nat, (∀ v : Int, v ≤ L + n → inB h (r + v * k)) ∨ ∃ t : Int, ∀ u : Int, inB h (r + u * k) ↔ u < t := fun n => by
      induction n with
      | zero => exact .inl fun v hv => up L hL v (by omega)
      | succ n ih =>
        rcases ih with ih | ih
        · by_cases b : inB h (r + (L + (n + 1 : Nat)) * k)
          · exact .inl fun v hv => up _ b v hv
          · refine .inr ⟨L + (n + 1 : Nat), fun u => ⟨fun hu => ?_, fun hu => ih u (by omega)⟩⟩
            rcases Int.lt_or_le u (L + (n + 1 : Nat)) with q | q
            · exact q
            · exact absurd (up u hu _ q) b
        · exact .inr ih
    rcases st (U - L).toNat with q | q
    · exact absurd (q U (by omega)) hU
    · exact q
  refine ⟨fun x => (key x).choose, fun z => ?_⟩
  have := (key ((z % k).toNat : Int)).choose_spec (z / k)
  rw [← this]
  have e := Int.emod_nonneg z (show k ≠ 0 by omega)
  rw [Int.toNat_of_nonneg e, Int.emod_add_ediv_mul]
theorem fl_core {h : List Nat} {k : Int} (hk : 1 ≤ k) {a : Nat → Int} (F : fl h k a) : coreB h k := by
  rw [core_inB (by omega)]
  intro z hz
  have a1 := (F z).mp hz
  refine (F _).mpr ?_
  rw [Int.sub_emod_right, Int.sub_ediv_of_dvd _ (Int.dvd_refl k), Int.ediv_self (by omega)]
  omega
def ho (k : Int) (a : Nat → Int) (z : Int) : Bool := decide (a (z % k).toNat ≤ z / k)
theorem ho_iff {h : List Nat} {k : Int} {a : Nat → Int} (F : fl h k a) (z : Int) : ho k a z = true ↔ ¬ inB h z := by
  unfold ho
  rw [decide_eq_true_eq, F z]
  omega
/-- the squares of a column with a hook below k, by its holes -/
theorem col_part {h : List Nat} (IH : IsHeap h) {k : Int} (k1 : 1 ≤ k) {a : Nat → Int} (F : fl h k a) (c : Nat) : ((List.range (hAt h c)).filter fun r => decide (hk h c r < k)).length = ((List.range k.toNat).filter fun d => ho k a (bead h c - (d : Nat))).length := by
  have hkb : ∀ r : Nat, hk h c r = bead h c - ((r : Int) - (lamr h r : Int)) := fun r => by
    unfold hk bead
    omega
  have nb : ∀ r : Nat, ¬ inB h ((r : Int) - (lamr h r : Int)) := fun r z => by
    rcases (inB_iff _).mp z with z | z
    · exact no_both IH z
    · exact not_low IH z
  refine cnt_bij (fun r => (hk h c r).toNat) (fun i j hi hj _ _ e => ?_) (fun r hr p => ?_) (fun d hd p => ?_)
  · have pi : c < lamr h i := (conj_iff IH c i).mpr hi
    have pj : c < lamr h j := (conj_iff IH c j).mpr hj
    have ei := hkb i
    have ej := hkb j
    have e' : (hk h c i).toNat = (hk h c j).toNat := e
    have li : 0 ≤ hk h c i := by unfold hk; omega
    have lj : 0 ≤ hk h c j := by unfold hk; omega
    have ee : (i : Int) - (lamr h i : Int) = (j : Int) - (lamr h j : Int) := by omega
    rcases Nat.lt_trichotomy i j with q | q | q
    · have := (conj_heap IH).le (Nat.le_of_lt q)
      unfold lamr at ee
      omega
    · exact q
    · have := (conj_heap IH).le (Nat.le_of_lt q)
      unfold lamr at ee
      omega
  · have pr : c < lamr h r := (conj_iff IH c r).mpr hr
    have l0 : 0 ≤ hk h c r := by unfold hk; omega
    have lk : hk h c r < k := of_decide_eq_true p
    refine ⟨by omega, ?_⟩
    rw [ho_iff F, Int.toNat_of_nonneg l0, hkb r, show bead h c - (bead h c - ((r : Int) - (lamr h r : Int))) = (r : Int) - (lamr h r : Int) by omega]
    exact nb r
  · rw [ho_iff F] at p
    have p2 := fun z => p ((inB_iff _).mpr z)
    obtain ⟨r, hr⟩ := hole IH (z := bead h c - (d : Int)) (by
      rcases Int.lt_or_le (bead h c - (d : Int)) (-(h.length : Int)) with q | q
      · exact absurd (.inr q) p2
      · exact q) (fun z => p2 (.inl z))
    have kk := conj_iff IH c r
    have d0 : (d : Nat) ≠ 0 := fun z => by
      apply p
      rw [z]
      exact ⟨c, by omega⟩
    have lr : r < hAt h c := by
      rcases Nat.lt_or_ge r (hAt h c) with g | g
      · exact g
      · exfalso
        have : ¬ c < lamr h r := fun z => absurd (kk.mp z) (by omega)
        unfold bead at hr
        omega
    have e := hkb r
    refine ⟨r, lr, decide_eq_true (by omega), ?_⟩
    show (hk h c r).toNat = d
    omega
/-! ### letters: the squares with hooks below k, by the charges -/
def lw (a : Nat → Int) (r s : Nat) : Int := max 0 (a r - a s - (if r < s then 1 else 0))
def LS (n : Nat) (a : Nat → Int) : Int := sm n fun r => sm n fun s => lw a r s
def rd (n r d : Nat) : Nat := if d ≤ r then r - d else r + n - d
theorem rd_sm (G : Nat → Int) {n r : Nat} (hr : r < n) : sm n (fun d => G (rd n r d)) = sm n G := by
  obtain ⟨m, rfl⟩ : ∃ m, n = (r + 1) + m := ⟨n - (r + 1), by omega⟩
  rw [sm_split (fun d => G (rd (r + 1 + m) r d)), sm_split G, sm_rev G (r + 1), sm_rev (fun i => G (r + 1 + i)) m]
  congr 1
  · refine sm_congr fun d hd => ?_
    unfold rd
    rw [if_pos (by omega)]
    rfl
  · refine sm_congr fun d hd => ?_
    unfold rd
    show G _ = G _
    rw [if_neg (by omega)]
    congr 1
    omega
theorem divmod {k z t x : Int} (hk : 0 < k) (h0 : 0 ≤ x) (h1 : x < k) (e : z = x + k * t) : z / k = t ∧ z % k = x := by
  subst e
  exact ⟨by rw [Int.add_mul_ediv_left _ _ (by omega), Int.ediv_eq_zero_of_lt h0 h1, Int.zero_add], by rw [Int.add_mul_emod_self_left, Int.emod_eq_of_lt h0 h1]⟩
/-- beads at one rest whose place d below is a hole -/
theorem run_cnt {h : List Nat} (IH : IsHeap h) {k : Int} (k1 : 1 ≤ k) {a : Nat → Int} (F : fl h k a) {d r : Nat} (hd : d < k.toNat) (hr : r < k.toNat) : ((List.range h.length).filter fun c => decide ((bead h c % k).toNat = r) && ho k a (bead h c - (d : Nat))).length = (lw a r (rd k.toNat r d)).toNat := by
  have low : ∀ t : Int, (((r : Int) + k * t) - (d : Int)) / k = t - (if r < rd k.toNat r d then 1 else 0) ∧ ((((r : Int) + k * t) - (d : Int)) % k).toNat = rd k.toNat r d := fun t => by
    unfold rd
    by_cases q : d ≤ r
    · rw [if_pos q, if_neg (by omega)]
      obtain ⟨e1, e2⟩ := divmod (k := k) (z := (r : Int) + k * t - (d : Int)) (t := t) (x := (r : Int) - d) (by omega) (by omega) (by omega) (by omega)
      rw [e1, e2]
      omega
    · rw [if_neg q, if_pos (by omega)]
      obtain ⟨e1, e2⟩ := divmod (k := k) (z := (r : Int) + k * t - (d : Int)) (t := t - 1) (x := (r : Int) + k - d) (by omega) (by omega) (by omega) (by rw [Int.mul_sub]; omega)
      rw [e1, e2]
      omega
  have bd : ∀ c, (bead h c % k).toNat = r → bead h c = (r : Int) + k * (bead h c / k) := fun c e => by
    have := Int.emod_add_mul_ediv (bead h c) k
    have := Int.emod_nonneg (bead h c) (show k ≠ 0 by omega)
    omega
  have q2 := cnt_bij (n := h.length) (m := (lw a r (rd k.toNat r d)).toNat) (p := fun c => decide ((bead h c % k).toNat = r) && ho k a (bead h c - (d : Nat))) (q := fun _ => true) (fun c => (bead h c / k - (a (rd k.toNat r d) + (if r < rd k.toNat r d then 1 else 0))).toNat) ?_ ?_ ?_
  · rw [q2, cnt_all]
  · intro i j hi hj pi pj e
    obtain ⟨pi1, pi2⟩ := Bool.and_eq_true_iff.mp pi
    obtain ⟨pj1, pj2⟩ := Bool.and_eq_true_iff.mp pj
    have bi := bd i (of_decide_eq_true pi1)
    have bj := bd j (of_decide_eq_true pj1)
    have li := low (bead h i / k)
    have lj := low (bead h j / k)
    rw [← bi] at li
    rw [← bj] at lj
    have hi2 := of_decide_eq_true pi2
    have hj2 := of_decide_eq_true pj2
    rw [li.2, li.1] at hi2
    rw [lj.2, lj.1] at hj2
    have e' : (bead h i / k - (a (rd k.toNat r d) + (if r < rd k.toNat r d then 1 else 0))).toNat = (bead h j / k - (a (rd k.toNat r d) + (if r < rd k.toNat r d then 1 else 0))).toNat := e
    have ee : bead h i / k = bead h j / k := by omega
    rw [ee] at bi
    rcases Nat.lt_trichotomy i j with q | q | q
    · have := bead_lt IH q
      omega
    · exact q
    · have := bead_lt IH q
      omega
  · intro c hc p
    obtain ⟨p1, p2⟩ := Bool.and_eq_true_iff.mp p
    have p1' := of_decide_eq_true p1
    have b := bd c p1'
    have l := low (bead h c / k)
    rw [← b] at l
    have h2 := of_decide_eq_true p2
    rw [l.2, l.1] at h2
    have up := (F (bead h c)).mp ⟨c, rfl⟩
    rw [p1'] at up
    refine ⟨?_, rfl⟩
    show (bead h c / k - _).toNat < _
    unfold lw
    omega
  · intro j hj _
    unfold lw at hj
    have l := low (j + a (rd k.toNat r d) + (if r < rd k.toNat r d then 1 else 0))
    obtain ⟨m1, m2⟩ := divmod (k := k) (z := (r : Int) + k * (j + a (rd k.toNat r d) + (if r < rd k.toNat r d then 1 else 0))) (by omega) (by omega) (by omega) rfl
    have isb : inB h ((r : Int) + k * (j + a (rd k.toNat r d) + (if r < rd k.toNat r d then 1 else 0))) := by
      rw [F, m1, m2, Int.toNat_natCast]
      omega
    have ish : ho k a ((r : Int) + k * (j + a (rd k.toNat r d) + (if r < rd k.toNat r d then 1 else 0)) - (d : Int)) = true := by
      unfold ho
      rw [l.1, l.2]
      exact decide_eq_true (by omega)
    have nish := (ho_iff F _).mp ish
    obtain ⟨c, hc⟩ := isb
    have cl : c < h.length := by
      rcases Nat.lt_or_ge c h.length with q | q
      · exact q
      · exfalso
        apply nish
        refine inB_low ?_
        rw [hc, bead_out q]
        rcases Nat.eq_zero_or_pos d with z | z
        · subst z
          exfalso
          rw [hc, show bead h c - ((0 : Nat) : Int) = bead h c by omega] at nish
          exact nish ⟨c, rfl⟩
        · omega
    refine ⟨c, cl, ?_, ?_⟩
    · rw [Bool.and_eq_true_iff]
      rw [← hc]
      exact ⟨decide_eq_true (by rw [m2]; omega), ish⟩
    · show (bead h c / k - _).toNat = j
      rw [← hc, m1]
      omega
end K1

namespace K1
open HM
def lts (h : List Nat) (k : Int) : Int := sm h.length fun c => (((List.range (hAt h c)).filter fun r => decide (hk h c r < k)).length : Int)
theorem lts_LS {h : List Nat} (IH : IsHeap h) {k : Int} (k1 : 1 ≤ k) {a : Nat → Int} (F : fl h k a) : lts h k = LS k.toNat a := by
  unfold lts
  rw [sm_congr (n := h.length) (g := fun c => sm k.toNat fun d => if ho k a (bead h c - (d : Nat)) = true then 1 else 0) (fun c _ => by
    rw [col_part IH k1 F c, sm_cnt]), sm_swap]
  have step : ∀ d, d < k.toNat → sm h.length (fun c => if ho k a (bead h c - (d : Nat)) = true then 1 else 0) = sm k.toNat fun r => lw a r (rd k.toNat r d) := fun d hd => by
    rw [sm_cls (k := k.toNat) (fun c => (bead h c % k).toNat) _ (fun c _ => by
      have := Int.emod_lt_of_pos (bead h c) (show 0 < k by omega)
      have := Int.emod_nonneg (bead h c) (show k ≠ 0 by omega)
      omega)]
    refine sm_congr fun r hr => ?_
    have e := run_cnt IH k1 F hd hr
    have p0 : 0 ≤ lw a r (rd k.toNat r d) := by unfold lw; omega
    rw [← Int.toNat_of_nonneg p0, ← e, sm_cnt]
    refine sm_congr fun c _ => ?_
    show (if (bead h c % k).toNat = r then (if ho k a (bead h c - (d : Nat)) = true then (1 : Int) else 0) else 0) = _
    by_cases q : (bead h c % k).toNat = r
    · rw [if_pos q, decide_eq_true q, Bool.true_and]
    · rw [if_neg q, decide_eq_false q, Bool.false_and, if_neg (by decide)]
  rw [sm_congr step, sm_swap]
  refine sm_congr fun r hr => ?_
  exact rd_sm (fun s => lw a r s) hr
/-! ### a letter -/
/-- what a letter makes of charges: at rests p and s (the next one) -/
def lt2 (a : Nat → Int) (p s : Nat) (e : Int) (x : Nat) : Int := if x = p then min (a p) (a s - e) else if x = s then max (a p + e) (a s) else a x
theorem LS_pick (a : Nat → Int) {n p s : Nat} (hp : p < n) (hs : s < n) (ps : p ≠ s) : LS n a = lw a p p + lw a p s + lw a s p + lw a s s + sm n (fun x => if x = p ∨ x = s then 0 else lw a p x + lw a s x) + sm n (fun x => if x = p ∨ x = s then 0 else lw a x p + lw a x s) + sm n (fun x => if x = p ∨ x = s then 0 else sm n fun y => if y = p ∨ y = s then 0 else lw a x y) := by
  unfold LS
  rw [sm_pick2 _ hp hs ps, sm_pick2 (fun y => lw a p y) hp hs ps, sm_pick2 (fun y => lw a s y) hp hs ps]
  have e1 : sm n (fun x => if x = p ∨ x = s then 0 else lw a p x + lw a s x) = sm n (fun x => if x = p ∨ x = s then 0 else lw a p x) + sm n (fun x => if x = p ∨ x = s then 0 else lw a s x) := by
    rw [← sm_add]
    refine sm_congr fun x _ => ?_
    by_cases q : x = p ∨ x = s
    · simp [q]
    · simp [q]
  have e2 : sm n (fun x => if x = p ∨ x = s then 0 else sm n fun y => lw a x y) = sm n (fun x => if x = p ∨ x = s then 0 else lw a x p + lw a x s) + sm n (fun x => if x = p ∨ x = s then 0 else sm n fun y => if y = p ∨ y = s then 0 else lw a x y) := by
    rw [← sm_add]
    refine sm_congr fun x _ => ?_
    by_cases q : x = p ∨ x = s
    · simp [q]
    · simp only [q, if_false]
      exact sm_pick2 (fun y => lw a x y) hp hs ps
  rw [e1, e2]
  omega
theorem LS_step {n p s : Nat} (hp : p < n) (hs : s < n) (e : Int) (he : (s = p + 1 ∧ e = 0) ∨ (p = n - 1 ∧ s = 0 ∧ e = 1 ∧ 2 ≤ n)) (a : Nat → Int) : LS n (lt2 a p s e) = LS n a + (if a p ≤ a s - e then 0 else 1) := by
  have ps : p ≠ s := by omega
  have vp : lt2 a p s e p = min (a p) (a s - e) := if_pos rfl
  have vs : lt2 a p s e s = max (a p + e) (a s) := by unfold lt2; rw [if_neg (Ne.symm ps), if_pos rfl]
  have vo : ∀ x, x ≠ p → x ≠ s → lt2 a p s e x = a x := fun x h1 h2 => by unfold lt2; rw [if_neg h1, if_neg h2]
  rw [LS_pick (lt2 a p s e) hp hs ps, LS_pick a hp hs ps]
  have c1 : sm n (fun x => if x = p ∨ x = s then 0 else lw (lt2 a p s e) p x + lw (lt2 a p s e) s x) = sm n (fun x => if x = p ∨ x = s then 0 else lw a p x + lw a s x) := by
    refine sm_congr fun x hx => ?_
    by_cases q : x = p ∨ x = s
    · simp [q]
    · simp only [q, if_false]
      unfold lw
      rw [vp, vs, vo x (fun z => q (.inl z)) (fun z => q (.inr z))]
      rcases he with ⟨h1, h2⟩ | ⟨h1, h2, h3, h4⟩
      · subst h2
        by_cases u : p < x
        · rw [if_pos u, if_pos (show s < x by omega)]
          omega
        · rw [if_neg u, if_neg (show ¬ s < x by omega)]
          omega
      · subst h3
        rw [if_neg (show ¬ p < x by omega), if_pos (show s < x by omega)]
        omega
  have c2 : sm n (fun x => if x = p ∨ x = s then 0 else lw (lt2 a p s e) x p + lw (lt2 a p s e) x s) = sm n (fun x => if x = p ∨ x = s then 0 else lw a x p + lw a x s) := by
    refine sm_congr fun x hx => ?_
    by_cases q : x = p ∨ x = s
    · simp [q]
    · simp only [q, if_false]
      unfold lw
      rw [vp, vs, vo x (fun z => q (.inl z)) (fun z => q (.inr z))]
      rcases he with ⟨h1, h2⟩ | ⟨h1, h2, h3, h4⟩
      · subst h2
        by_cases u : x < p
        · rw [if_pos u, if_pos (show x < s by omega)]
          omega
        · rw [if_neg u, if_neg (show ¬ x < s by omega)]
          omega
      · subst h3
        rw [if_pos (show x < p by omega), if_neg (show ¬ x < s by omega)]
        omega
  have c3 : sm n (fun x => if x = p ∨ x = s then 0 else sm n fun y => if y = p ∨ y = s then 0 else lw (lt2 a p s e) x y) = sm n (fun x => if x = p ∨ x = s then 0 else sm n fun y => if y = p ∨ y = s then 0 else lw a x y) := by
    refine sm_congr fun x hx => ?_
    by_cases q : x = p ∨ x = s
    · simp [q]
    · simp only [q, if_false]
      refine sm_congr fun y hy => ?_
      by_cases q2 : y = p ∨ y = s
      · simp [q2]
      · simp only [q2, if_false]
        unfold lw
        rw [vo x (fun z => q (.inl z)) (fun z => q (.inr z)), vo y (fun z => q2 (.inl z)) (fun z => q2 (.inr z))]
  rw [c1, c2, c3]
  have c4 : lw (lt2 a p s e) p p + lw (lt2 a p s e) p s + lw (lt2 a p s e) s p + lw (lt2 a p s e) s s = lw a p p + lw a p s + lw a s p + lw a s s + (if a p ≤ a s - e then 0 else 1) := by
    unfold lw
    rw [vp, vs]
    rcases he with ⟨h1, h2⟩ | ⟨h1, h2, h3, h4⟩
    · subst h2
      rw [if_pos (show p < s by omega), if_neg (show ¬ s < p by omega), if_neg (show ¬ p < p by omega), if_neg (show ¬ s < s by omega)]
      split <;> omega
    · subst h3
      rw [if_neg (show ¬ p < s by omega), if_pos (show s < p by omega), if_neg (show ¬ p < p by omega), if_neg (show ¬ s < s by omega)]
      split <;> omega
  omega
end K1

namespace K1
open HM
/-- where a letter acts: the rest of the beads that move, the next rest, and 1 where it goes round -/
def lp (k q : Int) : Nat := (k - 1 - q).toNat
def lq (k q : Int) : Nat := if q = 0 then 0 else (k - q).toNat
def le1 (q : Int) : Int := if q = 0 then 1 else 0
theorem letter_fl {h : List Nat} (IH : IsHeap h) {k q : Int} (hk : 2 ≤ k) (q0 : 0 ≤ q) (q1 : q < k) {a : Nat → Int} (F : fl h k a) {g : Nat → Bool} (hg : ∀ c, g c = true ↔ (opn h c = true ∧ (dg h c - q) % k = 0)) : fl (grow h g) k (lt2 a (lp k q) (lq k q) (le1 q)) ∧ (grow h g = h ↔ a (lp k q) ≤ a (lq k q) - le1 q) := by
  have go : ∀ c, g c = true → opn h c = true := fun c z => ((hg c).mp z).1
  have mvg : ∀ c, g c = true ↔ (¬ inB h (bead h c + 1) ∧ (-(bead h c) - 1 - q) % k = 0) := fun c => by
    rw [hg c, opn_inB IH, dg_bead]
  have rest : ∀ x t : Int, 0 ≤ x → x < k → ((-(x + k * t) - 1 - q) % k = 0 ↔ x = k - 1 - q) := fun x t h0 h1 => by
    constructor
    · intro e
      obtain ⟨m, hm⟩ := Int.dvd_of_emod_eq_zero e
      have e2 : x + 1 + q = k * (-t - m) := by
        rw [Int.mul_sub, Int.mul_neg]
        omega
      have m1 : -t - m = 1 := by
        rcases Int.lt_or_le (-t - m) 1 with z | z
        · have := Int.mul_le_mul_of_nonneg_left (show -t - m ≤ 0 by omega) (show 0 ≤ k by omega)
          omega
        · rcases Int.lt_or_le 1 (-t - m) with z2 | z2
          · have := Int.mul_le_mul_of_nonneg_left (show 2 ≤ -t - m by omega) (show 0 ≤ k by omega)
            omega
          · omega
      rw [m1] at e2
      omega
    · intro e
      rw [e]
      refine Int.emod_eq_zero_of_dvd ⟨-t - 1, ?_⟩
      rw [Int.mul_sub, Int.mul_neg]
      omega
  have inG : ∀ z, inB (grow h g) z ↔ ((inB h z ∧ ¬ (¬ inB h (z + 1) ∧ (-z - 1 - q) % k = 0)) ∨ (inB h (z - 1) ∧ ¬ inB h z ∧ (-z - q) % k = 0)) := fun z => by
    constructor
    · rintro ⟨c, rfl⟩
      rw [bead_grow go]
      by_cases gc : g c = true
      · have m := (mvg c).mp gc
        refine .inr ?_
        rw [gc, show ((b2n true : Nat) : Int) = 1 from rfl, show bead h c + 1 - 1 = bead h c by omega, show -(bead h c + 1) - q = -(bead h c) - 1 - q by omega]
        exact ⟨⟨c, rfl⟩, m⟩
      · have gf : g c = false := by simpa using gc
        refine .inl ?_
        rw [gf, show ((b2n false : Nat) : Int) = 0 from rfl, Int.add_zero]
        exact ⟨⟨c, rfl⟩, fun z => gc ((mvg c).mpr z)⟩
    · rintro (⟨⟨c, hc⟩, n⟩ | ⟨⟨c, hc⟩, n, m⟩)
      · refine ⟨c, ?_⟩
        rw [bead_grow go]
        have gf : g c = false := by
          by_cases gc : g c = true
          · exact absurd (hc ▸ (mvg c).mp gc) n
          · simpa using gc
        rw [gf, hc]
        show _ = _ + (0 : Int)
        omega
      · refine ⟨c, ?_⟩
        have gt : g c = true := (mvg c).mpr (by
          rw [← hc, show z - 1 + 1 = z by omega, show -(z - 1) - 1 - q = -z - q by omega]
          exact ⟨n, m⟩)
        rw [bead_grow go, gt, ← hc]
        show _ = _ + (1 : Int)
        omega
  have lpk : lp k q < k.toNat := by unfold lp; omega
  have bq : ∀ x t : Int, 0 ≤ x → x < k → (inB h (x + k * t) ↔ t < a x.toNat) := fun x t h0 h1 => by
    obtain ⟨e1, e2⟩ := divmod (k := k) (z := x + k * t) (by omega) h0 h1 rfl
    rw [F, e1, e2]
  refine ⟨fun z => ?_, ?_⟩
  · have zz : z = z % k + k * (z / k) := (Int.emod_add_mul_ediv z k).symm
    have x0 := Int.emod_nonneg z (show k ≠ 0 by omega)
    have x1 := Int.emod_lt_of_pos z (show 0 < k by omega)
    revert zz x0 x1
    generalize z % k = x
    generalize z / k = t
    intro zz x0 x1
    subst zz
    rw [inG]
    have B0 := bq x t x0 x1
    have up : inB h (x + k * t + 1) ↔ (if x = k - 1 then t + 1 < a 0 else t < a (x + 1).toNat) := by
      by_cases e : x = k - 1
      · rw [if_pos e, show x + k * t + 1 = 0 + k * (t + 1) by rw [Int.mul_add]; omega, bq 0 (t + 1) (by omega) (by omega)]
        rfl
      · rw [if_neg e, show x + k * t + 1 = (x + 1) + k * t by omega, bq (x + 1) t (by omega) (by omega)]
    have dn : inB h (x + k * t - 1) ↔ (if x = 0 then t - 1 < a (k - 1).toNat else t < a (x - 1).toNat) := by
      by_cases e : x = 0
      · rw [if_pos e, show x + k * t - 1 = (k - 1) + k * (t - 1) by rw [Int.mul_sub]; omega, bq (k - 1) (t - 1) (by omega) (by omega)]
      · rw [if_neg e, show x + k * t - 1 = (x - 1) + k * t by omega, bq (x - 1) t (by omega) (by omega)]
    have r1 := rest x t x0 x1
    have r2 : (-(x + k * t) - q) % k = 0 ↔ x = (if q = 0 then 0 else k - q) := by
      by_cases e : x = 0
      · have := rest (k - 1) (t - 1) (by omega) (by omega)
        rw [show -(k - 1 + k * (t - 1)) - 1 - q = -(x + k * t) - q by rw [Int.mul_sub]; omega] at this
        rw [this]
        split <;> omega
      · have := rest (x - 1) t (by omega) (by omega)
        rw [show -(x - 1 + k * t) - 1 - q = -(x + k * t) - q by omega] at this
        rw [this]
        split <;> omega
    rw [B0, up, dn, r1, r2]
    unfold lt2 lp lq le1
    by_cases hq : q = 0
    · subst hq
      rw [if_pos rfl, if_pos rfl, if_pos rfl]
      by_cases xp : x = k - 1
      · subst xp
        rw [if_pos rfl, if_pos (show (k - 1).toNat = (k - 1 - 0).toNat by omega), if_neg (show ¬ k - 1 = 0 by omega), show (k - 1 - 0).toNat = (k - 1).toNat by omega]
        omega
      · by_cases xs : x = 0
        · subst xs
          rw [if_neg xp, if_pos rfl, if_neg (show ¬ (0 : Int).toNat = (k - 1 - 0).toNat by omega), if_pos (show (0 : Int).toNat = 0 by omega), show (k - 1 - 0).toNat = (k - 1).toNat by omega, show (0 : Int).toNat = 0 from rfl]
          omega
        · rw [if_neg xp, if_neg xs, if_neg (show ¬ x.toNat = (k - 1 - 0).toNat by omega), if_neg (show ¬ x.toNat = 0 by omega)]
          omega
    · rw [if_neg hq, if_neg hq, if_neg hq]
      by_cases xp : x = k - 1 - q
      · subst xp
        rw [if_pos rfl, if_neg (show ¬ k - 1 - q = k - 1 by omega), show (k - 1 - q + 1).toNat = (k - q).toNat by omega]
        omega
      · by_cases xs : x = k - q
        · subst xs
          rw [if_neg (show ¬ (k - q).toNat = (k - 1 - q).toNat by omega), if_pos rfl, if_neg (show ¬ k - q = 0 by omega), show (k - q - 1).toNat = (k - 1 - q).toNat by omega]
          omega
        · rw [if_neg (show ¬ x.toNat = (k - 1 - q).toNat by omega), if_neg (show ¬ x.toNat = (k - q).toNat by omega)]
          omega
  · -- idle
    have same : grow h g = h ↔ ∀ c, ¬ g c = true := by
      constructor
      · intro e c gc
        have := hAt_grow go c
        rw [e, gc] at this
        have : b2n true = 1 := rfl
        omega
      · intro n
        refine heap_ext (grow_heap IH go) IH fun c => ?_
        rw [hAt_grow go]
        have : g c = false := by simpa using n c
        rw [this]
        rfl
    rw [same]
    have nx : ∀ t : Int, inB h ((k - 1 - q) + k * t + 1) ↔ t + le1 q < a (lq k q) := fun t => by
      unfold lq le1
      by_cases hq : q = 0
      · subst hq
        rw [if_pos rfl, if_pos rfl, show k - 1 - 0 + k * t + 1 = 0 + k * (t + 1) by rw [Int.mul_add]; omega, bq 0 (t + 1) (by omega) (by omega)]
        rfl
      · rw [if_neg hq, if_neg hq, show k - 1 - q + k * t + 1 = (k - q) + k * t by omega, bq (k - q) t (by omega) (by omega), Int.add_zero]
    constructor
    · intro n
      rcases Int.lt_or_le (a (lq k q) - le1 q) (a (lp k q)) with z | z
      · exfalso
        obtain ⟨c, hc⟩ := (bq (k - 1 - q) (a (lp k q) - 1) (by omega) (by omega)).mpr (by unfold lp; omega)
        apply n c
        rw [mvg c, ← hc]
        refine ⟨fun i => ?_, (rest (k - 1 - q) (a (lp k q) - 1) (by omega) (by omega)).mpr rfl⟩
        have := (nx (a (lp k q) - 1)).mp i
        omega
      · exact z
    · intro le c gc
      obtain ⟨n, m⟩ := (mvg c).mp gc
      have zz : bead h c = bead h c % k + k * (bead h c / k) := (Int.emod_add_mul_ediv (bead h c) k).symm
      have x0 := Int.emod_nonneg (bead h c) (show k ≠ 0 by omega)
      have x1 := Int.emod_lt_of_pos (bead h c) (show 0 < k by omega)
      have e := (rest (bead h c % k) (bead h c / k) x0 x1).mp (by rw [← zz]; exact m)
      have b := (bq (bead h c % k) (bead h c / k) x0 x1).mp ⟨c, zz.symm⟩
      rw [e] at b zz
      apply n
      rw [zz, nx]
      unfold lp at le
      omega
/-- the letters of a core behind a letter -/
theorem letter_lts {h : List Nat} (IH : IsHeap h) {k q : Int} (hk : 2 ≤ k) (q0 : 0 ≤ q) (q1 : q < k) (C : coreB h k) {g : Nat → Bool} (hg : ∀ c, g c = true ↔ (opn h c = true ∧ (dg h c - q) % k = 0)) : coreB (grow h g) k ∧ lts (grow h g) k = lts h k + (if grow h g = h then 0 else 1) := by
  obtain ⟨a, F⟩ := fl_ex IH (by omega) C
  obtain ⟨F2, id⟩ := letter_fl IH hk q0 q1 F hg
  have G := grow_heap IH fun c z => ((hg c).mp z).1
  refine ⟨fl_core (by omega) F2, ?_⟩
  rw [lts_LS G (by omega) F2, lts_LS IH (by omega) F, LS_step (n := k.toNat) (p := lp k q) (s := lq k q) (by unfold lp; omega) (by unfold lq; split <;> omega) (le1 q) ?_ a]
  · by_cases z : grow h g = h
    · rw [if_pos z, if_pos (id.mp z)]
    · rw [if_neg z, if_neg (fun y => z (id.mpr y))]
  · unfold lp lq le1
    by_cases z : q = 0
    · rw [if_pos z, if_pos z]
      right
      omega
    · rw [if_neg z, if_neg z]
      left
      omega
/-! ### turned over -/
def rva (n : Nat) (a : Nat → Int) (x : Nat) : Int := -a (n - 1 - x)
/-! ### an order above all hooks -/
end K1

namespace K1
open HM
/-! ### the sum over all pairs, in any order -/
theorem sum_perm5 {l l' : List Int} (p : l.Perm l') : l.sum = l'.sum := by
  induction p with
  | nil => rfl
  | cons x _ ih => simp only [List.sum_cons, ih]
  | swap x y l =>
    simp only [List.sum_cons]
    omega
  | trans _ _ a b => exact a.trans b
def gs (k : Int) (l : List Int) : Int := (l.map fun x => (l.map fun y => max 0 ((x - y) / k)).sum).sum
theorem gs_perm (k : Int) {l l' : List Int} (p : l.Perm l') : gs k l = gs k l' := by
  unfold gs
  rw [sum_perm5 (p.map _)]
  congr 1
  refine List.map_congr_left fun x _ => ?_
  exact sum_perm5 (p.map _)
def fhA (k : Int) (a : Nat → Int) (n : Nat) : List Int := (List.range n).map fun r => k * a r + (r : Int)
theorem map_range_sum (g : Int → Int) (f : Nat → Int) (n : Nat) : (((List.range n).map f).map g).sum = sm n (fun i => g (f i)) := by
  rw [List.map_map, ← sm_sum]
  rfl
theorem gs_holes {k : Int} {n : Nat} (hn : (n : Int) = k) (a : Nat → Int) : gs k (fhA k a n) = LS n a := by
  unfold gs fhA LS
  rw [map_range_sum (fun x => (((List.range n).map fun r => k * a r + (r : Int)).map fun y => max 0 ((x - y) / k)).sum)]
  refine sm_congr fun r hr => ?_
  rw [map_range_sum]
  refine sm_congr fun s hs => ?_
  unfold lw
  have e : (k * a r + (r : Int) - (k * a s + (s : Int))) / k = a r - a s - (if r < s then 1 else 0) := by
    by_cases q : r < s
    · rw [if_pos q]
      exact (divmod (k := k) (x := k + (r : Int) - s) (by omega) (by omega) (by omega) (by rw [Int.mul_sub, Int.mul_sub]; omega)).1
    · rw [if_neg q]
      exact (divmod (k := k) (x := (r : Int) - s) (by omega) (by omega) (by omega) (by rw [Int.mul_sub, Int.mul_sub]; omega)).1
  rw [e]
/-! ### a core found again from its beads -/
theorem filt_hAt : ∀ (t : List Nat), t.Pairwise (fun a b => b ≤ a) → ∀ c, hAt (t.filter fun x => decide (0 < x)) c = t.getD c 0
  | [], _, c => by
    unfold hAt
    simp
  | x :: r, h, c => by
    rw [List.pairwise_cons] at h
    by_cases z : 0 < x
    · rw [List.filter_cons_of_pos (by simpa using z)]
      cases c with
      | zero => rfl
      | succ c =>
        unfold hAt
        rw [List.getD_cons_succ, List.getD_cons_succ]
        exact filt_hAt r h.2 c
    · rw [List.filter_cons_of_neg (by simpa using z)]
      have all0 : ∀ y ∈ r, y = 0 := fun y hy => by
        have := h.1 y hy
        omega
      have e : (r.filter fun x => decide (0 < x)) = [] := by
        rw [List.filter_eq_nil_iff]
        intro y hy
        rw [all0 y hy]
        decide
      rw [e]
      cases c with
      | zero =>
        rw [List.getD_cons_zero]
        show (0 : Nat) = x
        omega
      | succ c =>
        rw [List.getD_cons_succ]
        show (0 : Nat) = _
        rw [List.getD_eq_getElem?_getD]
        cases q : r[c]? with
        | none => rfl
        | some y => exact (all0 y (List.mem_of_getElem? q)).symm
theorem filt_heap {t : List Nat} (h : t.Pairwise (fun a b => b ≤ a)) : IsHeap (t.filter fun x => decide (0 < x)) := by
  refine ⟨fun c hc => ?_, fun c => ?_⟩
  · have := List.getElem_mem hc
    have e : hAt (t.filter fun x => decide (0 < x)) c = (t.filter fun x => decide (0 < x))[c] := by
      unfold hAt
      rw [List.getD_eq_getElem?_getD, List.getElem?_eq_getElem hc]
      rfl
    rw [e]
    exact of_decide_eq_true (List.mem_filter.mp this).2
  · rw [filt_hAt t h, filt_hAt t h, List.getD_eq_getElem?_getD, List.getD_eq_getElem?_getD]
    by_cases q : c + 1 < t.length
    · rw [List.getElem?_eq_getElem q, List.getElem?_eq_getElem (show c < t.length by omega)]
      exact List.pairwise_iff_getElem.mp h c (c + 1) (by omega) q (by omega)
    · rw [List.getElem?_eq_none (by omega)]
      exact Nat.zero_le _
/-- heights of beads, the greatest ahead -/
def hgt (s : List Int) : List Int := (List.range s.length).map fun (i : Nat) => s.getD i 0 + (i : Int) + 1
theorem fl_unique {h h' : List Nat} (IH : IsHeap h) (IH' : IsHeap h') {k : Int} {a : Nat → Int} (F : fl h k a) (F' : fl h' k a) : h = h' := by
  have same : ∀ z, inB h z ↔ inB h' z := fun z => (F z).trans (F' z).symm
  have key : ∀ n : Nat, ∀ c, c < n → bead h c = bead h' c := fun n => by
    induction n with
    | zero => exact fun c hc => absurd hc (Nat.not_lt_zero _)
    | succ n ih =>
      intro c hc
      by_cases e : c < n
      · exact ih c e
      · have e : c = n := by omega
        subst e
        have le : ∀ {u v : List Nat}, IsHeap u → IsHeap v → (∀ z, inB u z ↔ inB v z) → (∀ d, d < c → bead u d = bead v d) → bead u c ≤ bead v c := fun {u v} U V s i => by
          obtain ⟨d, hd⟩ := (s _).mp ⟨c, rfl⟩
          rcases Nat.lt_trichotomy d c with q | q | q
          · have := i d q
            have := bead_lt U q
            omega
          · rw [hd, q]
            exact Int.le_refl _
          · have := bead_lt V q
            omega
        have l1 := le IH IH' same ih
        have l2 := le IH' IH (fun z => (same z).symm) (fun d hd => (ih d hd).symm)
        omega
  refine heap_ext IH IH' fun c => ?_
  have := key (c + 1) c (by omega)
  unfold bead at this
  omega
end K1

namespace K1
open HM
/-! ### a letter taken away -/
def rmv (h : List Nat) (c : Nat) : Bool := decide (hAt h (c + 1) < hAt h c)
def shr (h : List Nat) (g : Nat → Bool) : List Nat := ((List.range h.length).map fun c => hAt h c - b2n (g c)).filter fun x => decide (0 < x)
theorem rmv_lt {h : List Nat} {c : Nat} (r : rmv h c = true) : c < h.length := by
  have := of_decide_eq_true r
  rcases Nat.lt_or_ge c h.length with q | q
  · exact q
  · rw [hAt_ge q] at this
    omega
theorem shr_pw {h : List Nat} (IH : IsHeap h) {g : Nat → Bool} (hg : ∀ c, g c = true → rmv h c = true) : ((List.range h.length).map fun c => hAt h c - b2n (g c)).Pairwise (fun a b => b ≤ a) := by
  refine List.pairwise_map.mpr (List.pairwise_lt_range.imp fun {c d} hcd => ?_)
  by_cases gc : g c = true
  · have r := of_decide_eq_true (hg c gc)
    have := IH.le (show c + 1 ≤ d by omega)
    have := b2n_le (g c)
    omega
  · have gf : g c = false := by simpa using gc
    rw [gf]
    have := IH.le (Nat.le_of_lt hcd)
    show hAt h d - b2n (g d) ≤ hAt h c - 0
    omega
theorem hAt_shr {h : List Nat} (IH : IsHeap h) {g : Nat → Bool} (hg : ∀ c, g c = true → rmv h c = true) (c : Nat) : hAt (shr h g) c = hAt h c - b2n (g c) := by
  unfold shr
  rw [filt_hAt _ (shr_pw IH hg), List.getD_eq_getElem?_getD, List.getElem?_map]
  by_cases q : c < h.length
  · rw [List.getElem?_range q]
    rfl
  · rw [List.getElem?_eq_none (by rw [List.length_range]; omega), hAt_ge (by omega)]
    show (0 : Nat) = 0 - _
    omega
theorem shr_heap {h : List Nat} (IH : IsHeap h) {g : Nat → Bool} (hg : ∀ c, g c = true → rmv h c = true) : IsHeap (shr h g) := filt_heap (shr_pw IH hg)
theorem shr_len (h : List Nat) (g : Nat → Bool) : (shr h g).length ≤ h.length := by
  have := List.length_filter_le (fun x => decide (0 < x)) ((List.range h.length).map fun c => hAt h c - b2n (g c))
  rw [List.length_map, List.length_range] at this
  exact this
theorem bead_shr {h : List Nat} (IH : IsHeap h) {g : Nat → Bool} (hg : ∀ c, g c = true → rmv h c = true) (c : Nat) : bead (shr h g) c = bead h c - (b2n (g c) : Int) := by
  unfold bead
  rw [hAt_shr IH hg]
  by_cases gc : g c = true
  · have := of_decide_eq_true (hg c gc)
    rw [gc]
    show ((hAt h c - 1 : Nat) : Int) - c - 1 = (hAt h c : Int) - c - 1 - (1 : Int)
    omega
  · have gf : g c = false := by simpa using gc
    rw [gf]
    show ((hAt h c - 0 : Nat) : Int) - c - 1 = (hAt h c : Int) - c - 1 - (0 : Int)
    omega
theorem rmv_inB {h : List Nat} (IH : IsHeap h) (c : Nat) : rmv h c = true ↔ ¬ inB h (bead h c - 1) := by
  unfold rmv
  rw [decide_eq_true_eq]
  constructor
  · rintro r ⟨d, hd⟩
    rcases Nat.lt_trichotomy d c with z | z | z
    · have := bead_lt IH z
      omega
    · subst z
      omega
    · have := IH.le (show c + 1 ≤ d by omega)
      unfold bead at hd
      omega
  · intro n
    rcases Nat.lt_or_ge (hAt h (c + 1)) (hAt h c) with q | q
    · exact q
    · exfalso
      have := IH.fall c
      exact n ⟨c + 1, by unfold bead; omega⟩
/-- what taking a letter away makes of charges -/
def lt3 (a : Nat → Int) (p s : Nat) (e : Int) (x : Nat) : Int := if x = p then max (a p) (a s - e) else if x = s then min (a p + e) (a s) else a x
theorem lower_fl {h : List Nat} (IH : IsHeap h) {k q : Int} (hk : 2 ≤ k) (q0 : 0 ≤ q) (q1 : q < k) {a : Nat → Int} (F : fl h k a) {g : Nat → Bool} (hg : ∀ c, g c = true ↔ (rmv h c = true ∧ (dg h c + 1 - q) % k = 0)) : fl (shr h g) k (lt3 a (lp k q) (lq k q) (le1 q)) ∧ ((∃ c, g c = true) ↔ a (lp k q) < a (lq k q) - le1 q) := by
  have go : ∀ c, g c = true → rmv h c = true := fun c z => ((hg c).mp z).1
  have mvg : ∀ c, g c = true ↔ (¬ inB h (bead h c - 1) ∧ (-(bead h c) - q) % k = 0) := fun c => by
    rw [hg c, rmv_inB IH, dg_bead, show -(bead h c) - 1 + 1 - q = -(bead h c) - q by omega]
  have rest : ∀ x t : Int, 0 ≤ x → x < k → ((-(x + k * t) - q) % k = 0 ↔ x = (if q = 0 then 0 else k - q)) := fun x t h0 h1 => by
    constructor
    · intro e
      obtain ⟨m, hm⟩ := Int.dvd_of_emod_eq_zero e
      have e2 : x + q = k * (-t - m) := by
        rw [Int.mul_sub, Int.mul_neg]
        omega
      have m1 : -t - m = 0 ∨ -t - m = 1 := by
        rcases Int.lt_or_le (-t - m) 0 with z | z
        · have := Int.mul_le_mul_of_nonneg_left (show -t - m ≤ -1 by omega) (show 0 ≤ k by omega)
          omega
        · rcases Int.lt_or_le 1 (-t - m) with z2 | z2
          · have := Int.mul_le_mul_of_nonneg_left (show 2 ≤ -t - m by omega) (show 0 ≤ k by omega)
            omega
          · omega
      rcases m1 with m1 | m1
      · rw [m1] at e2
        split <;> omega
      · rw [m1] at e2
        split <;> omega
    · intro e
      by_cases hq : q = 0
      · rw [if_pos hq] at e
        rw [e, hq]
        refine Int.emod_eq_zero_of_dvd ⟨-t, ?_⟩
        rw [Int.mul_neg]
        omega
      · rw [if_neg hq] at e
        rw [e]
        refine Int.emod_eq_zero_of_dvd ⟨-t - 1, ?_⟩
        rw [Int.mul_sub, Int.mul_neg]
        omega
  have inG : ∀ z, inB (shr h g) z ↔ ((inB h z ∧ ¬ (¬ inB h (z - 1) ∧ (-z - q) % k = 0)) ∨ (inB h (z + 1) ∧ ¬ inB h z ∧ (-z - 1 - q) % k = 0)) := fun z => by
    constructor
    · rintro ⟨c, rfl⟩
      rw [bead_shr IH go]
      by_cases gc : g c = true
      · have m := (mvg c).mp gc
        refine .inr ?_
        rw [gc, show ((b2n true : Nat) : Int) = 1 from rfl, show bead h c - 1 + 1 = bead h c by omega, show -(bead h c - 1) - 1 - q = -(bead h c) - q by omega]
        exact ⟨⟨c, rfl⟩, m⟩
      · have gf : g c = false := by simpa using gc
        refine .inl ?_
        rw [gf, show ((b2n false : Nat) : Int) = 0 from rfl, Int.sub_zero]
        exact ⟨⟨c, rfl⟩, fun z => gc ((mvg c).mpr z)⟩
    · rintro (⟨⟨c, hc⟩, n⟩ | ⟨⟨c, hc⟩, n, m⟩)
      · refine ⟨c, ?_⟩
        rw [bead_shr IH go]
        have gf : g c = false := by
          by_cases gc : g c = true
          · exact absurd (hc ▸ (mvg c).mp gc) n
          · simpa using gc
        rw [gf, hc]
        show _ = _ - (0 : Int)
        omega
      · refine ⟨c, ?_⟩
        have gt : g c = true := (mvg c).mpr (by
          rw [← hc, show z + 1 - 1 = z by omega, show -(z + 1) - q = -z - 1 - q by omega]
          exact ⟨n, m⟩)
        rw [bead_shr IH go, gt, ← hc]
        show _ = _ - (1 : Int)
        omega
  have bq : ∀ x t : Int, 0 ≤ x → x < k → (inB h (x + k * t) ↔ t < a x.toNat) := fun x t h0 h1 => by
    obtain ⟨e1, e2⟩ := divmod (k := k) (z := x + k * t) (by omega) h0 h1 rfl
    rw [F, e1, e2]
  refine ⟨fun z => ?_, ?_⟩
  · have zz : z = z % k + k * (z / k) := (Int.emod_add_mul_ediv z k).symm
    have x0 := Int.emod_nonneg z (show k ≠ 0 by omega)
    have x1 := Int.emod_lt_of_pos z (show 0 < k by omega)
    revert zz x0 x1
    generalize z % k = x
    generalize z / k = t
    intro zz x0 x1
    subst zz
    rw [inG]
    have B0 := bq x t x0 x1
    have up : inB h (x + k * t + 1) ↔ (if x = k - 1 then t + 1 < a 0 else t < a (x + 1).toNat) := by
      by_cases e : x = k - 1
      · rw [if_pos e, show x + k * t + 1 = 0 + k * (t + 1) by rw [Int.mul_add]; omega, bq 0 (t + 1) (by omega) (by omega)]
        rfl
      · rw [if_neg e, show x + k * t + 1 = (x + 1) + k * t by omega, bq (x + 1) t (by omega) (by omega)]
    have dn : inB h (x + k * t - 1) ↔ (if x = 0 then t - 1 < a (k - 1).toNat else t < a (x - 1).toNat) := by
      by_cases e : x = 0
      · rw [if_pos e, show x + k * t - 1 = (k - 1) + k * (t - 1) by rw [Int.mul_sub]; omega, bq (k - 1) (t - 1) (by omega) (by omega)]
      · rw [if_neg e, show x + k * t - 1 = (x - 1) + k * t by omega, bq (x - 1) t (by omega) (by omega)]
    have r2 := rest x t x0 x1
    have r1 : (-(x + k * t) - 1 - q) % k = 0 ↔ x = k - 1 - q := by
      by_cases e : x = k - 1
      · have := rest 0 (t + 1) (by omega) (by omega)
        rw [show -(0 + k * (t + 1)) - q = -(x + k * t) - 1 - q by rw [Int.mul_add]; omega] at this
        rw [this]
        split <;> omega
      · have := rest (x + 1) t (by omega) (by omega)
        rw [show -(x + 1 + k * t) - q = -(x + k * t) - 1 - q by omega] at this
        rw [this]
        split <;> omega
    rw [B0, up, dn, r1, r2]
    unfold lt3 lp lq le1
    by_cases hq : q = 0
    · subst hq
      rw [if_pos rfl, if_pos rfl, if_pos rfl]
      by_cases xp : x = k - 1
      · subst xp
        rw [if_pos rfl, if_pos (show (k - 1).toNat = (k - 1 - 0).toNat by omega), if_neg (show ¬ k - 1 = 0 by omega), show (k - 1 - 0).toNat = (k - 1).toNat by omega]
        omega
      · by_cases xs : x = 0
        · subst xs
          rw [if_neg xp, if_pos rfl, if_neg (show ¬ (0 : Int).toNat = (k - 1 - 0).toNat by omega), if_pos (show (0 : Int).toNat = 0 by omega), show (k - 1 - 0).toNat = (k - 1).toNat by omega, show (0 : Int).toNat = 0 from rfl]
          omega
        · rw [if_neg xp, if_neg xs, if_neg (show ¬ x.toNat = (k - 1 - 0).toNat by omega), if_neg (show ¬ x.toNat = 0 by omega)]
          omega
    · rw [if_neg hq, if_neg hq, if_neg hq]
      by_cases xp : x = k - 1 - q
      · subst xp
        rw [if_pos rfl, if_neg (show ¬ k - 1 - q = k - 1 by omega), show (k - 1 - q + 1).toNat = (k - q).toNat by omega]
        omega
      · by_cases xs : x = k - q
        · subst xs
          rw [if_neg (show ¬ (k - q).toNat = (k - 1 - q).toNat by omega), if_pos rfl, if_neg (show ¬ k - q = 0 by omega), show (k - q - 1).toNat = (k - 1 - q).toNat by omega]
          omega
        · rw [if_neg (show ¬ x.toNat = (k - 1 - q).toNat by omega), if_neg (show ¬ x.toNat = (k - q).toNat by omega)]
          omega
  · have x0 : 0 ≤ (if q = 0 then 0 else k - q) ∧ (if q = 0 then 0 else k - q) < k := by split <;> omega
    have pv : ∀ t : Int, inB h ((if q = 0 then 0 else k - q) + k * t - 1) ↔ t - le1 q < a (lp k q) := fun t => by
      unfold lp le1
      by_cases hq : q = 0
      · subst hq
        rw [if_pos rfl, if_pos rfl, show 0 + k * t - 1 = (k - 1) + k * (t - 1) by rw [Int.mul_sub]; omega, bq (k - 1) (t - 1) (by omega) (by omega), show (k - 1 - 0).toNat = (k - 1).toNat by omega]
      · rw [if_neg hq, if_neg hq, show k - q + k * t - 1 = (k - 1 - q) + k * t by omega, bq (k - 1 - q) t (by omega) (by omega), Int.sub_zero]
    have qe : (if q = 0 then 0 else k - q).toNat = lq k q := by
      unfold lq
      split <;> rfl
    constructor
    · rintro ⟨c, gc⟩
      obtain ⟨n, m⟩ := (mvg c).mp gc
      have zz : bead h c = bead h c % k + k * (bead h c / k) := (Int.emod_add_mul_ediv (bead h c) k).symm
      have y0 := Int.emod_nonneg (bead h c) (show k ≠ 0 by omega)
      have y1 := Int.emod_lt_of_pos (bead h c) (show 0 < k by omega)
      have e := (rest (bead h c % k) (bead h c / k) y0 y1).mp (by rw [← zz]; exact m)
      have b := (bq (bead h c % k) (bead h c / k) y0 y1).mp ⟨c, zz.symm⟩
      rw [e] at zz
      rw [e, qe] at b
      rw [zz, pv] at n
      omega
    · intro lt
      have b := (bq (if q = 0 then 0 else k - q) (a (lq k q) - 1) x0.1 x0.2).mpr (by rw [qe]; omega)
      obtain ⟨c, hc⟩ := b
      refine ⟨c, (mvg c).mpr ?_⟩
      rw [← hc]
      refine ⟨fun i => ?_, (rest _ (a (lq k q) - 1) x0.1 x0.2).mpr rfl⟩
      have := (pv (a (lq k q) - 1)).mp i
      omega
/-- a letter that can be taken away comes back -/
theorem lower_back {h : List Nat} (IH : IsHeap h) {k q : Int} (hk : 2 ≤ k) (q0 : 0 ≤ q) (q1 : q < k) (C : coreB h k) {g : Nat → Bool} (hg : ∀ c, g c = true ↔ (rmv h c = true ∧ (dg h c + 1 - q) % k = 0)) (ex : ∃ c, g c = true) {g2 : Nat → Bool} (hg2 : ∀ c, g2 c = true ↔ (opn (shr h g) c = true ∧ (dg (shr h g) c - q) % k = 0)) :
    coreB (shr h g) k ∧ grow (shr h g) g2 = h ∧ shr h g ≠ h ∧ lts h k = lts (shr h g) k + 1 := by
  obtain ⟨a, F⟩ := fl_ex IH (by omega) C
  obtain ⟨F2, iff⟩ := lower_fl IH hk q0 q1 F hg
  have lt := iff.mp ex
  have S := shr_heap IH fun c z => ((hg c).mp z).1
  obtain ⟨F3, id⟩ := letter_fl S hk q0 q1 F2 hg2
  have pq : lp k q ≠ lq k q := by
    unfold lp lq
    split <;> omega
  have vp : lt3 a (lp k q) (lq k q) (le1 q) (lp k q) = a (lq k q) - le1 q := by
    unfold lt3
    rw [if_pos rfl]
    omega
  have vs : lt3 a (lp k q) (lq k q) (le1 q) (lq k q) = a (lp k q) + le1 q := by
    unfold lt3
    rw [if_neg (Ne.symm pq), if_pos rfl]
    omega
  have back : ∀ x, lt2 (lt3 a (lp k q) (lq k q) (le1 q)) (lp k q) (lq k q) (le1 q) x = a x := fun x => by
    have e0 : lt2 (lt3 a (lp k q) (lq k q) (le1 q)) (lp k q) (lq k q) (le1 q) x = if x = lp k q then min (lt3 a (lp k q) (lq k q) (le1 q) (lp k q)) (lt3 a (lp k q) (lq k q) (le1 q) (lq k q) - le1 q) else if x = lq k q then max (lt3 a (lp k q) (lq k q) (le1 q) (lp k q) + le1 q) (lt3 a (lp k q) (lq k q) (le1 q) (lq k q)) else lt3 a (lp k q) (lq k q) (le1 q) x := rfl
    rw [e0, vp, vs]
    by_cases h1 : x = lp k q
    · rw [if_pos h1, h1]
      omega
    · rw [if_neg h1]
      by_cases h2 : x = lq k q
      · rw [if_pos h2, h2]
        omega
      · rw [if_neg h2]
        unfold lt3
        rw [if_neg h1, if_neg h2]
  have e : grow (shr h g) g2 = h := by
    refine fl_unique (grow_heap S fun c z => ((hg2 c).mp z).1) IH (k := k) (a := a) ?_ F
    intro z
    rw [F3 z, back]
  have C2 := fl_core (show 1 ≤ k by omega) F2
  have ne : shr h g ≠ h := fun z => by
    obtain ⟨c, gc⟩ := ex
    have h1 := hAt_shr IH (fun c z => ((hg c).mp z).1) c
    have h2 := of_decide_eq_true ((hg c).mp gc).1
    rw [z, gc] at h1
    have : b2n true = 1 := rfl
    omega
  obtain ⟨_, L⟩ := letter_lts S hk q0 q1 C2 hg2
  rw [e] at L
  rw [if_neg (fun z => ne z.symm)] at L
  exact ⟨C2, e, ne, L⟩
/-- a heap that is not empty has a letter that can be taken away -/
theorem some_tip {h : List Nat} (IH : IsHeap h) (ne : h ≠ []) : ∃ c, c < h.length ∧ rmv h c = true := by
  have l : 1 ≤ h.length := List.length_pos_iff.mpr ne
  refine ⟨h.length - 1, by omega, decide_eq_true ?_⟩
  rw [hAt_ge (show h.length ≤ h.length - 1 + 1 by omega)]
  exact IH.pos _ (by omega)
end K1

set_option exponentiation.threshold 400
namespace K1
open PySem PySem.Spec PyProof.Rows L2 Evl HM LX ZW ZM MP
theorem rs_ok {H : Hp} {xs : List V} {rs : List (Int × Int)} {ps : List Int} (hR : RingsAt H 60 xs rs) (hlen : ps.length = xs.length) : RsOk rs ps.length := fun j hj => by
  obtain ⟨y, hy⟩ : ∃ y, xs[j]? = some y := ⟨xs[j]'(by omega), List.getElem?_eq_getElem (by omega)⟩
  obtain ⟨_, _, _, b1, _, b2, b3⟩ := rings_nth4 hR hy
  exact ⟨by omega, by omega⟩
/-- what surely is a class of a chain -/
structure ClsAt (H : Hp) (c x : Addr) (xs : List V) (rs : List (Int × Int)) (ps : List Int) (tot : Int) : Prop where
  hc : H c = some (.tup xs)
  hR : RingsAt H 60 xs rs
  l1 : 1 ≤ xs.length
  l2 : xs.length ≤ 12
  hx : PlacesT H x ps
  len : ps.length = xs.length
  pl : PlOk rs ps
  ht : tot.natAbs < 10 ^ 58
theorem ClsAt.ex {H H' : Hp} {c x : Addr} {xs : List V} {rs : List (Int × Int)} {ps : List Int} {tot : Int} (h : ClsAt H c x xs rs ps tot) (e : Ex H H') : ClsAt H' c x xs rs ps tot :=
  ⟨e _ _ h.hc, rings_ex4 e h.hR, h.l1, h.l2, e _ _ h.hx, h.len, h.pl, h.ht⟩
theorem ClsAt.ok {H : Hp} {c x : Addr} {xs : List V} {rs : List (Int × Int)} {ps : List Int} {tot : Int} (h : ClsAt H c x xs rs ps tot) : RsOk rs ps.length := rs_ok h.hR h.len
section
variable {P : Program} {w : World} {K : PySem.W.Frag} {mg : Str → Option Value} {base : Heap}
end
end K1

/-! dicts of a row of ints from low on: mathematics -/
namespace DK
open PySem PySem.Spec PyProof.Rows L2
def kvs : Int → List Int → List (Key × V)
  | _, [] => []
  | low, v :: vs => (.inl low, .int v) :: kvs (low + 1) vs
theorem kvs_len : ∀ (low : Int) (vs : List Int), (kvs low vs).length = vs.length
  | _, [] => rfl
  | low, v :: vs => congrArg (· + 1) (kvs_len (low + 1) vs)
theorem inl_ne {a b : Int} (h : a ≠ b) : ¬ (Sum.inl a : Key) = Sum.inl b := fun z => h (Sum.inl.inj z)
theorem kvs_high : ∀ (low : Int) (vs : List Int) {j : Int}, low + vs.length ≤ j → valV (kvs low vs) (.inl j) = none
  | _, [], _, _ => rfl
  | low, v :: vs, j, h => by
    show valV ((.inl low, .int v) :: kvs (low + 1) vs) (.inl j) = none
    rw [List.length_cons] at h
    rw [valV_neg (inl_ne (by omega)), kvs_high (low + 1) vs (by omega)]
theorem kvs_get : ∀ (low : Int) (vs : List Int) {k : Nat}, k < vs.length → valV (kvs low vs) (.inl (low + k)) = some (.int (vs.getD k 0))
  | _, [], _, h => absurd h (Nat.not_lt_zero _)
  | low, v :: vs, 0, _ => by
    show valV ((.inl low, .int v) :: kvs (low + 1) vs) (.inl (low + ((0 : Nat) : Int))) = _
    rw [show low + ((0 : Nat) : Int) = low by omega, valV_pos rfl]
    rfl
  | low, v :: vs, k + 1, h => by
    show valV ((.inl low, .int v) :: kvs (low + 1) vs) (.inl (low + ((k + 1 : Nat) : Int))) = _
    rw [valV_neg (inl_ne (by omega)), show low + ((k + 1 : Nat) : Int) = low + 1 + k by omega, kvs_get (low + 1) vs (Nat.lt_of_succ_lt_succ h)]
    rfl
theorem kvs_at : ∀ (low : Int) (vs : List Int) {k : Nat}, k < vs.length → (kvs low vs)[k]? = some (.inl (low + k), .int (vs.getD k 0))
  | _, [], _, h => absurd h (Nat.not_lt_zero _)
  | low, v :: vs, 0, _ => by
    show some ((Sum.inl low : Key), V.int v) = _
    rw [show low + ((0 : Nat) : Int) = low by omega]
    rfl
  | low, v :: vs, k + 1, h => by
    show (kvs (low + 1) vs)[k]? = _
    rw [kvs_at (low + 1) vs (Nat.lt_of_succ_lt_succ h), show low + ((k + 1 : Nat) : Int) = low + 1 + k by omega]
    rfl
theorem kvs_id : ∀ (low : Int) (vs : List Int) {j : Int} (y : V), j < low → (kvs low vs).map (fun kv => if kv.1 = .inl j then (kv.1, y) else kv) = kvs low vs
  | _, [], _, _, _ => rfl
  | low, v :: vs, j, y, h => by
    show (if (Sum.inl low : Key) = .inl j then ((Sum.inl low : Key), y) else (.inl low, .int v)) :: (kvs (low + 1) vs).map _ = _
    rw [if_neg (inl_ne (by omega)), kvs_id (low + 1) vs y (by omega)]
    rfl
theorem kvs_map : ∀ (low : Int) (vs : List Int) {k : Nat} (y : Int), k < vs.length → (kvs low vs).map (fun kv => if kv.1 = .inl (low + k) then (kv.1, V.int y) else kv) = kvs low (vs.set k y)
  | _, [], _, _, h => absurd h (Nat.not_lt_zero _)
  | low, v :: vs, 0, y, _ => by
    rw [show low + ((0 : Nat) : Int) = low by omega]
    show (if (Sum.inl low : Key) = .inl low then ((Sum.inl low : Key), V.int y) else (.inl low, .int v)) :: (kvs (low + 1) vs).map _ = _
    rw [if_pos rfl, kvs_id (low + 1) vs _ (by omega)]
    rfl
  | low, v :: vs, k + 1, y, h => by
    rw [show low + ((k + 1 : Nat) : Int) = low + 1 + k by omega]
    show (if (Sum.inl low : Key) = .inl (low + 1 + k) then ((Sum.inl low : Key), V.int y) else (.inl low, .int v)) :: (kvs (low + 1) vs).map _ = _
    rw [if_neg (inl_ne (by omega)), kvs_map (low + 1) vs y (Nat.lt_of_succ_lt_succ h)]
    rfl
theorem kvs_put {low : Int} {vs : List Int} {k : Nat} (y : Int) (h : k < vs.length) : putK (kvs low vs) (.inl (low + k)) (.int y) = kvs low (vs.set k y) := by
  unfold putK
  rw [if_pos (by rw [valV_any, kvs_get low vs h]; rfl), kvs_map low vs y h]
theorem kvs_snoc : ∀ (low : Int) (vs : List Int) (v : Int), kvs low (vs ++ [v]) = kvs low vs ++ [(.inl (low + vs.length), .int v)]
  | low, [], v => by
    show [((Sum.inl low : Key), V.int v)] = [(Sum.inl (low + ((0 : Nat) : Int)), V.int v)]
    rw [show low + ((0 : Nat) : Int) = low by omega]
  | low, u :: vs, v => by
    show (.inl low, .int u) :: kvs (low + 1) (vs ++ [v]) = (.inl low, .int u) :: (kvs (low + 1) vs ++ [(.inl (low + ((vs.length + 1 : Nat) : Int)), .int v)])
    rw [kvs_snoc (low + 1) vs v, show low + ((vs.length + 1 : Nat) : Int) = low + 1 + vs.length by omega]
theorem kvs_merge : ∀ (us : List Int) (low : Int) (vs : List Int), mergeK (kvs low vs) (kvs (low + vs.length) us) = kvs low (vs ++ us)
  | [], low, vs => by rw [List.append_nil]; rfl
  | u :: us, low, vs => by
    show mergeK (putK (kvs low vs) (.inl (low + vs.length)) (.int u)) (kvs (low + vs.length + 1) us) = _
    rw [putK_new _ (kvs_high low vs (Int.le_refl _)), ← kvs_snoc]
    have := kvs_merge us low (vs ++ [u])
    rw [List.length_append, List.length_singleton, show low + ((vs.length + 1 : Nat) : Int) = low + vs.length + 1 by omega, List.append_assoc] at this
    exact this
theorem kvs_all (low : Int) (us : List Int) : mergeK [] (kvs low us) = kvs low us := by
  have := kvs_merge us low []
  rw [show low + (([] : List Int).length : Int) = low by show low + ((0 : Nat) : Int) = low; omega] at this
  exact this
end DK

set_option exponentiation.threshold 400
namespace K1
open PySem PySem.Spec PyProof.Rows L2 Evl HM LX ZW ZM MP DK
def TupKV (H : Hp) (p : Addr) (kv : Key × V) : Prop := H p = some (.tup [kV kv.1, kv.2])
theorem TupKV.ex {H H' : Hp} {p : Addr} {kv : Key × V} (e : Ex H H') (h : TupKV H p kv) : TupKV H' p kv := e _ _ h
theorem TupKV.updL {H : Hp} {p : Addr} {kv : Key × V} {D : Addr} {ys zs : List V} (hD : H D = some (.lst ys)) (h : TupKV H p kv) : TupKV (upd H D (.lst zs)) p kv := by
  unfold TupKV
  rw [upd_ne (ne_of h hD (by intro z; cases z))]
  exact h
/-- the list of the pairs that a dict is made of -/
def Prs (D : Addr) (H : Hp) (low : Int) (vs : List Int) (H' : Hp) : Prop := ∃ as : List Addr, H' D = some (.lst (as.map V.ref)) ∧ Paired (TupKV H') as (kvs low vs) ∧ Ex H H'
theorem Prs.start {D : Addr} {H : Hp} {low : Int} (hD : H D = none) : Prs D H low [] (upd H D (.lst [])) := ⟨[], upd_same, .nil, Ex.new hD⟩
theorem Prs.put {D : Addr} {H H' : Hp} {low : Int} {vs : List Int} {v : Int} (h : Prs D H low vs H') (hD : H D = none) (hl : vs.length < 1000) {t : Addr} (ht : H' t = none) :
    ∃ acc, (upd H' t (.tup [V.int (low + vs.length), V.int v])) D = some (.lst acc) ∧ acc.length < sizeLine ∧ Prs D H low (vs ++ [v]) (upd (upd H' t (.tup [V.int (low + vs.length), V.int v])) D (.lst (acc ++ [V.ref t]))) := by
  obtain ⟨as, w1, w2, w3⟩ := h
  have eT := Ex.new (o := .tup [V.int (low + vs.length), V.int v]) ht
  have w1' := eT _ _ w1
  have tD : t ≠ D := fun z => by
    rw [z, w1] at ht
    cases ht
  have al := paired_len w2
  rw [kvs_len] at al
  refine ⟨_, w1', ?_, as ++ [t], ?_, ?_, Ex.mut (w3.trans eT) hD⟩
  · rw [List.length_map]
    exact small1000 (by omega)
  · rw [upd_same, List.map_append]
    rfl
  · rw [kvs_snoc]
    refine paired_snoc ?_ (paired_imp (fun _ _ z => TupKV.updL w1' (TupKV.ex eT z)) w2)
    show upd _ D _ t = some (.tup [V.int (low + vs.length), V.int v])
    rw [upd_ne tD]
    exact upd_same
section
variable {P : Program} {w : World} {K : PySem.W.Frag} {mg : Str → Option Value} {base : Heap}
def spLMap : Sp := fun vs H Q _ => ∃ c x xs rs ps, ∃ tot first last : Int, vs = [.ref c, .int tot, .ref x, .int first, .int last] ∧ ClsAt H c x xs rs ps tot ∧ first ≤ last ∧ last ≤ first + 199 ∧ ∀ d H', Ex H H' → H' d = some (.dK (kvs first (win (fm rs ps tot) first (last - first + 1).toNat))) → Q (.ref d) H'
theorem ok_lmap (T : Txt K mg) {f : Addr} {fd : FuncData} (D : DefAt K mg "_law_map" sLMap ["_law_chain", "_law_total", "_law_x", "_law_first", "_law_last"] f fd) : FnOk P w K mg base CX0 1 f fd ["_law_chain", "_law_total", "_law_x", "_law_first", "_law_last"] spLMap := by
  refine D.F.ok scLMap (fun vs H Q E h => ?_) (fun cdv A outer s₀ H vs Q E hr h => ?_)
  · obtain ⟨c, x, xs, rs, ps, tot, first, last, rfl, _⟩ := h
    rfl
  · obtain ⟨c, x, xs, rs, ps, tot, first, last, rfl, C, b1, b2, q⟩ := h
    have hu1 := Nat.lt_of_le_of_lt (Nat.add_le_add_left (show 1 ≤ 64 by decide) _) hr.units
    refine ⟨_, pss_cons (ps_set (i := 5) scLMap.nd rfl (.inr rfl) (pe_callB call_len_seq (by rfl) T.z_len PySem.boot_len (pa_cons (pv 0) pa_nil)))
      (pss_cons (ps_set (i := 7) scLMap.nd rfl (.inr rfl) (pe_callTy (call_dictP rfl) (by rfl) T.z_dict (by decide +kernel) (pa_cons (pe_lc (own := [("_law_i", 6)]) (g := gName 6) (tt := tYes) rfl scLMap.nd (LR.pi_range2L (by rfl) T.z_range (pa_cons (pe_op op_sub (pv 3) (pv 5)) (pa_cons (pe_op op_add (pe_op op_add (pv 4) (pv 5)) pe_int) pa_nil)))
        (blkOk_by (N := nLMap) (sc := defScope sLMap) (by decide +kernel)) (fun _ _ _ _ _ => (pg_name (i := 6) scLMap.nd rfl (.inl rfl))) (fun _ _ _ _ _ => pts_nil)
        (fun _ _ _ _ _ => (pe_tup (pa_cons (pv 6) (pa_cons (pe_op op_sub (pe_op op_add (pv 6) (pv 1)) (pv 5)) pa_nil))))) pa_nil)))
      (pss_cons (ps_for PassesOwn.never rfl (pi_range3 (by rfl) T.z_range (pa_cons (pe_op op_sub (pv 5) pe_int) (pa_cons (pe_un un_neg pe_int) (pa_cons (pe_un un_neg pe_int) pa_nil)))) (pg_name (i := 8) scLMap.nd rfl (.inl rfl))
        (pss_cons (ps_asg (pe_ix ix_tup (pv 0) (pv 8) (fun _ _ => rfl)) (pg_tup (by rfl) (pgs_cons (pg_name (i := 9) scLMap.nd rfl (.inl rfl)) (pgs_cons (pg_name (i := 10) scLMap.nd rfl (.inl rfl)) pgs_nil))))
      (pss_one (ps_for PassesOwn.never rfl (LR.pi_range2L (by rfl) T.z_range (pa_cons (pe_op op_sub (pv 3) (pv 5)) (pa_cons (pe_op op_add (pv 4) (pv 5)) pa_nil))) (pg_name (i := 6) scLMap.nd rfl (.inl rfl))
        (pss_one (ps_if (PW.pt (pw_and (pt_cmpR op_eq (pe_op op_mod (pe_op op_add (pe_op op_mul (pv 6) (pv 10)) (pe_ix ix_tup (pv 2) (pv 8) (fun _ _ => rfl))) (pv 9)) pe_int (nomark _))
          (pw_and1 (pt_cmpR op_lt (pe_dget hu1 (pv 7) (pv 6) (fun _ _ => rfl)) (pe_dget hu1 (pv 7) (pe_op op_add (pv 6) pe_int) (fun _ _ => rfl)) (nomark _))))) (pss_one (ps_asg (pe_tup (pa_cons (pe_dget hu1 (pv 7) (pe_op op_add (pv 6) pe_int) (fun _ _ => rfl)) (pa_cons (pe_dget hu1 (pv 7) (pv 6) (fun _ _ => rfl)) pa_nil))) (pg_tup (by rfl) (pgs_cons (pg_sub (pv 7) (pv 6) (set_dict hu1)) (pgs_cons (pg_sub (pv 7) (pe_op op_add (pv 6) pe_int) (set_dict hu1)) pgs_nil))))) pss_nil))))))
      (pss_one (ps_ret (pe_callTy (call_dictP rfl) (by rfl) T.z_dict (by decide +kernel) (pa_cons (pe_lc (own := [("_law_i", 6)]) (g := gName 6) (tt := tYes) rfl scLMap.nd (LR.pi_range2L (by rfl) T.z_range (pa_cons (pv 3) (pa_cons (pe_op op_add (pv 4) pe_int) pa_nil)))
        (blkOk_by (N := nLMap) (sc := defScope sLMap) (by decide +kernel)) (fun _ _ _ _ _ => (pg_name (i := 6) scLMap.nd rfl (.inl rfl))) (fun _ _ _ _ _ => pts_nil)
        (fun _ _ _ _ _ => (pe_tup (pa_cons (pv 6) (pa_cons (pe_dget hu1 (pv 7) (pv 6) (fun _ _ => rfl)) pa_nil))))) pa_nil)))))), ?_⟩
    have hL1 := C.l1
    have hL := C.l2
    have hlen := C.len
    have ok := C.ok
    refine ⟨_, rfl, c, _, rfl, .inr (SqT.of C.hc), ?_⟩
    obtain ⟨low, hlow⟩ : ∃ low, low = first - (xs.length : Int) := ⟨_, rfl⟩
    obtain ⟨N, hN⟩ : ∃ N : Nat, N = (last + (xs.length : Int) + 1 - low).toNat := ⟨_, rfl⟩
    refine ⟨_, rfl, _, rfl, _, _, rfl, rfl, _, rfl, _, rfl, _, _, rfl, rfl, _, _, rfl, rfl, _, _, rfl, fun D1 hD1 => ?_⟩
    rw [← hlow, ← hN]
    refine lc_range (fun i H' => Prs D1 H low (win (fun y => y + (tot - (ps.length : Int))) low i) H') (Prs.start hD1) (fun i H' hi hp => ?_) (fun H1 hp => ?_)
    · refine ⟨rfl, ?_⟩
      dsimp only [tYes]
      rw [if_pos rfl]
      refine ⟨_, rfl, _, rfl, _, rfl, _, _, rfl, rfl, _, rfl, _, _, rfl, rfl, (show 2 ≤ sizeLine by decide), fun t ht => ?_⟩
      have := hp.put hD1 (v := low + i + (tot - (ps.length : Int))) (by rw [win_len]; omega) ht
      rw [win_len] at this
      dsimp only
      rw [show low + (i : Int) + tot - (xs.length : Int) = low + i + (tot - (ps.length : Int)) by omega, win_snoc]
      exact this
    · obtain ⟨as, w1, w2, e1⟩ := hp
      refine ⟨D1, as, kvs low _, rfl, SqL.of w1, paired_imp (fun _ _ z => SqT.of z) w2, fun d hd => ?_⟩
      rw [kvs_all]
      have hd0 : H d = none := by
        cases z : H d with
        | none => rfl
        | some o =>
          rw [e1 _ _ z] at hd
          cases hd
      have e2 := e1.trans (Ex.new (o := .dK (kvs low (win (fun y => y + (tot - (ps.length : Int))) low N))) hd)
      have hd2 : (upd H1 d (.dK (kvs low (win (fun y => y + (tot - (ps.length : Int))) low N)))) d = some (.dK (kvs low (win (fun y => y + (tot - (ps.length : Int))) low N))) := upd_same
      generalize upd H1 d (.dK (kvs low (win (fun y => y + (tot - (ps.length : Int))) low N))) = H2 at e2 hd2 ⊢
      refine ⟨_, rfl, _, _, rfl, rfl, 1, rfl, 1, rfl, _, _, _, _, rfl, RgC.neg (by omega) (by omega) (by omega) (by omega), ?_⟩
      refine for_rangeC (fun i σ' H' => ∃ (y6 y8 y9 y10 : Option V) (vs : List Int), σ' = [some (.ref c), some (.int tot), some (.ref x), some (.int first), some (.int last), some (.int (xs.length : Int)), y6, some (.ref d), y8, y9, y10] ∧ H' d = some (.dK (kvs low vs)) ∧
        Near vs (pmap (mls rs ps i (ps.length - i)) fun y => y + (tot - (ps.length : Int))) low N i ∧ Ex H H') ⟨none, none, none, none, _, rfl, hd2, near_win _ _ _, e2⟩ (fun i σ' H3 hi hp => ?_) (fun σ' H3 hp => ?_)
      · obtain ⟨y6, y8, y9, y10, vs, rfl, v1, v2, v3⟩ := hp
        have hi' : i < xs.length := by omega
        have hidx : (xs.length : Int) - 1 + (i : Nat) * (-1) = ((xs.length - 1 - i : Nat) : Int) := by omega
        rw [hidx]
        obtain ⟨y, hy⟩ : ∃ y, xs[xs.length - 1 - i]? = some y := ⟨xs[xs.length - 1 - i]'(by omega), List.getElem?_eq_getElem (by omega)⟩
        have C3 := C.ex v3
        have ry := rings_nth4 C3.hR hy
        obtain ⟨t, rfl, ht, r1, r2, r3, r4⟩ := id ry
        have hj : ps.length - 1 - i = xs.length - 1 - i := by rw [hlen]
        have ms : mls rs ps (i + 1) (ps.length - (i + 1)) = mL rs ps (xs.length - 1 - i) :: mls rs ps i (ps.length - i) := by
          rw [show ps.length - (i + 1) = ps.length - 1 - i by omega, mls_cons (by omega), hj]
        have hNl : vs.length = N := v2.1
        refine ⟨_, rfl, _, rfl, c, xs, _, .ref t, rfl, rfl, SqT.of C3.hc, atI_nat hy, t, _, rfl, SqT.of ht, rfl, _, _, rfl, _, _, rfl, rfl, ?_⟩
        refine ⟨_, rfl, _, rfl, _, _, rfl, rfl, _, rfl, _, rfl, _, _, rfl, rfl, _, _, rfl, ?_⟩
        obtain ⟨o1, o2⟩ := ok (xs.length - 1 - i) (by omega)
        have S := mL_sparse (ps := ps) o1 o2
        refine for_range (n := Int.toNat _) (fun m σ' H' => ∃ (y6 : Option V), σ' = [some (.ref c), some (.int tot), some (.ref x), some (.int first), some (.int last), some (.int (xs.length : Int)), y6, some (.ref d), some (.int ((xs.length - 1 - i : Nat) : Int)), some (.int (K1N.nAt rs (xs.length - 1 - i) : Int)), some (.int (K1N.sAt rs (xs.length - 1 - i)))] ∧ H' d = some (.dK (kvs low (part (mL rs ps (xs.length - 1 - i)) low vs m))) ∧ Ex H H') ⟨y6, rfl, by rw [part_zero]; exact v1, v3⟩ (fun m σ' H4 hm hp => ?_) (fun σ' H4 hp => ?_)
        · obtain ⟨y6, rfl, u1, u2⟩ := hp
          have hm' : m + 1 < vs.length := by omega
          rw [← hlow]
          have hx4 := C.ex u2
          refine ⟨_, rfl, _, rfl, _, _, rfl, rfl, .inr (by constructor <;> omega), _, rfl, _, rfl, x, _, _, .int (ps.getD (xs.length - 1 - i) 0), rfl, rfl, SqT.of hx4.hx, atI_nat (int_at (by omega)), _, _, rfl, rfl, _, rfl, _, _, rfl, rfl, by omega, rfl, _, rfl, ?_⟩
          dsimp only
          generalize hM : mL rs ps (xs.length - 1 - i) = M at *
          have pl : (part M low vs m).length = vs.length := part_len ..
          have hzz : M (low + (m : Int)) = true ↔ ((low + (m : Int)) * K1N.sAt rs (xs.length - 1 - i) + ps.getD (xs.length - 1 - i) 0) % (K1N.nAt rs (xs.length - 1 - i) : Int) = 0 := by
            rw [← hM]
            unfold mL
            rw [decide_eq_true_iff]
          have small : (kvs low (part M low vs m)).length < sizeLine := by
            rw [kvs_len, pl]
            exact small1000 (by omega)
          by_cases z : M (low + (m : Int)) = true
          · have z1 := hzz.mp z
            obtain ⟨p1, p2, p3⟩ := part_next S hm' z
            have g1 : DGet H4 d (V.int (low + (m : Int))) (some (V.int (vs.getD m 0))) := .inl ⟨_, .inl (low + (m : Int)), .inl u1, rfl, by rw [kvs_get low _ (by omega), p1]⟩
            have g2 : DGet H4 d (V.int (low + (m : Int) + 1)) (some (V.int (vs.getD (m + 1) 0))) := .inl ⟨_, .inl (low + ((m + 1 : Nat) : Int)), .inl u1, by rw [show low + (m : Int) + 1 = low + ((m + 1 : Nat) : Int) by omega]; rfl, by rw [kvs_get low _ (by omega), p2]⟩
            rw [decide_eq_true (show V.int (((low + (m : Int)) * K1N.sAt rs (xs.length - 1 - i) + ps.getD (xs.length - 1 - i) 0) % (K1N.nAt rs (xs.length - 1 - i) : Int)) = V.int 0 by rw [z1])]
            refine iteT ⟨_, rfl, _, rfl, d, _, rfl, g1, _, rfl, _, rfl, _, _, rfl, rfl, d, _, rfl, g2, _, _, rfl, rfl, _, rfl, ite2 (fun cl => ?_) (fun cl => ?_)⟩
            · have cl1 := of_decide_eq_true cl
              refine ⟨_, rfl, _, rfl, _, _, rfl, rfl, d, _, rfl, g2, _, rfl, _, rfl, d, _, rfl, g1, (show 2 ≤ sizeLine by decide), fun tp htp => ?_⟩
              have eT := Ex.new (o := .tup [V.int (vs.getD (m + 1) 0), V.int (vs.getD m 0)]) htp
              have w5 := eT _ _ u1
              refine ⟨tp, _, rfl, SqT.of upd_same, rfl, _, _, rfl, _, rfl, _, rfl, d, _, rfl, .inl ⟨_, .inl (low + (m : Int)), w5, rfl, small, rfl⟩, ?_⟩
              rw [kvs_put _ (by omega)]
              refine ⟨_, _, rfl, _, rfl, _, rfl, _, _, rfl, rfl, d, _, rfl, .inl ⟨_, .inl (low + ((m + 1 : Nat) : Int)), upd_same, by show V.int (low + (m : Int) + 1) = V.int (low + ((m + 1 : Nat) : Int)); congr 1; omega, ?_, rfl⟩, ?_⟩
              · rw [kvs_len, List.length_set, pl]
                exact small1000 (by omega)
              · rw [kvs_put _ (by rw [List.length_set, pl]; omega)]
                refine ⟨rfl, _, rfl, ?_, Ex.mut (Ex.mut (u2.trans eT) hd0) hd0⟩
                rw [upd_same, p3, show max (vs.getD m 0) (vs.getD (m + 1) 0) = vs.getD (m + 1) 0 by omega, show min (vs.getD m 0) (vs.getD (m + 1) 0) = vs.getD m 0 by omega]
            · have cl1 : ¬ vs.getD m 0 < vs.getD (m + 1) 0 := fun q => cl (decide_eq_true q)
              refine ⟨_, rfl, ?_, u2⟩
              rw [p3, show max (vs.getD m 0) (vs.getD (m + 1) 0) = vs.getD m 0 by omega, show min (vs.getD m 0) (vs.getD (m + 1) 0) = vs.getD (m + 1) 0 by omega,
                set_same (l := part M low vs m) (by omega) p1, set_same (l := part M low vs m) (by omega) p2]
              exact u1
          · rw [decide_eq_false (show ¬ V.int (((low + (m : Int)) * K1N.sAt rs (xs.length - 1 - i) + ps.getD (xs.length - 1 - i) 0) % (K1N.nAt rs (xs.length - 1 - i) : Int)) = V.int 0 from fun y => z (hzz.mpr (by injection y)))]
            refine iteF ⟨_, rfl, ?_, u2⟩
            rw [part_skip (B := m) (by omega) (fun k k1 k2 _ => by
              have : k = m := by omega
              subst this
              cases q : M (low + (k : Int)) with
              | false => rfl
              | true => exact absurd q z)]
            exact u1
        · obtain ⟨y6, rfl, u1, u2⟩ := hp
          refine ⟨_, _, _, _, _, rfl, u1, ?_, u2⟩
          rw [ms]
          exact near_step v2 (by omega)
      · obtain ⟨y6, y8, y9, y10, vs, rfl, v1, v2, v3⟩ := hp
        have ei : ((xs.length : Int) - 1 - -1).toNat = ps.length := by omega
        rw [ei] at v2
        have e0 : pmap (mls rs ps ps.length (ps.length - ps.length)) (fun y => y + (tot - (ps.length : Int))) = fm rs ps tot := by
          unfold fm
          rw [Nat.sub_self]
        rw [e0] at v2
        have hNl : vs.length = N := v2.1
        have gv : ∀ k : Nat, k < (last - first + 1).toNat → DGet H3 d (V.int (first + (k : Int))) (some (V.int (fm rs ps tot (first + (k : Int))))) := fun k hk => by
          refine .inl ⟨_, .inl (low + ((ps.length + k : Nat) : Int)), .inl v1, by show V.int (first + (k : Int)) = V.int (low + ((ps.length + k : Nat) : Int)); congr 1; omega, ?_⟩
          rw [kvs_get low vs (by omega)]
          have := v2.2 (ps.length + k) (by omega) (by omega)
          rw [List.getD_eq_getElem?_getD, this]
          show some (V.int (fm rs ps tot (first + (k : Int)))) = some (V.int (fm rs ps tot (low + ((ps.length + k : Nat) : Int))))
          rw [show low + ((ps.length + k : Nat) : Int) = first + k by omega]
        have hn0 : (last + 1 - first).toNat = (last - first + 1).toNat := by omega
        refine ⟨_, rfl, _, rfl, _, _, rfl, rfl, _, _, rfl, fun D2 hD2 => ?_⟩
        rw [hn0]
        refine lc_range (fun i H' => Prs D2 H3 first (win (fm rs ps tot) first i) H') (Prs.start hD2) (fun i H' hi hp => ?_) (fun H4 hp => ?_)
        · refine ⟨rfl, ?_⟩
          dsimp only [tYes]
          rw [if_pos rfl]
          have hex : Ex H3 H' := by
            obtain ⟨_, _, _, z⟩ := hp
            exact z
          have gi : DGet H' d (V.int (first + (i : Int))) (some (V.int (fm rs ps tot (first + (i : Int))))) := by
            rcases gv i hi with ⟨ks, k, hk, h1, h2⟩ | ⟨ks, k, b, hk, h1, h2⟩
            · rcases hk with hk | ⟨o, hk⟩
              · exact .inl ⟨ks, k, .inl (hex _ _ hk), h1, h2⟩
              · exact .inl ⟨ks, k, .inr ⟨o, hex _ _ hk⟩, h1, h2⟩
            · cases h1
          refine ⟨_, rfl, _, rfl, _, rfl, d, _, rfl, gi, (show 2 ≤ sizeLine by decide), fun t ht => ?_⟩
          have := hp.put hD2 (v := fm rs ps tot (first + (i : Int))) (by rw [win_len]; omega) ht
          rw [win_len] at this
          rw [win_snoc]
          exact this
        · obtain ⟨as, w1, w2, e4⟩ := hp
          refine ⟨D2, as, kvs first _, rfl, SqL.of w1, paired_imp (fun _ _ z => SqT.of z) w2, fun d2 hd2 => ?_⟩
          rw [kvs_all]
          exact q d2 _ ((v3.trans e4).trans (Ex.new hd2)) upd_same
end
end K1

set_option exponentiation.threshold 400
namespace K1
open PySem PySem.Spec PyProof.Rows L2 Evl HM LX ZW ZM MP
/-! ### the law's orders, letters, periods -/
section
variable {P : Program} {w : World} {K : PySem.W.Frag} {mg : Str → Option Value} {base : Heap}
def spLOrder : Sp := spOrderOf
theorem ok_lorder (T : Txt K mg) {f : Addr} {fd : FuncData} (D : DefAt K mg "_law_order" sLOrder ["_law_ring"] f fd) : FnOk P w K mg base CX0 2 f fd ["_law_ring"] spLOrder := by
  refine D.F.ok scLOrder (fun vs H Q E h => ?_) (fun cdv A outer s₀ H vs Q E hr h => ?_)
  · obtain ⟨x, n, s, rfl, _⟩ := h
    rfl
  · obtain ⟨x, n, s, rfl, hx, q⟩ := h
    obtain ⟨f1, fd1, D1⟩ := T.d_l_common
    have hr1 : Room 1 _ := hr.mono (by decide)
    refine ⟨_, pss_one (ps_ret (pe_op op_fdiv (pe_ix ix_tup (pv 0) pe_int (fun _ _ => rfl)) (pe_call (ok_common T D1) hr1 (by rfl) D1.g D1.F.kp D1.b .nil pass0 (pa_cons (pe_ix ix_tup (pv 0) pe_int (fun _ _ => rfl)) (pa_cons (pe_ix ix_tup (pv 0) pe_int (fun _ _ => rfl)) pa_nil))))), ?_⟩
    obtain ⟨t, rfl, ht, h1, h2, h3, h4⟩ := hx
    have ht1 := SqT.of (K := K) ht
    refine ⟨_, rfl, t, _, 0, .int n, rfl, rfl, ht1, rfl, _, rfl, t, _, 0, .int n, rfl, rfl, ht1, rfl, _, rfl, t, _, 1, .int s, rfl, rfl, ht1, rfl, n.natAbs, s.natAbs, ?_, fun H1 e1 => ?_⟩
    · rw [show ((n.natAbs : Nat) : Int) = n by omega, show ((s.natAbs : Nat) : Int) = s by omega]
      rfl
    have hg : 0 < Nat.gcd n.natAbs s.natAbs := Nat.gcd_pos_of_pos_left _ (by omega)
    have hg2 : Nat.gcd n.natAbs s.natAbs ≤ s.natAbs := Nat.gcd_le_right _ (by omega)
    refine ⟨n, _, rfl, rfl, ⟨by omega, by omega⟩, ?_⟩
    have e : n / ((Nat.gcd n.natAbs s.natAbs : Nat) : Int) = ((K1M.ord n.natAbs s.natAbs : Nat) : Int) := by
      conv => lhs; lhs; rw [show n = ((n.natAbs : Nat) : Int) by omega]
      rfl
    show Q (V.int (n / ((Nat.gcd n.natAbs s.natAbs : Nat) : Int))) H1
    rw [e]
    exact q _ e1
/-- the period: orders ahead divide it -/
def PerOk (rs : List (Int × Int)) (m p : Nat) : Prop := 1 ≤ p ∧ p ≤ 60 ^ m ∧ ∀ j, j < m → K1M.ord (K1N.nAt rs j) (K1N.sAt rs j).natAbs ∣ p
def spLPeriod : Sp := fun vs H Q _ => ∃ c xs rs, vs = [.ref c] ∧ H c = some (.tup xs) ∧ RingsAt H 60 xs rs ∧ xs.length ≤ 12 ∧ ∀ (p : Nat) H', Ex H H' → PerOk rs xs.length p → Q (.int (p : Int)) H'
end
end K1

set_option exponentiation.threshold 400
namespace K1
open PySem PySem.Spec PyProof.Rows L2 Evl HM LX ZW ZM MP DM DR DK
theorem short_of {ls : List Int} (h : ∀ l ∈ ls, -(10 ^ 50) < l ∧ l < 10 ^ 50) : Short ls := fun i => by
  rw [List.getD_eq_getElem?_getD]
  by_cases z : i < ls.length
  · rw [List.getElem?_eq_getElem z]
    exact h _ (List.getElem_mem z)
  · rw [List.getElem?_eq_none (by omega)]
    show -(10 ^ 50) < (0 : Int) ∧ (0 : Int) < 10 ^ 50
    constructor <;> decide
theorem eqo_k {H : Hp} {xs : List V} {rs : List (Int × Int)} {k : Nat} (hR : RingsAt H 60 xs rs) (hl : 1 ≤ xs.length) (eq : Eqo rs xs.length k) : 2 ≤ k ∧ k ≤ 60 := by
  obtain ⟨y, hy⟩ : ∃ y, xs[0]? = some y := ⟨xs[0]'(by omega), List.getElem?_eq_getElem (by omega)⟩
  obtain ⟨t, _, _, h1, h2, h3, h4⟩ := rings_nth4 hR hy
  rw [← eq 0 (by omega)]
  have a := K1M.ord_ge2 (n := K1N.nAt rs 0) (s := (K1N.sAt rs 0).natAbs) (by omega) (by omega)
  have b := K1M.ord_le (n := K1N.nAt rs 0) (s := (K1N.sAt rs 0).natAbs)
  omega
theorem Lvs.short {rs : List (Int × Int)} {ps : List Int} {tot : Int} {k : Nat} {ls : List Int} (h : Lvs rs ps tot k ls) (hk : 1 ≤ k) (hk2 : k ≤ 60) (hp : ps.length ≤ 12) (ht : (tot.natAbs : Int) ≤ 10 ^ 48) : Short ls := short_of fun l hl => by
  have := h.abs hk l hl
  constructor <;> omega
section
variable {P : Program} {w : World} {K : PySem.W.Frag} {mg : Str → Option Value} {base : Heap}
theorem ok_distance (T : Txt K mg) {f : Addr} {fd : FuncData} (D : DefAt K mg "distance" sDistance ["levels"] f fd) : FnOk P w K mg base CX0 7 f fd ["levels"] spDistance := by
  refine D.F.ok scDistance (fun vs H Q E h => ?_) (fun cdv A outer s₀ H vs Q E hr h => ?_)
  · obtain ⟨a, ls, rfl, _⟩ := h
    rfl
  · obtain ⟨a, ls, rfl, ha, hl2, hl, hs, hasc, q⟩ := h
    obtain ⟨f1, fd1, D1⟩ := T.d_distance_in
    obtain ⟨f2, fd2, D2⟩ := T.d_check_levels
    have hr1 : Room 1 _ := hr.mono (by decide)
    have hr6 : Room 6 _ := hr.mono (by decide)
    refine ⟨_, pss_cons (ps_expr (pe_call (ok_check_levels T D2) hr6 (by rfl) D2.g D2.F.kp D2.b .nil pass0 (pa_cons (pv 0) pa_nil)))
      (pss_one (ps_ret (pe_call (ok_distance_in T D1) hr1 (by rfl) D1.g D1.F.kp D1.b .nil pass0 (pa_cons (pv 0) pa_nil)))), ?_⟩
    refine ⟨_, rfl, a, ls, rfl, ha, hl2, hl, hs, hasc, fun H1 e1 => ?_⟩
    exact ⟨_, rfl, a, ls, rfl, e1 _ _ ha, hl2, hl, hs, hasc, fun H2 e2 => q _ (e1.trans e2)⟩
def spColumnsAt : Sp := fun vs H Q _ => ∃ (a : Addr) (ls : List Int) (c : Int), vs = [.ref a, .int c] ∧ H a = some (.tup (ls.map V.int)) ∧ ls.length ≤ 60 ∧ ∀ H', Ex H H' → Q (.int (tell ls c)) H'
theorem ok_columns_at (T : Txt K mg) {f : Addr} {fd : FuncData} (D : DefAt K mg "columns_at" sColumnsAt ["levels", "c"] f fd) : FnOk P w K mg base CX0 1 f fd ["levels", "c"] spColumnsAt := by
  refine D.F.ok scColumnsAt (fun vs H Q E h => ?_) (fun cdv A outer s₀ H vs Q E hr h => ?_)
  · obtain ⟨a, ls, c, rfl, _⟩ := h
    rfl
  · obtain ⟨a, ls, c, rfl, ha, hl, q⟩ := h
    refine ⟨_, pss_one (ps_ret (pe_callB (cr_sum rfl) (by rfl) T.z_sum (by decide +kernel) (pa_cons (pe_lc (own := [("level", 2)]) (g := gName 2) (tt := tYes) rfl scColumnsAt.nd (pi_tup (pv 0))
        (blkOk_by (N := nColumnsAt) (sc := defScope sColumnsAt) (by decide +kernel)) (fun _ _ _ _ _ => (pg_name (i := 2) scColumnsAt.nd rfl (.inl rfl))) (fun _ _ _ _ _ => pts_nil)
        (fun _ _ _ _ _ => (pe_callB (call_max2 rfl) (by rfl) T.z_max (by decide +kernel) (pa_cons pe_int (pa_cons (pe_op op_add (pe_op op_add (pv 2) (pv 1)) pe_int) pa_nil))))) pa_nil))), ?_⟩
    refine ⟨_, rfl, a, rfl, ⟨_, SqT.of ha⟩, fun D hD => ?_⟩
    refine lc_tupM (K := K) (fun i => V.int (max 0 (ls.getD i 0 + c + 1))) hD ha (by rw [List.length_map]; omega) (fun i x H' Qk hx e' qk => ?_) (fun H' e' h' => ?_)
    · obtain ⟨hi, rfl⟩ := int_inv9 hx
      refine ⟨rfl, _, rfl, _, rfl, _, _, rfl, rfl, _, _, rfl, rfl, _, _, rfl, ?_⟩
      rw [imax0]
      exact qk _ (Ex.refl _)
    · rw [List.length_map, mapI] at h'
      refine ⟨D, _, rfl, SqL.of h', ?_⟩
      rw [tellR]
      exact q _ e'
def spLevelRichness : Sp := fun vs H Q _ => ∃ (a : Addr) (ls : List Int) (c : Int), vs = [.ref a, .int c] ∧ H a = some (.tup (ls.map V.int)) ∧ 2 ≤ ls.length ∧ ls.length ≤ 60 ∧ Short ls ∧ ls.Pairwise (· ≤ ·) ∧ -(10 ^ 50) < c ∧ c < 10 ^ 50 ∧ ∀ H', Ex H H' → Q (.int (tell ls c - 1)) H'
theorem ok_level_richness (T : Txt K mg) {f : Addr} {fd : FuncData} (D : DefAt K mg "level_richness" sLevelRichness ["levels", "c"] f fd) : FnOk P w K mg base CX0 7 f fd ["levels", "c"] spLevelRichness := by
  refine D.F.ok scLevelRichness (fun vs H Q E h => ?_) (fun cdv A outer s₀ H vs Q E hr h => ?_)
  · obtain ⟨a, ls, c, rfl, _⟩ := h
    rfl
  · obtain ⟨a, ls, c, rfl, ha, hl2, hl, hs, hasc, c1, c2, q⟩ := h
    obtain ⟨f1, fd1, D1⟩ := T.d_columns_at
    obtain ⟨f2, fd2, D2⟩ := T.d_is_short
    obtain ⟨f3, fd3, D3⟩ := T.d_check_levels
    have hr1 : Room 1 _ := hr.mono (by decide)
    have hr3 : Room 3 _ := hr.mono (by decide)
    have hr6 : Room 6 _ := hr.mono (by decide)
    refine ⟨_, pss_cons (ps_expr (pe_call (ok_check_levels T D3) hr6 (by rfl) D3.g D3.F.kp D3.b .nil pass0 (pa_cons (pv 0) pa_nil)))
      (pss_cons (ps_if (pt_not (pt_val (pe_call (ok_is_short T D2) hr3 (by rfl) D2.g D2.F.kp D2.b .nil pass0 (pa_cons (pv 1) pa_nil)))) pss_never pss_nil)
      (pss_one (ps_ret (pe_op op_sub (pe_call (ok_columns_at T D1) hr1 (by rfl) D1.g D1.F.kp D1.b .nil pass0 (pa_cons (pv 0) (pa_cons (pv 1) pa_nil))) pe_int)))), ?_⟩
    refine ⟨_, rfl, a, ls, rfl, ha, hl2, hl, hs, hasc, fun H1 e1 => ?_⟩
    refine ⟨_, rfl, c, rfl, c1, c2, fun H2 e2 => ⟨true, rfl, iteF ?_⟩⟩
    refine ⟨_, rfl, _, rfl, a, ls, c, rfl, e2 _ _ (e1 _ _ ha), hl, fun H3 e3 => ⟨_, _, rfl, rfl, q _ ((e1.trans e2).trans e3)⟩⟩
def spLevelsAt : Sp := fun vs H Q _ => ∃ c x xs rs ps, ∃ (tot : Int) (k : Nat), vs = [.ref c, .int tot, .ref x] ∧ ClsAt H c x xs rs ps tot ∧ Eqo rs xs.length k ∧ ∀ p ls H', Ex H H' → H' p = some (.tup (ls.map V.int)) → Lvs rs ps tot k ls → Q (.ref p) H'
theorem ok_levels_at (T : Txt K mg) {f : Addr} {fd : FuncData} (D : DefAt K mg "levels_at" sLevelsAt ["chain", "degree", "places"] f fd) : FnOk P w K mg base CX0 8 f fd ["chain", "degree", "places"] spLevelsAt := by
  refine D.F.ok scLevelsAt (fun vs H Q E h => ?_) (fun cdv A outer s₀ H vs Q E hr h => ?_)
  · obtain ⟨c, x, xs, rs, ps, tot, k, rfl, _⟩ := h
    rfl
  · obtain ⟨c, x, xs, rs, ps, tot, k, rfl, C, eq, q⟩ := h
    obtain ⟨f1, fd1, D1⟩ := T.d_map_values
    obtain ⟨f2, fd2, D2⟩ := T.d_order_of
    have hr5 : Room 5 _ := hr.mono (by decide)
    have hr7 : Room 7 _ := hr.mono (by decide)
    refine ⟨_, pss_cons (ps_set (i := 3) scLevelsAt.nd rfl (.inr rfl) (pe_call (ok_order_of T D2) hr5 (by rfl) D2.g D2.F.kp D2.b .nil pass0 (pa_cons (pe_ix ix_tup (pv 0) pe_int (fun _ _ => rfl)) pa_nil)))
      (pss_one (ps_ret (pe_callTy call_tuple_of (by rfl) T.z_tuple (by decide +kernel) (pa_cons (pe_callB (cr_sortedI) (by rfl) T.z_sorted (by decide +kernel) (pa_cons (pe_lc (own := [("value", 4)]) (g := gName 4) (tt := tYes) rfl scLevelsAt.nd (pi_list (pe_call (ok_map_values T D1) hr7 (by rfl) D1.g D1.F.kp D1.b .nil pass0 (pa_cons (pv 0) (pa_cons (pv 1) (pa_cons (pv 2) (pa_cons (pe_op op_sub pe_int (pv 3)) (pa_cons pe_int pa_nil)))))))
        (blkOk_by (N := nLevelsAt) (sc := defScope sLevelsAt) (by decide +kernel)) (fun _ _ _ _ _ => (pg_name (i := 4) scLevelsAt.nd rfl (.inl rfl))) (fun _ _ _ _ _ => pts_nil)
        (fun _ _ _ _ _ => (pe_op op_fdiv (pv 4) (pv 3)))) pa_nil)) pa_nil)))), ?_⟩
    obtain ⟨hk2, hk60⟩ := eqo_k C.hR C.l1 eq
    have l1 := C.l1
    obtain ⟨y0, hy0⟩ : ∃ y, xs[0]? = some y := ⟨xs[0]'(by omega), List.getElem?_eq_getElem (by omega)⟩
    refine ⟨_, rfl, c, _, _, _, rfl, rfl, SqT.of C.hc, atI_nat (j := 0) hy0, y0, _, _, rfl, rings_nth4 C.hR hy0, fun H1 e1 => ?_⟩
    rw [show (K1N.nAt rs 0 : Int).natAbs = K1N.nAt rs 0 from rfl, eq 0 (by omega)]
    have C1 := C.ex e1
    refine ⟨_, rfl, _, rfl, _, rfl, _, rfl, _, _, rfl, rfl, c, x, xs, rs, ps, tot, _, _, rfl, C1.hc, C1.hR, ⟨C1.l1, C1.l2⟩, C1.hx, C1.len, by omega, fun l H2 e2 hl0 hl => ?_⟩
    rw [show (0 - (1 - (k : Int)) + 1).toNat = k by omega] at hl
    refine ⟨l, rfl, ⟨_, SqL.of hl⟩, fun D hD => ?_⟩
    refine lc_listM (K := K) (fun i => V.int ((win (fm rs ps tot) (1 - (k : Int)) k).getD i 0 / (k : Int))) hD hl (by rw [List.length_map, win_len]; omega) (fun i z H' Qk hz e' qk => ?_) (fun H' e' h' => ?_)
    · obtain ⟨hi, rfl⟩ := int_inv9 hz
      exact ⟨rfl, _, rfl, _, rfl, _, _, rfl, rfl, ⟨by omega, by omega⟩, qk _ (Ex.refl _)⟩
    · rw [List.length_map, mapI, range_getD _ fun v => v / (k : Int)] at h'
      refine ⟨D, _, rfl, SqL.of h', fun ns' p hpm hpw hp0 => ?_⟩
      have e3 := (e2.trans e').trans (Ex.new (o := .lst (ns'.map V.int)) hp0)
      refine ⟨p, _, rfl, .inl ⟨SqL.of upd_same, fun m hm => ?_⟩⟩
      exact q m ns' _ ((e1.trans e3).trans (Ex.new hm)) upd_same ⟨hpm, hpw⟩
def spLevelsOf : Sp := fun vs H Q _ => ∃ c a xs rs ds B, ∃ k : Nat, vs = [.ref c, .ref a] ∧ H c = some (.tup xs) ∧ RingsAt H 60 xs rs ∧ (1 ≤ xs.length ∧ xs.length ≤ 12) ∧ DealAt H a ds ∧ DOk rs ds B ∧ B ≤ 10 ^ 48 ∧ Eqo rs xs.length k ∧
  ∀ p ls H', Ex H H' → H' p = some (.tup (ls.map V.int)) → Lvs rs (cx rs fun i => Sf (tau rs i) ds) (Sf one ds) k ls → Q (.ref p) H'
theorem ok_levels_of (T : Txt K mg) {f : Addr} {fd : FuncData} (D : DefAt K mg "levels_of" sLevelsOf ["chain", "deal"] f fd) : FnOk P w K mg base CX0 9 f fd ["chain", "deal"] spLevelsOf := by
  refine D.F.ok scLevelsOf (fun vs H Q E h => ?_) (fun cdv A outer s₀ H vs Q E hr h => ?_)
  · obtain ⟨c, a, xs, rs, ds, B, k, rfl, _⟩ := h
    rfl
  · obtain ⟨c, a, xs, rs, ds, B, k, rfl, hc, hR, hl, ha, da, hB, eq, q⟩ := h
    obtain ⟨f1, fd1, D1⟩ := T.d_are_short
    obtain ⟨f2, fd2, D2⟩ := T.d_levels_at
    obtain ⟨f3, fd3, D3⟩ := T.d_class_at
    obtain ⟨f4, fd4, D4⟩ := T.d_check_deal
    obtain ⟨f5, fd5, D5⟩ := T.d_check_one_order
    have hr1 : Room 1 _ := hr.mono (by decide)
    have hr4 : Room 4 _ := hr.mono (by decide)
    have hr5 : Room 5 _ := hr.mono (by decide)
    have hr6 : Room 6 _ := hr.mono (by decide)
    have hr8 : Room 8 _ := hr.mono (by decide)
    refine ⟨_, pss_cons (ps_expr (pe_call (ok_check_one_order T D5) hr6 (by rfl) D5.g D5.F.kp D5.b .nil pass0 (pa_cons (pv 0) pa_nil)))
      (pss_cons (ps_expr (pe_call (ok_check_deal T D4) hr5 (by rfl) D4.g D4.F.kp D4.b .nil pass0 (pa_cons (pv 0) (pa_cons (pv 1) pa_nil))))
      (pss_cons (ps_asg (pe_call (ok_class_at T D3) hr1 (by rfl) D3.g D3.F.kp D3.b .nil pass0 (pa_cons (pv 0) (pa_cons (pv 1) pa_nil))) (pg_tup (by rfl) (pgs_cons (pg_name (i := 2) scLevelsOf.nd rfl (.inl rfl)) (pgs_cons (pg_name (i := 3) scLevelsOf.nd rfl (.inl rfl)) pgs_nil))))
      (pss_cons (ps_set (i := 4) scLevelsOf.nd rfl (.inl rfl) (pe_call (ok_levels_at T D2) hr8 (by rfl) D2.g D2.F.kp D2.b .nil pass0 (pa_cons (pv 0) (pa_cons (pv 2) (pa_cons (pv 3) pa_nil)))))
      (pss_cons (ps_if (pt_not (pt_val (pe_call (ok_are_short T D1) hr4 (by rfl) D1.g D1.F.kp D1.b .nil pass0 (pa_cons (pv 4) pa_nil)))) pss_never pss_nil)
      (pss_one (ps_ret (pv 4))))))), ?_⟩
    obtain ⟨hk2, hk60⟩ := eqo_k hR hl.1 eq
    have hlen : xs.length = rs.length := paired_len hR
    have tot := sf_one_le da
    refine ⟨_, rfl, c, xs, rs, k, rfl, hc, hR, hl, eq, fun H1 e1 => ?_⟩
    refine ⟨_, rfl, _, rfl, c, a, xs, rs, ds, rfl, e1 _ _ hc, rings_ex4 e1 hR, hl.2, e1 _ _ ha, da.mono (by omega), fun H2 e2 => ?_⟩
    have e12 := e1.trans e2
    refine ⟨_, rfl, _, rfl, c, a, xs, rs, ds, B, rfl, e12 _ _ hc, rings_ex4 e12 hR, hl.2, e12 _ _ ha, da, fun r1 H3 e3 q1 => ?_⟩
    obtain ⟨t1, x, er, ht1, hx⟩ := id q1
    cases er
    have e13 := e12.trans e3
    refine ⟨r1, _, rfl, SqT.of ht1, rfl, .int _, [_], rfl, .ref x, [], rfl, rfl, ?_⟩
    have C : ClsAt H3 c x xs rs (cx rs fun i => Sf (tau rs i) ds) (Sf one ds) := ⟨e13 _ _ hc, rings_ex4 e13 hR, hl.1, hl.2, hx, by rw [cx_len, hlen], cx_ok (rings_ex4 e13 hR) _, by omega⟩
    refine ⟨_, rfl, _, rfl, _, rfl, c, x, xs, rs, _, _, k, rfl, C, eq, fun p ls H4 e4 hp lv => ?_⟩
    have sh := lv.short (by omega) hk60 (by rw [cx_len]; omega) (by omega)
    refine ⟨_, rfl, p, ls, rfl, hp, by rw [lv.len]; omega, sh, fun H5 e5 => ⟨true, rfl, iteF ?_⟩⟩
    exact ⟨_, rfl, q p ls _ ((e13.trans e4).trans e5) (e5 _ _ hp) lv⟩
end
end K1

set_option exponentiation.threshold 400
namespace K1
open PySem PySem.Spec PyProof.Rows L2 Evl HM LX ZW ZM MP DM DR DK TE
theorem ord_times {k m j : Nat} (hm : 0 < m) (h : Nat.gcd k j = 1) : K1M.ord (k * m) (m * j) = k := by
  unfold K1M.ord
  rw [Nat.mul_comm k m, Nat.gcd_mul_left, h, Nat.mul_one, Nat.mul_div_cancel_left _ hm]
theorem Eqo.snoc {rs : List (Int × Int)} {i k : Nat} {n s : Int} (h : Eqo rs i k) (hl : rs.length = i) (hn : K1M.ord n.toNat s.natAbs = k) : Eqo (rs ++ [(n, s)]) (i + 1) k := fun j hj => by
  by_cases z : j < i
  · have h1 : K1N.nAt (rs ++ [(n, s)]) j = K1N.nAt rs j := K1N.nAt_left (by omega)
    have h2 : K1N.sAt (rs ++ [(n, s)]) j = K1N.sAt rs j := by
      unfold K1N.sAt
      rw [List.getD_eq_getElem?_getD, List.getElem?_append_left (by omega), ← List.getD_eq_getElem?_getD]
    rw [h1, h2]
    exact h j z
  · have : j = i := by omega
    subst this
    unfold K1N.nAt K1N.sAt
    rw [List.getD_eq_getElem?_getD, List.getElem?_append_right (by omega), hl, Nat.sub_self]
    exact hn
theorem cut_to {xs : List V} {c : Nat} (hc : c ≤ xs.length) : cutV xs none (some (c : Int)) = xs.take c := by
  unfold cutV
  rw [HT.sIx_none, HT.sIx_nat, List.drop_zero, Nat.sub_zero, Nat.min_eq_left hc]
theorem take_getD {ls : List Int} {i j : Nat} (h : j < i) : (ls.take i).getD j 0 = ls.getD j 0 := by
  rw [List.getD_eq_getElem?_getD, List.getElem?_take, if_pos h, ← List.getD_eq_getElem?_getD]
/-- a chain of one order as it grows -/
def EW (d Dl : Addr) (H : Hp) (most : Int) (k i : Nat) (H' : Hp) : Prop := ∃ xs rs, H' Dl = some (.lst xs) ∧ RingsAt H' most xs rs ∧ xs.length = i ∧ Keep d H H' ∧ Dice H' d ∧ Eqo rs i k
theorem EW.turn {d Dl : Addr} {H H' H2 : Hp} {most n s : Int} {x : V} {k i : Nat} (W : EW d Dl H most k i H') (ndl : d ≠ Dl) (hD0 : H Dl = none) (kp : Keep d H' H2) (hd : Dice H2 d) (r : RingAt H2 most x n s) (ho : K1M.ord n.toNat s.natAbs = k) (hi : i < 1000) :
    ∃ acc, H2 Dl = some (.lst acc) ∧ acc.length < sizeLine ∧ EW d Dl H most k (i + 1) (upd H2 Dl (.lst (acc ++ [x]))) := by
  obtain ⟨xs, rs, a1, a2, a3, a4, a5, a6⟩ := W
  have e1 : H2 Dl = some (.lst xs) := kp _ _ ndl.symm a1
  have nt : ∀ {y : V} {n s : Int}, RingAt H2 most y n s → RingAt (upd H2 Dl (.lst (xs ++ [x]))) most y n s := fun {y n s} q => q.upd fun t ht => by
    obtain ⟨t', rfl, ht', _⟩ := q
    cases ht
    exact ne_of ht' e1 (by intro z; cases z)
  refine ⟨xs, e1, small1000 (by omega), xs ++ [x], rs ++ [(n, s)], upd_same, paired_snoc (R := fun x (r : Int × Int) => RingAt (upd H2 Dl (.lst (xs ++ [_]))) most x r.1 r.2) (y := (n, s)) (nt r) (paired_imp (R := fun x (r : Int × Int) => RingAt H' most x r.1 r.2) (fun y r' q => nt (q.keep kp a5)) a2), ?_, (a4.trans kp).mut hD0, hd.upd ndl, a6.snoc ((paired_len a2).symm.trans a3) ho⟩
  rw [List.length_append, a3]
  rfl
theorem range_getDn (ns : List Int) (f : Int → Int) {n : Nat} (h : n = ns.length) : (List.range n).map (fun i => f (ns.getD i 0)) = ns.map f := by
  subst h
  exact range_getD ns f
section
variable {P : Program} {w : World} {K : PySem.W.Frag} {mg : Str → Option Value} {base : Heap}
/-- a drawn ring of one order, with the order -/
def spRingOfO : Sp := fun vs H Q _ => ∃ (d : Addr) (k t : Int), vs = [.ref d, .int k, .int t] ∧ Dice H d ∧ 2 ≤ k ∧ k ≤ 100 ∧ 1 ≤ t ∧ t ≤ 1000 ∧ ∀ x n s H', RingAt H' (k * t) x n s → K1M.ord n.toNat s.natAbs = k.toNat → Dice H' d → Keep d H H' → Q x H'
theorem ok_ring_ofO (T : Txt K mg) {f : Addr} {fd : FuncData} (D : DefAt K mg "_law_ring_of" sLRingOf ["_law_dice_here", "_law_k", "_law_times"] f fd) : FnOk P w K mg base CX0 3 f fd ["_law_dice_here", "_law_k", "_law_times"] spRingOfO := by
  refine D.F.ok scLRingOf (fun vs H Q E h => ?_) (fun cdv A outer s H vs Q E hr h => ?_)
  · obtain ⟨d, n, t, rfl, _⟩ := h
    rfl
  · obtain ⟨d, k, t, rfl, hd, h1, h2, h3, h4, q⟩ := h
    obtain ⟨f1, fd1, D1⟩ := T.d_l_roll
    obtain ⟨f2, fd2, D2⟩ := T.d_l_common
    obtain ⟨f3, fd3, D3⟩ := T.d_l_one_of
    have hr1 : Room 1 _ := hr.mono (by decide)
    refine ⟨_, pss_cons (ps_set (i := 3) scLRingOf.nd rfl (.inl rfl) (pe_op op_add pe_int (pe_call (ok_roll T D1) hr1 (by rfl) D1.g D1.F.kp D1.b .nil pass0 (pa_cons (pv 0) (pa_cons (pv 2) pa_nil)))))
      (pss_cons (ps_setLc (i := 4) (own := [("_law_one", 5)]) (g := gName 5) (by rfl) scLRingOf.nd rfl rfl (sw_true rfl rfl rfl (by decide +kernel)) (pi_range2 (by rfl) T.z_range (pa_cons pe_int (pa_cons (pv 1) pa_nil)))
        (blkOk_by (N := nLRingOf) (sc := defScope sLRingOf) (by decide +kernel)) (fun _ _ _ _ _ => pg_name (i := 5) scLRingOf.nd rfl (Or.inl rfl))
        (fun _ _ _ _ _ => pts_one (pt_cmpR op_eq (pe_call (ok_common T D2) hr1 (by rfl) D2.g D2.F.kp D2.b .nil pass0 (pa_cons (pv 1) (pa_cons (pv 5) pa_nil))) pe_int (nomark _))) (fun _ _ _ _ _ => pv 5))
      (pss_one (ps_ret (pe_tup (pa_cons (pe_op op_mul (pv 1) (pv 3)) (pa_cons (pe_op op_mul (pv 3) (pe_call (ok_one_of T D3) hr (by rfl) D3.g D3.F.kp D3.b .nil pass0 (pa_cons (pv 0) (pa_cons (pv 4) pa_nil)))) pa_nil)))))), ?_⟩
    refine ⟨.ref d, rfl, .int t, rfl, d, _, rfl, hd, by omega, by omega, fun r H1 r0 r1 hd1 k1 => ?_⟩
    refine ⟨1, r, rfl, rfl, .int k, rfl, 1, k, rfl, by omega, fun Dl hD => ?_⟩
    have ndl : d ≠ Dl := hd1.ne_new hD
    have hD0 : H Dl = none := k1.free ndl.symm hD
    refine lc_range (lo := 1) (n := (k - 1).toNat) (fun i H' => ∃ js : List Int, H' Dl = some (.lst (js.map V.int)) ∧ js.length ≤ i ∧ (∀ j ∈ js, 1 ≤ j ∧ j < k ∧ Nat.gcd k.toNat j.toNat = 1) ∧ (1 ≤ i → 1 ≤ js.length) ∧ Keep d H H' ∧ Dice H' d)
      ⟨[], upd_same, Nat.le_refl _, by simp, by omega, k1.trans (Keep.new hD), hd1.upd (hd1.ne_new hD)⟩ (fun i H' hi hp => ?_) (fun H' hp => ?_)
    · obtain ⟨js, a1, a2, a3, a4, a5, a6⟩ := hp
      refine ⟨rfl, .int k, rfl, .int (1 + (i : Int)), rfl, k.toNat, 1 + i, ?_, fun H2 e2 => ?_⟩
      · show [V.int k, V.int (1 + (i : Int))] = [V.int ((k.toNat : Nat) : Int), V.int (((1 + i : Nat)) : Int)]
        rw [show ((k.toNat : Nat) : Int) = k by omega, show (((1 + i : Nat)) : Int) = 1 + (i : Int) by omega]
      · refine ⟨rfl, _, rfl, ite2 (fun c => ?_) (fun c => ?_)⟩
        · have c1 : Nat.gcd k.toNat (1 + i) = 1 := by
            have := V.int.inj (of_decide_eq_true c)
            omega
          refine ⟨_, rfl, js.map V.int, e2 _ _ a1, ?_, js ++ [1 + (i : Int)], ?_, ?_, ?_, ?_, ?_, ?_⟩
          · rw [List.length_map]
            exact small1000 (by omega)
          · rw [List.map_append]
            exact upd_same
          · rw [List.length_append]
            exact Nat.add_le_add_right a2 1
          · intro j hj
            rcases List.mem_append.mp hj with hj | hj
            · exact a3 j hj
            · have hj := List.mem_singleton.mp hj
              subst hj
              refine ⟨by omega, by omega, ?_⟩
              rw [show (1 + (i : Int)).toNat = 1 + i by omega]
              exact c1
          · intro _
            rw [List.length_append]
            exact Nat.le_add_left _ _
          · exact (a5.trans (Keep.ex e2)).mut hD0
          · exact (a6.ex e2).upd ndl
        · refine ⟨js, e2 _ _ a1, by omega, a3, fun _ => ?_, a5.trans (Keep.ex e2), a6.ex e2⟩
          by_cases z : i = 0
          · subst z
            refine absurd ?_ c
            rw [show k.toNat.gcd (1 + 0) = 1 from Nat.gcd_one_right k.toNat]
            rfl
          · exact a4 (by omega)
    · obtain ⟨js, a1, a2, a3, a4, a5, a6⟩ := hp
      have hl : 1 ≤ js.length := a4 (by omega)
      have hb : 1 ≤ 1 + r ∧ 1 + r ≤ t := by omega
      have hkm : k * (1 + r) ≤ k * t := Int.mul_le_mul_of_nonneg_left hb.2 (by omega)
      have hk2 : 2 ≤ k * (1 + r) := by
        have := Int.mul_le_mul_of_nonneg_left hb.1 (show (0 : Int) ≤ k by omega)
        omega
      refine ⟨.int k, rfl, .int (1 + r), rfl, k, 1 + r, rfl, rfl, .inl (by constructor <;> omega), .int (1 + r), rfl, .ref d, rfl, .ref Dl, rfl, d, Dl, _, rfl, a6, a1, ndl.symm, by rw [List.length_map]; exact hl, by rw [List.length_map]; omega, fun x H2 hx hd2 k2 => ?_⟩
      obtain ⟨j, hj, rfl⟩ := List.mem_map.mp hx
      obtain ⟨j1, j2, j3⟩ := a3 j hj
      refine ⟨1 + r, j, rfl, rfl, .inl (by constructor <;> omega), by show 2 ≤ sizeLine; decide, fun p hp => ?_⟩
      have c1 : 1 ≤ (1 + r) * j := by
        have := Int.mul_le_mul_of_nonneg_left j1 (show (0 : Int) ≤ 1 + r by omega)
        omega
      have c2 : (1 + r) * j < k * (1 + r) := by
        rw [Int.mul_comm k (1 + r)]
        exact Int.mul_lt_mul_of_pos_left j2 (by omega)
      refine q _ _ _ _ ⟨p, rfl, upd_same, hk2, hkm, c1, c2⟩ ?_ (hd2.upd (hd2.ne_new hp)) ((a5.trans k2).trans (Keep.new hp))
      have m1 : (k * (1 + r)).toNat = k.toNat * (1 + r).toNat := Int.toNat_mul (by omega) (by omega)
      have m2 : ((1 + r) * j).natAbs = (1 + r).toNat * j.toNat := by
        rw [Int.natAbs_mul]
        congr 1 <;> omega
      rw [m1, m2]
      exact ord_times (by omega) j3
def spEqualChain : Sp := fun vs H Q _ => ∃ (d : Addr) (g k : Int), vs = [.ref d, .int g, .int k] ∧ Dice H d ∧ 1 ≤ g ∧ g ≤ 100 ∧ 2 ≤ k ∧ k ≤ 30 ∧
  ∀ p xs rs H', H' p = some (.tup xs) → RingsAt H' 60 xs rs → (xs.length : Int) = g → Eqo rs xs.length k.toNat → Dice H' d → Keep d H H' → Q (.ref p) H'
theorem ok_equal_chain (T : Txt K mg) {f : Addr} {fd : FuncData} (D : DefAt K mg "_law_equal_chain" sLEqualChain ["_law_dice_here", "_law_rings", "_law_k"] f fd) : FnOk P w K mg base CX0 4 f fd ["_law_dice_here", "_law_rings", "_law_k"] spEqualChain := by
  refine D.F.ok scLEqualChain (fun vs H Q E h => ?_) (fun cdv A outer s₀ H vs Q E hr h => ?_)
  · obtain ⟨d, g, k, rfl, _⟩ := h
    rfl
  · obtain ⟨d, g, k, rfl, hd, g1, g2, h1, h2, q⟩ := h
    obtain ⟨f1, fd1, D1⟩ := T.d_l_ring_of
    have hr3 : Room 3 _ := hr.mono (by decide)
    refine ⟨_, pss_one (ps_ret (pe_callTy call_tuple_of (by rfl) T.z_tuple (by decide +kernel) (pa_cons (pe_lc (own := [("_law_turn", 3)]) (g := gName 3) (tt := tYes) rfl scLEqualChain.nd (pi_range1 (by rfl) T.z_range (pa_cons (pv 1) pa_nil))
        (blkOk_by (N := nLEqualChain) (sc := defScope sLEqualChain) (by decide +kernel)) (fun _ _ _ _ _ => (pg_name (i := 3) scLEqualChain.nd rfl (.inl rfl))) (fun _ _ _ _ _ => pts_nil)
        (fun _ _ _ _ _ => (pe_call (ok_ring_ofO T D1) hr3 (by rfl) D1.g D1.F.kp D1.b .nil pass0 (pa_cons (pv 0) (pa_cons (pv 2) (pa_cons pe_int pa_nil)))))) pa_nil))), ?_⟩
    refine ⟨_, rfl, g, rfl, by omega, by omega, fun Dl hD => ?_⟩
    have ndl : d ≠ Dl := hd.ne_new hD
    refine lc_range (lo := 0) (n := g.toNat) (EW d Dl H 60 k.toNat) ⟨[], [], upd_same, .nil, rfl, Keep.new hD, hd.upd ndl, fun j hj => absurd hj (Nat.not_lt_zero j)⟩ (fun i H' hi W => ?_) (fun H' W => ?_)
    · have hd' := W.choose_spec.choose_spec.2.2.2.2.1
      refine ⟨rfl, ?_⟩
      dsimp only [tYes]
      rw [if_pos rfl]
      refine ⟨_, rfl, _, rfl, d, k, 2, rfl, hd', by omega, by omega, by decide, by decide, fun x n s H3 hx ho hd3 k3 => ?_⟩
      exact W.turn ndl hD k3 hd3 (hx.most (by omega)) ho (by omega)
    · obtain ⟨xs, rs, a1, a2, a3, a4, a5, a6⟩ := W
      refine ⟨Dl, xs, rfl, .inl ⟨SqL.of a1, fun p hp => q p xs rs _ upd_same (paired_imp (fun y r' z => RingAt.ex (.new hp) z) a2) (by omega) (by rw [a3]; exact a6) (a5.upd (a5.ne_new hp)) (a4.trans (Keep.new hp))⟩⟩
def spLLevels : Sp := fun vs H Q _ => ∃ c x xs rs ps, ∃ (tot : Int) (k : Nat), vs = [.ref c, .int tot, .ref x] ∧ ClsAt H c x xs rs ps tot ∧ Eqo rs xs.length k ∧ ∀ p ls H', Ex H H' → H' p = some (.lst (ls.map V.int)) → Lvs rs ps tot k ls → Q (.ref p) H'
theorem ok_llevels (T : Txt K mg) {f : Addr} {fd : FuncData} (D : DefAt K mg "_law_levels" sLLevels ["_law_chain", "_law_total", "_law_x"] f fd) : FnOk P w K mg base CX0 3 f fd ["_law_chain", "_law_total", "_law_x"] spLLevels := by
  refine D.F.ok scLLevels (fun vs H Q E h => ?_) (fun cdv A outer s₀ H vs Q E hr h => ?_)
  · obtain ⟨c, x, xs, rs, ps, tot, k, rfl, _⟩ := h
    rfl
  · obtain ⟨c, x, xs, rs, ps, tot, k, rfl, C, eq, q⟩ := h
    obtain ⟨f1, fd1, D1⟩ := T.d_l_map
    obtain ⟨f2, fd2, D2⟩ := T.d_l_order
    have hr1 : Room 1 _ := hr.mono (by decide)
    have hr2 : Room 2 _ := hr.mono (by decide)
    have hu1 := Nat.lt_of_le_of_lt (Nat.add_le_add_left (show 1 ≤ 64 by decide) _) hr.units
    refine ⟨_, pss_cons (ps_set (i := 3) scLLevels.nd rfl (.inr rfl) (pe_call (ok_lorder T D2) hr2 (by rfl) D2.g D2.F.kp D2.b .nil pass0 (pa_cons (pe_ix ix_tup (pv 0) pe_int (fun _ _ => rfl)) pa_nil)))
      (pss_cons (ps_set (i := 4) scLLevels.nd rfl (.inr rfl) (pe_call (ok_lmap T D1) hr1 (by rfl) D1.g D1.F.kp D1.b .nil pass0 (pa_cons (pv 0) (pa_cons (pv 1) (pa_cons (pv 2) (pa_cons (pe_op op_sub pe_int (pv 3)) (pa_cons pe_int pa_nil)))))))
      (pss_one (ps_ret (pe_callB (cr_sortedI) (by rfl) T.z_sorted (by decide +kernel) (pa_cons (pe_lock (pe_lc (own := [("_law_i", 5)]) (g := gName 5) (tt := tYes) rfl scLLevels.nd (pi_keys (pv 4))
        (blkOk_by (N := nLLevels) (sc := defScope sLLevels) (by decide +kernel)) (fun _ _ _ _ _ => (pg_name (i := 5) scLLevels.nd rfl (.inl rfl))) (fun _ _ _ _ _ => pts_nil)
        (fun _ _ _ _ _ => (pe_op op_fdiv (pe_dget hu1 (pv 4) (pv 5) (fun _ _ => rfl)) (pv 3))))) pa_nil))))), ?_⟩
    obtain ⟨hk2, hk60⟩ := eqo_k C.hR C.l1 eq
    have l1 := C.l1
    obtain ⟨y0, hy0⟩ : ∃ y, xs[0]? = some y := ⟨xs[0]'(by omega), List.getElem?_eq_getElem (by omega)⟩
    refine ⟨_, rfl, c, _, _, _, rfl, rfl, SqT.of C.hc, atI_nat (j := 0) hy0, y0, _, _, rfl, rings_nth4 C.hR hy0, fun H1 e1 => ?_⟩
    rw [show (K1N.nAt rs 0 : Int).natAbs = K1N.nAt rs 0 from rfl, eq 0 (by omega)]
    have C1 := C.ex e1
    refine ⟨_, rfl, _, rfl, _, rfl, _, rfl, _, _, rfl, rfl, c, x, xs, rs, ps, tot, _, _, rfl, C1, by omega, by omega, fun dd H2 e2 hd => ?_⟩
    rw [show (0 - (1 - (k : Int)) + 1).toNat = k by omega] at hd
    refine ⟨dd, _, hd, trivial, fun od => ?_⟩
    have g0 : (upd H2 dd (.frz od (.dK (kvs (1 - (k : Int)) (win (fm rs ps tot) (1 - (k : Int)) k))))) dd = some (.frz od (.dK (kvs (1 - (k : Int)) (win (fm rs ps tot) (1 - (k : Int)) k)))) := upd_same
    have eU : ∀ H', Ex (upd H2 dd (.frz od (.dK (kvs (1 - (k : Int)) (win (fm rs ps tot) (1 - (k : Int)) k))))) H' → Ex H2 (upd H' dd (.dK (kvs (1 - (k : Int)) (win (fm rs ps tot) (1 - (k : Int)) k)))) := fun H' e => Ex.unlock hd e
    generalize upd H2 dd (.frz od (.dK (kvs (1 - (k : Int)) (win (fm rs ps tot) (1 - (k : Int)) k)))) = H3 at g0 eU ⊢
    refine ⟨_, rfl, dd, od, rfl, .inl ⟨_, g0, fun D8 hD8 => ?_⟩⟩
    refine lc_it walk_keys (fun i H' => H' D8 = some (.lst (((List.range i).map fun j => (win (fm rs ps tot) (1 - (k : Int)) k).getD j 0 / (k : Int)).map V.int)) ∧ Ex H3 H') ⟨upd_same, Ex.new hD8⟩ (fun i H' _ hp => hp.2 _ _ g0) (fun i y H' H'' hi hp hy => ?_) (fun H8 hp => ?_)
    · obtain ⟨w1, w2⟩ := hp
      obtain ⟨rfl, ky, v, hkv, rfl⟩ := hy
      rw [kvs_len, win_len] at hi
      rw [kvs_at _ _ (by rw [win_len]; exact hi)] at hkv
      injection hkv with hkv
      injection hkv with h1 h2
      subst h1
      have dg : DGet H'' dd (V.int (1 - (k : Int) + i)) (some (V.int ((win (fm rs ps tot) (1 - (k : Int)) k).getD i 0))) := .inl ⟨_, .inl (1 - (k : Int) + i), .inr ⟨od, w2 _ _ g0⟩, rfl, by rw [kvs_get _ _ (by rw [win_len]; exact hi)]⟩
      refine ⟨rfl, ?_⟩
      dsimp only [tYes]
      rw [if_pos rfl]
      refine ⟨_, rfl, _, rfl, dd, _, rfl, dg, _, rfl, _, _, rfl, rfl, ⟨by omega, by omega⟩, _, w1, ?_, ?_, Ex.mut w2 hD8⟩
      · rw [List.length_map, List.length_map, List.length_range]
        exact small1000 (by omega)
      · rw [upd_same, List.range_succ, List.map_append, List.map_append]
        rfl
    · obtain ⟨w1, w2⟩ := hp
      rw [kvs_len, range_getDn _ (fun v => v / (k : Int)) rfl] at w1
      refine ⟨w2 _ _ g0, ?_⟩
      have n8 : D8 ≠ dd := fun z => by
        rw [z, g0] at hD8
        cases hD8
      have e3 := eU _ w2
      have w3 := (upd_ne (o := .dK (kvs (1 - (k : Int)) (win (fm rs ps tot) (1 - (k : Int)) k))) n8).trans w1
      generalize upd H8 dd (.dK (kvs (1 - (k : Int)) (win (fm rs ps tot) (1 - (k : Int)) k))) = H9 at e3 w3 ⊢
      refine ⟨D8, _, rfl, SqL.of w3, fun ns' p hpm hpw hp0 => ?_⟩
      exact q p ns' _ (((e1.trans e2).trans e3).trans (Ex.new hp0)) upd_same ⟨hpm, hpw⟩
theorem ok_ldistance (T : Txt K mg) {f : Addr} {fd : FuncData} (D : DefAt K mg "_law_distance" sLDistance ["_law_levels_here"] f fd) : FnOk P w K mg base CX0 1 f fd ["_law_levels_here"] spDistance := by
  refine D.F.ok scLDistance (fun vs H Q E h => ?_) (fun cdv A outer s₀ H vs Q E hr h => ?_)
  · obtain ⟨a, ls, rfl, _⟩ := h
    rfl
  · obtain ⟨a, ls, rfl, ha, hl2, hl, hs, hasc, q⟩ := h
    refine ⟨_, pss_cons (ps_set (i := 1) scLDistance.nd rfl (.inl rfl) pe_int)
      (pss_cons (ps_for PassesOwn.never rfl (pi_range1 (by rfl) T.z_range (pa_cons (pe_callB call_len_seq (by rfl) T.z_len PySem.boot_len (pa_cons (pv 0) pa_nil)) pa_nil)) (pg_name (i := 2) scLDistance.nd rfl (.inr rfl))
        (pss_one (ps_set (i := 1) scLDistance.nd rfl (.inl rfl) (pe_op op_add (pv 1) (pe_callB (cr_sum rfl) (by rfl) T.z_sum (by decide +kernel) (pa_cons (pe_lc (own := [("_law_one", 3)]) (g := gName 3) (tt := tYes) rfl scLDistance.nd (pi_tup (pe_slice sl_tupE (pv 0) po_none (po_some (pv 2))))
        (blkOk_by (N := nLDistance) (sc := defScope sLDistance) (by decide +kernel)) (fun _ _ _ _ _ => (pg_name (i := 3) scLDistance.nd rfl (.inl rfl))) (fun _ _ _ _ _ => pts_nil)
        (fun _ _ _ _ _ => (pe_callB (call_max2 rfl) (by rfl) T.z_max (by decide +kernel) (pa_cons pe_int (pa_cons (pe_op op_sub (pe_op op_sub (pe_ix (show IxR _ (rIxT K) from ix_tup) (pv 0) (pv 2) (fun _ _ => rfl)) (pv 3)) pe_int) pa_nil))))) pa_nil))))))
      (pss_one (ps_ret (pv 1)))), ?_⟩
    refine ⟨_, rfl, a, _, rfl, .inr (SqT.of ha), _, rfl, by omega, by rw [List.length_map]; omega, ?_⟩
    rw [List.length_map]
    refine for_range (lo := 0) (n := Int.toNat _) (fun i σ' H' => ∃ y2 : Option V, σ' = [some (.ref a), some (.int ((List.range i).map fun late => (drow ls late).sum).sum), y2, none] ∧ Ex H H') ⟨none, rfl, Ex.refl _⟩ (fun i σ' H' hi hp => ?_) (fun σ' H' hp => ?_)
    · obtain ⟨y2, rfl, e⟩ := hp
      have hi' : i < ls.length := by omega
      have ha' := e _ _ ha
      rw [show (0 : Int) + (i : Int) = ((i : Nat) : Int) by omega]
      refine ⟨_, rfl, _, rfl, _, rfl, _, rfl, a, _, rfl, ha', fun p H2 e2 hp2 => ?_⟩
      rw [cut_to (by rw [List.length_map]; omega), ← List.map_take] at hp2
      have ha2 := e2 _ _ ha'
      refine ⟨p, rfl, ⟨_, SqT.of hp2⟩, fun Dl hD => ?_⟩
      refine lc_tupM (K := K) (fun j => V.int (max 0 (ls.getD i 0 - ls.getD j 0 - 1))) hD hp2 (by rw [List.length_map, List.length_take]; omega) (fun j z H3 Qk hz e3 qk => ?_) (fun H3 e3 h3 => ?_)
      · obtain ⟨hj, rfl⟩ := int_inv9 hz
        rw [List.length_take] at hj
        rw [take_getD (by omega)]
        refine ⟨rfl, _, rfl, _, rfl, a, _, _, .int (ls.getD i 0), rfl, rfl, SqT.of (e3 _ _ ha2), atI_nat (int_at hi'), _, rfl, _, _, rfl, rfl, _, _, rfl, rfl, _, _, rfl, ?_⟩
        rw [imax0]
        exact qk _ (Ex.refl _)
      · rw [List.length_map, List.length_take, show min i ls.length = i by omega, mapI] at h3
        refine ⟨Dl, _, rfl, SqL.of h3, _, _, rfl, rfl, some (.int ((i : Nat) : Int)), ?_, (e.trans e2).trans e3⟩
        rw [List.range_succ, List.map_append, List.sum_append]
        show _ = [_, some (V.int (_ + ((drow ls i).sum + 0))), _, _]
        rw [Int.add_zero]
        rfl
    · obtain ⟨y2, rfl, e⟩ := hp
      exact ⟨_, rfl, q _ e⟩
def spGreat : Sp := fun vs H Q _ => ∃ d c a xs rs ds B, vs = [.ref d, .ref c, .ref a] ∧ Dice H d ∧ H c = some (.tup xs) ∧ RingsAt H 60 xs rs ∧ (1 ≤ xs.length ∧ xs.length ≤ 12) ∧ DealAt H a ds ∧ DOk rs ds B ∧ B ≤ 10 ^ 45 ∧ ds.length ≤ 100 ∧
  ∀ r H' es, DealAt H' r es → DOk rs es (B + 10 ^ 42) → es.length ≤ ds.length + 2 → r ≠ d → Dice H' d → Keep d H H' → Q (.ref r) H'
end
end K1

/-! tuples and lists of ints compared, whatever they hold -/
namespace CI
open PySem PySem.Spec PyProof.Rows L2 Evl HM LX ZW K1
theorem eqvAll_ints : ∀ a b : List Int, PyData.eqvAll (a.map PyData.int) (b.map PyData.int) = decide (a = b)
  | [], [] => by simp [PyData.eqvAll]
  | [], _ :: _ => by simp [PyData.eqvAll]
  | _ :: _, [] => by simp [PyData.eqvAll]
  | x :: a, y :: b => by
    have := eqvAll_ints a b
    simp only [List.map_cons, PyData.eqvAll, PyData.eqv, this]
    by_cases e : x = y
    · subst e
      simp
    · simp [e]
theorem eqvT (a b : List Int) : PyData.eqv (.tuple (a.map PyData.int)) (.tuple (b.map PyData.int)) = decide (a = b) := by
  rw [← eqvAll_ints]
  simp only [PyData.eqv]
theorem eqvL (a b : List Int) : PyData.eqv (.list (a.map PyData.int)) (.list (b.map PyData.int)) = decide (a = b) := by
  rw [← eqvAll_ints]
  simp only [PyData.eqv]
section
variable {K : PySem.W.Frag} {H : Hp} {p q : Addr} {Q : VK}
theorem eqT {l l' : List Int} (h1 : H p = some (.tup (l.map V.int))) (h2 : H q = some (.tup (l'.map V.int))) (k : Q (.bl (decide (l = l'))) H) : rEqD K (.ref p) (.ref q) H Q :=
  ⟨_, _, .tup (SqT.of h1) (dp_ints l), .tup (SqT.of h2) (dp_ints l'), shaped_intsT _, shaped_intsT _, by rw [eqvT]; exact k⟩
theorem neT {l l' : List Int} (h1 : H p = some (.tup (l.map V.int))) (h2 : H q = some (.tup (l'.map V.int))) (k : Q (.bl (!decide (l = l'))) H) : rNeD K (.ref p) (.ref q) H Q :=
  ⟨_, _, .tup (SqT.of h1) (dp_ints l), .tup (SqT.of h2) (dp_ints l'), shaped_intsT _, shaped_intsT _, by rw [eqvT]; exact k⟩
theorem eqL {l l' : List Int} (h1 : H p = some (.lst (l.map V.int))) (h2 : H q = some (.lst (l'.map V.int))) (k : Q (.bl (decide (l = l'))) H) : rEqD K (.ref p) (.ref q) H Q :=
  ⟨_, _, .lst (SqL.of h1) (dp_ints l), .lst (SqL.of h2) (dp_ints l'), shaped_intsL _, shaped_intsL _, by rw [eqvL]; exact k⟩
theorem hvI2 (h : List Nat) : hv h = (h.map fun (n : Nat) => (n : Int)).map V.int := by
  unfold hv
  rw [List.map_map]
  rfl
theorem nat_inj : ∀ {h h' : List Nat}, (h.map fun (n : Nat) => (n : Int)) = (h'.map fun (n : Nat) => (n : Int)) → h = h'
  | [], [], _ => rfl
  | [], _ :: _, e => by simp at e
  | _ :: _, [], e => by simp at e
  | a :: r, b :: t, e => by
    simp only [List.map_cons, List.cons.injEq] at e
    rw [nat_inj e.2, show a = b by omega]
theorem nat_ints {h h' : List Nat} : (h.map fun (n : Nat) => (n : Int)) = (h'.map fun (n : Nat) => (n : Int)) ↔ h = h' := ⟨nat_inj, fun e => by rw [e]⟩
theorem neH {h h' : List Nat} (h1 : HeapAt H p h) (h2 : HeapAt H q h') (k : Q (.bl (!decide (h = h'))) H) : rNeD K (.ref p) (.ref q) H Q := by
  unfold HeapAt at h1 h2
  rw [hvI2] at h1 h2
  refine neT h1 h2 ?_
  rw [show decide ((h.map fun (n : Nat) => (n : Int)) = (h'.map fun (n : Nat) => (n : Int))) = decide (h = h') from decide_eq_decide.mpr nat_ints]
  exact k
end
end CI

set_option exponentiation.threshold 400
namespace K1
open PySem PySem.Spec PyProof.Rows L2 Evl HM LX ZW TE
section
variable {P : Program} {w : World} {K : PySem.W.Frag} {mg : Str → Option Value} {base : Heap}
end
end K1

set_option exponentiation.threshold 400
namespace K1
open PySem PySem.Spec PyProof.Rows L2 Evl HM LX ZW TE
def beadsL (h : List Nat) : List Int := (List.range h.length).map fun c => bead h c
theorem beads_nd {h : List Nat} (H : IsHeap h) : (beadsL h).Nodup := by
  refine List.pairwise_map.mpr ?_
  refine List.pairwise_lt_range.imp fun {a b} q e => ?_
  have := H.le (show a ≤ b by omega)
  unfold bead at e
  omega
theorem mem_beads {h : List Nat} {z : Int} : z ∈ beadsL h ↔ isB h z := by
  unfold beadsL isB
  rw [List.mem_map]
  constructor
  · rintro ⟨c, hc, rfl⟩
    exact ⟨c, List.mem_range.mp hc, rfl⟩
  · rintro ⟨c, hc, rfl⟩
    exact ⟨c, List.mem_range.mpr hc, rfl⟩
theorem int_inv {ns : List Int} {i : Nat} {x : V} (h : (ns.map V.int)[i]? = some x) : i < ns.length ∧ ∃ n, ns[i]? = some n ∧ x = V.int n := by
  rw [List.getElem?_map] at h
  obtain ⟨n, hn, rfl⟩ := Option.map_eq_some_iff.mp h
  exact ⟨(List.getElem?_eq_some_iff.mp hn).1, n, hn, rfl⟩
theorem take_snoc1 {α : Type} {l : List α} {i : Nat} {x : α} (h : l[i]? = some x) : l.take (i + 1) = l.take i ++ [x] := by
  rw [List.take_add_one, h]
  rfl
def tst (h : List Nat) (k n : Int) : Bool := decide (n - k ∈ beadsL h) || decide (n - k < -(h.length : Int))
theorem tst_iff (h : List Nat) (k : Int) : ((beadsL h).map (tst h k)).all id = true ↔ coreB h k := by
  rw [List.all_eq_true]
  constructor
  · intro a c hc
    have := a (tst h k (bead h c)) (List.mem_map.mpr ⟨_, mem_beads.mpr ⟨c, hc, rfl⟩, rfl⟩)
    rcases Bool.or_eq_true_iff.mp this with q | q
    · exact .inl (mem_beads.mp (of_decide_eq_true q))
    · exact .inr (of_decide_eq_true q)
  · intro C x hx
    obtain ⟨n, hn, rfl⟩ := List.mem_map.mp hx
    obtain ⟨c, hc, rfl⟩ := mem_beads.mp hn
    rcases C c hc with q | q
    · exact Bool.or_eq_true_iff.mpr (.inl (decide_eq_true (mem_beads.mpr q)))
    · exact Bool.or_eq_true_iff.mpr (.inr (decide_eq_true q))
def kB (ns : List Int) : List (Key × V) := ns.map fun n => (.inl n, .bl true)
theorem valB : ∀ (ns : List Int) (z : Int), (valV (kB ns) (.inl z : Key)).isSome = decide (z ∈ ns)
  | [], z => by
    rw [decide_eq_false (by simp)]
    rfl
  | n :: r, z => by
    by_cases c : n = z
    · rw [decide_eq_true (by rw [c]; exact List.mem_cons_self ..)]
      show (valV ((Sum.inl n, V.bl true) :: kB r) (.inl z : Key)).isSome = true
      rw [valV_pos (by rw [c])]
      rfl
    · show (valV ((Sum.inl n, V.bl true) :: kB r) (.inl z : Key)).isSome = _
      rw [valV_neg (fun e => c (Sum.inl.inj e)), valB r z, decide_eq_decide]
      constructor
      · exact fun h => List.mem_cons_of_mem _ h
      · intro h
        rcases List.mem_cons.mp h with h | h
        · exact absurd h.symm c
        · exact h
theorem Ex.of_keepD {H H' : Hp} {d : Addr} {u : HO} (h : H d = some u) (k : Keep d H H') : Ex H (upd H' d u) := fun b o e => by
  by_cases z : b = d
  · rw [z] at e ⊢
    rw [upd_same, ← e, h]
  · rw [upd_ne z]
    exact k b o z e
section
variable {P : Program} {w : World} {K : PySem.W.Frag} {mg : Str → Option Value} {base : Heap}
def spHookAt : Sp := fun vs H Q _ => ∃ p l h, ∃ c r : Nat, vs = [.ref p, .ref l, .int (c : Int), .int (r : Int)] ∧ HeapAt H p h ∧ HeapAt H l (conj h) ∧ IsHeap h ∧ r < hAt h c ∧ Q (.int (hk h c r)) H
theorem ok_hook_at (T : Txt K mg) {f : Addr} {fd : FuncData} (D : DefAt K mg "hook_at" sHookAt ["heap", "lengths", "column", "row"] f fd) : FnOk P w K mg base CX0 1 f fd ["heap", "lengths", "column", "row"] spHookAt := by
  refine D.F.ok scHookAt (fun vs H Q E h => ?_) (fun cdv A outer s₀ H vs Q E hr h => ?_)
  · obtain ⟨p, l, h, c, r, rfl, _⟩ := h
    rfl
  · obtain ⟨p, l, h, c, r, rfl, hp, hl, Hh, hrc, q⟩ := h
    refine ⟨_, pss_one (ps_ret (pe_op op_sub (pe_op op_sub (pe_op op_add (pe_op op_sub (pe_ix ix_tup (pv 0) (pv 2) (fun _ _ => rfl)) (pv 3)) (pe_ix ix_tup (pv 1) (pv 3) (fun _ _ => rfl))) (pv 2)) pe_int)), ?_⟩
    have hc : c < h.length := by
      rcases Nat.lt_or_ge c h.length with z | z
      · exact z
      · rw [hAt_ge z] at hrc
        omega
    have hrl : r < (conj h).length := by
      rw [conj_len]
      have := Hh.le (Nat.zero_le c)
      omega
    exact ⟨_, rfl, _, rfl, p, _, (c : Int), .int (hAt h c : Int), rfl, rfl, SqT.of hp, atI_nat (hv_get hc), _, rfl, _, _, rfl, rfl, _, rfl, _, rfl, l, _, (r : Int), .int (hAt (conj h) r : Int), rfl, rfl, SqT.of hl, atI_nat (hv_get hrl), _, _, rfl, rfl, _, rfl, _, _, rfl, rfl, _, _, rfl, rfl, q⟩
def spHook (K : PySem.W.Frag) : Sp := fun vs H Q _ => ∃ p t h, ∃ c r : Nat, vs = [.ref p, .ref t] ∧ HeapAt H p h ∧ Good h ∧ H t = some (.tup [.int (c : Int), .int (r : Int)]) ∧ r < hAt h c ∧ ∀ H', Ex H H' → Q (.int (hk h c r)) H'
def spBeads (K : PySem.W.Frag) : Sp := fun vs H Q _ => ∃ p h, vs = [.ref p] ∧ HeapAt H p h ∧ h.length ≤ 100 ∧ ∀ l H', Ex H H' → H l = none → H' l = some (.lst ((beadsL h).map V.int)) → Q (.ref l) H'
theorem ok_beads_of (T : Txt K mg) {f : Addr} {fd : FuncData} (D : DefAt K mg "beads_of" sBeadsOf ["heap"] f fd) : FnOk P w K mg base CX0 1 f fd ["heap"] (spBeads K) := by
  refine D.F.ok scBeadsOf (fun vs H Q E h => ?_) (fun cdv A outer s₀ H vs Q E hr h => ?_)
  · obtain ⟨p, h, rfl, _⟩ := h
    rfl
  · obtain ⟨p, h, rfl, hp, hl, q⟩ := h
    refine ⟨_, pss_one (ps_ret (pe_lc (own := [("column", 1), ("height", 2)]) (g := gTup K 2 (gCons (gName 1) (gCons (gName 2) gNil))) (tt := tYes) rfl scBeadsOf.nd (EnT.pi_enumT (by rfl) T.z_enumerate (pa_cons (pv 0) pa_nil))
        (blkOk_by (N := nBeadsOf) (sc := defScope sBeadsOf) (by decide +kernel)) (fun _ _ _ _ _ => (pg_tup (by rfl) (pgs_cons (pg_name (i := 1) scBeadsOf.nd rfl (.inl rfl)) (pgs_cons (pg_name (i := 2) scBeadsOf.nd rfl (.inl rfl)) pgs_nil)))) (fun _ _ _ _ _ => pts_nil)
        (fun _ _ _ _ _ => (pe_op op_sub (pe_op op_sub (pv 2) (pv 1)) pe_int)))), ?_⟩
    refine ⟨_, rfl, p, _, rfl, SqT.of hp, fun Dl hD => ?_⟩
    refine lc_enumT (K := K) (a := p) (xs := hv h) (fun i H' => H' Dl = some (.lst (((List.range i).map fun c => bead h c).map V.int)) ∧ Ex H H') ⟨upd_same, Ex.new hD⟩ (fun i H' hp2 => SqT.of (hp2.2 _ _ hp)) (fun i x Tp H' hx hp2 nT => ?_) (fun H' hp2 => ?_)
    · obtain ⟨w1, w2⟩ := hp2
      have hi : i < h.length := by
        have := (List.getElem?_eq_some_iff.mp hx).1
        rw [hv_len] at this
        exact this
      rw [hv_get hi] at hx
      obtain rfl := Option.some.inj hx
      have eT := Ex.new (o := .tup [.int (i : Nat), .int (hAt h i : Int)]) nT
      refine ⟨Tp, _, rfl, SqT.of upd_same, rfl, .int (i : Nat), [_], rfl, _, [], rfl, rfl, rfl, ?_⟩
      dsimp only [tYes]
      rw [if_pos rfl]
      refine ⟨_, rfl, _, rfl, _, _, rfl, rfl, _, _, rfl, rfl, _, eT _ _ w1, ?_, ?_, Ex.mut (w2.trans eT) hD⟩
      · rw [List.length_map, List.length_map, List.length_range]
        exact small1000 (by omega)
      · rw [upd_same, List.range_succ, List.map_append, List.map_append]
        rfl
    · rw [hv_len] at hp2
      exact q Dl H' hp2.2 hD hp2.1
def spCheckOrder : Sp := fun vs H Q _ => ∃ k : Int, vs = [.int k] ∧ 2 ≤ k ∧ k ≤ 60 ∧ ∀ H', Ex H H' → Q .non H'
theorem ok_check_order (T : Txt K mg) {f : Addr} {fd : FuncData} (D : DefAt K mg "check_order" sCheckOrder ["k"] f fd) : FnOk P w K mg base CX0 4 f fd ["k"] spCheckOrder := by
  refine D.F.ok scCheckOrder (fun vs H Q E h => ?_) (fun cdv A outer s₀ H vs Q E hr h => ?_)
  · obtain ⟨k, rfl, _⟩ := h
    rfl
  · obtain ⟨k, rfl, h1, h2, q⟩ := h
    obtain ⟨f1, fd1, D1⟩ := T.d_check_between
    obtain ⟨tMAX_ORDER, vMAX_ORDER⟩ := T.v_MAX_ORDER
    have hr3 : Room 3 _ := hr.mono (by decide)
    refine ⟨_, pss_one (ps_expr (pe_call (ok_check_between T D1) hr3 (by rfl) D1.g D1.F.kp D1.b .nil pass0 (pa_cons (pv 0) (pa_cons pe_int (pa_cons (pe_glob (v := .int 60) rfl vMAX_ORDER ⟨_, rfl⟩) pa_nil))))), ?_⟩
    exact ⟨_, rfl, _, _, _, rfl, h1, h2, by omega, by omega, q⟩
def spStays : Sp := fun vs H Q _ => ∃ k p h, vs = [.int k, .ref p] ∧ HeapAt H p h ∧ Good h ∧ 2 ≤ k ∧ ∀ b H', (b = true ↔ coreB h k) → Ex H H' → Q (.bl b) H'
theorem ok_stays_core (T : Txt K mg) {f : Addr} {fd : FuncData} (D : DefAt K mg "stays_core" sStaysCore ["k", "heap"] f fd) : FnOk P w K mg base CX0 2 f fd ["k", "heap"] spStays := by
  refine D.F.ok scStaysCore (fun vs H Q E h => ?_) (fun cdv A outer s₀ H vs Q E hr h => ?_)
  · obtain ⟨k, p, h, rfl, _⟩ := h
    rfl
  · obtain ⟨k, p, h, rfl, hp, G, k2, q⟩ := h
    obtain ⟨f1, fd1, D1⟩ := T.d_beads_of
    have hr1 : Room 1 _ := hr.mono (by decide)
    have hu1 := Nat.lt_of_le_of_lt (Nat.add_le_add_left (show 1 ≤ 64 by decide) _) hr.units
    refine ⟨_, pss_cons (ps_set (i := 2) scStaysCore.nd rfl (.inr rfl) (pe_dc (own := [("bead", 3)]) (g := gName 3) (tt := tYes) rfl scStaysCore.nd (pi_list (pe_call (ok_beads_of T D1) hr1 (by rfl) D1.g D1.F.kp D1.b .nil pass0 (pa_cons (pv 1) pa_nil)))
        (blkOk_by (N := nStaysCore) (sc := defScope sStaysCore) (by decide +kernel)) (fun _ _ _ _ _ => (pg_name (i := 3) scStaysCore.nd rfl (.inl rfl))) (fun _ _ _ _ _ => pts_nil)
        (fun _ _ _ _ _ => (pv 3)) (fun _ _ _ _ _ => pe_bl)))
      (pss_one (ps_ret (pe_callB (cr_all rfl) (by rfl) T.z_all (by decide +kernel) (pa_cons (pe_lock (pe_lc (own := [("bead", 3)]) (g := gName 3) (tt := tYes) rfl scStaysCore.nd (pi_keys (pv 2))
        (blkOk_by (N := nStaysCore) (sc := defScope sStaysCore) (by decide +kernel)) (fun _ _ _ _ _ => (pg_name (i := 3) scStaysCore.nd rfl (.inl rfl))) (fun _ _ _ _ _ => pts_nil)
        (fun _ _ _ _ _ => (pe_or (pe_cmp (pc_din hu1 (pe_op op_sub (pv 3) (pv 0)) (pv 2)) (by rfl)) (pe_one (pe_cmpR op_lt (pe_op op_sub (pv 3) (pv 0)) (pe_un un_neg (pe_callB (show CallR _ (.builtin "len") (rLenS K) from call_len_seq) (by rfl) T.z_len PySem.boot_len (pa_cons (pv 1) pa_nil))) (nomark _))))))) pa_nil)))), ?_⟩
    have gl := G.len
    refine ⟨_, rfl, p, h, rfl, hp, by omega, fun l H1 e1 hl0 hl1 => ?_⟩
    have bl : (beadsL h).length = h.length := by unfold beadsL; rw [List.length_map, List.length_range]
    refine ⟨l, rfl, ⟨_, SqL.of hl1⟩, fun Dd hDd => ?_⟩
    refine DI.dcK_it (walk_list (K := K) (a := l) (xs := (beadsL h).map V.int)) (fun i H' => H' Dd = some (.dK (kB ((beadsL h).take i))) ∧ Ex H1 H') ⟨upd_same, Ex.new hDd⟩ (fun i H' _ hp2 => SqL.of (hp2.2 _ _ hl1)) (fun i x H2 H3 hi hp2 hy => ?_) (fun H2 hp2 => ?_)
    · obtain ⟨w1, w2⟩ := hp2
      obtain ⟨rfl, hx⟩ := hy
      obtain ⟨hi2, n, hn, rfl⟩ := int_inv hx
      refine ⟨rfl, ?_⟩
      dsimp only [tYes]
      rw [if_pos rfl]
      refine ⟨_, rfl, _, .inl n, rfl, w1, ?_, ?_, Ex.mut w2 hDd⟩
      · unfold kB
        rw [List.length_map, List.length_take]
        exact small1000 (by omega)
      · rw [upd_same, take_snoc1 hn, putK_new]
        · unfold kB
          rw [List.map_append]
          rfl
        · have nd := beads_nd G.heap
          have sp : beadsL h = (beadsL h).take i ++ [n] ++ (beadsL h).drop (i + 1) := by rw [← take_snoc1 hn, List.take_append_drop]
          have nin : ¬ n ∈ (beadsL h).take i := fun z => by
            rw [sp] at nd
            exact (List.nodup_append.mp (List.nodup_append.mp nd).1).2.2 n z n (List.mem_singleton.mpr rfl) rfl
          have := valB ((beadsL h).take i) n
          rw [decide_eq_false nin] at this
          cases hv0 : valV (kB ((beadsL h).take i)) (.inl n : Key) with
          | none => rfl
          | some v =>
            rw [hv0] at this
            cases this
    · obtain ⟨w1, w2⟩ := hp2
      rw [List.length_map, List.take_length] at w1
      refine ⟨Dd, _, w1, trivial, fun od => ?_⟩
      have hp2 := (e1.trans w2) _ _ hp
      have nDp : p ≠ Dd := ne_of hp2 w1 (by intro z; cases z)
      have g0 : (upd H2 Dd (.frz od (.dK (kB (beadsL h))))) Dd = some (.frz od (.dK (kB (beadsL h)))) := upd_same
      have gp : HeapAt (upd H2 Dd (.frz od (.dK (kB (beadsL h))))) p h := (upd_ne nDp).trans hp2
      have kp : Keep Dd H2 (upd H2 Dd (.frz od (.dK (kB (beadsL h))))) := Keep.dice
      generalize upd H2 Dd (.frz od (.dK (kB (beadsL h)))) = H3 at g0 gp kp ⊢
      refine ⟨_, rfl, Dd, od, rfl, .inl ⟨_, g0, fun Lq hLq => ?_⟩⟩
      refine lc_it walk_keys (fun i H4 => H4 Lq = some (.lst ((((beadsL h).take i).map (tst h k)).map V.bl)) ∧ Ex H3 H4) ⟨upd_same, Ex.new hLq⟩ (fun i H4 _ hp4 => hp4.2 _ _ g0) (fun i x H4 H5 hi hp4 hy => ?_) (fun H4 hp4 => ?_)
      · obtain ⟨v1, v2⟩ := hp4
        obtain ⟨rfl, ky, vv, hkv, rfl⟩ := hy
        unfold kB at hkv
        rw [List.getElem?_map] at hkv
        obtain ⟨n, hn, hkk⟩ := Option.map_eq_some_iff.mp hkv
        cases hkk
        have hi2 := (List.getElem?_eq_some_iff.mp hn).1
        have fin : ∀ b : Bool, b = tst h k n → ∃ acc, H5 Lq = some (.lst acc) ∧ acc.length < sizeLine ∧ (upd H5 Lq (.lst (acc ++ [V.bl b]))) Lq = some (.lst ((((beadsL h).take (i + 1)).map (tst h k)).map V.bl)) ∧ Ex H3 (upd H5 Lq (.lst (acc ++ [V.bl b]))) := fun b hb => by
          refine ⟨_, v1, ?_, ?_, Ex.mut v2 hLq⟩
          · rw [List.length_map, List.length_map, List.length_take]
            exact small1000 (by omega)
          · rw [upd_same, take_snoc1 hn, hb, List.map_append, List.map_append]
            rfl
        refine ⟨rfl, ?_⟩
        dsimp only [tYes]
        rw [if_pos rfl]
        refine ⟨_, rfl, _, rfl, _, _, rfl, rfl, _, rfl, Dd, valV (kB (beadsL h)) (.inl (n - k) : Key), rfl, .inl ⟨_, .inl (n - k), .inr ⟨od, v2 _ _ g0⟩, rfl, rfl⟩, ?_⟩
        rw [valB]
        by_cases c : n - k ∈ beadsL h
        · rw [decide_eq_true c]
          refine ⟨true, rfl, iteT (fin true ?_)⟩
          unfold tst
          rw [decide_eq_true c]
          rfl
        · rw [decide_eq_false c]
          refine ⟨false, rfl, iteF ⟨_, rfl, _, rfl, _, _, rfl, rfl, _, rfl, p, _, rfl, .inr (SqT.of (v2 _ _ gp)), _, rfl, _, _, rfl, rfl, fin _ ?_⟩⟩
          unfold tst
          rw [decide_eq_false c, hv_len, Bool.false_or]
      · obtain ⟨v1, v2⟩ := hp4
        have kl : (kB (beadsL h)).length = (beadsL h).length := by unfold kB; rw [List.length_map]
        rw [kl, List.take_length] at v1
        refine ⟨v2 _ _ g0, ?_⟩
        have nL : Lq ≠ Dd := fun z => by
          rw [z, g0] at hLq
          cases hLq
        refine ⟨Lq, (beadsL h).map (tst h k), rfl, SqL.of ((upd_ne nL).trans v1), ?_⟩
        refine q _ _ (tst_iff h k) ?_
        exact (e1.trans w2).trans (Ex.of_keepD w1 (kp.trans (Keep.ex v2)))
end
end K1

set_option exponentiation.threshold 400
namespace K1
open PySem PySem.Spec PyProof.Rows L2 Evl HM LX ZW TE
section
variable {P : Program} {w : World} {K : PySem.W.Frag} {mg : Str → Option Value} {base : Heap}
end
end K1

set_option exponentiation.threshold 400
namespace K1
open PySem PySem.Spec PyProof.Rows L2 Evl HM LX ZW TE
section
variable {P : Program} {w : World} {K : PySem.W.Frag} {mg : Str → Option Value} {base : Heap}
def spIsCore (K : PySem.W.Frag) : Sp := fun vs H Q _ => ∃ k x, vs = [.int k, x] ∧ 2 ≤ k ∧ k ≤ 60 ∧ ((HeapB K H x false ∧ ∀ H', Ex H H' → Q (.bl false) H') ∨ ∃ p h, x = .ref p ∧ HeapAt H p h ∧ Good h ∧ ∀ b H', (b = true ↔ coreB h k) → Ex H H' → Q (.bl b) H')
theorem HeapB.mono {K : PySem.W.Frag} {H H' : Hp} {x : V} {b : Bool} (e : Ex H H') (h : HeapB K H x b) : HeapB K H' x b := by
  cases h with
  | no n => exact .no (n.mono e)
  | yes a G => exact .yes (e _ _ a) G
  | bad a G l bb => exact .bad (e _ _ a) G l (bb.mono e)
theorem ok_is_core (T : Txt K mg) {f : Addr} {fd : FuncData} (D : DefAt K mg "is_core" sIsCore ["k", "value"] f fd) : FnOk P w K mg base CX0 5 f fd ["k", "value"] (spIsCore K) := by
  refine D.F.ok scIsCore (fun vs H Q E h => ?_) (fun cdv A outer s₀ H vs Q E hr h => ?_)
  · obtain ⟨k, x, rfl, _⟩ := h
    rfl
  · obtain ⟨k, x, rfl, h1, h2, h⟩ := h
    obtain ⟨f1, fd1, D1⟩ := T.d_stays_core
    obtain ⟨f2, fd2, D2⟩ := T.d_is_heap
    obtain ⟨f3, fd3, D3⟩ := T.d_check_order
    have hr2 : Room 2 _ := hr.mono (by decide)
    have hr3 : Room 3 _ := hr.mono (by decide)
    have hr4 : Room 4 _ := hr.mono (by decide)
    refine ⟨_, pss_cons (ps_expr (pe_call (ok_check_order T D3) hr4 (by rfl) D3.g D3.F.kp D3.b .nil pass0 (pa_cons (pv 0) pa_nil)))
      (pss_one (ps_ret (pe_and (pe_call (ok_is_heapV T D2) hr3 (by rfl) D2.g D2.F.kp D2.b .nil pass0 (pa_cons (pv 1) pa_nil)) (pe_one (pe_call (ok_stays_core T D1) hr2 (by rfl) D1.g D1.F.kp D1.b .nil pass0 (pa_cons (pv 0) (pa_cons (pv 1) pa_nil))))))), ?_⟩
    refine ⟨_, rfl, k, rfl, h1, h2, fun H1 e1 => ?_⟩
    rcases h with ⟨hb, q⟩ | ⟨p, h, rfl, hp, G, q⟩
    · exact ⟨_, rfl, x, false, rfl, hb.mono e1, fun H2 e2 => ⟨false, rfl, iteF (q _ (e1.trans e2))⟩⟩
    · refine ⟨_, rfl, .ref p, true, rfl, .yes (e1 _ _ hp) G, fun H2 e2 => ⟨true, rfl, iteT ?_⟩⟩
      exact ⟨_, rfl, _, rfl, k, p, h, rfl, (e1.trans e2) _ _ hp, G, h1, fun b H3 hb e3 => q b H3 hb ((e1.trans e2).trans e3)⟩
def lowf (h : List Nat) (k n : Int) : Bool := decide (n - k ≥ 0 - (h.length : Int)) && !decide (n - k ∈ beadsL h)
def spLIsCore : Sp := fun vs H Q _ => ∃ k p h, vs = [.int k, .ref p] ∧ HeapAt H p h ∧ h.length ≤ 60 ∧ ∀ b H', (b = true ↔ coreB h k) → Ex H H' → Q (.bl b) H'
def spLHook : Sp := fun vs H Q _ => ∃ p t h, ∃ c r : Nat, vs = [.ref p, .ref t] ∧ HeapAt H p h ∧ IsHeap h ∧ h.length ≤ 60 ∧ H t = some (.tup [.int (c : Int), .int (r : Int)]) ∧ r < hAt h c ∧ ∀ H', Ex H H' → Q (.int (hk h c r)) H'
end
end K1

set_option exponentiation.threshold 400
namespace K1
open PySem PySem.Spec PyProof.Rows L2 Evl HM LX ZW TE
section
variable {P : Program} {w : World} {K : PySem.W.Frag} {mg : Str → Option Value} {base : Heap}
end
end K1

namespace K1
open PySem PySem.Spec PyProof.Rows L2 Evl HM LX ZW TE
def bump (l : List Int) (k z d : Int) : List Int := l.set (z % k).toNat (l.getD (z % k).toNat 0 + d)
def upF (k : Int) (l : List Int) (b : Int) : List Int := if 0 ≤ b then bump l k b 1 else l
def dnF (h : List Nat) (k : Int) (l : List Int) (m : Nat) : List Int := if (m : Int) - (h.length : Int) ∈ beadsL h then l else bump l k ((m : Int) - (h.length : Int)) (-1)
def up (k : Int) (bs : List Int) (l : List Int) : List Int := bs.foldl (upF k) l
def dn (h : List Nat) (k : Int) (n : Nat) (l : List Int) : List Int := (List.range n).foldl (dnF h k) l
def zs (k : Int) : List Int := List.replicate k.toNat 0
def chL (h : List Nat) (k : Int) : List Int := dn h k h.length (up k (beadsL h) (zs k))
end K1

namespace K1
open PySem PySem.Spec PyProof.Rows L2 Evl HM LX ZW TE
end K1

set_option exponentiation.threshold 400
namespace K1
open PySem PySem.Spec PyProof.Rows L2 Evl HM LX ZW TE
section
variable {P : Program} {w : World} {K : PySem.W.Frag} {mg : Str → Option Value} {base : Heap}
def spCheckCore (K : PySem.W.Frag) : Sp := fun vs H Q _ => ∃ k p h, vs = [.int k, .ref p] ∧ HeapAt H p h ∧ Good h ∧ 2 ≤ k ∧ coreB h k ∧ ∀ H', Ex H H' → Q .non H'
theorem ok_check_core (T : Txt K mg) {f : Addr} {fd : FuncData} (D : DefAt K mg "check_core" sCheckCore ["k", "core"] f fd) : FnOk P w K mg base CX0 4 f fd ["k", "core"] (spCheckCore K) := by
  refine D.F.ok scCheckCore (fun vs H Q E h => ?_) (fun cdv A outer s₀ H vs Q E hr h => ?_)
  · obtain ⟨k, p, h, rfl, _⟩ := h
    rfl
  · obtain ⟨k, p, h, rfl, hp, G, k2, C, q⟩ := h
    obtain ⟨f1, fd1, D1⟩ := T.d_stays_core
    obtain ⟨f2, fd2, D2⟩ := T.d_is_heap
    have hr2 : Room 2 _ := hr.mono (by decide)
    have hr3 : Room 3 _ := hr.mono (by decide)
    refine ⟨_, pss_one (ps_if (PW.pt (pw_or (pt_not (pt_val (pe_call (ok_is_heapV T D2) hr3 (by rfl) D2.g D2.F.kp D2.b .nil pass0 (pa_cons (pv 1) pa_nil))))
          (pw_or1 (pt_not (pt_val (pe_call (ok_stays_core T D1) hr2 (by rfl) D1.g D1.F.kp D1.b .nil pass0 (pa_cons (pv 0) (pa_cons (pv 1) pa_nil)))))))) pss_never pss_nil), ?_⟩
    refine ⟨_, rfl, .ref p, true, rfl, .yes hp G, fun H1 e1 => ⟨true, rfl, iteF' rfl ?_⟩⟩
    refine ⟨_, rfl, _, rfl, k, p, h, rfl, e1 _ _ hp, G, k2, fun b H2 hb e2 => ?_⟩
    obtain rfl : b = true := hb.mpr C
    exact ⟨true, rfl, iteF' rfl (q _ (e1.trans e2))⟩
def spCheckTold (K : PySem.W.Frag) : Sp := fun vs H Q _ => ∃ k p h, vs = [.int k, .ref p] ∧ HeapAt H p h ∧ Good h ∧ 2 ≤ k ∧ k ≤ 60 ∧ coreB h k ∧ ∀ H', Ex H H' → Q .non H'
theorem ok_check_told (T : Txt K mg) {f : Addr} {fd : FuncData} (D : DefAt K mg "check_told" sCheckTold ["k", "core"] f fd) : FnOk P w K mg base CX0 5 f fd ["k", "core"] (spCheckTold K) := by
  refine D.F.ok scCheckTold (fun vs H Q E h => ?_) (fun cdv A outer s₀ H vs Q E hr h => ?_)
  · obtain ⟨k, p, h, rfl, _⟩ := h
    rfl
  · obtain ⟨k, p, h, rfl, hp, G, k2, k3, C, q⟩ := h
    obtain ⟨f1, fd1, D1⟩ := T.d_check_core
    obtain ⟨f2, fd2, D2⟩ := T.d_check_order
    have hr4 : Room 4 _ := hr.mono (by decide)
    refine ⟨_, pss_cons (ps_expr (pe_call (ok_check_order T D2) hr4 (by rfl) D2.g D2.F.kp D2.b .nil pass0 (pa_cons (pv 0) pa_nil)))
      (pss_one (ps_expr (pe_call (ok_check_core T D1) hr4 (by rfl) D1.g D1.F.kp D1.b .nil pass0 (pa_cons (pv 0) (pa_cons (pv 1) pa_nil))))), ?_⟩
    refine ⟨_, rfl, k, rfl, k2, k3, fun H1 e1 => ?_⟩
    exact ⟨_, rfl, _, rfl, k, p, h, rfl, e1 _ _ hp, G, k2, C, fun H2 e2 => q _ (e1.trans e2)⟩
def spCharges (K : PySem.W.Frag) : Sp := fun vs H Q _ => ∃ k p h, vs = [.int k, .ref p] ∧ HeapAt H p h ∧ Good h ∧ 2 ≤ k ∧ k ≤ 60 ∧ coreB h k ∧ ∀ r H', Ex H H' → H' r = some (.tup ((chL h k).map V.int)) → Q (.ref r) H'
end
end K1

set_option exponentiation.threshold 400
namespace K1
open PySem PySem.Spec PyProof.Rows L2 Evl HM LX ZW TE
section
variable {P : Program} {w : World} {K : PySem.W.Frag} {mg : Str → Option Value} {base : Heap}
def spLCharges : Sp := fun vs H Q _ => ∃ k p h, vs = [.int k, .ref p] ∧ HeapAt H p h ∧ h.length ≤ 60 ∧ 2 ≤ k ∧ k ≤ 60 ∧ ∀ r H', Ex H H' → H' r = some (.tup ((chL h k).map V.int)) → Q (.ref r) H'
end
end K1

/-! own rule: sum of a tuple of ints -/
namespace ST
open PySem PySem.Spec PyProof.Rows L2
section
variable {prog : Program} {w : World} {A : Around} {E : Value → Shared → Prop} {s : Shared} {l : Addr}
theorem sum_tup {xs : Array (Int × Tok)} {Q : Value → Shared → Prop} (hh : A.handled = none) (hl : s.heap.IsTuple l (intItems xs))
    (h : ∀ h' tk t', (∀ b o, s.heap.get? b = some o → h'.get? b = some o) → Q (.int (preSum (numAt xs) xs.size) t') { s with heap := h', toks := tk }) :
    wpAny (model prog w) A (call (.builtin "sum") [.ref l]) Q E s := by
  have hlt : l < s.heap.objs.size := by
    obtain ⟨_, e, _⟩ := hl
    exact Heap.lt_size e
  refine call_sum_walkG (wpAny_pyIter_tuple hl ?_)
  refine ⟨_, _, _, _, _, _, numAt xs, rfl, Walks.tuple (A := A.in1) hh s.heap.objs.size l (Nat.ne_of_lt hlt) (intItems xs), ⟨⟨_, Heap.get?_push_size _ rfl, rfl, rfl⟩, hl.push _⟩, fun b hb => ?_, (fun _ _ => intItems_at), fun h' tk t' hk => ?_⟩
  · show b < (s.heap.push _).objs.size
    rw [Heap.size_push]
    rcases List.mem_cons.mp hb with rfl | hb
    · exact Nat.lt_succ_self _
    · rcases List.mem_cons.mp hb with rfl | hb
      · exact Nat.lt_succ_of_lt hlt
      · cases hb
  · have := h h' tk t' fun b o e => by
      refine hk b o (fun hm => ?_) (Heap.get?_push_of_some _ e)
      rcases List.mem_cons.mp hm with e1 | hm
      · exact absurd (e1 ▸ Heap.lt_size e) (Nat.lt_irrefl _)
      · cases hm
    simpa [intItems] using this
theorem sum_tupR {its : List Value} {ns : List Int} {Q : Value → Shared → Prop} (hh : A.handled = none) (hl : s.heap.IsTuple l its.toArray) (hi : IntsAre its ns)
    (h : ∀ h' tk t', (∀ b o, s.heap.get? b = some o → h'.get? b = some o) → Q (.int ns.sum t') { s with heap := h', toks := tk }) : wpAny (model prog w) A (call (.builtin "sum") [.ref l]) Q E s := by
  obtain ⟨xs, e⟩ := hi.allInts.items
  have hn : numsOf (intItems xs).toList = ns := by rw [← e]; exact hi.numsOf
  rw [nums_intItems] at hn
  rw [e] at hl
  refine sum_tup hh hl fun h' tk t' hk => ?_
  have := h h' tk t' hk
  rw [preSum_eq, List.take_of_length_le (by simp), hn]
  exact this
end
section
variable {X : Cx}
def rSumT (K : PySem.W.Frag) : List V → Hp → VK → Prop := fun vs H Q => ∃ (a : Addr) (ns : List Int), vs = [V.ref a] ∧ SqT K H a (ns.map V.int) ∧ Q (.int ns.sum) H
theorem cr_sumT (hc : X.calm = true) : CallR X (.builtin "sum") (rSumT X.K) := by
  intro pins s σ H vs us Q I r h
  obtain ⟨a, ns, rfl, hs, q⟩ := h
  obtain ⟨its, rv, hl, _⟩ := I.tuple hs
  rw [Vals.ref1 r]
  exact sum_tupR (I.ok.hd hc) hl rv.ints fun h' tk t' hk => ⟨.int _, H, I.kept hk, ⟨_, rfl⟩, q⟩
end
end ST

set_option exponentiation.threshold 400
namespace K1
open PySem PySem.Spec PyProof.Rows L2 Evl HM LX ZW TE
/-- how many squares of a column have a hook below k -/
def lt1 (h : List Nat) (k : Int) (c : Nat) (n : Nat) : List Nat := (List.range n).filter fun r => decide (hk h c r < k)
def ltL (h : List Nat) (k : Int) (n : Nat) : List Int := (List.range n).map fun c => ((lt1 h k c (hAt h c)).length : Int)
theorem lt1_next (h : List Nat) (k : Int) (c n : Nat) : lt1 h k c (n + 1) = lt1 h k c n ++ (if hk h c n < k then [n] else []) := by
  unfold lt1
  rw [List.range_succ, List.filter_append]
  congr 1
  by_cases z : hk h c n < k
  · rw [if_pos z]
    simp [z]
  · rw [if_neg z]
    simp [z]
theorem lt1_le (h : List Nat) (k : Int) (c n : Nat) : (lt1 h k c n).length ≤ n := by
  have := List.length_filter_le (fun r => decide (hk h c r < k)) (List.range n)
  rw [List.length_range] at this
  exact this
theorem ltL_next (h : List Nat) (k : Int) (n : Nat) : ltL h k (n + 1) = ltL h k n ++ [((lt1 h k n (hAt h n)).length : Int)] := by
  unfold ltL
  rw [List.range_succ, List.map_append]
  rfl
theorem ltL_len (h : List Nat) (k : Int) (n : Nat) : (ltL h k n).length = n := by
  unfold ltL
  rw [List.length_map, List.length_range]
section
variable {P : Program} {w : World} {K : PySem.W.Frag} {mg : Str → Option Value} {base : Heap}
def spParts (K : PySem.W.Frag) : Sp := fun vs H Q _ => ∃ k p h, vs = [.int k, .ref p] ∧ HeapAt H p h ∧ Good h ∧ ∀ r H', Ex H H' → H' r = some (.tup ((ltL h k h.length).map V.int)) → Q (.ref r) H'
theorem ok_parts_of (T : Txt K mg) {f : Addr} {fd : FuncData} (D : DefAt K mg "parts_of" sPartsOf ["k", "heap"] f fd) : FnOk P w K mg base CX0 3 f fd ["k", "heap"] (spParts K) := by
  refine D.F.ok scPartsOf (fun vs H Q E h => ?_) (fun cdv A outer s₀ H vs Q E hr h => ?_)
  · obtain ⟨k, p, h, rfl, _⟩ := h
    rfl
  · obtain ⟨k, p, h, rfl, hp0, G, q⟩ := h
    obtain ⟨f1, fd1, D1⟩ := T.d_hook_at
    obtain ⟨f2, fd2, D2⟩ := T.d_lengths_of
    have hr1 : Room 1 _ := hr.mono (by decide)
    have hr2 : Room 2 _ := hr.mono (by decide)
    refine ⟨_, pss_cons (ps_set (i := 2) scPartsOf.nd rfl (.inr rfl) (pe_call (ok_lengths_of T D2) hr2 (by rfl) D2.g D2.F.kp D2.b .nil pass0 (pa_cons (pv 1) pa_nil)))
      (pss_cons (ps_set (i := 3) scPartsOf.nd rfl (.inl rfl) (pe_lst pa_nil))
      (pss_cons (ps_for PassesOwn.never rfl (EnT.pi_enumT (by rfl) T.z_enumerate (pa_cons (pv 1) pa_nil)) (pg_tup (by rfl) (pgs_cons (pg_name (i := 4) scPartsOf.nd rfl (.inr rfl)) (pgs_cons (pg_name (i := 5) scPartsOf.nd rfl (.inl rfl)) pgs_nil)))
        (pss_one (ps_expr (pe_bm PySem.F.plainAttrs_list PySem.F.slot_list_append PySem.F.type_list_append mt_append (pv 3) (pa_cons (pe_callB call_len_seq (by rfl) T.z_len PySem.boot_len (pa_cons (pe_lc (own := [("row", 6)]) (g := gName 6) rfl scPartsOf.nd (pi_range1 (by rfl) T.z_range (pa_cons (pv 5) pa_nil))
        (blkOk_by (N := nPartsOf) (sc := defScope sPartsOf) (by decide +kernel)) (fun _ _ _ _ _ => (pg_name (i := 6) scPartsOf.nd rfl (.inl rfl))) (fun _ _ _ _ _ => pts_one (pt_cmpR op_lt (pe_call (ok_hook_at T D1) hr1 (by rfl) D1.g D1.F.kp D1.b .nil pass0 (pa_cons (pv 1) (pa_cons (pv 2) (pa_cons (pv 4) (pa_cons (pv 6) pa_nil))))) (pv 0) (nomark _)))
        (fun _ _ _ _ _ => (pv 6))) pa_nil)) pa_nil)))))
      (pss_one (ps_ret (pe_callTy call_tuple_of (by rfl) T.z_tuple (by decide +kernel) (pa_cons (pv 3) pa_nil)))))), ?_⟩
    have hl60 := G.len
    refine ⟨_, rfl, p, h, rfl, hp0, G, fun ln H1 e1 hln => ?_⟩
    refine ⟨by show 0 ≤ sizeLine; decide, fun Lp hLp => ?_⟩
    have x2 := Ex.new (o := .lst []) hLp
    have nH : H Lp = none := fresh_back e1 hLp
    have h2 : (upd H1 Lp (.lst [])) Lp = some (.lst ((ltL h k 0).map V.int)) := upd_same
    have e2 := e1.trans x2
    have hln2 := x2 _ _ hln
    generalize upd H1 Lp (.lst []) = H2 at *
    refine ⟨_, rfl, p, _, rfl, SqT.of (e2 _ _ hp0), for_it (walk_enumT (K := K) (a := p) (xs := hv h)) (fun i σ' H' => ∃ y4 y5, σ' = [some (.int k), some (.ref p), some (.ref ln), some (.ref Lp), y4, y5, none] ∧ H' Lp = some (.lst ((ltL h k i).map V.int)) ∧ H' ln = some (.tup (hv (conj h))) ∧ Ex H H') ⟨none, none, rfl, h2, hln2, e2⟩ (fun i σ' H' _ hp => ?_) (fun i x σ' H' H8 hi hp hy => ?_) (fun σ' H' hp => ?_)⟩
    · obtain ⟨_, _, _, _, _, w3⟩ := hp
      exact SqT.of (w3 _ _ hp0)
    · obtain ⟨y4, y5, rfl, w1, w2, w3⟩ := hp
      obtain ⟨Tp, x1, z1, rfl, nT, rfl, hx1, hz1⟩ := hy
      obtain rfl := Option.some.inj hx1
      have hi' : i < h.length := by
        rw [hv_len] at hi
        exact hi
      have hz2 : (hv h)[i]? = some z1 := hz1
      rw [hv_get hi'] at hz2
      obtain rfl := Option.some.inj hz2
      have eT := Ex.new (o := .tup [.int (i : Nat), .int (hAt h i : Int)]) nT
      refine ⟨Tp, _, rfl, SqT.of upd_same, rfl, .int (i : Nat), [_], rfl, _, [], rfl, rfl, ?_⟩
      have w1' := eT _ _ w1
      have w2' := eT _ _ w2
      have w3' := w3.trans eT
      generalize upd H' Tp (.tup [.int (i : Nat), .int (hAt h i : Int)]) = H3 at *
      have ha := G.all i
      refine ⟨_, rfl, .inl ⟨rfl, _, SqL.of w1'⟩, ?_⟩
      refine ⟨_, rfl, _, rfl, by omega, by omega, fun Dl hD => ?_⟩
      refine lc_range (lo := 0) (n := ((hAt h i : Int)).toNat) (fun r H7 => H7 Dl = some (.lst (hv (lt1 h k i r))) ∧ Ex H3 H7) ⟨upd_same, Ex.new hD⟩ (fun r H7 hr7 hp7 => ?_) (fun H7 hp7 => ?_)
      · obtain ⟨u1, u2⟩ := hp7
        have lr := lt1_le h k i r
        rw [show (0 : Int) + (r : Int) = (r : Int) by omega]
        refine ⟨rfl, _, rfl, _, rfl, _, rfl, _, rfl, p, ln, h, i, r, rfl, (w3'.trans u2) _ _ hp0, u2 _ _ w2', G.heap, by omega, _, rfl, _, _, rfl, rfl, _, rfl, ite2 (fun cc => ?_) (fun cc => ?_)⟩
        · have c0 : hk h i r < k := of_decide_eq_true cc
          refine ⟨_, rfl, _, u1, by rw [hv_len]; exact small1000 (by omega), ?_, Ex.mut u2 hD⟩
          rw [upd_same, lt1_next, if_pos c0, hv_snoc]
        · have c0 : ¬ hk h i r < k := fun z => cc (decide_eq_true z)
          refine ⟨?_, u2⟩
          rw [lt1_next, if_neg c0, List.append_nil]
          exact u1
      · obtain ⟨u1, u2⟩ := hp7
        rw [Int.toNat_natCast] at u1
        have ne : ln ≠ Lp := fun z => by
          have a := w2'
          rw [z, w1'] at a
          cases a
        refine ⟨Dl, _, rfl, .inl (SqL.of u1), Lp, _, _, rfl, rfl, u2 _ _ w1', ?_, _, _, rfl, ?_, ?_, Ex.mut (w3'.trans u2) nH⟩
        · rw [List.length_map, ltL_len]
          exact small1000 (by omega)
        · rw [upd_same, hv_len, ltL_next, List.map_append]
          rfl
        · rw [upd_ne ne]
          exact u2 _ _ w2'
    · obtain ⟨y4, y5, rfl, w1, w2, w3⟩ := hp
      rw [hv_len] at w1
      exact ⟨_, rfl, Lp, _, rfl, .inl ⟨SqL.of w1, fun r hr' => q r _ (w3.trans (Ex.new hr')) upd_same⟩⟩
end
end K1

namespace K1
open PySem PySem.Spec PyProof.Rows L2 Evl HM LX ZW TE
theorem ltL_lts (h : List Nat) (k : Int) : (ltL h k h.length).sum = lts h k := by
  unfold ltL lts lt1
  rw [sm_sum]
end K1

/-! own rules: a comprehension of two clauses, by two walks -/
namespace L2
open PySem PySem.Spec PyProof.Rows
section
variable {J : It} {n : Nat} {G : Hp → Prop} {Y : Nat → Hp → V → Hp → Prop}
/-- one clause without a test -/
theorem lc_itY (w : Walk J n G Y) {g : TG} {te : TE} {vs : List Nat} {σ : St} {H1 : Hp} {D : Addr} {Qd : Hp → Prop} (Pv : Nat → Hp → Prop) (h0 : Pv 0 (upd H1 D (.lst []))) (hG : ∀ i H, i ≤ n → Pv i H → G H)
    (hs : ∀ i x H H', i < n → Pv i H → Y i H x H' → g x (wipe σ vs) H' fun σ2 H2 => wipe σ2 vs = wipe σ vs ∧ te σ2 H2 fun y H4 => ∃ acc, H4 D = some (.lst acc) ∧ acc.length < sizeLine ∧ Pv (i + 1) (upd H4 D (.lst (acc ++ [y])))) (hd : ∀ H, Pv n H → Qd H) :
    ∃ W : Nat → Nat → Hp → Prop, (∃ m, W 0 m (upd H1 D (.lst []))) ∧ ∀ i m H, W i m H →
      (J.stop i H ∧ Qd H) ∨ (J.go i H ∧ ∃ Nx : Hp → Prop, (∀ H', Nx H' → ∃ m', m' < m ∧ W (i + 1) m' H') ∧ ∀ x H', J.yld i H x H' → g x (wipe σ vs) H' fun σ2 H2 => wipe σ2 vs = wipe σ vs ∧ tYes σ2 H2 fun b H3 =>
        if b = true then te σ2 H3 fun y H4 => ∃ acc, H4 D = some (.lst acc) ∧ acc.length < sizeLine ∧ Nx (upd H4 D (.lst (acc ++ [y]))) else Nx H3) := lc_it (tt := tYes) w Pv h0 hG hs hd
end
end L2

set_option exponentiation.threshold 400
namespace K1
open PySem PySem.Spec PyProof.Rows L2 Evl HM LX ZW
section
variable {P : Program} {w : World} {K : PySem.W.Frag} {mg : Str → Option Value} {base : Heap}
def rmo (h : List Nat) (c : Nat) : Bool := decide (hAt h (c + 1) < hAt h c)
def ColsAt (h : List Nat) (H : Hp) (xs : List V) (cs : List Nat) : Prop := Paired (fun x (c : Nat) => ∃ t, x = V.ref t ∧ H t = some (.tup [.int (c : Int), .int (hAt h c : Int)])) xs cs
theorem cols_ex {h : List Nat} {H H' : Hp} {xs : List V} {cs : List Nat} (e : Ex H H') (z : ColsAt h H xs cs) : ColsAt h H' xs cs := paired_imp (fun _ _ ⟨t, e1, e2⟩ => ⟨t, e1, e _ _ e2⟩) z
theorem cols_updL {h : List Nat} {H : Hp} {xs : List V} {cs : List Nat} {D : Addr} {ys zs : List V} (hD : H D = some (.lst ys)) (z : ColsAt h H xs cs) : ColsAt h (upd H D (.lst zs)) xs cs :=
  paired_imp (fun _ _ ⟨t, e1, e2⟩ => ⟨t, e1, by rw [upd_ne (ne_of e2 hD (by intro y; cases y))]; exact e2⟩) z
def spTipsOf : Sp := fun vs H Q _ => ∃ p h, vs = [.ref p] ∧ HeapAt H p h ∧ Good h ∧ ∀ (Dl : Addr) acc H', Ex H H' → H' Dl = some (.lst acc) → ColsAt h H' acc ((List.range h.length).filter (rmo h)) → Q (.ref Dl) H'
theorem ok_tips_of (T : Txt K mg) {f : Addr} {fd : FuncData} (D : DefAt K mg "tips_of" sTipsOf ["heap"] f fd) : FnOk P w K mg base CX0 2 f fd ["heap"] spTipsOf := by
  refine D.F.ok scTipsOf (fun vs H Q E h => ?_) (fun cdv A outer s₀ H vs Q E hr h => ?_)
  · obtain ⟨p, h, rfl, _⟩ := h
    rfl
  · obtain ⟨p, h, rfl, hp1, G, q⟩ := h
    obtain ⟨f1, fd1, D1⟩ := T.d_height_at
    have hr1 : Room 1 _ := hr.mono (by decide)
    refine ⟨_, pss_one (ps_ret (pe_lc (own := [("column", 1), ("height", 2)]) (g := gTup K 2 (gCons (gName 1) (gCons (gName 2) gNil))) rfl scTipsOf.nd (EnT.pi_enumT (by rfl) T.z_enumerate (pa_cons (pv 0) pa_nil))
        (blkOk_by (N := nTipsOf) (sc := defScope sTipsOf) (by decide +kernel)) (fun _ _ _ _ _ => (pg_tup (by rfl) (pgs_cons (pg_name (i := 1) scTipsOf.nd rfl (.inl rfl)) (pgs_cons (pg_name (i := 2) scTipsOf.nd rfl (.inl rfl)) pgs_nil)))) (fun _ _ _ _ _ => pts_one (pt_cmpR op_gt (pv 2) (pe_call (ok_height_at T D1) hr1 (by rfl) D1.g D1.F.kp D1.b .nil pass0 (pa_cons (pv 0) (pa_cons (pe_op op_add (pv 1) pe_int) pa_nil))) (nomark _)))
        (fun _ _ _ _ _ => (pe_tup (pa_cons (pv 1) (pa_cons (pv 2) pa_nil)))))), ?_⟩
    have hl60 := G.len
    refine ⟨_, rfl, p, hv h, rfl, SqT.of hp1, fun Dl hD => ?_⟩
    refine lc_enumT (K := K) (a := p) (xs := hv h) (fun i H' => ∃ acc, H' Dl = some (.lst acc) ∧ ColsAt h H' acc ((List.range i).filter (rmo h)) ∧ Ex H H') ⟨[], upd_same, .nil, Ex.new hD⟩ (fun i H' hp2 => SqT.of (hp2.choose_spec.2.2 _ _ hp1)) (fun i x Tp H' hx hp2 nT => ?_) (fun H' hp2 => ?_)
    · obtain ⟨acc, v1, v2, v3⟩ := hp2
      have hi : i < h.length := by
        have := (List.getElem?_eq_some_iff.mp hx).1
        rw [hv_len] at this
        exact this
      rw [hv_get hi] at hx
      obtain rfl := Option.some.inj hx
      have eT := Ex.new (o := .tup [.int (i : Nat), .int (hAt h i : Int)]) nT
      refine ⟨Tp, _, rfl, SqT.of upd_same, rfl, .int (i : Nat), [_], rfl, _, [], rfl, rfl, rfl, ?_⟩
      have hal := paired_len v2
      have hfl := List.length_filter_le (rmo h) (List.range i)
      rw [List.length_range] at hfl
      refine ⟨_, rfl, _, rfl, _, rfl, _, _, rfl, rfl, p, h, i + 1, rfl, eT _ _ (v3 _ _ hp1), fun H3 e3 => ⟨_, _, rfl, rfl, _, rfl, ite2 (fun cc => ?_) (fun cc => ?_)⟩⟩
      · have o : rmo h i = true := decide_eq_true (by have := of_decide_eq_true cc; omega)
        have w1 := e3 _ _ (eT _ _ v1)
        refine ⟨_, rfl, _, rfl, by show 2 ≤ sizeLine; decide, fun t ht => ⟨acc, Ex.new ht _ _ w1, small1000 (by omega), acc ++ [.ref t], upd_same, ?_, Ex.mut (((v3.trans eT).trans e3).trans (Ex.new ht)) hD⟩⟩
        rw [List.range_succ, List.filter_append, List.filter_cons, if_pos o]
        exact cols_updL (Ex.new ht _ _ w1) (paired_snoc ⟨t, rfl, upd_same⟩ (cols_ex ((eT.trans e3).trans (Ex.new ht)) v2))
      · have o : ¬ rmo h i = true := fun z => cc (decide_eq_true (by have := of_decide_eq_true z; omega))
        refine ⟨acc, e3 _ _ (eT _ _ v1), ?_, (v3.trans eT).trans e3⟩
        rw [List.range_succ, List.filter_append, List.filter_cons, if_neg o]
        show ColsAt h H3 acc (_ ++ [])
        rw [List.append_nil]
        exact cols_ex (eT.trans e3) v2
    · obtain ⟨acc, v1, v2, v3⟩ := hp2
      rw [hv_len] at v2
      exact q Dl acc _ v3 v1 v2
end
end K1

set_option exponentiation.threshold 400
namespace K1
open PySem PySem.Spec PyProof.Rows L2 Evl HM LX ZW TE
/-- the columns at which a letter adds, and at which it can be taken away -/
def gq (h : List Nat) (k q : Int) (c : Nat) : Bool := opn h c && decide (dg h c % k = q)
def rq (h : List Nat) (k q : Int) (c : Nat) : Bool := rmv h c && decide ((dg h c + 1) % k = q)
theorem mod_iff {k q z : Int} (hk : 0 < k) (q0 : 0 ≤ q) (q1 : q < k) : z % k = q ↔ (z - q) % k = 0 := by
  constructor
  · intro h
    have := Int.emod_add_mul_ediv z k
    exact Int.emod_eq_zero_of_dvd ⟨z / k, by omega⟩
  · intro h
    obtain ⟨m, hm⟩ := Int.dvd_of_emod_eq_zero h
    exact (divmod hk q0 q1 (show z = q + k * m by omega)).2
theorem gq_opn {h : List Nat} {k q : Int} (c : Nat) (z : gq h k q c = true) : opn h c = true := (Bool.and_eq_true_iff.mp z).1
theorem gq_iff {h : List Nat} {k q : Int} (hk : 0 < k) (q0 : 0 ≤ q) (q1 : q < k) (c : Nat) : gq h k q c = true ↔ (opn h c = true ∧ (dg h c - q) % k = 0) := by
  unfold gq
  rw [Bool.and_eq_true_iff, decide_eq_true_eq, mod_iff hk q0 q1]
theorem rq_iff {h : List Nat} {k q : Int} (hk : 0 < k) (q0 : 0 ≤ q) (q1 : q < k) (c : Nat) : rq h k q c = true ↔ (rmv h c = true ∧ (dg h c + 1 - q) % k = 0) := by
  unfold rq
  rw [Bool.and_eq_true_iff, decide_eq_true_eq, mod_iff hk q0 q1]
def lowC (h : List Nat) (g : Nat → Bool) : List Nat := (List.range h.length).map fun c => hAt h c - b2n (g c)
section
variable {P : Program} {w : World} {K : PySem.W.Frag} {mg : Str → Option Value} {base : Heap}
def spBehindLetter : Sp := fun vs H Q _ => ∃ (k q : Int) (p : Addr) (h : List Nat), vs = [.int k, .ref p, .int q] ∧ HeapAt H p h ∧ IsHeap h ∧ h.length ≤ 100 ∧ 2 ≤ k ∧ ∀ r H', Ex H H' → HeapAt H' r (grow h (gq h k q)) → Q (.ref r) H'
end
end K1

set_option exponentiation.threshold 400
namespace K1
open PySem PySem.Spec PyProof.Rows L2 Evl HM LX ZW TE
theorem inV_hv (c : Nat) (cs : List Nat) : inV (.int (c : Int)) (hv cs) = decide (c ∈ cs) := by
  unfold inV hv
  rw [Bool.eq_iff_iff, List.any_eq_true, decide_eq_true_eq]
  constructor
  · rintro ⟨y, hy, e⟩
    obtain ⟨n, hn, rfl⟩ := List.mem_map.mp hy
    have : (n : Int) = (c : Int) := eq_of_beq e
    rw [show c = n by omega]
    exact hn
  · intro h
    exact ⟨.int c, List.mem_map.mpr ⟨c, h, rfl⟩, beq_self_eq_true _⟩
theorem flat_hv (cs : List Nat) : (hv cs).all flatV = true := List.all_eq_true.mpr fun z hz => by
  unfold hv at hz
  obtain ⟨i, _, rfl⟩ := List.mem_map.mp hz
  rfl
/-- keys put in one by one -/
theorem putB (ks : List Int) (z : Int) : ∃ ks', putK (kB ks) (.inl z : Key) (V.bl true) = kB ks' ∧ (∀ y, y ∈ ks' ↔ (y ∈ ks ∨ y = z)) ∧ (ks.Nodup → ks'.Nodup) ∧ ks'.length ≤ ks.length + 1 := by
  by_cases c : z ∈ ks
  · refine ⟨ks, ?_, fun y => ⟨fun h => .inl h, fun h => h.elim id (fun e => by rw [e]; exact c)⟩, id, by omega⟩
    have hs := valB ks z
    rw [decide_eq_true c] at hs
    unfold putK
    rw [valV_any, if_pos hs]
    unfold kB
    rw [List.map_map]
    refine List.map_congr_left fun n _ => ?_
    show (if ((Sum.inl n : Key), V.bl true).1 = (Sum.inl z : Key) then ((Sum.inl n : Key), V.bl true) else ((Sum.inl n : Key), V.bl true)) = _
    split <;> rfl
  · refine ⟨ks ++ [z], ?_, fun y => by rw [List.mem_append, List.mem_singleton], fun nd => ?_, by rw [List.length_append]; exact Nat.le_refl _⟩
    · have hs := valB ks z
      rw [decide_eq_false c] at hs
      rw [putK_new]
      · unfold kB
        rw [List.map_append]
        rfl
      · cases hv0 : valV (kB ks) (.inl z : Key) with
        | none => rfl
        | some v =>
          rw [hv0] at hs
          cases hs
    · exact List.nodup_append.mpr ⟨nd, List.nodup_cons.mpr ⟨by simp, List.nodup_nil⟩, fun x hx y hy e => c (by rw [List.mem_singleton.mp hy] at e; rw [← e]; exact hx)⟩
section
variable {P : Program} {w : World} {K : PySem.W.Frag} {mg : Str → Option Value} {base : Heap}
def spLowered : Sp := fun vs H Q _ => ∃ (p l : Addr) (h : List Nat) (cs : List Nat), vs = [.ref p, .ref l] ∧ HeapAt H p h ∧ h.length ≤ 100 ∧ H l = some (.lst (hv cs)) ∧ (∀ c ∈ cs, 0 < hAt h c) ∧ ∀ r H', Ex H H' → HeapAt H' r (shr h fun c => decide (c ∈ cs)) → Q (.ref r) H'
theorem ok_lowered (T : Txt K mg) {f : Addr} {fd : FuncData} (D : DefAt K mg "lowered" sLowered ["heap", "columns"] f fd) : FnOk P w K mg base CX0 1 f fd ["heap", "columns"] spLowered := by
  refine D.F.ok scLowered (fun vs H Q E h => ?_) (fun cdv A outer s₀ H vs Q E hr h => ?_)
  · obtain ⟨p, l, h, cs, rfl, _⟩ := h
    rfl
  · obtain ⟨p, l, h, cs, rfl, hp, hl, hcs, pos, kQ⟩ := h
    refine ⟨_, pss_cons (ps_setLc (i := 2) (own := [("column", 3), ("height", 4)]) (g := gTup K 2 (gCons (gName 3) (gCons (gName 4) gNil))) (tt := tYes) (by rfl) scLowered.nd rfl rfl (sw_true rfl rfl rfl (by decide +kernel)) (EnT.pi_enumT (by rfl) T.z_enumerate (pa_cons (pv 0) pa_nil))
        (blkOk_by (N := nLowered) (sc := defScope sLowered) (by decide +kernel)) (fun _ _ _ _ _ => (pg_tup (by rfl) (pgs_cons (pg_name (i := 3) scLowered.nd rfl (.inl rfl)) (pgs_cons (pg_name (i := 4) scLowered.nd rfl (.inl rfl)) pgs_nil)))) (fun _ _ _ _ _ => pts_nil)
        (fun _ _ _ _ _ => (pe_ifExp (pt_cmpR (show OpR _ (compareOp .In) (rIn K false) from op_in_seq) (pv 3) (pv 1) (by rfl)) (pe_op op_sub (pv 4) pe_int) (pv 4))))
      (pss_one (ps_ret (pe_callTy call_tuple_of (by rfl) T.z_tuple (by decide +kernel) (pa_cons (pe_lc (own := [("height", 4)]) (g := gName 4) rfl scLowered.nd (pi_list (pv 2))
        (blkOk_by (N := nLowered) (sc := defScope sLowered) (by decide +kernel)) (fun _ _ _ _ _ => (pg_name (i := 4) scLowered.nd rfl (.inl rfl))) (fun _ _ _ _ _ => pts_one (pt_cmpR op_gt (pv 4) pe_int (nomark _)))
        (fun _ _ _ _ _ => (pv 4))) pa_nil)))), ?_⟩
    refine ⟨_, rfl, p, _, rfl, SqT.of hp, fun Dl hD => ?_⟩
    have w1 : Walk (EnT.IteT K p) h.length (fun H => SqT K H p (hv h)) (YPair (fun i => some (.int (i : Nat))) (fun i => (hv h)[i]?)) := by
      have := walk_enumT (K := K) (a := p) (xs := hv h)
      rw [hv_len] at this
      exact this
    refine lc_itY w1 (fun i H' => H' Dl = some (.lst (hv ((List.range i).map fun c => hAt h c - b2n (decide (c ∈ cs))))) ∧ Ex H H') ⟨upd_same, Ex.new hD⟩ (fun i H' _ hp2 => SqT.of (hp2.2 _ _ hp)) (fun i x H2 H3 hi hp2 hy => ?_) (fun H2 hp2 => ?_)
    · obtain ⟨v1, v2⟩ := hp2
      obtain ⟨Tp, x1, z1, rfl, nT, rfl, hx1, hz1⟩ := hy
      obtain rfl := Option.some.inj hx1
      have hz2 : (hv h)[i]? = some z1 := hz1
      rw [hv_get hi] at hz2
      obtain rfl := Option.some.inj hz2
      have eT := Ex.new (o := .tup [.int (i : Nat), .int (hAt h i : Int)]) nT
      have v1' := eT _ _ v1
      have v2' := v2.trans eT
      refine ⟨Tp, _, rfl, SqT.of upd_same, rfl, .int (i : Nat), [_], rfl, _, [], rfl, rfl, rfl, ?_⟩
      generalize upd H2 Tp (.tup [.int (i : Nat), .int (hAt h i : Int)]) = H3 at *
      refine ⟨_, rfl, _, rfl, l, _, rfl, .inl (SqL.of (v2' _ _ hcs)), rfl, flat_hv _, ?_⟩
      rw [inV_hv]
      have fin : ∃ acc, H3 Dl = some (.lst acc) ∧ acc.length < sizeLine ∧ (upd H3 Dl (.lst (acc ++ [V.int ((hAt h i - b2n (decide (i ∈ cs)) : Nat) : Int)]))) Dl = some (.lst (hv ((List.range (i + 1)).map fun c => hAt h c - b2n (decide (c ∈ cs))))) ∧ Ex H (upd H3 Dl (.lst (acc ++ [V.int ((hAt h i - b2n (decide (i ∈ cs)) : Nat) : Int)]))) := by
        refine ⟨_, v1', ?_, ?_, Ex.mut v2' hD⟩
        · rw [hv_len, List.length_map, List.length_range]
          exact small1000 (by omega)
        · rw [upd_same, List.range_succ, List.map_append]
          show _ = some (HO.lst (hv (_ ++ [_])))
          rw [hv_snoc]
      refine ⟨_, rfl, ite2 (fun cc => ?_) (fun cc => ?_)⟩
      · have c0 : i ∈ cs := of_decide_eq_true cc
        have := pos i c0
        rw [decide_eq_true c0, show ((hAt h i - b2n true : Nat) : Int) = (hAt h i : Int) - 1 by show ((hAt h i - 1 : Nat) : Int) = _; omega] at fin
        exact ⟨_, rfl, _, _, rfl, rfl, fin⟩
      · have c0 : ¬ i ∈ cs := fun z => cc (decide_eq_true z)
        rw [decide_eq_false c0, show ((hAt h i - b2n false : Nat) : Int) = (hAt h i : Int) by show ((hAt h i - 0 : Nat) : Int) = _; omega] at fin
        exact ⟨_, rfl, fin⟩
    · obtain ⟨v1, v2⟩ := hp2
      have ln : ((List.range h.length).map fun c => hAt h c - b2n (decide (c ∈ cs))).length = h.length := by rw [List.length_map, List.length_range]
      unfold shr at kQ
      generalize ((List.range h.length).map fun c => hAt h c - b2n (decide (c ∈ cs))) = t at *
      refine ⟨_, rfl, Dl, rfl, ⟨_, SqL.of v1⟩, fun D2 hD2 => ?_⟩
      refine lc_list (K := K) (a := Dl) (xs := hv t) (fun j H5 => H5 D2 = some (.lst (hv ((t.take j).filter fun x => decide (0 < x)))) ∧ Ex H2 H5) ⟨upd_same, Ex.new hD2⟩ (fun j H5 _ hp5 => SqL.of (hp5.2 _ _ v1)) (fun j x H5 hx hp5 => ?_) (fun H5 hp5 => ?_)
      · obtain ⟨u1, u2⟩ := hp5
        obtain ⟨y, hy, rfl⟩ := hv_inv hx
        refine ⟨rfl, _, rfl, _, _, rfl, rfl, _, rfl, ite2 (fun cc => ?_) (fun cc => ?_)⟩
        · have c0 : 0 < y := by
            have := of_decide_eq_true cc
            omega
          refine ⟨_, rfl, _, u1, ?_, ?_, Ex.mut u2 hD2⟩
          · rw [hv_len]
            have a1 := List.length_filter_le (fun x => decide (0 < x)) (t.take j)
            rw [List.length_take] at a1
            exact small1000 (by omega)
          · rw [upd_same, take_filter_snoc _ hy, if_pos (decide_eq_true c0), hv_snoc]
        · have c0 : ¬ 0 < y := fun z => cc (decide_eq_true (by omega))
          refine ⟨?_, u2⟩
          rw [take_filter_snoc _ hy, if_neg (by rw [decide_eq_false c0]; decide), List.append_nil]
          exact u1
      · obtain ⟨u1, u2⟩ := hp5
        rw [hv_len, List.take_length] at u1
        exact ⟨D2, _, rfl, .inl ⟨SqL.of u1, fun r hr' => kQ r _ ((v2.trans u2).trans (Ex.new hr')) upd_same⟩⟩
def spLastLetters : Sp := fun vs H Q _ => ∃ (k : Int) (p : Addr) (h : List Nat), vs = [.int k, .ref p] ∧ HeapAt H p h ∧ Good h ∧ 2 ≤ k ∧ ∀ (r : Addr) (ls : List Int) H', Ex H H' → H' r = some (.lst (ls.map V.int)) → ls.Pairwise (· ≤ ·) → (∀ z, z ∈ ls ↔ ∃ c, rmv h c = true ∧ (dg h c + 1) % k = z) → Q (.ref r) H'
theorem ok_last_letters (T : Txt K mg) {f : Addr} {fd : FuncData} (D : DefAt K mg "last_letters" sLastLetters ["k", "core"] f fd) : FnOk P w K mg base CX0 3 f fd ["k", "core"] spLastLetters := by
  refine D.F.ok scLastLetters (fun vs H Q E h => ?_) (fun cdv A outer s₀ H vs Q E hr h => ?_)
  · obtain ⟨k, p, h, rfl, _⟩ := h
    rfl
  · obtain ⟨k, p, h, rfl, hp, G, k2, kQ⟩ := h
    obtain ⟨f1, fd1, D1⟩ := T.d_tips_of
    have hr2 : Room 2 _ := hr.mono (by decide)
    refine ⟨_, pss_one (ps_ret (pe_callB (call_sortedDI rfl) (by rfl) T.z_sorted (by decide +kernel) (pa_cons (pe_dc (own := [("column", 2), ("height", 3)]) (g := gTup K 2 (gCons (gName 2) (gCons (gName 3) gNil))) (tt := tYes) rfl scLastLetters.nd (pi_list (pe_call (ok_tips_of T D1) hr2 (by rfl) D1.g D1.F.kp D1.b .nil pass0 (pa_cons (pv 1) pa_nil)))
        (blkOk_by (N := nLastLetters) (sc := defScope sLastLetters) (by decide +kernel)) (fun _ _ _ _ _ => (pg_tup (by rfl) (pgs_cons (pg_name (i := 2) scLastLetters.nd rfl (.inl rfl)) (pgs_cons (pg_name (i := 3) scLastLetters.nd rfl (.inl rfl)) pgs_nil)))) (fun _ _ _ _ _ => pts_nil)
        (fun _ _ _ _ _ => (pe_op op_mod (pe_op op_add (pe_op op_sub (pv 2) (pv 3)) pe_int) (pv 0))) (fun _ _ _ _ _ => pe_bl)) pa_nil))), ?_⟩
    refine ⟨_, rfl, p, h, rfl, hp, G, fun Dl acc H1 e1 hD1 hcs => ?_⟩
    have hl60 := G.len
    have cf := List.length_filter_le (rmo h) (List.range h.length)
    rw [List.length_range] at cf
    have al := paired_len hcs
    refine ⟨Dl, rfl, ⟨_, SqL.of hD1⟩, fun Dd hDd => ?_⟩
    generalize hcols : (List.range h.length).filter (rmo h) = cols at *
    refine DI.dcK_it (walk_list (K := K) (a := Dl) (xs := acc)) (fun i H' => ∃ ks : List Int, H' Dd = some (.dK (kB ks)) ∧ ks.Nodup ∧ ks.length ≤ i ∧ (∀ z, z ∈ ks ↔ ∃ c ∈ cols.take i, (dg h c + 1) % k = z) ∧ Ex H1 H') ⟨[], upd_same, List.nodup_nil, Nat.le_refl _, fun z => by simp, Ex.new hDd⟩ (fun i H' _ hp2 => SqL.of (hp2.choose_spec.2.2.2.2 _ _ hD1)) (fun i x H2 H3 hi hp2 hy => ?_) (fun H2 hp2 => ?_)
    · obtain ⟨ks, w1, w2, w3, w4, w5⟩ := hp2
      obtain ⟨rfl, hx⟩ := hy
      obtain ⟨c, hc, t, rfl, ht⟩ := paired_get hcs hx
      obtain ⟨ks', p1, p2, p3, p4⟩ := putB ks ((dg h c + 1) % k)
      refine ⟨t, _, rfl, SqT.of (w5 _ _ ht), rfl, .int (c : Int), [_], rfl, _, [], rfl, rfl, rfl, ?_⟩
      dsimp only [tYes]
      rw [if_pos rfl]
      refine ⟨_, rfl, _, rfl, _, _, rfl, rfl, _, _, rfl, rfl, _, rfl, dg h c + 1, k, rfl, rfl, by omega, _, .inl ((dg h c + 1) % k), rfl, w1, ?_, ks', ?_, p3 w2, by omega, fun z => ?_, Ex.mut w5 hDd⟩
      · unfold kB
        rw [List.length_map]
        exact small1000 (by omega)
      · rw [upd_same, p1]
      · rw [p2, w4, take_snoc1 hc]
        constructor
        · rintro (⟨c', h1, h2⟩ | rfl)
          · exact ⟨c', List.mem_append_left _ h1, h2⟩
          · exact ⟨c, List.mem_append_right _ (List.mem_singleton.mpr rfl), rfl⟩
        · rintro ⟨c', h1, h2⟩
          rcases List.mem_append.mp h1 with q | q
          · exact .inl ⟨c', q, h2⟩
          · rw [List.mem_singleton.mp q] at h2
            exact .inr h2.symm
    · obtain ⟨ks, w1, w2, w3, w4, w5⟩ := hp2
      rw [al, List.take_length] at w4
      refine ⟨Dd, _, ks, rfl, .inl w1, ?_, by omega, fun ys r pm asc hr' => ?_⟩
      · unfold kB
        rw [List.map_map]
        rfl
      · refine kQ r ys _ ((e1.trans w5).trans (Ex.new hr')) upd_same asc fun z => ?_
        rw [pm.mem_iff, w4]
        constructor
        · rintro ⟨c, hc, e⟩
          rw [← hcols] at hc
          exact ⟨c, (List.mem_filter.mp hc).2, e⟩
        · rintro ⟨c, hc, e⟩
          refine ⟨c, ?_, e⟩
          rw [← hcols]
          exact List.mem_filter.mpr ⟨List.mem_range.mpr (rmv_lt hc), hc⟩
def spAheadOf : Sp := fun vs H Q _ => ∃ (k q : Int) (p : Addr) (h : List Nat), vs = [.int k, .ref p, .int q] ∧ HeapAt H p h ∧ Good h ∧ 2 ≤ k ∧ ∀ r H', Ex H H' → HeapAt H' r (shr h (rq h k q)) → Q (.ref r) H'
theorem ok_ahead_of_letter (T : Txt K mg) {f : Addr} {fd : FuncData} (D : DefAt K mg "ahead_of_letter" sAheadOfLetter ["k", "core", "letter"] f fd) : FnOk P w K mg base CX0 3 f fd ["k", "core", "letter"] spAheadOf := by
  refine D.F.ok scAheadOfLetter (fun vs H Q E h => ?_) (fun cdv A outer s₀ H vs Q E hr h => ?_)
  · obtain ⟨k, q, p, h, rfl, _⟩ := h
    rfl
  · obtain ⟨k, q, p, h, rfl, hp, G, k2, kQ⟩ := h
    obtain ⟨f1, fd1, D1⟩ := T.d_lowered
    obtain ⟨f2, fd2, D2⟩ := T.d_tips_of
    have hr1 : Room 1 _ := hr.mono (by decide)
    have hr2 : Room 2 _ := hr.mono (by decide)
    refine ⟨_, pss_one (ps_ret (pe_call (ok_lowered T D1) hr1 (by rfl) D1.g D1.F.kp D1.b .nil pass0 (pa_cons (pv 1) (pa_cons (pe_lc (own := [("column", 3), ("height", 4)]) (g := gTup K 2 (gCons (gName 3) (gCons (gName 4) gNil))) rfl scAheadOfLetter.nd (pi_list (pe_call (ok_tips_of T D2) hr2 (by rfl) D2.g D2.F.kp D2.b .nil pass0 (pa_cons (pv 1) pa_nil)))
        (blkOk_by (N := nAheadOfLetter) (sc := defScope sAheadOfLetter) (by decide +kernel)) (fun _ _ _ _ _ => (pg_tup (by rfl) (pgs_cons (pg_name (i := 3) scAheadOfLetter.nd rfl (.inl rfl)) (pgs_cons (pg_name (i := 4) scAheadOfLetter.nd rfl (.inl rfl)) pgs_nil)))) (fun _ _ _ _ _ => pts_one (pt_cmpR op_eq (pe_op op_mod (pe_op op_add (pe_op op_sub (pv 3) (pv 4)) pe_int) (pv 0)) (pv 2) (nomark _)))
        (fun _ _ _ _ _ => (pv 3))) pa_nil)))), ?_⟩
    have hl60 := G.len
    refine ⟨_, rfl, _, rfl, p, h, rfl, hp, G, fun Dl acc H1 e1 hD1 hcs => ?_⟩
    have cf := List.length_filter_le (rmo h) (List.range h.length)
    rw [List.length_range] at cf
    have al := paired_len hcs
    refine ⟨Dl, rfl, ⟨_, SqL.of hD1⟩, fun D2 hD2 => ?_⟩
    let lt : Nat → Bool := fun c => decide ((dg h c + 1) % k = q)
    generalize hcols : (List.range h.length).filter (rmo h) = cols at *
    refine lc_list (K := K) (a := Dl) (xs := acc) (fun i H2 => H2 D2 = some (.lst (hv ((cols.take i).filter lt))) ∧ Ex H1 H2) ⟨upd_same, Ex.new hD2⟩ (fun i H2 _ hp2 => SqL.of (hp2.2 _ _ hD1)) (fun i x H2 hx2 hp2 => ?_) (fun H2 hp2 => ?_)
    · obtain ⟨v1, v2⟩ := hp2
      obtain ⟨c, hc, t, rfl, ht⟩ := paired_get hcs hx2
      refine ⟨t, _, rfl, SqT.of (v2 _ _ ht), rfl, .int (c : Int), [_], rfl, _, [], rfl, rfl, rfl, ?_⟩
      refine ⟨_, rfl, _, rfl, _, _, rfl, rfl, _, _, rfl, rfl, _, rfl, dg h c + 1, k, rfl, rfl, by omega, _, rfl, rfl, _, rfl, ite2 (fun cc => ?_) (fun cc => ?_)⟩
      · have c0 : lt c = true := decide_eq_true (V.int.inj (of_decide_eq_true cc))
        refine ⟨_, rfl, _, v1, ?_, ?_, Ex.mut v2 hD2⟩
        · rw [hv_len]
          have a1 := List.length_filter_le lt (cols.take i)
          rw [List.length_take] at a1
          exact small1000 (by omega)
        · rw [upd_same, take_filter_snoc lt hc, if_pos c0, hv_snoc]
      · have c0 : ¬ lt c = true := fun z => cc (decide_eq_true (congrArg V.int (of_decide_eq_true z)))
        refine ⟨?_, v2⟩
        rw [take_filter_snoc lt hc, if_neg c0, List.append_nil]
        exact v1
    · obtain ⟨v1, v2⟩ := hp2
      rw [al, List.take_length] at v1
      refine ⟨p, D2, h, _, rfl, (e1.trans v2) _ _ hp, by omega, v1, fun c hc => ?_, fun r H3 e3 hrr => ?_⟩
      · obtain ⟨h1, h2⟩ := List.mem_filter.mp hc
        rw [← hcols] at h1
        have := of_decide_eq_true (List.mem_filter.mp h1).2
        omega
      · have eg : (fun c => decide (c ∈ cols.filter lt)) = rq h k q := by
          funext c
          refine bool_ext ?_
          rw [decide_eq_true_eq, List.mem_filter, ← hcols, List.mem_filter, List.mem_range]
          unfold rq
          rw [Bool.and_eq_true_iff]
          exact ⟨fun ⟨⟨_, a⟩, b⟩ => ⟨a, b⟩, fun ⟨a, b⟩ => ⟨⟨rmv_lt a, a⟩, b⟩⟩
        rw [eg] at hrr
        exact kQ r H3 ((e1.trans v2).trans e3) hrr
def spCheckLetters (K : PySem.W.Frag) : Sp := fun vs H Q _ => ∃ (k m : Int) (p : Addr) (h : List Nat), vs = [.int k, .ref p, .int m] ∧ HeapAt H p h ∧ Good h ∧ lts h k ≤ m ∧ ∀ H', Ex H H' → Q .non H'
theorem ok_check_letters (T : Txt K mg) {f : Addr} {fd : FuncData} (D : DefAt K mg "check_letters" sCheckLetters ["k", "core", "most"] f fd) : FnOk P w K mg base CX0 4 f fd ["k", "core", "most"] (spCheckLetters K) := by
  refine D.F.ok scCheckLetters (fun vs H Q E h => ?_) (fun cdv A outer s₀ H vs Q E hr h => ?_)
  · obtain ⟨k, m, p, h, rfl, _⟩ := h
    rfl
  · obtain ⟨k, m, p, h, rfl, hp, G, le, kQ⟩ := h
    obtain ⟨f1, fd1, D1⟩ := T.d_parts_of
    have hr3 : Room 3 _ := hr.mono (by decide)
    refine ⟨_, pss_one (ps_if (pt_cmpR op_gt (pe_callB (ST.cr_sumT rfl) (by rfl) T.z_sum (by decide +kernel) (pa_cons (pe_call (ok_parts_of T D1) hr3 (by rfl) D1.g D1.F.kp D1.b .nil pass0 (pa_cons (pv 0) (pa_cons (pv 1) pa_nil))) pa_nil)) (pv 2) (nomark _)) pss_never pss_nil), ?_⟩
    refine ⟨_, rfl, _, rfl, k, p, h, rfl, hp, G, fun r H1 e1 hr1 => ?_⟩
    refine ⟨r, _, rfl, SqT.of hr1, ?_⟩
    rw [ltL_lts]
    exact ⟨_, rfl, _, _, rfl, rfl, _, rfl, iteF' (decide_eq_false (by omega)) (kQ _ e1)⟩
end
end K1

set_option exponentiation.threshold 400
namespace K1
open PySem PySem.Spec PyProof.Rows L2 Evl HM LX ZW TE
theorem at_last {xs : List V} {n : Nat} {v : V} (h : xs.length = n + 1) (hv : xs[n]? = some v) : atI xs (-1) = some v := by
  obtain ⟨h1, e1⟩ := List.getElem?_eq_some_iff.mp hv
  have e : xs = xs.take n ++ [v] := by
    have := List.take_append_getElem (l := xs) (i := n) h1
    rw [e1, List.take_of_length_le (show xs.length ≤ n + 1 by omega)] at this
    exact this.symm
  rw [e]
  exact atI_last _ _
/-- a letter at a heap, and a word -/
def step (k : Int) (h : List Nat) (q : Int) : List Nat := grow h (gq h k q)
def run (k : Int) (h : List Nat) : List Int → List Nat
  | [] => h
  | q :: r => run k (step k h q) r
/-- no letter is idle on the way -/
def goes (k : Int) (h : List Nat) : List Int → Prop
  | [] => True
  | q :: r => step k h q ≠ h ∧ goes k (step k h q) r
theorem run_snoc (k : Int) : ∀ (ws : List Int) (h : List Nat) (q : Int), run k h (ws ++ [q]) = step k (run k h ws) q
  | [], _, _ => rfl
  | _ :: r, h, q => run_snoc k r _ q
def InR (k : Int) (ws : List Int) : Prop := ∀ z ∈ ws, 0 ≤ z ∧ z < k
theorem step_core {k : Int} (hk : 2 ≤ k) {h : List Nat} (IH : IsHeap h) (C : coreB h k) {q : Int} (q0 : 0 ≤ q) (q1 : q < k) : IsHeap (step k h q) ∧ coreB (step k h q) k ∧ lts (step k h q) k = lts h k + (if step k h q = h then 0 else 1) ∧ (step k h q).length ≤ h.length + 1 ∧ hAt (step k h q) 0 ≤ hAt h 0 + 1 := by
  obtain ⟨a, b⟩ := letter_lts IH hk q0 q1 C (g := gq h k q) (gq_iff (by omega) q0 q1)
  refine ⟨grow_heap IH gq_opn, a, b, ?_, ?_⟩
  · show (grow _ _).length ≤ _
    rw [grow_len]
    have := b2n_le (gq h k q h.length)
    omega
  · show hAt (grow _ _) 0 ≤ _
    rw [hAt_grow gq_opn]
    have := b2n_le (gq h k q 0)
    omega
theorem run_core {k : Int} (hk : 2 ≤ k) : ∀ (ws : List Int) {h : List Nat}, InR k ws → IsHeap h → coreB h k → IsHeap (run k h ws) ∧ coreB (run k h ws) k ∧ lts h k ≤ lts (run k h ws) k ∧ lts (run k h ws) k ≤ lts h k + ws.length ∧ (run k h ws).length ≤ h.length + ws.length ∧ hAt (run k h ws) 0 ≤ hAt h 0 + ws.length
  | [], h, _, IH, C => ⟨IH, C, Int.le_refl _, by simp [run], Nat.le_refl _, Nat.le_refl _⟩
  | q :: r, h, R, IH, C => by
    obtain ⟨q0, q1⟩ := R q (List.mem_cons_self ..)
    obtain ⟨a, b, c, d, e⟩ := step_core hk IH C q0 q1
    obtain ⟨f1, f2, f3, f4, f5, f6⟩ := run_core hk r (fun z hz => R z (List.mem_cons_of_mem _ hz)) a b
    refine ⟨f1, f2, ?_, ?_, ?_, ?_⟩
    · show lts h k ≤ lts (run k (step k h q) r) k
      split at c <;> omega
    · show lts (run k (step k h q) r) k ≤ _
      rw [List.length_cons]
      split at c <;> omega
    · show (run k (step k h q) r).length ≤ _
      rw [List.length_cons]
      omega
    · show hAt (run k (step k h q) r) 0 ≤ _
      rw [List.length_cons]
      omega
theorem core_nil (k : Int) : coreB [] k := fun c hc => absurd hc (Nat.not_lt_zero c)
theorem lts_nil (k : Int) : lts [] k = 0 := rfl
/-- what takes a letter away: the last letter of the list, undone -/
theorem tip_step {k : Int} (hk : 2 ≤ k) {h : List Nat} (IH : IsHeap h) (C : coreB h k) {q : Int} (ex : ∃ c, rmv h c = true ∧ (dg h c + 1) % k = q) : 0 ≤ q ∧ q < k ∧ IsHeap (shr h (rq h k q)) ∧ coreB (shr h (rq h k q)) k ∧ step k (shr h (rq h k q)) q = h ∧ shr h (rq h k q) ≠ h ∧ lts h k = lts (shr h (rq h k q)) k + 1 ∧ (shr h (rq h k q)).length ≤ h.length ∧ hAt (shr h (rq h k q)) 0 ≤ hAt h 0 := by
  obtain ⟨c, r, e⟩ := ex
  have q0 : 0 ≤ q := by rw [← e]; exact Int.emod_nonneg _ (by omega)
  have q1 : q < k := by rw [← e]; exact Int.emod_lt_of_pos _ (by omega)
  have go : ∀ c, rq h k q c = true → rmv h c = true := fun c z => (Bool.and_eq_true_iff.mp z).1
  obtain ⟨a, b, c2, d⟩ := lower_back IH hk q0 q1 C (rq_iff (by omega) q0 q1) ⟨c, by unfold rq; rw [r, decide_eq_true e]; rfl⟩ (g2 := gq (shr h (rq h k q)) k q) (gq_iff (by omega) q0 q1)
  refine ⟨q0, q1, shr_heap IH go, a, b, c2, d, shr_len _ _, ?_⟩
  rw [hAt_shr IH go]
  omega
theorem lts_pos {k : Int} (hk : 2 ≤ k) {h : List Nat} (IH : IsHeap h) (C : coreB h k) : 0 ≤ lts h k := by
  unfold lts
  have : ∀ (f : Nat → Int), (∀ i, 0 ≤ f i) → ∀ n, 0 ≤ sm n f := fun f hf n => by
    induction n with
    | zero => exact Int.le_refl 0
    | succ n ih =>
      have := hf n
      show 0 ≤ sm n f + f n
      omega
  exact this _ (fun i => by omega) _
section
variable {P : Program} {w : World} {K : PySem.W.Frag} {mg : Str → Option Value} {base : Heap}
def spGrowingWord (K : PySem.W.Frag) : Sp := fun vs H Q _ => ∃ (k : Int) (p : Addr) (h : List Nat), vs = [.int k, .ref p] ∧ HeapAt H p h ∧ Good h ∧ 2 ≤ k ∧ k ≤ 60 ∧ coreB h k ∧ lts h k ≤ 30 ∧ ∀ (r : Addr) (ws : List Int) H', Ex H H' → H' r = some (.tup (ws.map V.int)) → InR k ws → goes k [] ws → run k [] ws = h → (ws.length : Int) = lts h k → Q (.ref r) H'
theorem ok_growing_word (T : Txt K mg) {f : Addr} {fd : FuncData} (D : DefAt K mg "growing_word" sGrowingWord ["k", "core"] f fd) : FnOk P w K mg base CX0 6 f fd ["k", "core"] (spGrowingWord K) := by
  refine D.F.ok scGrowingWord (fun vs H Q E h => ?_) (fun cdv A outer s₀ H vs Q E hr h => ?_)
  · obtain ⟨k, p, h, rfl, _⟩ := h
    rfl
  · obtain ⟨k, p, h, rfl, hp, G, k2, k60, C, l30, kQ⟩ := h
    obtain ⟨f1, fd1, D1⟩ := T.d_ahead_of_letter
    obtain ⟨f2, fd2, D2⟩ := T.d_last_letters
    obtain ⟨f3, fd3, D3⟩ := T.d_check_letters
    obtain ⟨f4, fd4, D4⟩ := T.d_check_told
    obtain ⟨tMAX_LETTERS, vMAX_LETTERS⟩ := T.v_MAX_LETTERS
    have hr3 : Room 3 _ := hr.mono (by decide)
    have hr4 : Room 4 _ := hr.mono (by decide)
    have hr5 : Room 5 _ := hr.mono (by decide)
    refine ⟨_, pss_cons (ps_expr (pe_call (ok_check_told T D4) hr5 (by rfl) D4.g D4.F.kp D4.b .nil pass0 (pa_cons (pv 0) (pa_cons (pv 1) pa_nil))))
      (pss_cons (ps_expr (pe_call (ok_check_letters T D3) hr4 (by rfl) D3.g D3.F.kp D3.b .nil pass0 (pa_cons (pv 0) (pa_cons (pv 1) (pa_cons (pe_glob (v := .int 30) rfl vMAX_LETTERS ⟨_, rfl⟩) pa_nil)))))
      (pss_cons (ps_set (i := 2) scGrowingWord.nd rfl (.inl rfl) (pe_lst pa_nil))
      (pss_cons (ps_set (i := 3) scGrowingWord.nd rfl (.inl rfl) (pv 1))
      (pss_cons (ps_while PassesOwn.never (pt_cmpR (op_neD hr.units) (pv 3) (pe_tup pa_nil) (nomark _)) (pss_cons (ps_expr (pe_bm PySem.F.plainAttrs_list PySem.F.slot_list_append PySem.F.type_list_append mt_append (pv 2) (pa_cons (pe_ix ix_list (pe_call (ok_last_letters T D2) hr3 (by rfl) D2.g D2.F.kp D2.b .nil pass0 (pa_cons (pv 0) (pa_cons (pv 3) pa_nil))) pe_int (fun _ _ => rfl)) pa_nil)))
      (pss_one (ps_set (i := 3) scGrowingWord.nd rfl (.inl rfl) (pe_call (ok_ahead_of_letter T D1) hr3 (by rfl) D1.g D1.F.kp D1.b .nil pass0 (pa_cons (pv 0) (pa_cons (pv 3) (pa_cons (pe_ix ix_list (pv 2) (pe_un un_neg pe_int) (fun _ _ => rfl)) pa_nil))))))))
      (pss_one (ps_ret (pe_callTy call_tuple_of (by rfl) T.z_tuple (by decide +kernel) (pa_cons (pe_revL (pv 2)) pa_nil)))))))), ?_⟩
    refine ⟨_, rfl, _, rfl, k, p, h, rfl, hp, G, k2, k60, C, fun H1 e1 => ?_⟩
    refine ⟨_, rfl, _, rfl, k, 30, p, h, rfl, e1 _ _ hp, G, l30, fun H2 e2 => ?_⟩
    refine ⟨by show 0 ≤ sizeLine; decide, fun L hL => ⟨_, rfl, ?_⟩⟩
    have x3 := Ex.new (o := .lst []) hL
    have hp3 := ((e1.trans e2).trans x3) _ _ hp
    have hL0 : H L = none := fresh_back (e1.trans e2) hL
    have hg := G.len
    have ht := G.top
    refine ⟨fun m σ' H' => ∃ (b : Addr) (u : List Nat) (ls : List Int), m = (lts u k).toNat ∧ σ' = [some (.int k), some (.ref p), some (.ref L), some (.ref b)] ∧ H' L = some (.lst (ls.map V.int)) ∧ HeapAt H' b u ∧ IsHeap u ∧ coreB u k ∧ u.length ≤ 60 ∧ hAt u 0 ≤ 60 ∧ lts u k + ls.length = lts h k ∧ InR k ls.reverse ∧ goes k u ls.reverse ∧ run k u ls.reverse = h ∧ Ex H H',
      ⟨_, p, h, [], rfl, rfl, upd_same, hp3, G.heap, C, hg, ht, by simp, fun z hz => absurd hz (by simp), trivial, rfl, (e1.trans e2).trans x3⟩, fun m σ' H' hW => ?_⟩
    obtain ⟨b, u, ls, rfl, rfl, w1, w2, w3, w4, w5, w6, w7, w8, w9, w10, w11⟩ := hW
    have G' : Good u := ⟨w3, w5, w6⟩
    have u0 := lts_pos k2 w3 w4
    refine ⟨_, rfl, by show 0 ≤ sizeLine; decide, fun e he => ?_⟩
    have xe := Ex.new (o := .tup []) he
    refine CI.neH (h' := []) (xe _ _ w2) upd_same ⟨_, rfl, ?_⟩
    have w1' := xe _ _ w1
    have w2' := xe _ _ w2
    have w11' := w11.trans xe
    generalize upd H' e (.tup []) = H3 at *
    by_cases ne : u = []
    · subst ne
      rw [decide_eq_true rfl]
      refine iteF' rfl ?_
      rw [lts_nil] at w7
      refine ⟨_, rfl, L, _, rfl, SqL.of w1', fun rv hrv => ⟨rv, _, rfl, .inl ⟨SqL.of upd_same, fun r hr' => ?_⟩⟩⟩
      refine kQ r ls.reverse _ ((w11'.trans (Ex.new hrv)).trans (Ex.new hr')) ?_ w8 w9 w10 (by rw [List.length_reverse]; omega)
      rw [upd_same, List.map_reverse]
    · rw [decide_eq_false ne]
      refine iteT' rfl ?_
      refine ⟨fun σ2 H4 => ∃ (b : Addr) (u' : List Nat) (ls : List Int), (lts u' k).toNat < (lts u k).toNat ∧ σ2 = [some (.int k), some (.ref p), some (.ref L), some (.ref b)] ∧ H4 L = some (.lst (ls.map V.int)) ∧ HeapAt H4 b u' ∧ IsHeap u' ∧ coreB u' k ∧ u'.length ≤ 60 ∧ hAt u' 0 ≤ 60 ∧ lts u' k + ls.length = lts h k ∧ InR k ls.reverse ∧ goes k u' ls.reverse ∧ run k u' ls.reverse = h ∧ Ex H H4, fun σ2 H4 hN => ?_, ?_⟩
      · obtain ⟨b, u', ls, h1, h2⟩ := hN
        exact ⟨_, h1, b, u', ls, rfl, h2⟩
      refine ⟨_, rfl, .inl ⟨rfl, _, SqL.of w1'⟩, _, rfl, _, rfl, k, b, u, rfl, w2', G', k2, fun la lt H4 e4 hla asc mem => ?_⟩
      obtain ⟨c, c1, c2⟩ := some_tip w3 ne
      have m0 : (dg u c + 1) % k ∈ lt := (mem _).mpr ⟨c, c2, rfl⟩
      obtain ⟨q, rest, hq⟩ : ∃ q rest, lt = q :: rest := by
        cases lt with
        | nil => cases m0
        | cons q rest => exact ⟨q, rest, rfl⟩
      obtain ⟨t1, t2, t3, t4, t5, t6, t7, t8, t9⟩ := tip_step k2 w3 w4 ((mem q).mp (by rw [hq]; exact List.mem_cons_self ..))
      have w1'' := e4 _ _ w1'
      have w2'' := e4 _ _ w2'
      refine ⟨la, _, 0, .int q, rfl, rfl, SqL.of hla, at_of (show (0 : Int) = ((0 : Nat) : Int) from rfl) (by rw [hq]; rfl), L, _, _, rfl, rfl, w1'', ?_, ?_⟩
      · rw [List.length_map]
        exact small1000 (by omega)
      have hL4 : (upd H4 L (.lst (ls.map V.int ++ [V.int q]))) L = some (.lst ((ls ++ [q]).map V.int)) := by
        rw [upd_same, List.map_append]
        rfl
      have nbL : b ≠ L := ne_of w2'' w1'' (by intro z; cases z)
      have hb4 : HeapAt (upd H4 L (.lst (ls.map V.int ++ [V.int q]))) b u := (upd_ne nbL).trans w2''
      have e5 : Ex H (upd H4 L (.lst (ls.map V.int ++ [V.int q]))) := Ex.mut (w11'.trans e4) hL0
      generalize upd H4 L (.lst (ls.map V.int ++ [V.int q])) = H5 at *
      refine ⟨_, rfl, _, rfl, _, rfl, _, rfl, L, _, -1, .int q, rfl, rfl, SqL.of hL4, ?_, k, q, b, u, rfl, hb4, G', k2, fun r H6 e6 hr6 => ?_⟩
      · exact at_last (n := ls.length) (by rw [List.length_map, List.length_append]; rfl) (by rw [List.getElem?_map, List.getElem?_append_right (Nat.le_refl _), Nat.sub_self]; rfl)
      · have s0 := lts_pos k2 t3 t4
        refine ⟨r, _, ls ++ [q], by omega, rfl, e6 _ _ hL4, hr6, t3, t4, by omega, by omega, ?_, ?_, ?_, ?_, e5.trans e6⟩
        · rw [List.length_append]
          show lts _ k + ((ls.length + 1 : Nat) : Int) = _
          omega
        · intro z hz
          rw [List.reverse_append] at hz
          rcases List.mem_cons.mp hz with y | y
          · rw [y]
            exact ⟨t1, t2⟩
          · exact w8 z y
        · rw [List.reverse_append]
          show step k _ q ≠ _ ∧ goes k (step k _ q) ls.reverse
          rw [t5]
          exact ⟨fun z => t6 z.symm, w9⟩
        · rw [List.reverse_append]
          show run k (step k _ q) ls.reverse = h
          rw [t5]
          exact w10
end
end K1

set_option exponentiation.threshold 400
namespace K1
open PySem PySem.Spec PyProof.Rows L2 Evl HM LX ZW TE
/-- what is judged as letters -/
def LetB (K : PySem.W.Frag) (H : Hp) (k : Int) (x : V) (b : Bool) : Prop := (NotTup K H x ∧ b = false) ∨ ∃ p xs bs, x = .ref p ∧ H p = some (.tup xs) ∧ xs.length ≤ 200 ∧ Paired (BtwB K H 0 (k - 1)) xs bs ∧ b = bs.all id
/-- idle letters' places -/
def idl (k : Int) (ws : List Int) (n : Nat) : List Int := ((List.range n).filter fun i => decide (step k (run k [] (ws.take i)) (ws.getD i 0) = run k [] (ws.take i))).map fun (i : Nat) => (i : Int)
/-- the heaps along a word -/
def RowAt (H : Hp) (xs : List V) (hs : List (List Nat)) : Prop := Paired (fun v h => ∃ t, v = V.ref t ∧ HeapAt H t h) xs hs
def rowL (k : Int) (ws : List Int) (n : Nat) : List (List Nat) := (List.range (n + 1)).map fun j => run k [] (ws.take j)
section
variable {P : Program} {w : World} {K : PySem.W.Frag} {mg : Str → Option Value} {base : Heap}
def spIsRowB (K : PySem.W.Frag) : Sp := fun vs H Q _ => ∃ p xs bs, ∃ lo hi : Int, vs = [.ref p, .int (xs.length : Int), .int lo, .int hi] ∧ H p = some (.tup xs) ∧ xs.length ≤ 200 ∧ Paired (BtwB K H lo hi) xs bs ∧ ∀ H', Ex H H' → Q (.bl (bs.all id)) H'
def spIsCoreWord (K : PySem.W.Frag) : Sp := fun vs H Q _ => ∃ (k : Int) (x : V) (b : Bool), vs = [.int k, x] ∧ LetB K H k x b ∧ ∀ H', Ex H H' → Q (.bl b) H'
def spGrows (K : PySem.W.Frag) : Sp := fun vs H Q _ => ∃ (k : Int) (l p : Addr) (ws : List Int) (h : List Nat), vs = [.int k, .ref l, .ref p] ∧ H l = some (.tup (ws.map V.int)) ∧ HeapAt H p h ∧ 2 ≤ k ∧ ws.length ≤ 90 ∧ InR k ws ∧ ∀ (b : Bool) H', Ex H H' → (b = true ↔ (goes k [] ws ∧ run k [] ws = h)) → Q (.bl b) H'
end
end K1

set_option exponentiation.threshold 400
namespace K1
open PySem PySem.Spec PyProof.Rows L2 Evl HM LX ZW TE
section
variable {P : Program} {w : World} {K : PySem.W.Frag} {mg : Str → Option Value} {base : Heap}
def spLettersOf (K : PySem.W.Frag) : Sp := fun vs H Q _ => ∃ k p h, vs = [.int k, .ref p] ∧ HeapAt H p h ∧ Good h ∧ 2 ≤ k ∧ k ≤ 60 ∧ coreB h k ∧ ∀ H', Ex H H' → Q (.int (ltL h k h.length).sum) H'
theorem ok_letters_of (T : Txt K mg) {f : Addr} {fd : FuncData} (D : DefAt K mg "letters_of" sLettersOf ["k", "core"] f fd) : FnOk P w K mg base CX0 6 f fd ["k", "core"] (spLettersOf K) := by
  refine D.F.ok scLettersOf (fun vs H Q E h => ?_) (fun cdv A outer s₀ H vs Q E hr h => ?_)
  · obtain ⟨k, p, h, rfl, _⟩ := h
    rfl
  · obtain ⟨k, p, h, rfl, hp0, G, k2, k3, C, q⟩ := h
    obtain ⟨f1, fd1, D1⟩ := T.d_parts_of
    obtain ⟨f2, fd2, D2⟩ := T.d_check_told
    have hr3 : Room 3 _ := hr.mono (by decide)
    have hr5 : Room 5 _ := hr.mono (by decide)
    refine ⟨_, pss_cons (ps_expr (pe_call (ok_check_told T D2) hr5 (by rfl) D2.g D2.F.kp D2.b .nil pass0 (pa_cons (pv 0) (pa_cons (pv 1) pa_nil))))
      (pss_one (ps_ret (pe_callB (ST.cr_sumT rfl) (by rfl) T.z_sum (by decide +kernel) (pa_cons (pe_call (ok_parts_of T D1) hr3 (by rfl) D1.g D1.F.kp D1.b .nil pass0 (pa_cons (pv 0) (pa_cons (pv 1) pa_nil))) pa_nil)))), ?_⟩
    refine ⟨_, rfl, _, rfl, k, p, h, rfl, hp0, G, k2, k3, C, fun H1 e1 => ?_⟩
    refine ⟨_, rfl, _, rfl, k, p, h, rfl, e1 _ _ hp0, G, fun r H2 e2 hr2 => ?_⟩
    exact ⟨r, _, rfl, SqT.of hr2, q _ (e1.trans e2)⟩
end
end K1


namespace K1
open HM
/-! ### the core of levels -/
def upc (ls : List Int) (c : Int) : Nat := (ls.filter fun l => decide (0 ≤ l + c)).length
theorem tell_upc : ∀ (ls : List Int) (c : Int), tell ls c - tell ls (c - 1) = (upc ls c : Int)
  | [], _ => rfl
  | l :: ls, c => by
    have h := tell_upc ls c
    rw [tell_cons, tell_cons]
    unfold upc at h ⊢
    rw [List.filter_cons]
    by_cases z : 0 ≤ l + c
    · rw [if_pos (decide_eq_true z), List.length_cons]
      omega
    · rw [if_neg (by rw [decide_eq_false z]; decide)]
      omega
theorem upc_le (ls : List Int) (c : Int) : upc ls c ≤ ls.length := List.length_filter_le _ _
/-- the levels from the greatest on -/
def ev (ls : List Int) (j : Nat) : Int := ls.getD (ls.length - 1 - j) 0
theorem upc_iff : ∀ {ls : List Int}, ls.Pairwise (· ≤ ·) → ∀ (c : Int) (j : Nat), j < ls.length → (j < upc ls c ↔ 0 ≤ ev ls j + c)
  | [], _, c, j, h => absurd h (by simp)
  | l :: ls, s, c, j, h => by
    rw [List.pairwise_cons] at s
    have up := upc_le ls c
    by_cases e : j = ls.length
    · subst e
      have e1 : ev (l :: ls) ls.length = l := by
        unfold ev
        rw [List.length_cons, show ls.length + 1 - 1 - ls.length = 0 by omega]
        rfl
      rw [e1]
      unfold upc at up ⊢
      rw [List.filter_cons]
      by_cases z : 0 ≤ l + c
      · rw [if_pos (decide_eq_true z), List.length_cons]
        have all : ls.filter (fun l => decide (0 ≤ l + c)) = ls := List.filter_eq_self.mpr fun x hx => decide_eq_true (by have := s.1 x hx; omega)
        rw [all]
        omega
      · rw [if_neg (by rw [decide_eq_false z]; decide)]
        omega
    · have hj : j < ls.length := by
        rw [List.length_cons] at h
        omega
      have e1 : ev (l :: ls) j = ev ls j := by
        unfold ev
        rw [List.length_cons, show ls.length + 1 - 1 - j = (ls.length - 1 - j) + 1 by omega]
        rfl
      have ih := upc_iff s.2 c j hj
      rw [e1, ← ih]
      unfold upc
      rw [List.filter_cons]
      by_cases z : 0 ≤ l + c
      · rw [if_pos (decide_eq_true z), List.length_cons]
        have all : ls.filter (fun l => decide (0 ≤ l + c)) = ls := List.filter_eq_self.mpr fun x hx => decide_eq_true (by have := s.1 x hx; omega)
        rw [all]
        omega
      · rw [if_neg (by rw [decide_eq_false z]; decide)]
theorem rows_of (ls : List Int) (c : Int) : tell ls c - rowsL ls c = ls.sum + (ls.length : Int) * (c + 1) := by
  rw [rows_tell]
  omega
/-- the columns between two boxes -/
theorem core_col {ls : List Int} (s : ls.Pairwise (· ≤ ·)) (hl : 1 ≤ ls.length) {col : Nat} {c : Int} (h1 : tell ls (c - 1) ≤ col) (h2 : (col : Int) < tell ls c) : (hAt (coreL ls) col : Int) = rowsL ls c := by
  have nn := rows_nn ls c
  have lo : rowsL ls c ≤ (hAt (coreL ls) col : Int) := by
    rcases Int.lt_or_le 0 (rowsL ls c) with z | z
    · have := (core_at s hl col ((rowsL ls c).toNat - 1)).mpr ⟨c, h2, by omega⟩
      omega
    · omega
  rcases Int.lt_or_le (rowsL ls c) (hAt (coreL ls) col : Int) with z | z
  · exfalso
    obtain ⟨c', a1, a2⟩ := (core_at s hl col (rowsL ls c).toNat).mp (by omega)
    rcases Int.lt_or_le c' c with y | y
    · have := tell_mono (show c' ≤ c - 1 by omega) ls
      omega
    · have := rows_anti y ls
      omega
  · omega
theorem col_box {ls : List Int} (hl : 1 ≤ ls.length) (col : Nat) : ∃ c, tell ls (c - 1) ≤ col ∧ (col : Int) < tell ls c := by
  obtain ⟨x, r, e⟩ : ∃ x r, ls = x :: r := by
    cases ls with
    | nil => exact absurd hl (by simp)
    | cons x r => exact ⟨x, r, rfl⟩
  have lo : ∃ lo : Int, tell ls lo = 0 := by
    obtain ⟨m, hm⟩ : ∃ m : Int, ∀ l ∈ ls, l ≤ m := by
      clear e hl
      induction ls with
      | nil => exact ⟨0, fun l h => absurd h (by simp)⟩
      | cons a r ih =>
        obtain ⟨m, hm⟩ := ih
        refine ⟨max a m, fun l h => ?_⟩
        rcases List.mem_cons.mp h with rfl | h
        · omega
        · have := hm l h
          omega
    exact ⟨-m - 1, tell_lo ls _ fun l hl => by have := hm l hl; omega⟩
  obtain ⟨lo, hlo⟩ := lo
  have hx : x ∈ ls := by rw [e]; exact List.mem_cons_self ..
  have key : ∀ n : Nat, tell ls (lo + n) ≤ col ∨ ∃ c, tell ls (c - 1) ≤ col ∧ (col : Int) < tell ls c := fun n => by
    induction n with
    | zero => exact .inl (by rw [show lo + ((0 : Nat) : Int) = lo by omega, hlo]; omega)
    | succ n ih =>
      rcases ih with ih | ih
      · rcases Int.lt_or_le (col : Int) (tell ls (lo + (n + 1 : Nat))) with z | z
        · exact .inr ⟨lo + (n + 1 : Nat), by rw [show lo + ((n + 1 : Nat) : Int) - 1 = lo + n by omega]; exact ih, z⟩
        · exact .inl z
      · exact .inr ih
  rcases key ((col : Int) - x - lo + 1).toNat with h | h
  · exfalso
    have g := tell_ge (c := lo + (((col : Int) - x - lo + 1).toNat : Int)) hx
    have g2 := tell_nn ls (lo + (((col : Int) - x - lo + 1).toNat : Int))
    rcases Int.lt_or_le 0 ((col : Int) - x - lo + 1) with z | z
    · omega
    · have g3 := tell_ge (c := lo) hx
      omega
  · exact h
/-- the beads of the core of levels -/
theorem core_beads {ls : List Int} (s : ls.Pairwise (· ≤ ·)) (hl : 1 ≤ ls.length) (z : Int) : inB (coreL ls) z ↔ (z + ls.sum) / (ls.length : Int) < ev ls ((z + ls.sum) % (ls.length : Int)).toNat := by
  obtain ⟨k, hk⟩ : ∃ k : Int, k = (ls.length : Int) := ⟨_, rfl⟩
  have k1 : 0 < k := by omega
  rw [← hk]
  have m0 := Int.emod_nonneg (z + ls.sum) (show k ≠ 0 by omega)
  have m1 := Int.emod_lt_of_pos (z + ls.sum) k1
  have dm := Int.mul_ediv_add_emod (z + ls.sum) k
  obtain ⟨j, hj⟩ : ∃ j : Nat, (j : Int) = (z + ls.sum) % k := ⟨((z + ls.sum) % k).toNat, by omega⟩
  rw [← hj] at dm m0 m1 ⊢
  rw [Int.toNat_natCast]
  obtain ⟨c, hc⟩ : ∃ c : Int, c = -((z + ls.sum) / k) - 1 := ⟨_, rfl⟩
  have hq : (z + ls.sum) / k = -(c + 1) := by omega
  rw [hq] at dm ⊢
  have kc : k * -(c + 1) = -(k * (c + 1)) := Int.mul_neg ..
  have up := upc_iff s c j (by omega)
  have tu := tell_upc ls c
  have rw_ := rows_of ls c
  rw [← hk] at rw_
  constructor
  · rintro ⟨col, e⟩
    obtain ⟨c', a1, a2⟩ := col_box hl col
    have hh := core_col s hl a1 a2
    have r' := rows_of ls c'
    rw [← hk] at r'
    have t' := tell_upc ls c'
    have ul := upc_le ls c'
    unfold bead at e
    -- z = -(S + k (c' + 1)) + (T(c') - col - 1)
    have ez : z + ls.sum = k * -(c' + 1) + (tell ls c' - col - 1) := by
      rw [Int.mul_neg]
      omega
    have dd : (z + ls.sum) / k = -(c' + 1) := by
      rw [ez, Int.add_comm, Int.add_mul_ediv_left _ _ (by omega : k ≠ 0), Int.ediv_eq_zero_of_lt (by omega) (by omega)]
      omega
    have ec : c' = c := by omega
    subst ec
    have : j < upc ls c' := by omega
    have := up.mp this
    omega
  · intro h
    have ju : j < upc ls c := up.mpr (by omega)
    refine ⟨(tell ls c - 1 - j).toNat, ?_⟩
    have nn := tell_nn ls (c - 1)
    have hh := core_col s hl (c := c) (col := (tell ls c - 1 - j).toNat) (by omega) (by omega)
    unfold bead
    rw [hh]
    omega
def la (ls : List Int) (r : Nat) : Int := ev ls (((r : Int) + ls.sum) % (ls.length : Int)).toNat - ((r : Int) + ls.sum) / (ls.length : Int)
theorem core_fl {ls : List Int} (s : ls.Pairwise (· ≤ ·)) (hl : 1 ≤ ls.length) : fl (coreL ls) (ls.length : Int) (la ls) := fun z => by
  rw [core_beads s hl]
  obtain ⟨k, hk⟩ : ∃ k : Int, k = (ls.length : Int) := ⟨_, rfl⟩
  have k1 : 0 < k := by omega
  unfold la
  rw [← hk]
  have m0 := Int.emod_nonneg z (show k ≠ 0 by omega)
  have dm := Int.mul_ediv_add_emod z k
  have e1 : z + ls.sum = (z % k + ls.sum) + k * (z / k) := by omega
  rw [Int.toNat_of_nonneg m0, e1, Int.add_mul_emod_self_left, Int.add_mul_ediv_left _ _ (by omega : k ≠ 0)]
  omega
theorem core_core {ls : List Int} (s : ls.Pairwise (· ≤ ·)) (hl : 1 ≤ ls.length) : coreB (coreL ls) (ls.length : Int) := fl_core (by omega) (core_fl s hl)
theorem rot_perm (S : Int) {n : Nat} (hn : 1 ≤ n) : ((List.range n).map fun (r : Nat) => (((r : Int) + S) % (n : Int)).toNat).Perm (List.range n) := by
  have m := fun (r : Nat) => Int.emod_nonneg ((r : Int) + S) (show (n : Int) ≠ 0 by omega)
  have l := fun (r : Nat) => Int.emod_lt_of_pos ((r : Int) + S) (show 0 < (n : Int) by omega)
  refine (List.perm_ext_iff_of_nodup ?_ List.nodup_range).mpr fun x => ?_
  · refine List.pairwise_map.mpr (List.pairwise_lt_range.imp_of_mem fun {a b} ha hb q e => ?_)
    have ha := List.mem_range.mp ha
    have hb := List.mem_range.mp hb
    have e2 : ((a : Int) + S) % n = ((b : Int) + S) % n := by
      have := m a
      have := m b
      omega
    have d1 := Int.mul_ediv_add_emod ((a : Int) + S) n
    have d2 := Int.mul_ediv_add_emod ((b : Int) + S) n
    have : (n : Int) * (((b : Int) + S) / n - ((a : Int) + S) / n) = (b : Int) - a := by
      rw [Int.mul_sub]
      omega
    rcases Int.lt_or_le 0 (((b : Int) + S) / n - ((a : Int) + S) / n) with z | z
    · have : (n : Int) * 1 ≤ (n : Int) * (((b : Int) + S) / n - ((a : Int) + S) / n) := Int.mul_le_mul_of_nonneg_left (by omega) (by omega)
      omega
    · have : (n : Int) * (((b : Int) + S) / n - ((a : Int) + S) / n) ≤ (n : Int) * 0 := Int.mul_le_mul_of_nonneg_left (by omega) (by omega)
      omega
  · rw [List.mem_map, List.mem_range]
    constructor
    · rintro ⟨r, _, rfl⟩
      have := m r
      have := l r
      omega
    · intro hx
      refine ⟨(((x : Int) - S) % n).toNat, List.mem_range.mpr ?_, ?_⟩
      · have := Int.emod_nonneg ((x : Int) - S) (show (n : Int) ≠ 0 by omega)
        have := Int.emod_lt_of_pos ((x : Int) - S) (show 0 < (n : Int) by omega)
        omega
      · rw [Int.toNat_of_nonneg (Int.emod_nonneg _ (show (n : Int) ≠ 0 by omega)), Int.emod_add_emod, show (x : Int) - S + S = x by omega, Int.emod_eq_of_lt (by omega) (by omega), Int.toNat_natCast]
/-- the letters of the core of levels are as many as their distance -/
theorem core_lts {ls : List Int} (s : ls.Pairwise (· ≤ ·)) (hl : 1 ≤ ls.length) (IC : IsHeap (coreL ls)) : lts (coreL ls) (ls.length : Int) = distL ls := by
  rw [lts_LS IC (by omega) (core_fl s hl), Int.toNat_natCast]
  obtain ⟨n, hn⟩ : ∃ n, n = ls.length := ⟨_, rfl⟩
  rw [← hn]
  have n1 : 0 < (n : Int) := by omega
  rw [← gs_holes (k := (n : Int)) rfl]
  have fh : (fhA (n : Int) (la ls) n).Perm ((List.range n).map fun (j : Nat) => (n : Int) * ev ls j - ls.sum + (j : Int)) := by
    have e : fhA (n : Int) (la ls) n = ((List.range n).map fun (r : Nat) => (((r : Int) + ls.sum) % (n : Int)).toNat).map fun (j : Nat) => (n : Int) * ev ls j - ls.sum + (j : Int) := by
      unfold fhA
      rw [List.map_map]
      refine List.map_congr_left fun r _ => ?_
      show (n : Int) * la ls r + (r : Int) = (n : Int) * ev ls (((r : Int) + ls.sum) % (n : Int)).toNat - ls.sum + ((((r : Int) + ls.sum) % (n : Int)).toNat : Int)
      have dm := Int.mul_ediv_add_emod ((r : Int) + ls.sum) n
      have m0 := Int.emod_nonneg ((r : Int) + ls.sum) (show (n : Int) ≠ 0 by omega)
      unfold la
      rw [← hn, Int.mul_sub, Int.toNat_of_nonneg m0]
      omega
    rw [e]
    exact (rot_perm ls.sum (by omega)).map _
  rw [gs_perm _ fh]
  unfold gs
  rw [List.map_map, sm_sum]
  have inner : ∀ i, i < n → (((List.range n).map fun (j : Nat) => (n : Int) * ev ls j - ls.sum + (j : Int)).map fun y => max 0 (((n : Int) * ev ls i - ls.sum + (i : Int) - y) / (n : Int))).sum = sm n fun j => max 0 (ev ls i - ev ls j - (if i < j then 1 else 0)) := fun i hi => by
    rw [List.map_map, sm_sum]
    refine sm_congr fun j hj => ?_
    show max 0 (((n : Int) * ev ls i - ls.sum + (i : Int) - ((n : Int) * ev ls j - ls.sum + (j : Int))) / (n : Int)) = _
    have e : (n : Int) * ev ls i - ls.sum + (i : Int) - ((n : Int) * ev ls j - ls.sum + (j : Int)) = ((i : Int) - j) + (n : Int) * (ev ls i - ev ls j) := by
      rw [Int.mul_sub]
      omega
    rw [e, Int.add_mul_ediv_left _ _ (by omega : (n : Int) ≠ 0)]
    by_cases z : i < j
    · rw [if_pos z]
      have : ((i : Int) - j) / (n : Int) = -1 := by
        rw [show (i : Int) - j = ((i : Int) - j + n) + (n : Int) * (-1) by omega, Int.add_mul_ediv_left _ _ (by omega : (n : Int) ≠ 0), Int.ediv_eq_zero_of_lt (by omega) (by omega)]
        rfl
      omega
    · rw [if_neg z, Int.ediv_eq_zero_of_lt (by omega) (by omega)]
      omega
  refine (sm_congr (g := fun i => sm n fun j => max 0 (ev ls i - ev ls j - (if i < j then 1 else 0))) inner).trans ?_
  rw [sm_rev]
  unfold distL
  rw [← hn, sm_sum]
  refine sm_congr fun late hlate => ?_
  show (sm n fun j => max 0 (ev ls (n - 1 - late) - ev ls j - (if n - 1 - late < j then 1 else 0))) = _
  rw [sm_rev, sm_sum]
  have ev' : ∀ i, i < n → ev ls (n - 1 - i) = ls.getD i 0 := fun i hi => by
    unfold ev
    rw [← hn, show n - 1 - (n - 1 - i) = i by omega]
  rw [show n = late + (n - late) by omega, sm_split]
  have tail : sm (n - late) (fun i => max 0 (ev ls (late + (n - late) - 1 - late) - ev ls (late + (n - late) - 1 - (late + i)) - (if late + (n - late) - 1 - late < late + (n - late) - 1 - (late + i) then 1 else 0))) = 0 := by
    rw [sm_congr (g := fun _ => 0) fun i hi => ?_, sm_zero]
    rw [show late + (n - late) = n by omega, ev' late hlate, ev' (late + i) (by omega), if_neg (by omega)]
    have := pw_get s (show late ≤ late + i by omega) (by omega)
    omega
  rw [tail, Int.add_zero]
  refine sm_congr fun i hi => ?_
  rw [show late + (n - late) = n by omega, ev' late hlate, ev' i (by omega), if_pos (by omega)]
end K1

set_option exponentiation.threshold 400
namespace K1
open PySem PySem.Spec PyProof.Rows L2 Evl HM LX
section
variable {P : Program} {w : World} {K : PySem.W.Frag} {mg : Str → Option Value} {base : Heap}
theorem grow_none {h : List Nat} {g : Nat → Bool} (n : ∀ c, g c = false) : grow h g = h := by
  have e : g = fun _ => false := funext n
  subst e
  unfold grow
  rw [if_neg (show ¬ false = true by decide), List.append_nil]
  exact range_hAt h
theorem step_idem {k : Int} (hk : 2 ≤ k) {h : List Nat} (IH : IsHeap h) (C : coreB h k) {q : Int} (q0 : 0 ≤ q) (q1 : q < k) : step k (step k h q) q = step k h q := by
  obtain ⟨a, F⟩ := fl_ex IH (by omega) C
  obtain ⟨F2, _⟩ := letter_fl IH hk q0 q1 F (g := gq h k q) (gq_iff (by omega) q0 q1)
  have IG : IsHeap (step k h q) := grow_heap IH gq_opn
  obtain ⟨_, id⟩ := letter_fl IG hk q0 q1 F2 (g := gq (step k h q) k q) (gq_iff (by omega) q0 q1)
  refine id.mpr ?_
  have ps : lp k q ≠ lq k q := by
    unfold lp lq
    split <;> omega
  unfold lt2
  rw [if_pos rfl, if_neg (Ne.symm ps), if_pos rfl]
  omega
end
end K1

namespace K1
open HM
/-- a heap holds the core of levels exactly if it is as rich -/
theorem core_rich {ls : List Int} (s : ls.Pairwise (· ≤ ·)) (hl : 1 ≤ ls.length) {h : List Nat} (IH : IsHeap h) : (∀ col, hAt (coreL ls) col ≤ hAt h col) ↔ ∀ c : Int, tell ls c ≤ (F h (ls.sum + (ls.length : Int) * (c + 1) - 1) : Int) := by
  constructor
  · intro sb c
    have ro := rows_of ls c
    have sp := F_spec IH (ls.sum + (ls.length : Int) * (c + 1) - 1)
    generalize F h (ls.sum + (ls.length : Int) * (c + 1) - 1) = f at *
    rcases Int.lt_or_le (f : Int) (tell ls c) with z | z
    · exfalso
      have d := sp.2
      unfold dg at d
      have nn := rows_nn ls c
      rcases Int.lt_or_le 0 (rowsL ls c) with y | y
      · have := (core_at s hl f ((rowsL ls c).toNat - 1)).mpr ⟨c, z, by omega⟩
        have := sb f
        omega
      · omega
    · exact z
  · intro A col
    rcases Nat.lt_or_ge (hAt h col) (hAt (coreL ls) col) with z | z
    · exfalso
      obtain ⟨c, a1, a2⟩ := (core_at s hl col (hAt h col)).mp (by omega)
      have ro := rows_of ls c
      have sp := F_spec IH (ls.sum + (ls.length : Int) * (c + 1) - 1)
      have := A c
      generalize F h (ls.sum + (ls.length : Int) * (c + 1) - 1) = f at *
      have d := sp.1 ((tell ls c).toNat - 1) (by omega)
      unfold dg at d
      have := IH.le (show col ≤ (tell ls c).toNat - 1 by omega)
      omega
    · exact z
/-- the richness of the core of levels itself -/
theorem core_F {ls : List Int} (s : ls.Pairwise (· ≤ ·)) (hl : 1 ≤ ls.length) (IC : IsHeap (coreL ls)) (c : Int) : (F (coreL ls) (ls.sum + (ls.length : Int) * (c + 1) - 1) : Int) = tell ls c := by
  have lo := (core_rich s hl IC).mp (fun _ => Nat.le_refl _) c
  have ro := rows_of ls c
  have sp := F_spec IC (ls.sum + (ls.length : Int) * (c + 1) - 1)
  generalize F (coreL ls) (ls.sum + (ls.length : Int) * (c + 1) - 1) = f at *
  have tn := tell_nn ls c
  have rn := rows_nn ls c
  rcases Int.lt_or_le (tell ls c) (f : Int) with z | z
  · exfalso
    have d := sp.1 (tell ls c).toNat (by omega)
    unfold dg at d
    obtain ⟨c', a1, a2⟩ := (core_at s hl (tell ls c).toNat (rowsL ls c).toNat).mp (by omega)
    rcases Int.lt_or_le c' c with y | y
    · have := tell_mono (show c' ≤ c by omega) ls
      omega
    · have := rows_anti y ls
      omega
  · omega
/-- levels that tell the same are the same -/
theorem tell_inj {ls ms : List Int} (s1 : ls.Pairwise (· ≤ ·)) (s2 : ms.Pairwise (· ≤ ·)) (hl : ls.length = ms.length) (h : ∀ c, tell ls c = tell ms c) : ls = ms := by
  have up : ∀ c, upc ls c = upc ms c := fun c => by
    have a := tell_upc ls c
    have b := tell_upc ms c
    have := h c
    have := h (c - 1)
    omega
  refine List.ext_getElem hl fun i h1 h2 => ?_
  have e1 : ev ls (ls.length - 1 - i) = ls[i] := by
    unfold ev
    rw [show ls.length - 1 - (ls.length - 1 - i) = i by omega, List.getD_eq_getElem?_getD, List.getElem?_eq_getElem h1]
    rfl
  have e2 : ev ms (ls.length - 1 - i) = ms[i] := by
    unfold ev
    rw [show ms.length - 1 - (ls.length - 1 - i) = i by omega, List.getD_eq_getElem?_getD, List.getElem?_eq_getElem h2]
    rfl
  have a := fun c => upc_iff s1 c (ls.length - 1 - i) (by omega)
  have b := fun c => upc_iff s2 c (ls.length - 1 - i) (by omega)
  rw [e1] at a
  rw [e2] at b
  have k1 := (b (-ls[i])).mp (by rw [← up]; exact (a (-ls[i])).mpr (by omega))
  have k2 := (a (-ms[i])).mp (by rw [up]; exact (b (-ms[i])).mpr (by omega))
  omega
/-- the levels of a class whose heap is the core -/
theorem lvs_core {rs : List (Int × Int)} {ps : List Int} {tot : Int} {k : Nat} {ls ms : List Int} (s : ls.Pairwise (· ≤ ·)) (hk : 2 ≤ k) (hl : ls.length = k) (IC : IsHeap (coreL ls)) (hh : hseq rs ps ps.length = coreL ls) (ht : ls.sum = tot + 1 - ps.length - k) (L : Lvs rs ps tot k ms) (ok : RsOk rs ps.length) (pl : PlOk rs ps) (eq : Eqo rs ps.length k) : ms = ls := by
  refine tell_inj L.asc s (L.len.trans hl.symm) fun c => ?_
  rw [L.tell ok pl eq hk c]
  unfold rich1
  rw [hh]
  have := core_F s (by omega) IC c
  rw [← this, show tot + c * (k : Int) - (ps.length : Int) = ls.sum + (ls.length : Int) * (c + 1) - 1 by rw [hl, Int.mul_add, Int.mul_comm c]; omega]
/-- as rich as levels, by richness -/
theorem core_rich1 {rs : List (Int × Int)} {ps : List Int} {tot : Int} {ls : List Int} (s : ls.Pairwise (· ≤ ·)) (hl : 1 ≤ ls.length) (ht : ls.sum = tot + 1 - ps.length - ls.length) : (∀ col, hAt (coreL ls) col ≤ hAt (hseq rs ps ps.length) col) ↔ ∀ c : Int, tell ls c ≤ (rich1 rs ps (tot + c * (ls.length : Int)) : Int) := by
  rw [core_rich s hl (hseq_ok rs ps ps.length).1]
  unfold rich1
  have e : ∀ c : Int, ls.sum + (ls.length : Int) * (c + 1) - 1 = tot + c * (ls.length : Int) - (ps.length : Int) := fun c => by
    rw [Int.mul_add, Int.mul_comm c]
    omega
  constructor
  · intro h c
    rw [← e c]
    exact h c
  · intro h c
    rw [e c]
    exact h c
/-! words laid on a chain -/
theorem ring_letter {n s : Int} {k : Nat} (hn : 2 ≤ n) (hs : 1 ≤ s) (ho : K1M.ord n.toNat s.natAbs = k) (hk : 2 ≤ k) {c : Int} (c0 : 0 ≤ c) (c1 : c < k) (h : List Nat) : grow h (gl h n s (c * s % n)) = step (k : Int) h c := by
  have dv : ∀ w : Int, n ∣ w * s ↔ (k : Int) ∣ w := fun w => by
    have h := K1M.dvd_iff (n := n.toNat) (s := s.natAbs) (i := w.natAbs) (by omega)
    have e : n.toNat / Nat.gcd n.toNat s.natAbs = k := ho
    rw [e] at h
    rw [← Int.natAbs_dvd_natAbs, Int.natAbs_mul, show n.natAbs = n.toNat by omega, ← Int.natAbs_dvd_natAbs, Int.natAbs_natCast, ← h]
    exact ⟨Nat.mod_eq_zero_of_dvd, Nat.dvd_of_mod_eq_zero⟩
  unfold step
  congr 1
  funext col
  unfold gl gq
  congr 1
  refine decide_eq_decide.mpr ?_
  rw [mod_iff (show 0 < (k : Int) by omega) c0 c1]
  have e1 : (dg h col * s - c * s % n) % n = 0 ↔ n ∣ (dg h col - c) * s := by
    have dm := Int.mul_ediv_add_emod (c * s) n
    have e : dg h col * s - c * s % n = (dg h col - c) * s + n * (c * s / n) := by
      rw [Int.sub_mul]
      omega
    rw [e, Int.add_mul_emod_self_left]
    exact ⟨Int.dvd_of_emod_eq_zero, Int.emod_eq_zero_of_dvd⟩
  rw [e1, dv]
  exact ⟨Int.emod_eq_zero_of_dvd, Int.dvd_of_emod_eq_zero⟩
/-- the letters of a word, the last one again and again -/
def ltr (ws : List Int) (i : Nat) : Int := if ws = [] then 1 else ws.getD (min i (ws.length - 1)) 0
theorem ltr_in {k : Int} (hk : 2 ≤ k) {ws : List Int} (R : InR k ws) (i : Nat) : 0 ≤ ltr ws i ∧ ltr ws i < k := by
  unfold ltr
  by_cases z : ws = []
  · rw [if_pos z]
    omega
  · rw [if_neg z]
    have l := List.length_pos_iff.mpr z
    rw [List.getD_eq_getElem?_getD, List.getElem?_eq_getElem (show min i (ws.length - 1) < ws.length by omega)]
    exact R _ (List.getElem_mem _)
theorem run_len {k : Int} (hk : 2 ≤ k) {ws : List Int} (R : InR k ws) : IsHeap (run k [] ws) ∧ coreB (run k [] ws) k := by
  obtain ⟨a, b, _⟩ := run_core hk ws R IsHeap.nil (core_nil k)
  exact ⟨a, b⟩
theorem run_last {k : Int} (hk : 2 ≤ k) {ws : List Int} (R : InR k ws) {i : Nat} (hi : ws.length ≤ i) : step k (run k [] ws) (ltr ws i) = run k [] ws := by
  by_cases z : ws = []
  · subst z
    show step k [] 1 = []
    unfold step
    refine grow_none fun c => ?_
    unfold gq opn
    by_cases q : c = 0
    · subst q
      have e : dg [] 0 % k = 0 := Int.zero_emod k
      rw [e]
      rfl
    · rw [decide_eq_false q, hAt_ge (Nat.zero_le _), hAt_ge (Nat.zero_le _)]
      rfl
  · obtain ⟨ws', q, rfl⟩ : ∃ ws' q, ws = ws' ++ [q] := ⟨ws.dropLast, ws.getLast z, (List.dropLast_concat_getLast z).symm⟩
    have R' : InR k ws' := fun y hy => R y (List.mem_append_left _ hy)
    obtain ⟨q0, q1⟩ := R q (List.mem_append_right _ (List.mem_singleton.mpr rfl))
    obtain ⟨I, C⟩ := run_len hk R'
    have e : ltr (ws' ++ [q]) i = q := by
      unfold ltr
      rw [if_neg z]
      rw [List.length_append] at hi ⊢
      have hi' : ws'.length + 1 ≤ i := hi
      rw [show min i (ws'.length + [q].length - 1) = ws'.length by show min i (ws'.length + 1 - 1) = _; omega, List.getD_eq_getElem?_getD, List.getElem?_append_right (Nat.le_refl _), Nat.sub_self]
      rfl
    rw [e, run_snoc]
    exact step_idem hk I C q0 q1
/-- the heap of a word laid on a chain of one order -/
theorem hseq_word {rs : List (Int × Int)} {k g : Nat} (hk : 2 ≤ k) {ws ps : List Int} (R : InR (k : Int) ws) (eq : Eqo rs g k) (hr : ∀ j, j < g → 2 ≤ (K1N.nAt rs j : Int) ∧ 1 ≤ K1N.sAt rs j) (hp : ∀ j, j < g → ps.getD j 0 = ltr ws j * K1N.sAt rs j % (K1N.nAt rs j : Int)) : ∀ i, i ≤ g → hseq rs ps i = run (k : Int) [] (ws.take i)
  | 0, _ => by rw [List.take_zero]; rfl
  | i + 1, hi => by
    have ih := hseq_word hk R eq hr hp i (by omega)
    obtain ⟨n2, s1⟩ := hr i (by omega)
    obtain ⟨l0, l1⟩ := ltr_in (show (2 : Int) ≤ k by omega) R i
    show grow (hseq rs ps i) (gl (hseq rs ps i) (K1N.nAt rs i) (K1N.sAt rs i) (ps.getD i 0)) = _
    rw [hp i (by omega), ring_letter n2 s1 (by rw [Int.toNat_natCast]; exact eq i (by omega)) hk l0 l1, ih]
    by_cases z : i < ws.length
    · have e : ltr ws i = ws[i] := by
        unfold ltr
        rw [if_neg (fun y => by rw [y] at z; exact absurd z (by simp)), show min i (ws.length - 1) = i by omega, List.getD_eq_getElem?_getD, List.getElem?_eq_getElem z]
        rfl
      have tk : ws.take (i + 1) = ws.take i ++ [ws[i]] := by
        rw [List.take_succ, List.getElem?_eq_getElem z]
        rfl
      rw [tk, run_snoc, e]
    · rw [List.take_of_length_le (show ws.length ≤ i by omega), List.take_of_length_le (show ws.length ≤ i + 1 by omega)]
      exact run_last (by omega) R (by omega)
end K1

/-! own rule: a tuple times an int from 1 on, by what stands afterwards -/
namespace RT
open PySem PySem.Spec PyProof.Rows L2 Evl
theorem tuple_mul1 (l : Addr) (items : Array Value) (n : Nat) (dd : Option Addr) (sl : Array (Option Value)) (u : Tok) :
    Meets (Builtin.«tuple.__mul__» ⟨[.ref l, .int 1 u], []⟩) (fun _ R s => s.heap.get? l = some { cls := .type "tuple", dict := dd, data := .seq items n, slots := sl } ∧ R (.ok (.ret (Value.ref l))) s) :=
  .of_wp fun prog w A R s h => by
    obtain ⟨hp, g, d, tk, os⟩ := s
    obtain ⟨hl, h⟩ := h
    have f1 := AutoSeq1.idx_int
    have c0 : (decide ((1 : Int) < -(2 ^ 63)) || decide ((1 : Int) ≥ 2 ^ 63)) = false := by decide
    have c1 : (items.isEmpty || (1 : Int) == 1) = true := by simp
    wp_walk using wpAny_loadPart' hl
    repeat (first
      | (refine wpAny_ite_false (decide_eq_false (by rw [c0]; exact Bool.false_ne_true)) ?_; wp_walk using wpAny_loadPart' hl)
      | (refine wpAny_ite_true (decide_eq_true (by rw [c1])) ?_; wp_walk using wpAny_loadPart' hl))
    exact ⟨_, rfl, h⟩
section
variable {X : Cx}
def rRepE : R2 := fun x y H Q => ∃ l k xs, x = .ref l ∧ y = .int k ∧ H l = some (.tup xs) ∧ xs ≠ [] ∧ 1 ≤ k ∧ k ≤ 1000 ∧ xs.length ≤ 1000 ∧ ∀ p H', Ex H H' → H' p = some (.tup (List.replicate k.toNat xs).flatten) → Q (.ref p) H'
theorem op_repE : OpR X (binaryOp .Mult) rRepE := by
  intro pins s σ H x y v u Q I rx ry h
  obtain ⟨l, k, xs, rfl, rfl, hT, hne, h1, h2, hz, q⟩ := h
  by_cases hk : k = 1
  · subst hk
    cases rx
    obtain ⟨t, rfl⟩ := ry
    obtain ⟨its, r, ⟨⟨cls, dd, data, sl⟩, ho, hc, n, hd⟩, hs⟩ := I.tuple (SqT.of hT)
    simp only at hc hd
    subst hc hd
    refine wpAny_binaryOp_repeat_ref (T := "tuple") (U := "int") (by decide) ⟨_, ho, rfl⟩ (fun s' => typeIs_int s' 1 t) noFill_tuple_mul F.fills_int_mul F.slot_int_rmul repeat_tuple F.slot_int_index.lookup
      (call_meets F.slot_int_rmul (typeIs_int s 1 t) F.entry_int_rmul (F.args_int_rmul_2 _ _) (int_rmul_tuple 1 t l its.toArray n dd sl)
        ⟨ho, rfl, ⟨_, ho, rfl⟩, call_meets F.slot_tuple_mul ⟨_, ho, rfl⟩ F.entry_tuple_mul (F.args_tuple_mul_2 _ _) (tuple_mul1 l its.toArray n dd sl t) ⟨ho, ?_⟩⟩)
    refine ⟨.ref l, H, I, rfl, q l H (Ex.refl _) ?_⟩
    rw [hT]
    simp
  · exact op_repT pins s σ H _ _ v u Q I rx ry ⟨l, k, xs, rfl, rfl, SqT.of hT, hne, by omega, h2, hz, fun p hp => q p _ (Ex.new hp) upd_same⟩
end
end RT

/-! own rule: x in t, t a tuple of data of any depth -/
namespace L2
open PySem PySem.Spec PyProof.Rows
section
variable {X : Cx}
def rInDT (K : PySem.W.Frag) : R2 := fun x y H Q => ∃ d ds, Dp K H x d ∧ Dp K H y (.tuple ds) ∧ SeqAt.shaped d = true ∧ SeqAt.shaped (.tuple ds) = true ∧ Q (.bl (ds.any fun z => PyData.eqv z d)) H
end
end L2

/-! own rules: max and min of a tuple of ints -/
namespace MT
open PySem PySem.Spec PyProof.Rows L2
section
variable {prog : Program} {w : World} {A : Around} {E : Value → Shared → Prop} {s : Shared} {l : Addr}
end
section
variable {X : Cx}
def rMaxT (K : PySem.W.Frag) : List V → Hp → VK → Prop := fun vs H Q => ∃ (a : Addr) (ns : List Int), vs = [V.ref a] ∧ SqT K H a (ns.map V.int) ∧ 0 < ns.length ∧ ∀ m, m ∈ ns → (∀ y, y ∈ ns → y ≤ m) → Q (.int m) H
def rMinT (K : PySem.W.Frag) : List V → Hp → VK → Prop := fun vs H Q => ∃ (a : Addr) (ns : List Int), vs = [V.ref a] ∧ SqT K H a (ns.map V.int) ∧ 0 < ns.length ∧ ∀ m, m ∈ ns → (∀ y, y ∈ ns → m ≤ y) → Q (.int m) H
end
end MT

set_option exponentiation.threshold 400
namespace K1
open PySem PySem.Spec PyProof.Rows L2 Evl HM LX ZW TE
section
variable {P : Program} {w : World} {K : PySem.W.Frag} {mg : Str → Option Value} {base : Heap}
theorem ok_check_heaps (T : Txt K mg) {f : Addr} {fd : FuncData} (D : DefAt K mg "check_heaps" sCheckHeaps ["one", "other"] f fd) : FnOk P w K mg base CX0 5 f fd ["one", "other"] (spCheckHeaps K) := by
  refine D.F.ok scCheckHeaps (fun vs H Q E h => ?_) (fun cdv A outer s H vs Q E hr h => ?_)
  · obtain ⟨p, q, h, f', rfl, _⟩ := h
    rfl
  · obtain ⟨p, q, h, f', rfl, hp, hq, G, F, k⟩ := h
    obtain ⟨f1, fd1, D1⟩ := T.d_check_heap
    refine ⟨_, pss_cons (ps_expr (pe_call (ok_check_heap T D1) hr (by rfl) D1.g D1.F.kp D1.b .nil pass0 (pa_cons (pv 0) pa_nil)))
      (pss_one (ps_expr (pe_call (ok_check_heap T D1) hr (by rfl) D1.g D1.F.kp D1.b .nil pass0 (pa_cons (pv 1) pa_nil)))), ?_⟩
    refine ⟨_, rfl, p, h, rfl, hp, G, fun H1 e1 => ?_⟩
    exact ⟨_, rfl, q, f', rfl, e1 _ _ hq, F, fun H2 e2 => k _ (e1.trans e2)⟩
theorem at_neg1 {ls : List Int} (h : 1 ≤ ls.length) : atI (ls.map V.int) (-1) = some (V.int (ls.getD (ls.length - 1) 0)) := by
  have hn : ls ≠ [] := fun z => by
    subst z
    exact absurd h (by decide)
  obtain ⟨a, b, rfl⟩ : ∃ a b, ls = a ++ [b] := ⟨ls.dropLast, ls.getLast hn, (List.dropLast_concat_getLast hn).symm⟩
  rw [List.map_append]
  have e : (a ++ [b]).getD ((a ++ [b]).length - 1) 0 = b := by
    rw [List.length_append, List.length_singleton, Nat.add_sub_cancel, List.getD_eq_getElem?_getD, List.getElem?_append_right (Nat.le_refl _), Nat.sub_self]
    rfl
  rw [e]
  exact atI_last _ _
theorem cut_fromI {ns : List Int} {i : Nat} (h : i ≤ ns.length) : cutV (ns.map V.int) (some (i : Int)) none = (ns.drop i).map V.int := by
  unfold cutV
  rw [HT.sIx_nat, HT.sIx_none, List.length_map, Nat.min_eq_left h, List.take_of_length_le (by rw [List.length_drop, List.length_map]; exact Nat.le_refl _), List.map_drop]
theorem flat_rep {α : Type} : ∀ (n : Nat) (x : α), (List.replicate n [x]).flatten = List.replicate n x
  | 0, _ => rfl
  | n + 1, x => by
    rw [List.replicate_succ, List.flatten_cons, flat_rep n x]
    rfl
theorem hv_uni (a b : List Nat) : hv (uni a b) = (List.range (max a.length b.length)).map fun c => V.int (max (hAt a c : Int) (hAt b c : Int)) := by
  unfold hv uni
  rw [List.map_map]
  refine List.map_congr_left fun c _ => ?_
  show V.int ((max (hAt a c) (hAt b c) : Nat) : Int) = _
  congr 1
  omega
theorem all_dec {n : Nat} {p : Nat → Prop} [DecidablePred p] : ((List.range n).map fun i => decide (p i)).all id = decide (∀ i, i < n → p i) := by
  rw [Bool.eq_iff_iff, List.all_eq_true, decide_eq_true_eq]
  constructor
  · intro h i hi
    have := h (decide (p i)) (List.mem_map.mpr ⟨i, List.mem_range.mpr hi, rfl⟩)
    exact of_decide_eq_true this
  · intro h x hx
    obtain ⟨i, hi, rfl⟩ := List.mem_map.mp hx
    exact decide_eq_true (h i (List.mem_range.mp hi))
theorem mapBl (n : Nat) (f : Nat → Bool) : (List.range n).map (fun i => V.bl (f i)) = ((List.range n).map f).map V.bl := by
  rw [List.map_map]
  rfl
def spCheckUpTo (K : PySem.W.Frag) : Sp := fun vs H Q _ => ∃ i hi : Int, vs = [.int i, .int hi] ∧ i ≤ hi ∧ -(10 ^ 60) < i ∧ i < 10 ^ 60 ∧ ∀ H', Ex H H' → Q .non H'
theorem ok_check_up_to (T : Txt K mg) {f : Addr} {fd : FuncData} (D : DefAt K mg "check_up_to" sCheckUpTo ["value", "high"] f fd) : FnOk P w K mg base CX0 4 f fd ["value", "high"] (spCheckUpTo K) := by
  refine D.F.ok scCheckUpTo (fun vs H Q E h => ?_) (fun cdv A outer s₀ H vs Q E hr h => ?_)
  · obtain ⟨i, hi, rfl, _⟩ := h
    rfl
  · obtain ⟨i, hi, rfl, h1, h2, h3, q⟩ := h
    obtain ⟨f1, fd1, D1⟩ := T.d_check_between
    obtain ⟨tBOUND, vBOUND⟩ := T.v_BOUND
    have hr3 : Room 3 _ := hr.mono (by decide)
    refine ⟨_, pss_one (ps_expr (pe_call (ok_check_between T D1) hr3 (by rfl) D1.g D1.F.kp D1.b .nil pass0 (pa_cons (pv 0) (pa_cons (pe_op op_sub pe_int (pe_glob (v := .int (10 ^ 60)) rfl vBOUND ⟨_, rfl⟩)) (pa_cons (pv 1) pa_nil))))), ?_⟩
    exact ⟨_, rfl, _, _, rfl, rfl, _, rfl, i, _, hi, rfl, by omega, h1, h2, h3, q⟩
def spBox : Sp := fun vs H Q _ => ∃ n r : Nat, vs = [.int (n : Int), .int (r : Int)] ∧ 1 ≤ n ∧ n ≤ 60 ∧ 1 ≤ r ∧ r ≤ 60 ∧ ∀ p H', Ex H H' → HeapAt H' p (bxh n r) → Q (.ref p) H'
theorem ok_box (T : Txt K mg) {f : Addr} {fd : FuncData} (D : DefAt K mg "box" sBox ["columns", "rows"] f fd) : FnOk P w K mg base CX0 5 f fd ["columns", "rows"] spBox := by
  refine D.F.ok scBox (fun vs H Q E h => ?_) (fun cdv A outer s₀ H vs Q E hr h => ?_)
  · obtain ⟨n, r, rfl, _⟩ := h
    rfl
  · obtain ⟨n, r, rfl, n1, n2, r1, r2, q⟩ := h
    obtain ⟨f1, fd1, D1⟩ := T.d_check_up_to
    obtain ⟨tMOST_SIDE, vMOST_SIDE⟩ := T.v_SIDE
    have hr4 : Room 4 _ := hr.mono (by decide)
    refine ⟨_, pss_cons (ps_expr (pe_call (ok_check_up_to T D1) hr4 (by rfl) D1.g D1.F.kp D1.b .nil pass0 (pa_cons (pv 0) (pa_cons (pe_glob (v := .int 60) rfl vMOST_SIDE ⟨_, rfl⟩) pa_nil))))
      (pss_cons (ps_expr (pe_call (ok_check_up_to T D1) hr4 (by rfl) D1.g D1.F.kp D1.b .nil pass0 (pa_cons (pv 1) (pa_cons (pe_glob (v := .int 60) rfl vMOST_SIDE ⟨_, rfl⟩) pa_nil))))
      (pss_cons (ps_if (PW.pt (pw_or (pt_cmpR op_lt (pv 0) pe_int (nomark _))
          (pw_or1 (pt_cmpR op_lt (pv 1) pe_int (nomark _))))) (pss_one (ps_ret (pe_tup pa_nil))) pss_nil)
      (pss_one (ps_ret (pe_op RT.op_repE (pe_tup (pa_cons (pv 1) pa_nil)) (pv 0)))))), ?_⟩
    refine ⟨_, rfl, _, _, rfl, by omega, by omega, by omega, fun H1 e1 => ⟨_, rfl, _, _, rfl, by omega, by omega, by omega, fun H2 e2 => ?_⟩⟩
    refine ⟨_, rfl, _, _, rfl, rfl, _, rfl, iteF' (decide_eq_false (by omega)) ⟨_, rfl, _, _, rfl, rfl, _, rfl, iteF' (decide_eq_false (by omega)) ?_⟩⟩
    refine ⟨_, rfl, by show 1 ≤ sizeLine; decide, fun p0 hp0 => ⟨_, rfl, p0, (n : Int), [.int (r : Int)], rfl, rfl, upd_same, (fun z => by cases z), by omega, by omega, by show 1 ≤ 1000; decide, fun p H3 e3 h3 => ?_⟩⟩
    refine q p H3 (((e1.trans e2).trans (Ex.new hp0)).trans e3) ?_
    unfold HeapAt hv bxh
    rw [h3, List.map_replicate, Int.toNat_natCast]
    congr 2
    exact flat_rep n _
def spUnionOf (K : PySem.W.Frag) : Sp := fun vs H Q _ => ∃ p q h f, vs = [.ref p, .ref q] ∧ HeapAt H p h ∧ HeapAt H q f ∧ Good h ∧ Good f ∧ ∀ r H', Ex H H' → HeapAt H' r (uni h f) → Q (.ref r) H'
theorem ok_union_of (T : Txt K mg) {f : Addr} {fd : FuncData} (D : DefAt K mg "union_of" sUnionOf ["one", "other"] f fd) : FnOk P w K mg base CX0 6 f fd ["one", "other"] (spUnionOf K) := by
  refine D.F.ok scUnionOf (fun vs H Q E h => ?_) (fun cdv A outer s₀ H vs Q E hr h => ?_)
  · obtain ⟨p, q, h, f', rfl, _⟩ := h
    rfl
  · obtain ⟨p, q, h, f', rfl, hp1, hq1, G, F, k⟩ := h
    obtain ⟨f1, fd1, D1⟩ := T.d_height_at
    obtain ⟨f2, fd2, D2⟩ := T.d_check_heaps
    have hr1 : Room 1 _ := hr.mono (by decide)
    have hr5 : Room 5 _ := hr.mono (by decide)
    refine ⟨_, pss_cons (ps_expr (pe_call (ok_check_heaps T D2) hr5 (by rfl) D2.g D2.F.kp D2.b .nil pass0 (pa_cons (pv 0) (pa_cons (pv 1) pa_nil))))
      (pss_cons (ps_set (i := 2) scUnionOf.nd rfl (.inl rfl) (pe_callTy cr_range1 (by rfl) T.z_range (by decide +kernel) (pa_cons (pe_callB (call_max2 rfl) (by rfl) T.z_max (by decide +kernel) (pa_cons (pe_callB call_len_seq (by rfl) T.z_len PySem.boot_len (pa_cons (pv 0) pa_nil)) (pa_cons (pe_callB call_len_seq (by rfl) T.z_len PySem.boot_len (pa_cons (pv 1) pa_nil)) pa_nil))) pa_nil)))
      (pss_one (ps_ret (pe_callTy call_tuple_of (by rfl) T.z_tuple (by decide +kernel) (pa_cons (pe_lc (own := [("column", 3)]) (g := gName 3) (tt := tYes) rfl scUnionOf.nd (pi_rngV (pv 2))
        (blkOk_by (N := nUnionOf) (sc := defScope sUnionOf) (by decide +kernel)) (fun _ _ _ _ _ => (pg_name (i := 3) scUnionOf.nd rfl (.inl rfl))) (fun _ _ _ _ _ => pts_nil)
        (fun _ _ _ _ _ => (pe_callB (call_max2 rfl) (by rfl) T.z_max (by decide +kernel) (pa_cons (pe_call (ok_height_at T D1) hr1 (by rfl) D1.g D1.F.kp D1.b .nil pass0 (pa_cons (pv 0) (pa_cons (pv 3) pa_nil))) (pa_cons (pe_call (ok_height_at T D1) hr1 (by rfl) D1.g D1.F.kp D1.b .nil pass0 (pa_cons (pv 1) (pa_cons (pv 3) pa_nil))) pa_nil))))) pa_nil))))), ?_⟩
    refine ⟨_, rfl, _, rfl, p, q, h, f', rfl, hp1, hq1, G, F, fun H1 e1 => ?_⟩
    have hp2 := e1 _ _ hp1
    have hq2 := e1 _ _ hq1
    refine ⟨_, rfl, p, _, rfl, .inr (SqT.of hp2), _, rfl, q, _, rfl, .inr (SqT.of hq2), ?_⟩
    have Gl := G.len
    have Fl := F.len
    refine ⟨_, _, rfl, _, rfl, fun r hr0 => ?_⟩
    rw [hv_len, hv_len, show (if (f'.length : Int) > (h.length : Int) then (f'.length : Int) else (h.length : Int)) = ((max h.length f'.length : Nat) : Int) by split <;> omega]
    have x1 := Ex.new (o := .rng 0 ((max h.length f'.length : Nat) : Int)) hr0
    have hr1 : (upd H1 r (.rng 0 ((max h.length f'.length : Nat) : Int))) r = some (.rng 0 ((max h.length f'.length : Nat) : Int)) := upd_same
    generalize upd H1 r (.rng 0 ((max h.length f'.length : Nat) : Int)) = H2 at x1 hr1 ⊢
    refine ⟨_, rfl, r, 0, _, rfl, hr1, ⟨by decide, by decide, by omega, by omega⟩, fun Dl hD => ?_⟩
    refine lc_rangeM (fun c => V.int (max (hAt h c : Int) (hAt f' c : Int))) hD (by omega) (fun i H' Qk hi e' qk => ?_) (fun H' e' h' => ?_)
    · refine ⟨rfl, _, rfl, _, rfl, p, h, i, by rw [Int.zero_add]; rfl, (x1.trans e') _ _ hp2, fun H3 e3 => ⟨_, rfl, _, rfl, q, f', i, by rw [Int.zero_add]; rfl, ((x1.trans e').trans e3) _ _ hq2, fun H4 e4 => ⟨_, _, rfl, ?_⟩⟩⟩
      rw [show (if (hAt f' i : Int) > (hAt h i : Int) then (hAt f' i : Int) else (hAt h i : Int)) = max (hAt h i : Int) (hAt f' i : Int) by split <;> omega]
      exact qk _ (e3.trans e4)
    · refine ⟨Dl, _, rfl, .inl ⟨SqL.of h', fun y hy => ?_⟩⟩
      refine k y _ (((e1.trans x1).trans e').trans (Ex.new hy)) ?_
      unfold HeapAt
      rw [upd_same, hv_uni]
      congr 3
def spHoldsB (K : PySem.W.Frag) : Sp := fun vs H Q _ => ∃ p q h f, vs = [.ref p, .ref q] ∧ HeapAt H p h ∧ HeapAt H q f ∧ Good h ∧ Good f ∧ ∀ b H', (b = true ↔ ∀ c, hAt f c ≤ hAt h c) → Ex H H' → Q (.bl b) H'
theorem ok_holds (T : Txt K mg) {f : Addr} {fd : FuncData} (D : DefAt K mg "holds" sHolds ["heap", "other"] f fd) : FnOk P w K mg base CX0 2 f fd ["heap", "other"] (spHoldsB K) := by
  refine D.F.ok scHolds (fun vs H Q E h => ?_) (fun cdv A outer s H vs Q E hr h => ?_)
  · obtain ⟨p, q, h, f', rfl, _⟩ := h
    rfl
  · obtain ⟨p, q, h, f', rfl, hp1, hq1, G, F, k⟩ := h
    obtain ⟨f1, fd1, D1⟩ := T.d_height_at
    have hr1 : Room 1 _ := hr.mono (by decide)
    refine ⟨_, pss_one (ps_ret (pe_callB (cr_all rfl) (by rfl) T.z_all (by decide +kernel) (pa_cons (pe_lc (own := [("column", 2), ("height", 3)]) (g := gTup K 2 (gCons (gName 2) (gCons (gName 3) gNil))) (tt := tYes) rfl scHolds.nd (EnT.pi_enumT (by rfl) T.z_enumerate (pa_cons (pv 1) pa_nil))
        (blkOk_by (N := nHolds) (sc := defScope sHolds) (by decide +kernel)) (fun _ _ _ _ _ => (pg_tup (by rfl) (pgs_cons (pg_name (i := 2) scHolds.nd rfl (.inl rfl)) (pgs_cons (pg_name (i := 3) scHolds.nd rfl (.inl rfl)) pgs_nil)))) (fun _ _ _ _ _ => pts_nil)
        (fun _ _ _ _ _ => (pe_cmpR op_ge (pe_call (ok_height_at T D1) hr1 (by rfl) D1.g D1.F.kp D1.b .nil pass0 (pa_cons (pv 0) (pa_cons (pv 2) pa_nil))) (pv 3) (nomark _)))) pa_nil))), ?_⟩
    refine ⟨_, rfl, q, _, rfl, SqT.of hq1, fun Dl hD => ?_⟩
    refine lc_enumT (K := K) (a := q) (xs := hv f') (fun i H' => H' Dl = some (.lst (((List.range i).map fun c => decide (hAt f' c ≤ hAt h c)).map V.bl)) ∧ Ex H H') ⟨upd_same, Ex.new hD⟩ (fun i H' hp2 => SqT.of (hp2.2 _ _ hq1)) (fun i x Tp H' hx hp2 nT => ?_) (fun H' hp2 => ?_)
    · obtain ⟨w1, w2⟩ := hp2
      have hi : i < f'.length := by
        have := (List.getElem?_eq_some_iff.mp hx).1
        rw [hv_len] at this
        exact this
      rw [hv_get hi] at hx
      obtain rfl := Option.some.inj hx
      have eT := Ex.new (o := .tup [.int (i : Nat), .int (hAt f' i : Int)]) nT
      refine ⟨Tp, _, rfl, SqT.of upd_same, rfl, .int (i : Nat), [_], rfl, _, [], rfl, rfl, rfl, ?_⟩
      dsimp only [tYes]
      rw [if_pos rfl]
      refine ⟨_, rfl, _, rfl, p, h, i, rfl, (w2.trans eT) _ _ hp1, fun H3 e3 => ⟨_, rfl, _, _, rfl, rfl, ?_⟩⟩
      have F60 := F.len
      refine ⟨_, e3 _ _ (eT _ _ w1), ?_, ?_, Ex.mut ((w2.trans eT).trans e3) hD⟩
      · rw [List.length_map, List.length_map, List.length_range]
        exact small1000 (by omega)
      · rw [upd_same, List.range_succ, List.map_append, List.map_append]
        show some (HO.lst (_ ++ [V.bl (decide ((hAt h i : Int) ≥ (hAt f' i : Int)))])) = _
        rw [show decide ((hAt h i : Int) ≥ (hAt f' i : Int)) = decide (hAt f' i ≤ hAt h i) from decide_eq_decide.mpr (by omega)]
        rfl
    · refine ⟨Dl, _, rfl, SqL.of hp2.1, ?_⟩
      rw [hv_len, all_dec]
      refine k _ _ ?_ hp2.2
      rw [decide_eq_true_eq]
      constructor
      · intro a c
        by_cases z : c < f'.length
        · exact a c z
        · rw [hAt_ge (by omega)]
          omega
      · exact fun a c _ => a c
theorem ok_is_held (T : Txt K mg) {f : Addr} {fd : FuncData} (D : DefAt K mg "is_held" sIsHeld ["heap", "other"] f fd) : FnOk P w K mg base CX0 6 f fd ["heap", "other"] (spHoldsB K) := by
  refine D.F.ok scIsHeld (fun vs H Q E h => ?_) (fun cdv A outer s H vs Q E hr h => ?_)
  · obtain ⟨p, q, h, f', rfl, _⟩ := h
    rfl
  · obtain ⟨p, q, h, f', rfl, hp1, hq1, G, F, k⟩ := h
    obtain ⟨f1, fd1, D1⟩ := T.d_holds
    obtain ⟨f2, fd2, D2⟩ := T.d_check_heaps
    have hr2 : Room 2 _ := hr.mono (by decide)
    have hr5 : Room 5 _ := hr.mono (by decide)
    refine ⟨_, pss_cons (ps_expr (pe_call (ok_check_heaps T D2) hr5 (by rfl) D2.g D2.F.kp D2.b .nil pass0 (pa_cons (pv 0) (pa_cons (pv 1) pa_nil))))
      (pss_one (ps_ret (pe_call (ok_holds T D1) hr2 (by rfl) D1.g D1.F.kp D1.b .nil pass0 (pa_cons (pv 0) (pa_cons (pv 1) pa_nil))))), ?_⟩
    refine ⟨_, rfl, _, rfl, p, q, h, f', rfl, hp1, hq1, G, F, fun H1 e1 => ⟨_, rfl, _, rfl, p, q, h, f', rfl, e1 _ _ hp1, e1 _ _ hq1, G, F, fun b H2 hb e2 => k b H2 hb (e1.trans e2)⟩⟩
def spRowsAt : Sp := fun vs H Q _ => ∃ (a : Addr) (ls : List Int) (c : Int), vs = [.ref a, .int c] ∧ H a = some (.tup (ls.map V.int)) ∧ ls.length ≤ 60 ∧ ∀ H', Ex H H' → Q (.int (rowsL ls c)) H'
theorem ok_rows_at (T : Txt K mg) {f : Addr} {fd : FuncData} (D : DefAt K mg "rows_at" sRowsAt ["levels", "c"] f fd) : FnOk P w K mg base CX0 1 f fd ["levels", "c"] spRowsAt := by
  refine D.F.ok scRowsAt (fun vs H Q E h => ?_) (fun cdv A outer s₀ H vs Q E hr h => ?_)
  · obtain ⟨a, ls, c, rfl, _⟩ := h
    rfl
  · obtain ⟨a, ls, c, rfl, ha, hl, q⟩ := h
    refine ⟨_, pss_one (ps_ret (pe_callB (cr_sum rfl) (by rfl) T.z_sum (by decide +kernel) (pa_cons (pe_lc (own := [("level", 2)]) (g := gName 2) (tt := tYes) rfl scRowsAt.nd (pi_tup (pv 0))
        (blkOk_by (N := nRowsAt) (sc := defScope sRowsAt) (by decide +kernel)) (fun _ _ _ _ _ => (pg_name (i := 2) scRowsAt.nd rfl (.inl rfl))) (fun _ _ _ _ _ => pts_nil)
        (fun _ _ _ _ _ => (pe_callB (call_max2 rfl) (by rfl) T.z_max (by decide +kernel) (pa_cons pe_int (pa_cons (pe_op op_sub (pe_op op_sub (pe_un un_neg (pv 2)) (pv 1)) pe_int) pa_nil))))) pa_nil))), ?_⟩
    refine ⟨_, rfl, a, rfl, ⟨_, SqT.of ha⟩, fun D hD => ?_⟩
    refine lc_tupM (K := K) (fun i => V.int (max 0 (-(ls.getD i 0) - c - 1))) hD ha (by rw [List.length_map]; omega) (fun i x H' Qk hx e' qk => ?_) (fun H' e' h' => ?_)
    · obtain ⟨hi, rfl⟩ := int_inv9 hx
      refine ⟨rfl, _, rfl, _, rfl, _, rfl, _, _, rfl, rfl, _, _, rfl, rfl, _, _, rfl, ?_⟩
      rw [imax0]
      exact qk _ (Ex.refl _)
    · rw [List.length_map, mapI] at h'
      refine ⟨D, _, rfl, SqL.of h', ?_⟩
      rw [rowsR]
      exact q _ e'
def spCoreWith : Sp := fun vs H Q _ => ∃ (a : Addr) (ls : List Int), vs = [.ref a] ∧ H a = some (.tup (ls.map V.int)) ∧ 2 ≤ ls.length ∧ ls.length ≤ 60 ∧ Short ls ∧ ls.Pairwise (· ≤ ·) ∧ distL ls ≤ 12 ∧ ∀ p H', Ex H H' → HeapAt H' p (coreL ls) → Good (coreL ls) → Q (.ref p) H'
theorem ok_core_with_levels (T : Txt K mg) {f : Addr} {fd : FuncData} (D : DefAt K mg "core_with_levels" sCoreWithLevels ["levels"] f fd) : FnOk P w K mg base CX0 7 f fd ["levels"] spCoreWith := by
  refine D.F.ok scCoreWithLevels (fun vs H Q E h => ?_) (fun cdv A outer s₀ H vs Q E hr h => ?_)
  · obtain ⟨a, ls, rfl, _⟩ := h
    rfl
  · obtain ⟨a, ls, rfl, ha, h2, h60, hb, hp, hd, q⟩ := h
    obtain ⟨f1, fd1, D1⟩ := T.d_union_of
    obtain ⟨f2, fd2, D2⟩ := T.d_box
    obtain ⟨f3, fd3, D3⟩ := T.d_rows_at
    obtain ⟨f4, fd4, D4⟩ := T.d_columns_at
    have hr1 : Room 1 _ := hr.mono (by decide)
    have hr5 : Room 5 _ := hr.mono (by decide)
    have hr6 : Room 6 _ := hr.mono (by decide)
    refine ⟨_, pss_cons (ps_set (i := 1) scCoreWithLevels.nd rfl (.inl rfl) (pe_tup pa_nil))
      (pss_cons (ps_for PassesOwn.never rfl (LR.pi_range2L (by rfl) T.z_range (pa_cons (pe_un un_neg (pe_ix ix_tup (pv 0) (pe_un un_neg pe_int) (fun _ _ => rfl))) (pa_cons (pe_op op_sub (pe_un un_neg (pe_ix ix_tup (pv 0) pe_int (fun _ _ => rfl))) pe_int) pa_nil))) (pg_name (i := 2) scCoreWithLevels.nd rfl (.inl rfl))
        (pss_one (ps_set (i := 1) scCoreWithLevels.nd rfl (.inl rfl) (pe_call (ok_union_of T D1) hr6 (by rfl) D1.g D1.F.kp D1.b .nil pass0 (pa_cons (pv 1) (pa_cons (pe_call (ok_box T D2) hr5 (by rfl) D2.g D2.F.kp D2.b .nil pass0 (pa_cons (pe_call (ok_columns_at T D4) hr1 (by rfl) D4.g D4.F.kp D4.b .nil pass0 (pa_cons (pv 0) (pa_cons (pv 2) pa_nil))) (pa_cons (pe_call (ok_rows_at T D3) hr1 (by rfl) D3.g D3.F.kp D3.b .nil pass0 (pa_cons (pv 0) (pa_cons (pv 2) pa_nil))) pa_nil))) pa_nil))))))
      (pss_one (ps_ret (pv 1)))), ?_⟩
    have b0 := hb 0
    have b1 := hb (ls.length - 1)
    have m01 := pw_get hp (Nat.zero_le (ls.length - 1)) (by omega)
    refine ⟨by show 0 ≤ sizeLine; decide, fun t0 ht0 => ?_⟩
    have x0 := Ex.new (o := .tup []) ht0
    have g0 : HeapAt (upd H t0 (.tup [])) t0 [] := upd_same
    refine ⟨_, rfl, _, rfl, a, _, -1, .int (ls.getD (ls.length - 1) 0), rfl, rfl, SqT.of (x0 _ _ ha), at_neg1 (by omega), _, rfl, ?_⟩
    refine ⟨_, rfl, a, _, 0, .int (ls.getD 0 0), rfl, rfl, SqT.of (x0 _ _ ha), atI_nat (j := 0) (int_at (by omega)), _, rfl, _, _, rfl, rfl, _, _, rfl, ?_⟩
    refine for_range (lo := -(ls.getD (ls.length - 1) 0)) (n := Int.toNat _) (fun i σ' H' => ∃ (p : Addr) (y2 : Option V), σ' = [some (.ref a), some (.ref p), y2] ∧ HeapAt H' p (coreH ls (-(ls.getD (ls.length - 1) 0)) i) ∧ Ex H H') ⟨t0, none, rfl, g0, x0⟩ (fun i σ' H' hi hW => ?_) (fun σ' H' hW => ?_)
    · obtain ⟨p, y2, rfl, w1, w2⟩ := hW
      have sd := sides (ls := ls) (by omega) (c := -(ls.getD (ls.length - 1) 0) + i) (by omega) (by omega)
      have ra := rows_ge (c := -(ls.getD (ls.length - 1) 0) + i) (get_mem (show 0 < ls.length by omega))
      have ta := tell_ge (c := -(ls.getD (ls.length - 1) 0) + i) (get_mem (show ls.length - 1 < ls.length by omega))
      have gi := good_core (by omega) hp hd i (by omega)
      refine ⟨_, rfl, _, rfl, _, rfl, a, ls, _, rfl, w2 _ _ ha, h60, fun H3 e3 => ⟨_, rfl, _, rfl, a, ls, _, rfl, (w2.trans e3) _ _ ha, h60, fun H4 e4 => ?_⟩⟩
      refine ⟨(tell ls (-(ls.getD (ls.length - 1) 0) + i)).toNat, (rowsL ls (-(ls.getD (ls.length - 1) 0) + i)).toNat, ?_, by omega, by omega, by omega, by omega, fun p2 H5 e5 h5 => ?_⟩
      · rw [Int.toNat_of_nonneg (by omega), Int.toNat_of_nonneg (by omega)]
        rfl
      · have e35 := (e3.trans e4).trans e5
        exact ⟨p, p2, _, _, rfl, e35 _ _ w1, h5, gi, good_bxh (by omega) (by omega) (by omega), fun r H6 e6 h6 => ⟨r, _, rfl, h6, (w2.trans e35).trans e6⟩⟩
    · obtain ⟨p, y2, rfl, w1, w2⟩ := hW
      have e : (-(ls.getD 0 0) - 1 - -(ls.getD (ls.length - 1) 0)).toNat = (-(ls.getD 0 0) - 1 + ls.getD (ls.length - 1) 0).toNat := by congr 1; omega
      rw [e] at w1
      refine ⟨_, rfl, q p _ w2 w1 ?_⟩
      unfold coreL
      by_cases z : 0 ≤ -(ls.getD 0 0) - 1 + ls.getD (ls.length - 1) 0
      · exact good_core (by omega) hp hd _ (by omega)
      · rw [show (-(ls.getD 0 0) - 1 + ls.getD (ls.length - 1) 0).toNat = 0 by omega]
        exact ⟨IsHeap.nil, Nat.zero_le _, Nat.zero_le _⟩
theorem ok_core_of_levels (T : Txt K mg) {f : Addr} {fd : FuncData} (D : DefAt K mg "core_of_levels" sCoreOfLevels ["levels"] f fd) : FnOk P w K mg base CX0 8 f fd ["levels"] spCoreWith := by
  refine D.F.ok scCoreOfLevels (fun vs H Q E h => ?_) (fun cdv A outer s₀ H vs Q E hr h => ?_)
  · obtain ⟨a, ls, rfl, _⟩ := h
    rfl
  · obtain ⟨a, ls, rfl, ha, h2, h60, hb, hp, hd, q⟩ := h
    obtain ⟨f1, fd1, D1⟩ := T.d_core_with_levels
    obtain ⟨f2, fd2, D2⟩ := T.d_distance_in
    obtain ⟨f3, fd3, D3⟩ := T.d_check_levels
    obtain ⟨tMOST_DISTANCE, vMOST_DISTANCE⟩ := T.v_MOST_DISTANCE
    have hr1 : Room 1 _ := hr.mono (by decide)
    have hr6 : Room 6 _ := hr.mono (by decide)
    have hr7 : Room 7 _ := hr.mono (by decide)
    refine ⟨_, pss_cons (ps_expr (pe_call (ok_check_levels T D3) hr6 (by rfl) D3.g D3.F.kp D3.b .nil pass0 (pa_cons (pv 0) pa_nil)))
      (pss_cons (ps_if (pt_cmpR op_gt (pe_call (ok_distance_in T D2) hr1 (by rfl) D2.g D2.F.kp D2.b .nil pass0 (pa_cons (pv 0) pa_nil)) (pe_glob (v := .int 12) rfl vMOST_DISTANCE ⟨_, rfl⟩) (nomark _)) pss_never pss_nil)
      (pss_one (ps_ret (pe_call (ok_core_with_levels T D1) hr7 (by rfl) D1.g D1.F.kp D1.b .nil pass0 (pa_cons (pv 0) pa_nil))))), ?_⟩
    have hs : Short ls := hb
    refine ⟨_, rfl, a, ls, rfl, ha, h2, h60, hs, hp, fun H1 e1 => ?_⟩
    refine ⟨_, rfl, a, ls, rfl, e1 _ _ ha, h2, h60, hs, hp, fun H2 e2 => ⟨_, _, rfl, rfl, _, rfl, iteF' (decide_eq_false (by omega)) ?_⟩⟩
    exact ⟨_, rfl, a, ls, rfl, (e1.trans e2) _ _ ha, h2, h60, hb, hp, hd, fun p H3 e3 h3 g3 => q p H3 ((e1.trans e2).trans e3) h3 g3⟩
theorem cut_takeI {ns : List Int} {i : Nat} (h : i ≤ ns.length) : cutV (ns.map V.int) none (some (i : Int)) = (ns.take i).map V.int := by
  unfold cutV
  rw [HT.sIx_nat, HT.sIx_none, List.length_map, Nat.min_eq_left h, List.drop_zero, Nat.sub_zero, List.map_take]
def sqs (ls : List Int) : Int := (ls.map fun e => e * e).sum
def spLDist : Sp := fun vs H Q _ => ∃ (a : Addr) (ls : List Int), vs = [.ref a] ∧ H a = some (.lst (ls.map V.int)) ∧ ls.length ≤ 60 ∧ ∀ H', Ex H H' → Q (.int (distL ls)) H'
end
end K1

set_option exponentiation.threshold 400
namespace K1
open PySem PySem.Spec PyProof.Rows L2 Evl HM LX ZW ZM DM DR TE
section
variable {P : Program} {w : World} {K : PySem.W.Frag} {mg : Str → Option Value} {base : Heap}
def spPlainDeal : Sp := fun vs H Q _ => ∃ c x xs rs ps, ∃ deg : Int, vs = [.ref c, .int deg, .ref x] ∧ H c = some (.tup xs) ∧ RingsAt H 60 xs rs ∧ (1 ≤ xs.length ∧ xs.length ≤ 12) ∧ PlacesT H x ps ∧ ps.length = xs.length ∧ PlOk rs ps ∧ (deg.natAbs : Int) ≤ 10 ^ 45 ∧
  ∀ r H' res, Ex H H' → DealAt H' r res → DOk rs res (10 ^ 46) → res.length ≤ 13 → (∀ f, Nl rs f → Sf f res = Sf f (chipsOf ps xs.length) + (deg - xs.length) * f ((xs.length : Int) - 1, 0)) → Q (.ref r) H'
theorem plain_cx {rs : List (Int × Int)} {ps : List Int} {t : Nat → Int} (hpl : ps.length = rs.length) (hok : PlOk rs ps) (ht : ∀ i, i < rs.length → t i = ps.getD i 0 + (i : Int) * K1N.sAt rs i) : cx rs t = ps := by
  refine List.ext_getElem (by rw [cx_len, hpl]) fun i h1 h2 => ?_
  rw [cx_len] at h1
  have e1 := cx_get (rs := rs) (t := t) h1
  have e2 := hok i h2
  rw [ht i h1, show ps.getD i 0 + (i : Int) * K1N.sAt rs i - (i : Int) * K1N.sAt rs i = ps.getD i 0 by omega, Int.emod_eq_of_lt e2.1 e2.2] at e1
  rw [List.getD_eq_getElem?_getD, List.getElem?_eq_getElem (by rw [cx_len]; exact h1), List.getD_eq_getElem?_getD, List.getElem?_eq_getElem h2] at e1
  exact e1
theorem plain_cl {rs : List (Int × Int)} {ps : List Int} {res : Dl} {tot : Int} {n : Nat} (hn : n = rs.length) (hpl : ps.length = rs.length) (hok : PlOk rs ps) (h : ∀ f, Nl rs f → Sf f res = Sf f (chipsOf ps n) + (tot - n) * f ((n : Int) - 1, 0)) :
    Sf one res = tot ∧ (cx rs fun i => Sf (tau rs i) res) = ps := by
  constructor
  · rw [h _ (nl_one rs), chips_one]
    show (n : Int) + (tot - n) * 1 = tot
    omega
  · refine plain_cx hpl hok fun i hi => ?_
    rw [h _ (nl_tau rs i), chips_tau, if_pos (by omega), tau_right hn hi, Int.mul_zero, Int.add_zero]
end
end K1

set_option exponentiation.threshold 400
namespace K1
open PySem PySem.Spec PyProof.Rows L2 Evl HM LX ZW ZM DM DR TE
section
variable {P : Program} {w : World} {K : PySem.W.Frag} {mg : Str → Option Value} {base : Heap}
def lps (rs : List (Int × Int)) (ws : List Int) (g : Nat) : List Int := (List.range g).map fun j => ltr ws j * K1N.sAt rs j % (K1N.nAt rs j : Int)
theorem lps_len (rs : List (Int × Int)) (ws : List Int) (g : Nat) : (lps rs ws g).length = g := by
  unfold lps
  rw [List.length_map, List.length_range]
theorem lps_get {rs : List (Int × Int)} {ws : List Int} {g j : Nat} (h : j < g) : (lps rs ws g).getD j 0 = ltr ws j * K1N.sAt rs j % (K1N.nAt rs j : Int) := by
  unfold lps
  rw [List.getD_eq_getElem?_getD, List.getElem?_map, List.getElem?_range h]
  rfl
def spCheckLike : Sp := fun vs H Q _ => ∃ (a : Addr) (ls : List Int), vs = [.ref a, .int (ls.length : Int)] ∧ H a = some (.tup (ls.map V.int)) ∧ 2 ≤ ls.length ∧ ls.length ≤ 60 ∧ Short ls ∧ ls.Pairwise (· ≤ ·) ∧ ∀ H', Ex H H' → Q .non H'
theorem ok_check_like_levels (T : Txt K mg) {f : Addr} {fd : FuncData} (D : DefAt K mg "check_like_levels" sCheckLikeLevels ["levels", "many"] f fd) : FnOk P w K mg base CX0 7 f fd ["levels", "many"] spCheckLike := by
  refine D.F.ok scCheckLikeLevels (fun vs H Q E h => ?_) (fun cdv A outer s₀ H vs Q E hr h => ?_)
  · obtain ⟨a, ls, rfl, _⟩ := h
    rfl
  · obtain ⟨a, ls, rfl, ha, hl2, hl, hs, hasc, q⟩ := h
    obtain ⟨f1, fd1, D1⟩ := T.d_check_levels
    have hr6 : Room 6 _ := hr.mono (by decide)
    refine ⟨_, pss_cons (ps_expr (pe_call (ok_check_levels T D1) hr6 (by rfl) D1.g D1.F.kp D1.b .nil pass0 (pa_cons (pv 0) pa_nil)))
      (pss_one (ps_if (pt_cmpR op_ne (pe_callB call_len_seq (by rfl) T.z_len PySem.boot_len (pa_cons (pv 0) pa_nil)) (pv 1) (nomark _)) pss_never pss_nil)), ?_⟩
    refine ⟨_, rfl, a, ls, rfl, ha, hl2, hl, hs, hasc, fun H1 e1 => ?_⟩
    refine ⟨_, rfl, a, _, rfl, .inr (SqT.of (e1 _ _ ha)), _, rfl, rfl, _, rfl, iteF' (by rw [List.length_map, decide_eq_true rfl]; rfl) ?_⟩
    exact q _ e1
def spAreAbove : Sp := fun vs H Q _ => ∃ (a b : Addr) (one other : List Int), vs = [.ref a, .ref b] ∧ H a = some (.tup (one.map V.int)) ∧ H b = some (.tup (other.map V.int)) ∧ one.length = other.length ∧ one.sum = other.sum ∧ 2 ≤ one.length ∧ one.length ≤ 60 ∧ Short one ∧ Short other ∧ one.Pairwise (· ≤ ·) ∧ other.Pairwise (· ≤ ·) ∧
  ∀ r H', (r = true ↔ ∀ c, tell other c ≤ tell one c) → Ex H H' → Q (.bl r) H'
theorem ok_are_above (T : Txt K mg) {f : Addr} {fd : FuncData} (D : DefAt K mg "are_above" sAreAbove ["one", "other"] f fd) : FnOk P w K mg base CX0 8 f fd ["one", "other"] spAreAbove := by
  refine D.F.ok scAreAbove (fun vs H Q E h => ?_) (fun cdv A outer s₀ H vs Q E hr h => ?_)
  · obtain ⟨a, b, one, other, rfl, _⟩ := h
    rfl
  · obtain ⟨a, b, one, other, rfl, ha, hb, hl, hs, h2, h60, s1, s2, p1, p2, q⟩ := h
    obtain ⟨f1, fd1, D1⟩ := T.d_check_like_levels
    obtain ⟨f2, fd2, D2⟩ := T.d_check_levels
    have hr6 : Room 6 _ := hr.mono (by decide)
    have hr7 : Room 7 _ := hr.mono (by decide)
    refine ⟨_, pss_cons (ps_expr (pe_call (ok_check_levels T D2) hr6 (by rfl) D2.g D2.F.kp D2.b .nil pass0 (pa_cons (pv 0) pa_nil)))
      (pss_cons (ps_expr (pe_call (ok_check_like_levels T D1) hr7 (by rfl) D1.g D1.F.kp D1.b .nil pass0 (pa_cons (pv 1) (pa_cons (pe_callB call_len_seq (by rfl) T.z_len PySem.boot_len (pa_cons (pv 0) pa_nil)) pa_nil))))
      (pss_cons (ps_if (pt_cmpR op_ne (pe_callB (ST.cr_sumT rfl) (by rfl) T.z_sum (by decide +kernel) (pa_cons (pv 0) pa_nil)) (pe_callB (ST.cr_sumT rfl) (by rfl) T.z_sum (by decide +kernel) (pa_cons (pv 1) pa_nil)) (nomark _)) pss_never pss_nil)
      (pss_one (ps_ret (pe_callB (cr_all rfl) (by rfl) T.z_all (by decide +kernel) (pa_cons (pe_lc (own := [("first", 2)]) (g := gName 2) (tt := tYes) rfl scAreAbove.nd (pi_range1 (by rfl) T.z_range (pa_cons (pe_callB call_len_seq (by rfl) T.z_len PySem.boot_len (pa_cons (pv 0) pa_nil)) pa_nil))
        (blkOk_by (N := nAreAbove) (sc := defScope sAreAbove) (by decide +kernel)) (fun _ _ _ _ _ => (pg_name (i := 2) scAreAbove.nd rfl (.inl rfl))) (fun _ _ _ _ _ => pts_nil)
        (fun _ _ _ _ _ => (pe_cmpR op_ge (pe_callB (show CallR _ (.builtin "sum") (ST.rSumT K) from ST.cr_sumT rfl) (by rfl) T.z_sum (by decide +kernel) (pa_cons (pe_slice sl_tupE (pv 0) (po_some (pv 2)) po_none) pa_nil)) (pe_callB (show CallR _ (.builtin "sum") (ST.rSumT K) from ST.cr_sumT rfl) (by rfl) T.z_sum (by decide +kernel) (pa_cons (pe_slice sl_tupE (pv 1) (po_some (pv 2)) po_none) pa_nil)) (nomark _)))) pa_nil)))))), ?_⟩
    refine ⟨_, rfl, a, one, rfl, ha, h2, h60, s1, p1, fun H1 e1 => ?_⟩
    refine ⟨_, rfl, _, rfl, a, _, rfl, .inr (SqT.of (e1 _ _ ha)), b, other, by rw [List.length_map, hl]; rfl, e1 _ _ hb, by omega, by omega, s2, p2, fun H2 e2 => ?_⟩
    have e12 := e1.trans e2
    refine ⟨_, rfl, a, one, rfl, SqT.of (e12 _ _ ha), _, rfl, b, other, rfl, SqT.of (e12 _ _ hb), rfl, _, rfl, iteF' (by rw [hs, decide_eq_true rfl]; rfl) ?_⟩
    refine ⟨_, rfl, a, _, rfl, .inr (SqT.of (e12 _ _ ha)), _, rfl, by omega, by rw [List.length_map]; omega, fun Dl hD => ?_⟩
    refine lc_rangeM (fun i => V.bl (decide ((other.drop i).sum ≤ (one.drop i).sum))) hD (by rw [List.length_map]; omega) (fun i H' Qk hi e' qk => ?_) (fun H' e' h' => ?_)
    · rw [List.length_map] at hi
      rw [show (0 : Int) + (i : Int) = ((i : Nat) : Int) by omega]
      refine ⟨rfl, _, rfl, _, rfl, (i : Int), rfl, a, _, rfl, (e12.trans e') _ _ ha, fun t1 H3 e3 h3 => ?_⟩
      rw [cut_fromI (by omega)] at h3
      refine ⟨t1, one.drop i, rfl, SqT.of h3, _, rfl, _, rfl, (i : Int), rfl, b, _, rfl, ((e12.trans e').trans e3) _ _ hb, fun t2 H4 e4 h4 => ?_⟩
      rw [cut_fromI (by omega)] at h4
      exact ⟨t2, other.drop i, rfl, SqT.of h4, _, _, rfl, rfl, qk _ (e3.trans e4)⟩
    · rw [List.length_map, Int.toNat_natCast, mapBl] at h'
      refine ⟨Dl, _, rfl, SqL.of h', ?_⟩
      rw [all_dec]
      refine q _ _ ?_ (e12.trans e')
      rw [decide_eq_true_eq]
      exact ⟨fun h c => above_tell hl p2 h c, fun h i hi => tell_above hl p1 hi (h _)⟩
theorem ok_mixed (T : Txt K mg) {f : Addr} {fd : FuncData} (D : DefAt K mg "_law_mixed" sLMixed ["_law_dice_here", "_law_items"] f fd) : FnOk P w K mg base CX0 2 f fd ["_law_dice_here", "_law_items"] spMixed := by
  refine D.F.ok scLMixed (fun vs H Q E h => ?_) (fun cdv A outer s₀ H vs Q E hr h => ?_)
  · obtain ⟨d, a, ns, rfl, _⟩ := h
    rfl
  · obtain ⟨d, a, ns, rfl, hd, ha, hl, q⟩ := h
    obtain ⟨f1, fd1, D1⟩ := T.d_l_roll
    refine ⟨_, pss_cons (ps_par (i := 2) (j := 3) (by rfl) scLMixed.nd rfl rfl (by decide) rfl rfl (pa_cons (pe_callTy call_list_of (by rfl) T.z_list (by decide +kernel) (pa_cons (pv 1) pa_nil)) (pa_cons (pe_lst pa_nil) pa_nil)) (by rfl))
      (pss_cons (ps_while PassesOwn.never (pt_cmpR (op_neD hr.units) (pv 2) (pe_lst pa_nil) (nomark _))
        (pss_one (ps_expr (pe_bm PySem.F.plainAttrs_list PySem.F.slot_list_append PySem.F.type_list_append mt_append (pv 3) (pa_cons
          (pe_bm PySem.F.plainAttrs_list PySem.F.slot_list_pop PySem.F.type_list_pop mt_popAt (pv 2) (pa_cons (pe_call (ok_roll T D1) hr (by rfl) D1.g D1.F.kp D1.b .nil pass0 (pa_cons (pv 0) (pa_cons (pe_callB call_len_seq (by rfl) T.z_len PySem.boot_len (pa_cons (pv 2) pa_nil)) pa_nil))) pa_nil)) pa_nil)))))
      (pss_one (ps_ret (pv 3)))), ?_⟩
    refine ⟨_, rfl, a, _, rfl, .inl (SqL.of ha), fun l hl0 => ⟨by show 0 ≤ sizeLine; decide, fun g hg0 => ⟨_, _, rfl, ?_⟩⟩⟩
    have ndl : d ≠ l := hd.ne_new hl0
    have hd1 : Dice (upd H l (.lst (ns.map V.int))) d := hd.upd ndl
    have ndg : d ≠ g := hd1.ne_new hg0
    have nlg : l ≠ g := fun z => by
      subst z
      rw [upd_same] at hg0
      cases hg0
    have ng0 : H g = none := by
      rw [upd_ne nlg.symm] at hg0
      exact hg0
    refine ⟨fun m σ' H' => ∃ ls ms : List Int, m = ls.length ∧ σ' = [some (.ref d), some (.ref a), some (.ref l), some (.ref g)] ∧ H' l = some (.lst (ls.map V.int)) ∧ H' g = some (.lst (ms.map V.int)) ∧ (ms ++ ls).Perm ns ∧ Dice H' d ∧ Keep d H H',
      ⟨ns.length, ns, [], rfl, rfl, ?_, upd_same, .refl _, (hd.upd ndl).upd ndg, (Keep.new hl0).mut ng0⟩, fun m σ' H' hW => ?_⟩
    · rw [upd_ne nlg]
      exact upd_same
    · obtain ⟨ls, ms, rfl, rfl, w1, w2, w3, w4, w5⟩ := hW
      refine ⟨_, rfl, by show 0 ≤ sizeLine; decide, fun e he => ⟨.list _, .list [], .lst (SqL.of (Ex.new he _ _ w1)) (dp_ints ls), .lst (SqL.of upd_same) .nil, shaped_intsL _, rfl, _, rfl, ?_⟩⟩
      have v1 := Ex.new (o := .lst []) he _ _ w1
      have v2 := Ex.new (o := .lst []) he _ _ w2
      have v4 := w4.upd (o := .lst []) (w4.ne_new he)
      have v5 := w5.trans (Keep.new (o := .lst []) he)
      generalize upd H' e (.lst []) = H2 at *
      cases ls with
      | nil =>
        rw [show PyData.eqv (.list (([] : List Int).map PyData.int)) (.list []) = true from eqv_nil]
        refine iteF ?_
        refine ⟨_, rfl, ?_⟩
        rw [List.append_nil] at w3
        exact q g ms H2 w3 v2 v4 v5
      | cons y0 ls0 =>
        rw [show PyData.eqv (.list ((y0 :: ls0).map PyData.int)) (.list []) = false from eqv_consnil _ _]
        refine iteT ?_
        generalize hls : y0 :: ls0 = ls at *
        have hpos : 1 ≤ ls.length := by
          rw [← hls, List.length_cons]
          omega
        have hlen := w3.length_eq
        rw [List.length_append] at hlen
        refine ⟨fun σ2 H3 => ∃ ls' ms' : List Int, ls'.length < ls.length ∧ σ2 = [some (.ref d), some (.ref a), some (.ref l), some (.ref g)] ∧ H3 l = some (.lst (ls'.map V.int)) ∧ H3 g = some (.lst (ms'.map V.int)) ∧ (ms' ++ ls').Perm ns ∧ Dice H3 d ∧ Keep d H H3, fun σ2 H3 hN => ?_, ?_⟩
        · obtain ⟨ls', ms', h1, h2⟩ := hN
          exact ⟨ls'.length, h1, ls', ms', rfl, h2⟩
        · refine ⟨_, rfl, .inl ⟨rfl, _, SqL.of v2⟩, _, rfl, .inl ⟨rfl, _, SqL.of v1⟩, _, rfl, _, rfl, l, _, rfl, .inl (SqL.of v1), d, _, rfl, v4, ?_, ?_, fun r H3 r0 r1 hd3 k3 => ?_⟩
          · rw [List.length_map]
            omega
          · rw [List.length_map]
            omega
          · rw [List.length_map] at r1
            have hy : ls[r.toNat]? = some (ls[r.toNat]'(by omega)) := List.getElem?_eq_getElem _
            have u1 := k3 _ _ ndl.symm v1
            have u2 := k3 _ _ ndg.symm v2
            refine ⟨l, _, r, r.toNat, .int (ls[r.toNat]'(by omega)), rfl, rfl, u1, by omega, by omega, ?_, ?_, ?_⟩
            · rw [List.length_map]
              exact seqIndex_of r0 r1
            · rw [List.getElem?_map, hy]
              rfl
            · refine ⟨g, ms.map V.int, _, rfl, rfl, ?_, ?_, ls.eraseIdx r.toNat, ms ++ [ls[r.toNat]'(by omega)], ?_, rfl, ?_, ?_, ?_, ?_, ?_⟩
              · rw [upd_ne nlg.symm]
                exact u2
              · rw [List.length_map]
                exact small1000 (by omega)
              · rw [List.length_eraseIdx_of_lt (by omega)]
                omega
              · rw [upd_ne nlg, upd_same, map_erase]
              · rw [upd_same, List.map_append]
                rfl
              · refine List.Perm.trans ?_ w3
                rw [List.append_assoc]
                exact List.Perm.append_left ms (erase_perm hy).symm
              · exact (hd3.upd ndl).upd ndg
              · exact ((v5.trans k3).mut hl0).mut ng0
def spIsClass : Sp := fun vs H Q _ => ∃ c v xs rs deg ps, vs = [.ref c, v] ∧ H c = some (.tup xs) ∧ RingsAt H 60 xs rs ∧ xs.length ≤ 12 ∧ ClassAt H v deg ps ∧ -(10 ^ 60) < deg ∧ deg < 10 ^ 60 ∧ ps.length = xs.length ∧ PlOk rs ps ∧ ∀ H', Ex H H' → Q (.bl true) H'
theorem ok_is_class (T : Txt K mg) {f : Addr} {fd : FuncData} (D : DefAt K mg "is_class" sIsClass ["chain", "value"] f fd) : FnOk P w K mg base CX0 4 f fd ["chain", "value"] spIsClass := by
  refine D.F.ok scIsClass (fun vs H Q E h => ?_) (fun cdv A outer s H vs Q E hr h => ?_)
  · obtain ⟨c, v, xs, rs, deg, ps, rfl, _⟩ := h
    rfl
  · obtain ⟨c, v, xs, rs, deg, ps, rfl, hc, hR, hl, hv', d1, d2, hpl, hok, k⟩ := h
    obtain ⟨t, a, rfl, ht, ha⟩ := id hv'
    obtain ⟨f1, fd1, D1⟩ := T.d_is_pair
    obtain ⟨f2, fd2, D2⟩ := T.d_is_integer
    obtain ⟨f3, fd3, D3⟩ := T.d_lies_told
    have hr1 : Room 1 _ := hr.mono (by decide)
    refine ⟨_, pss_one (ps_ret (pe_and (pe_call (ok_is_pair T D1) hr1 (by rfl) D1.g D1.F.kp D1.b .nil pass0 (pa_cons (pv 1) pa_nil))
      (pe_and (pe_call (ok_is_integer T D2) hr1 (by rfl) D2.g D2.F.kp D2.b .nil pass0 (pa_cons (pe_ix ix_tup (pv 1) pe_int (fun _ _ => rfl)) pa_nil))
      (pe_one (pe_call (ok_lies_told T D3) hr (by rfl) D3.g D3.F.kp D3.b .nil pass0 (pa_cons (pv 0) (pa_cons (pe_ix ix_tup (pv 1) pe_int (fun _ _ => rfl)) pa_nil))))))), ?_⟩
    refine ⟨_, rfl, _, _, rfl, .tup ht, fun H1 e1 => ⟨_, rfl, iteT ?_⟩⟩
    refine ⟨_, rfl, t, _, 0, .int deg, rfl, rfl, SqT.of (e1 _ _ ht), rfl, .int deg, true, rfl, ?_, fun H2 e2 => ⟨_, rfl, iteT ?_⟩⟩
    · have := IntB.int (K := K) (H := H1) deg
      rw [decide_eq_true d1, decide_eq_true d2] at this
      exact this
    · have e12 := e1.trans e2
      refine ⟨_, rfl, _, rfl, t, _, 1, .ref a, rfl, rfl, SqT.of (e12 _ _ ht), rfl, c, a, xs, rs, ps, rfl, e12 _ _ hc, rings_ex4 e12 hR, hl, e12 _ _ ha, hpl, hok, fun H3 e3 => k _ (e12.trans e3)⟩
end
end K1

set_option exponentiation.threshold 400
namespace K1
open PySem PySem.Spec PyProof.Rows L2 Evl HM LX ZW ZM DM DR TE
theorem neT0 {K : PySem.W.Frag} {H : Hp} {p q : Addr} {l : List Int} {Q : VK} (h1 : H p = some (.tup (l.map V.int))) (h2 : H q = some (.tup (l.map V.int))) (k : Q (.bl false) H) : rNeD K (.ref p) (.ref q) H Q := CI.neT h1 h2 (by rw [decide_eq_true rfl]; exact k)
/-- a letter that does nothing more -/
theorem tip_idle {k : Int} (hk : 2 ≤ k) {h : List Nat} (IH : IsHeap h) (C : coreB h k) {q : Int} (ex : ∃ c, rmv h c = true ∧ (dg h c + 1) % k = q) : step k h q = h := by
  obtain ⟨q0, q1, I2, C2, e, _⟩ := tip_step hk IH C ex
  have := step_idem hk I2 C2 q0 q1
  rw [e] at this
  exact this
theorem nil_idle {k : Int} (hk : 2 ≤ k) : step k [] 1 = [] := by
  unfold step
  refine grow_none fun c => ?_
  unfold gq opn
  by_cases q : c = 0
  · subst q
    have e : dg [] 0 % k = 0 := Int.zero_emod k
    rw [e]
    rfl
  · rw [decide_eq_false q, hAt_ge (Nat.zero_le _), hAt_ge (Nat.zero_le _)]
    rfl
theorem tip_ex : ∀ {h : List Nat}, IsHeap h → h ≠ [] → ∃ c, rmv h c = true := fun {h} IH n => by
  have l := List.length_pos_iff.mpr n
  refine ⟨h.length - 1, ?_⟩
  unfold rmv
  refine decide_eq_true ?_
  rw [hAt_ge (show h.length ≤ h.length - 1 + 1 by omega)]
  exact IH.pos _ (by omega)
theorem run_rep {k : Int} {h : List Nat} {q : Int} (e : step k h q = h) : ∀ n : Nat, run k h (List.replicate n q) = h
  | 0 => rfl
  | n + 1 => by
    show run k (step k h q) (List.replicate n q) = h
    rw [e]
    exact run_rep e n
theorem run_app (k : Int) : ∀ (a : List Int) (h : List Nat) (b : List Int), run k h (a ++ b) = run k (run k h a) b
  | [], _, _ => rfl
  | q :: a, h, b => run_app k a (step k h q) b
section
variable {P : Program} {w : World} {K : PySem.W.Frag} {mg : Str → Option Value} {base : Heap}
def spCanMet : Sp := fun vs H Q _ => ∃ (a : Addr) (ls : List Int) (g : Int), vs = [.int g, .ref a] ∧ 1 ≤ g ∧ g ≤ 12 ∧ H a = some (.tup (ls.map V.int)) ∧ 2 ≤ ls.length ∧ ls.length ≤ 60 ∧ Short ls ∧ ls.Pairwise (· ≤ ·) ∧ ∀ H', Ex H H' → Q (.bl (decide (distL ls ≤ g))) H'
theorem ok_can_be_met (T : Txt K mg) {f : Addr} {fd : FuncData} (D : DefAt K mg "can_be_met" sCanBeMet ["rings", "levels"] f fd) : FnOk P w K mg base CX0 7 f fd ["rings", "levels"] spCanMet := by
  refine D.F.ok scCanBeMet (fun vs H Q E h => ?_) (fun cdv A outer s₀ H vs Q E hr h => ?_)
  · obtain ⟨a, ls, g, rfl, _⟩ := h
    rfl
  · obtain ⟨a, ls, g, rfl, g1, g2, ha, h2, h60, sh, srt, q⟩ := h
    obtain ⟨f1, fd1, D1⟩ := T.d_distance_in
    obtain ⟨f2, fd2, D2⟩ := T.d_check_levels
    obtain ⟨f3, fd3, D3⟩ := T.d_check_between
    obtain ⟨tMOST_RINGS, vMOST_RINGS⟩ := T.v_RINGS
    have hr1 : Room 1 _ := hr.mono (by decide)
    have hr3 : Room 3 _ := hr.mono (by decide)
    have hr6 : Room 6 _ := hr.mono (by decide)
    obtain ⟨_, vMOST_RINGS⟩ := T.v_RINGS
    refine ⟨_, pss_cons (ps_expr (pe_call (ok_check_between T D3) hr3 (by rfl) D3.g D3.F.kp D3.b .nil pass0 (pa_cons (pv 0) (pa_cons pe_int (pa_cons (pe_glob (v := .int 12) rfl vMOST_RINGS ⟨_, rfl⟩) pa_nil)))))
      (pss_cons (ps_expr (pe_call (ok_check_levels T D2) hr6 (by rfl) D2.g D2.F.kp D2.b .nil pass0 (pa_cons (pv 1) pa_nil)))
      (pss_one (ps_ret (pe_cmpR op_le (pe_call (ok_distance_in T D1) hr1 (by rfl) D1.g D1.F.kp D1.b .nil pass0 (pa_cons (pv 1) pa_nil)) (pv 0) (nomark _))))), ?_⟩
    refine ⟨_, rfl, g, 1, 12, rfl, g1, g2, by omega, by omega, fun H1 e1 => ?_⟩
    refine ⟨_, rfl, a, ls, rfl, e1 _ _ ha, h2, h60, sh, srt, fun H2 e2 => ?_⟩
    refine ⟨_, rfl, a, ls, rfl, (e1.trans e2) _ _ ha, h2, h60, sh, srt, fun H3 e3 => ?_⟩
    exact ⟨_, rfl, _, _, rfl, rfl, q _ ((e1.trans e2).trans e3)⟩
def spCheckAsked : Sp := fun vs H Q _ => ∃ (c a : Addr) (xs : List V) (rs : List (Int × Int)) (ls : List Int), vs = [.ref c, .ref a] ∧ H c = some (.tup xs) ∧ RingsAt H 60 xs rs ∧ (1 ≤ xs.length ∧ xs.length ≤ 12) ∧ Eqo rs xs.length ls.length ∧ H a = some (.tup (ls.map V.int)) ∧ 2 ≤ ls.length ∧ ls.length ≤ 60 ∧ Short ls ∧ ls.Pairwise (· ≤ ·) ∧ ∀ H', Ex H H' → Q .non H'
theorem ok_check_asked_levels (T : Txt K mg) {f : Addr} {fd : FuncData} (D : DefAt K mg "check_asked_levels" sCheckAskedLevels ["chain", "levels"] f fd) : FnOk P w K mg base CX0 8 f fd ["chain", "levels"] spCheckAsked := by
  refine D.F.ok scCheckAskedLevels (fun vs H Q E h => ?_) (fun cdv A outer s₀ H vs Q E hr h => ?_)
  · obtain ⟨c, a, xs, rs, ls, rfl, _⟩ := h
    rfl
  · obtain ⟨c, a, xs, rs, ls, rfl, hc, hR, hl, eq, ha, h2, h60, sh, srt, q⟩ := h
    have hr7 : Room 7 _ := hr.mono (by decide)
    obtain ⟨f1, fd1, D1⟩ := T.d_check_like_levels
    obtain ⟨f2, fd2, D2⟩ := T.d_order_of
    obtain ⟨f3, fd3, D3⟩ := T.d_check_one_order
    have hr5 : Room 5 _ := hr.mono (by decide)
    have hr6 : Room 6 _ := hr.mono (by decide)
    have hr7 : Room 7 _ := hr.mono (by decide)
    refine ⟨_, pss_cons (ps_expr (pe_call (ok_check_one_order T D3) hr6 (by rfl) D3.g D3.F.kp D3.b .nil pass0 (pa_cons (pv 0) pa_nil)))
      (pss_one (ps_expr (pe_call (ok_check_like_levels T D1) hr7 (by rfl) D1.g D1.F.kp D1.b .nil pass0 (pa_cons (pv 1) (pa_cons (pe_call (ok_order_of T D2) hr5 (by rfl) D2.g D2.F.kp D2.b .nil pass0 (pa_cons (pe_ix ix_tup (pv 0) pe_int (fun _ _ => rfl)) pa_nil)) pa_nil))))), ?_⟩
    refine ⟨_, rfl, c, xs, rs, _, rfl, hc, hR, hl, eq, fun H1 e1 => ?_⟩
    have hlen : xs.length = rs.length := paired_len hR
    obtain ⟨x, hx, rx⟩ := rings_nth (rings_ex4 e1 hR) (show 0 < rs.length by omega)
    refine ⟨_, rfl, _, rfl, c, xs, 0, x, rfl, rfl, SqT.of (e1 _ _ hc), atI_nat (j := 0) hx, x, _, _, rfl, rx, fun H2 e2 => ?_⟩
    have e0 : (K1M.ord ((K1N.nAt rs 0 : Int)).natAbs (K1N.sAt rs 0).natAbs : Nat) = ls.length := by
      rw [Int.natAbs_natCast]
      exact eq 0 (by omega)
    rw [e0]
    exact ⟨a, ls, rfl, (e1.trans e2) _ _ ha, h2, h60, sh, srt, fun H3 e3 => q _ ((e1.trans e2).trans e3)⟩
def spIdleAt (K : PySem.W.Frag) : Sp := fun vs H Q _ => ∃ (k : Int) (p : Addr) (h : List Nat), vs = [.int k, .ref p] ∧ HeapAt H p h ∧ Good h ∧ 2 ≤ k ∧ coreB h k ∧ ∀ q H', Ex H H' → 0 ≤ q → q < k → step k h q = h → Q (.int q) H'
theorem ok_idle_at (T : Txt K mg) {f : Addr} {fd : FuncData} (D : DefAt K mg "idle_at" sIdleAt ["k", "core"] f fd) : FnOk P w K mg base CX0 4 f fd ["k", "core"] (spIdleAt K) := by
  refine D.F.ok scIdleAt (fun vs H Q E h => ?_) (fun cdv A outer s₀ H vs Q E hr h => ?_)
  · obtain ⟨k, p, h, rfl, _⟩ := h
    rfl
  · obtain ⟨k, p, h, rfl, hp, G, hk, C, q⟩ := h
    obtain ⟨f1, fd1, D1⟩ := T.d_last_letters
    have hr3 : Room 3 _ := hr.mono (by decide)
    refine ⟨_, pss_one (ps_ret (pe_ifExp (pt_cmpR (op_neD hr.units) (pv 1) (pe_tup pa_nil) (nomark _)) (pe_ix ix_list (pe_call (ok_last_letters T D1) hr3 (by rfl) D1.g D1.F.kp D1.b .nil pass0 (pa_cons (pv 0) (pa_cons (pv 1) pa_nil))) pe_int (fun _ _ => rfl)) pe_int)), ?_⟩
    refine ⟨_, rfl, by show 0 ≤ sizeLine; decide, fun t0 ht0 => ?_⟩
    have x0 := Ex.new (o := .tup []) ht0
    refine CI.neH (h := h) (h' := []) (x0 _ _ hp) upd_same ?_
    refine ⟨_, rfl, ite2 (fun cc => ?_) (fun cc => ?_)⟩
    · have n : h ≠ [] := fun z => by
        rw [decide_eq_true z] at cc
        cases cc
      refine ⟨_, rfl, _, rfl, k, p, h, rfl, x0 _ _ hp, G, hk, fun r ys H1 e1 hr1 asc hm => ?_⟩
      obtain ⟨c0, hc0⟩ := tip_ex G.heap n
      cases ys with
      | nil => exact absurd ((hm _).mpr ⟨c0, hc0, rfl⟩) (by simp)
      | cons y ys =>
        obtain ⟨c1, r1, r2⟩ := (hm y).mp List.mem_cons_self
        refine ⟨r, _, 0, V.int y, rfl, rfl, SqL.of hr1, atI_nat (j := 0) rfl, q y _ (x0.trans e1) ?_ ?_ (tip_idle hk G.heap C ⟨c1, r1, r2⟩)⟩
        · rw [← r2]
          exact Int.emod_nonneg _ (by omega)
        · rw [← r2]
          exact Int.emod_lt_of_pos _ (by omega)
    · have z : h = [] := by
        cases h with
        | nil => rfl
        | cons a b => exact absurd cc (by simp)
      subst z
      exact q 1 _ x0 (by omega) (by omega) (nil_idle hk)
end
end K1

set_option exponentiation.threshold 400
namespace K1
open PySem PySem.Spec PyProof.Rows L2 Evl HM LX ZW ZM DM DR TE
section
variable {P : Program} {w : World} {K : PySem.W.Frag} {mg : Str → Option Value} {base : Heap}
def spClassWith : Sp := fun vs H Q _ => ∃ (c a : Addr) (xs : List V) (rs : List (Int × Int)) (ls : List Int), vs = [.ref c, .ref a] ∧ H c = some (.tup xs) ∧ RingsAt H 60 xs rs ∧ (1 ≤ xs.length ∧ xs.length ≤ 12) ∧ Eqo rs xs.length ls.length ∧ H a = some (.tup (ls.map V.int)) ∧ 2 ≤ ls.length ∧ ls.length ≤ 60 ∧ Short ls ∧ ls.Pairwise (· ≤ ·) ∧
  (∀ H', Ex H H' → (xs.length : Int) < distL ls → Q .non H') ∧
  ∀ (t x : Addr) (ps : List Int) H', Ex H H' → distL ls ≤ (xs.length : Int) → H' t = some (.tup [V.int (ls.sum + xs.length + ls.length - 1), V.ref x]) → PlacesT H' x ps → ps.length = xs.length → PlOk rs ps → hseq rs ps xs.length = coreL ls → Q (.ref t) H'
theorem ok_class_with_levels (T : Txt K mg) {f : Addr} {fd : FuncData} (D : DefAt K mg "class_with_levels" sClassWithLevels ["chain", "levels"] f fd) : FnOk P w K mg base CX0 9 f fd ["chain", "levels"] spClassWith := by
  refine D.F.ok scClassWithLevels (fun vs H Q E h => ?_) (fun cdv A outer s₀ H vs Q E hr h => ?_)
  · obtain ⟨c, a, xs, rs, ls, rfl, _⟩ := h
    rfl
  · obtain ⟨c, a, xs, rs, ls, rfl, hc, hR, hl, eq, ha, h2, h60, sh, srt, q1, q2⟩ := h
    obtain ⟨f1, fd1, D1⟩ := T.d_idle_at
    obtain ⟨f2, fd2, D2⟩ := T.d_growing_word
    obtain ⟨f3, fd3, D3⟩ := T.d_core_with_levels
    obtain ⟨f4, fd4, D4⟩ := T.d_distance_in
    obtain ⟨f5, fd5, D5⟩ := T.d_check_asked_levels
    have hr1 : Room 1 _ := hr.mono (by decide)
    have hr4 : Room 4 _ := hr.mono (by decide)
    have hr6 : Room 6 _ := hr.mono (by decide)
    have hr7 : Room 7 _ := hr.mono (by decide)
    have hr8 : Room 8 _ := hr.mono (by decide)
    refine ⟨_, pss_cons (ps_expr (pe_call (ok_check_asked_levels T D5) hr8 (by rfl) D5.g D5.F.kp D5.b .nil pass0 (pa_cons (pv 0) (pa_cons (pv 1) pa_nil))))
      (pss_cons (ps_if (pt_cmpR op_gt (pe_call (ok_distance_in T D4) hr1 (by rfl) D4.g D4.F.kp D4.b .nil pass0 (pa_cons (pv 1) pa_nil)) (pe_callB call_len_seq (by rfl) T.z_len PySem.boot_len (pa_cons (pv 0) pa_nil)) (nomark _)) (pss_one (ps_ret pe_non)) pss_nil)
      (pss_cons (ps_set (i := 2) scClassWithLevels.nd rfl (.inl rfl) (pe_callB call_len_seq (by rfl) T.z_len PySem.boot_len (pa_cons (pv 1) pa_nil)))
      (pss_cons (ps_set (i := 3) scClassWithLevels.nd rfl (.inl rfl) (pe_call (ok_core_with_levels T D3) hr7 (by rfl) D3.g D3.F.kp D3.b .nil pass0 (pa_cons (pv 1) pa_nil)))
      (pss_cons (ps_set (i := 4) scClassWithLevels.nd rfl (.inl rfl) (pe_callTy call_list_of (by rfl) T.z_list (by decide +kernel) (pa_cons (pe_call (ok_growing_word T D2) hr6 (by rfl) D2.g D2.F.kp D2.b .nil pass0 (pa_cons (pv 2) (pa_cons (pv 3) pa_nil))) pa_nil)))
      (pss_cons (ps_set (i := 4) scClassWithLevels.nd rfl (.inl rfl) (pe_op op_cat (pv 4) (pe_op op_rep (pe_lst (pa_cons (pe_call (ok_idle_at T D1) hr4 (by rfl) D1.g D1.F.kp D1.b .nil pass0 (pa_cons (pv 2) (pa_cons (pv 3) pa_nil))) pa_nil)) (pe_op op_sub (pe_callB call_len_seq (by rfl) T.z_len PySem.boot_len (pa_cons (pv 0) pa_nil)) (pe_callB call_len_seq (by rfl) T.z_len PySem.boot_len (pa_cons (pv 4) pa_nil))))))
      (pss_cons (ps_setLc (i := 5) (own := [("letter", 6), ("ring", 7)]) (g := gTup K 2 (gCons (gName 6) (gCons (gName 7) gNil))) (tt := tYes) (by rfl) scClassWithLevels.nd rfl rfl (sw_true rfl rfl rfl (by decide +kernel)) (pi_zipM (by rfl) T.z_zip (pa_cons (pv 4) (pa_cons (pv 0) pa_nil)))
        (blkOk_by (N := nClassWithLevels) (sc := defScope sClassWithLevels) (by decide +kernel)) (fun _ _ _ _ _ => (pg_tup (by rfl) (pgs_cons (pg_name (i := 6) scClassWithLevels.nd rfl (.inl rfl)) (pgs_cons (pg_name (i := 7) scClassWithLevels.nd rfl (.inl rfl)) pgs_nil)))) (fun _ _ _ _ _ => pts_nil)
        (fun _ _ _ _ _ => (pe_op op_mod (pe_op op_mul (pv 6) (pe_ix (show IxR _ (rIxT K) from ix_tup) (pv 7) pe_int (fun _ _ => rfl))) (pe_ix (show IxR _ (rIxT K) from ix_tup) (pv 7) pe_int (fun _ _ => rfl)))))
      (pss_one (ps_ret (pe_tup (pa_cons (pe_op op_sub (pe_op op_add (pe_op op_add (pe_callB (ST.cr_sumT rfl) (by rfl) T.z_sum (by decide +kernel) (pa_cons (pv 1) pa_nil)) (pe_callB call_len_seq (by rfl) T.z_len PySem.boot_len (pa_cons (pv 0) pa_nil))) (pv 2)) pe_int) (pa_cons (pe_callTy call_tuple_of (by rfl) T.z_tuple (by decide +kernel) (pa_cons (pv 5) pa_nil)) pa_nil))))))))))), ?_⟩
    refine ⟨_, rfl, _, rfl, c, a, xs, rs, ls, rfl, hc, hR, hl, eq, ha, h2, h60, sh, srt, fun H1 e1 => ?_⟩
    refine ⟨_, rfl, a, ls, rfl, e1 _ _ ha, h2, h60, sh, srt, fun H2 e2 => ?_⟩
    have x2 := e1.trans e2
    refine ⟨_, rfl, c, _, rfl, .inr (SqT.of (x2 _ _ hc)), _, _, rfl, rfl, _, rfl, ite2 (fun cc => ?_) (fun cc => ?_)⟩
    · exact q1 _ x2 (by have := of_decide_eq_true cc; omega)
    have near : distL ls ≤ (xs.length : Int) := by
      have := of_decide_eq_false (Bool.eq_false_iff.mpr cc)
      omega
    have hkk : (2 : Int) ≤ (ls.length : Int) := by omega
    have l1 : 1 ≤ ls.length := by omega
    refine ⟨_, rfl, a, _, rfl, .inr (SqT.of (x2 _ _ ha)), ?_⟩
    rw [List.length_map]
    refine ⟨_, rfl, a, ls, rfl, x2 _ _ ha, h2, h60, sh, srt, by omega, fun p H3 e3 hp gc => ?_⟩
    have x3 := x2.trans e3
    have IC : IsHeap (coreL ls) := gc.heap
    have CC : coreB (coreL ls) (ls.length : Int) := core_core srt l1
    have hlts : lts (coreL ls) (ls.length : Int) = distL ls := core_lts srt l1 IC
    refine ⟨_, rfl, _, rfl, _, p, coreL ls, rfl, hp, gc, hkk, by omega, CC, by omega, fun wr ws H4 e4 hwr RW _ hrun hwl => ?_⟩
    rw [hlts] at hwl
    refine ⟨wr, _, rfl, .inr (SqT.of hwr), fun l hl0 => ?_⟩
    have x4 := (x3.trans e4).trans (Ex.new (o := .lst (ws.map V.int)) hl0)
    have hp4 : HeapAt (upd H4 l (.lst (ws.map V.int))) p (coreL ls) := (e4.trans (Ex.new hl0)) _ _ hp
    have hlw : (upd H4 l (.lst (ws.map V.int))) l = some (.lst (ws.map V.int)) := upd_same
    generalize upd H4 l (.lst (ws.map V.int)) = H5 at x4 hp4 hlw ⊢
    refine ⟨_, rfl, _, rfl, _, rfl, _, p, coreL ls, rfl, hp4, gc, hkk, CC, fun z H6 e6 z0 z1 zi => ?_⟩
    refine ⟨by show 1 ≤ sizeLine; decide, fun l2 hl2 => ?_⟩
    have x7 := (x4.trans e6).trans (Ex.new (o := .lst [V.int z]) hl2)
    have hlw7 := (e6.trans (Ex.new (o := .lst [V.int z]) hl2)) _ _ hlw
    have g7 : (upd H6 l2 (.lst [V.int z])) l2 = some (.lst [V.int z]) := upd_same
    generalize upd H6 l2 (.lst [V.int z]) = H7 at x7 hlw7 g7 ⊢
    refine ⟨_, rfl, c, _, rfl, .inr (SqT.of (x7 _ _ hc)), _, rfl, l, _, rfl, .inl (SqL.of hlw7), _, _, rfl, rfl, ?_⟩
    rw [List.length_map]
    obtain ⟨n, hn⟩ : ∃ n : Nat, n = xs.length - ws.length := ⟨_, rfl⟩
    rw [show (fun i j => V.int (i - j)) (xs.length : Int) (ws.length : Int) = V.int (n : Int) from congrArg V.int (by omega)]
    refine ⟨l2, (n : Int), [V.int z], rfl, rfl, g7, by omega, by omega, sz_of (by rw [Int.toNat_natCast]; show 1 * n ≤ _; omega), fun l3 hl3 => ?_⟩
    rw [Int.toNat_natCast, flat_rep]
    have x8 := x7.trans (Ex.new (o := .lst (List.replicate n (V.int z))) hl3)
    have hlw8 := (Ex.new (o := .lst (List.replicate n (V.int z))) hl3) _ _ hlw7
    have g8 : (upd H7 l3 (.lst (List.replicate n (V.int z)))) l3 = some (.lst (List.replicate n (V.int z))) := upd_same
    generalize upd H7 l3 (.lst (List.replicate n (V.int z))) = H8 at x8 hlw8 g8 ⊢
    refine ⟨l, l3, _, _, rfl, rfl, hlw8, g8, sz_of (by rw [List.length_map, List.length_replicate]; omega), fun l4 hl4 => ?_⟩
    obtain ⟨L, hL⟩ : ∃ L : List Int, L = ws ++ List.replicate n z := ⟨_, rfl⟩
    have eL : ws.map V.int ++ List.replicate n (V.int z) = L.map V.int := by rw [hL, List.map_append, List.map_replicate]
    rw [eL]
    have lL : L.length = xs.length := by
      rw [hL, List.length_append, List.length_replicate]
      omega
    have RL : InR (ls.length : Int) L := fun y hy => by
      rw [hL] at hy
      rcases List.mem_append.mp hy with m | m
      · exact RW y m
      · rw [(List.mem_replicate.mp m).2]
        exact ⟨z0, z1⟩
    have runL : run (ls.length : Int) [] L = coreL ls := by
      rw [hL, run_app, hrun]
      exact run_rep zi n
    have x9 := x8.trans (Ex.new (o := .lst (L.map V.int)) hl4)
    have g9 : (upd H8 l4 (.lst (L.map V.int))) l4 = some (.lst (L.map V.int)) := upd_same
    generalize upd H8 l4 (.lst (L.map V.int)) = H9 at x9 g9 ⊢
    have hc9 := x9 _ _ hc
    have hR9 := rings_ex4 x9 hR
    have hlen : xs.length = rs.length := paired_len hR
    have lt0 : ∀ j, j < xs.length → ltr L j = L.getD j 0 := fun j hj => by
      unfold ltr
      rw [if_neg (fun y => by rw [y] at lL; simp at lL; omega), show min j (L.length - 1) = j by omega]
    refine ⟨_, rfl, _, rfl, l4, c, _, _, rfl, SqL.of g9, SqT.of hc9, fun Dl hD => ?_⟩
    refine lc_zipM (K := K) (n := xs.length) (by rw [List.length_map]; exact lL) rfl (fun i H' => H' Dl = some (.lst (((List.range i).map fun j => ltr L j * K1N.sAt rs j % (K1N.nAt rs j : Int)).map V.int)) ∧ Ex H9 H') ⟨upd_same, Ex.new hD⟩ (fun i H' hp => ⟨SqL.of (hp.2 _ _ g9), SqT.of (hp.2 _ _ hc9)⟩) (fun i x y Tt H' hi hx hy hp ht => ?_) (fun H' hp => ?_)
    · obtain ⟨w1, w2⟩ := hp
      obtain ⟨_, rfl⟩ := int_inv9 hx
      obtain ⟨t, rfl, htt, n1, n2, n3, n4⟩ := (rings_nth4 (rings_ex4 w2 hR9) hy)
      have xt := Ex.new (o := .tup [V.int (L.getD i 0), V.ref t]) ht
      refine ⟨Tt, _, rfl, SqT.of upd_same, rfl, _, [_], rfl, _, [], rfl, rfl, rfl, ?_⟩
      dsimp only [tYes]
      rw [if_pos rfl]
      have ht' := xt _ _ htt
      have wb := RL (L.getD i 0) (get_mem (by omega))
      refine ⟨_, rfl, _, rfl, t, _, 1, _, rfl, rfl, SqT.of ht', rfl, _, _, rfl, rfl, .inl ⟨by omega, by omega⟩, _, rfl, t, _, 0, _, rfl, rfl, SqT.of ht', rfl, _, _, rfl, rfl, by omega, ?_⟩
      refine ⟨_, xt _ _ w1, by rw [List.length_map, List.length_map, List.length_range]; exact small1000 (by omega), ?_, Ex.mut (w2.trans xt) hD⟩
      rw [upd_same, List.range_succ, List.map_append, List.map_append, ← lt0 i hi]
      rfl
    · obtain ⟨w1, w2⟩ := hp
      have x10 := x9.trans w2
      refine ⟨_, rfl, a, ls, rfl, SqT.of (x10 _ _ ha), _, rfl, c, _, rfl, .inr (SqT.of (x10 _ _ hc)), _, _, rfl, rfl, _, rfl, _, _, rfl, rfl, _, _, rfl, rfl, ?_⟩
      refine ⟨_, rfl, Dl, _, rfl, .inl ⟨SqL.of w1, fun pl hpl => ?_⟩⟩
      refine ⟨by show 2 ≤ sizeLine; decide, fun t ht => ?_⟩
      have xp := Ex.new (o := .tup (((List.range xs.length).map fun j => ltr L j * K1N.sAt rs j % (K1N.nAt rs j : Int)).map V.int)) hpl
      have xt := Ex.new (o := .tup [V.int (ls.sum + xs.length + ls.length - 1), V.ref pl]) ht
      have hlg := lps_len rs L xs.length
      have hgj : ∀ j, j < xs.length → (lps rs L xs.length).getD j 0 = ltr L j * K1N.sAt rs j % (K1N.nAt rs j : Int) := fun j hj => lps_get hj
      refine q2 t pl (lps rs L xs.length) _ ((x10.trans xp).trans xt) near upd_same (xt _ _ upd_same) hlg (fun j hj => ?_) ?_
      · rw [hgj j (by omega)]
        have := rings_ok hR j (by omega)
        exact ⟨Int.emod_nonneg _ (by omega), Int.emod_lt_of_pos _ (by omega)⟩
      · rw [hseq_word (k := ls.length) (g := xs.length) (ws := L) (by omega) RL eq (fun j hj => by have := rings_ok hR j (by omega); constructor <;> omega) hgj _ (Nat.le_refl _), List.take_of_length_le (by omega), runL]
end
end K1

set_option exponentiation.threshold 400
namespace K1
open PySem PySem.Spec PyProof.Rows L2 Evl HM LX ZW ZM DM DR TE
section
variable {P : Program} {w : World} {K : PySem.W.Frag} {mg : Str → Option Value} {base : Heap}
def spHasLevels : Sp := fun vs H Q _ => ∃ (c a t x : Addr) (xs : List V) (rs : List (Int × Int)) (ls ps : List Int) (tot : Int), vs = [.ref c, .ref a, .ref t] ∧ H c = some (.tup xs) ∧ RingsAt H 60 xs rs ∧ (1 ≤ xs.length ∧ xs.length ≤ 12) ∧ Eqo rs xs.length ls.length ∧ H a = some (.tup (ls.map V.int)) ∧ 2 ≤ ls.length ∧ ls.length ≤ 60 ∧ Short ls ∧ ls.Pairwise (· ≤ ·) ∧
  H t = some (.tup [V.int tot, V.ref x]) ∧ PlacesT H x ps ∧ ps.length = xs.length ∧ PlOk rs ps ∧ tot.natAbs < 10 ^ 58 ∧ ∀ (ms : List Int) H', Ex H H' → Lvs rs ps tot ls.length ms → Q (.bl (decide (ms = ls))) H'
theorem ok_has_levels (T : Txt K mg) {f : Addr} {fd : FuncData} (D : DefAt K mg "has_levels" sHasLevels ["chain", "levels", "value"] f fd) : FnOk P w K mg base CX0 9 f fd ["chain", "levels", "value"] spHasLevels := by
  refine D.F.ok scHasLevels (fun vs H Q E h => ?_) (fun cdv A outer s₀ H vs Q E hr h => ?_)
  · obtain ⟨c, a, t, x, xs, rs, ls, ps, tot, rfl, _⟩ := h
    rfl
  · obtain ⟨c, a, t, x, xs, rs, ls, ps, tot, rfl, hc, hR, hl, eq, ha, h2, h60, sh, srt, ht, hx, hlp, hok, tb, q⟩ := h
    obtain ⟨f1, fd1, D1⟩ := T.d_levels_at
    obtain ⟨f2, fd2, D2⟩ := T.d_is_class
    obtain ⟨f3, fd3, D3⟩ := T.d_check_asked_levels
    have hr4 : Room 4 _ := hr.mono (by decide)
    have hr8 : Room 8 _ := hr.mono (by decide)
    refine ⟨_, pss_cons (ps_expr (pe_call (ok_check_asked_levels T D3) hr8 (by rfl) D3.g D3.F.kp D3.b .nil pass0 (pa_cons (pv 0) (pa_cons (pv 1) pa_nil))))
      (pss_one (ps_ret (pe_and (pe_call (ok_is_class T D2) hr4 (by rfl) D2.g D2.F.kp D2.b .nil pass0 (pa_cons (pv 0) (pa_cons (pv 2) pa_nil))) (pe_one (pe_cmpR (op_eqD hr.units) (pe_call (ok_levels_at T D1) hr8 (by rfl) D1.g D1.F.kp D1.b .nil pass0 (pa_cons (pv 0) (pa_cons (pe_ix ix_tup (pv 2) pe_int (fun _ _ => rfl)) (pa_cons (pe_ix ix_tup (pv 2) pe_int (fun _ _ => rfl)) pa_nil)))) (pv 1) (nomark _)))))), ?_⟩
    refine ⟨_, rfl, _, rfl, c, a, xs, rs, ls, rfl, hc, hR, hl, eq, ha, h2, h60, sh, srt, fun H1 e1 => ?_⟩
    have hlen : xs.length = rs.length := paired_len hR
    refine ⟨_, rfl, _, rfl, c, _, xs, rs, tot, ps, rfl, e1 _ _ hc, rings_ex4 e1 hR, hl.2, ⟨t, x, rfl, e1 _ _ ht, e1 _ _ hx⟩, by omega, by omega, hlp, hok, fun H2 e2 => ⟨true, rfl, iteT ?_⟩⟩
    have x2 := e1.trans e2
    have ht2 := x2 _ _ ht
    have C : ClsAt H2 c x xs rs ps tot := ⟨x2 _ _ hc, rings_ex4 x2 hR, hl.1, hl.2, x2 _ _ hx, hlp, hok, tb⟩
    refine ⟨_, rfl, _, rfl, t, _, 0, _, rfl, rfl, SqT.of ht2, rfl, _, rfl, t, _, 1, _, rfl, rfl, SqT.of ht2, rfl, c, x, xs, rs, ps, tot, ls.length, rfl, C, eq, fun p ms H3 e3 hp L => ?_⟩
    exact ⟨_, rfl, CI.eqT hp ((x2.trans e3) _ _ ha) (q ms _ (x2.trans e3) L)⟩
def spSumOf : Sp := fun vs H Q _ => ∃ (a : Addr) (ls : List Int) (c : Int), vs = [.ref a, .int c] ∧ H a = some (.tup (ls.map V.int)) ∧ ls.length ≤ 60 ∧ ∀ H', Ex H H' → Q (.int (tell ls c)) H'
theorem ok_sum_of (T : Txt K mg) {f : Addr} {fd : FuncData} (D : DefAt K mg "_law_sum_of" sLSumOf ["_law_levels_here", "_law_c"] f fd) : FnOk P w K mg base CX0 1 f fd ["_law_levels_here", "_law_c"] spSumOf := by
  refine D.F.ok scLSumOf (fun vs H Q E h => ?_) (fun cdv A outer s₀ H vs Q E hr h => ?_)
  · obtain ⟨a, ls, c, rfl, _⟩ := h
    rfl
  · obtain ⟨a, ls, c, rfl, ha, hl, q⟩ := h
    refine ⟨_, pss_one (ps_ret (pe_callB (cr_sum rfl) (by rfl) T.z_sum (by decide +kernel) (pa_cons (pe_lc (own := [("_law_level", 2)]) (g := gName 2) (tt := tYes) rfl scLSumOf.nd (pi_tup (pv 0))
        (blkOk_by (N := nLSumOf) (sc := defScope sLSumOf) (by decide +kernel)) (fun _ _ _ _ _ => (pg_name (i := 2) scLSumOf.nd rfl (.inl rfl))) (fun _ _ _ _ _ => pts_nil)
        (fun _ _ _ _ _ => (pe_callB (call_max2 rfl) (by rfl) T.z_max (by decide +kernel) (pa_cons pe_int (pa_cons (pe_op op_add (pe_op op_add (pv 2) (pv 1)) pe_int) pa_nil))))) pa_nil))), ?_⟩
    refine ⟨_, rfl, a, rfl, ⟨_, SqT.of ha⟩, fun D hD => ?_⟩
    refine lc_tupM (K := K) (fun i => V.int (max 0 (ls.getD i 0 + c + 1))) hD ha (by rw [List.length_map]; omega) (fun i x H' Qk hx e' qk => ?_) (fun H' e' h' => ?_)
    · obtain ⟨hi, rfl⟩ := int_inv9 hx
      refine ⟨rfl, _, rfl, _, rfl, _, _, rfl, rfl, _, _, rfl, rfl, _, _, rfl, ?_⟩
      rw [imax0]
      exact qk _ (Ex.refl _)
    · rw [List.length_map, mapI] at h'
      refine ⟨D, _, rfl, SqL.of h', ?_⟩
      rw [tellR]
      exact q _ e'
def spIsAbove : Sp := fun vs H Q _ => ∃ (a b : Addr) (one other : List Int), vs = [.ref a, .ref b] ∧ H a = some (.tup (one.map V.int)) ∧ H b = some (.tup (other.map V.int)) ∧ one.length = other.length ∧ one.length ≤ 60 ∧ one.Pairwise (· ≤ ·) ∧ other.Pairwise (· ≤ ·) ∧
  ∀ r H', (r = true ↔ ∀ c, tell other c ≤ tell one c) → Ex H H' → Q (.bl r) H'
theorem ok_is_above (T : Txt K mg) {f : Addr} {fd : FuncData} (D : DefAt K mg "_law_is_above" sLIsAbove ["_law_one", "_law_other"] f fd) : FnOk P w K mg base CX0 1 f fd ["_law_one", "_law_other"] spIsAbove := by
  refine D.F.ok scLIsAbove (fun vs H Q E h => ?_) (fun cdv A outer s₀ H vs Q E hr h => ?_)
  · obtain ⟨a, b, one, other, rfl, _⟩ := h
    rfl
  · obtain ⟨a, b, one, other, rfl, ha, hb, hl, h60, p1, p2, q⟩ := h
    refine ⟨_, pss_one (ps_ret (pe_cmpR (op_eqD hr.units) (pe_lc (own := [("_law_at", 2)]) (g := gName 2) rfl scLIsAbove.nd (pi_range1 (by rfl) T.z_range (pa_cons (pe_callB call_len_seq (by rfl) T.z_len PySem.boot_len (pa_cons (pv 0) pa_nil)) pa_nil))
        (blkOk_by (N := nLIsAbove) (sc := defScope sLIsAbove) (by decide +kernel)) (fun _ _ _ _ _ => (pg_name (i := 2) scLIsAbove.nd rfl (.inl rfl))) (fun _ _ _ _ _ => pts_one (pt_cmpR op_lt (pe_callB (show CallR _ (.builtin "sum") (ST.rSumT K) from ST.cr_sumT rfl) (by rfl) T.z_sum (by decide +kernel) (pa_cons (pe_slice sl_tupE (pv 0) (po_some (pv 2)) po_none) pa_nil)) (pe_callB (show CallR _ (.builtin "sum") (ST.rSumT K) from ST.cr_sumT rfl) (by rfl) T.z_sum (by decide +kernel) (pa_cons (pe_slice sl_tupE (pv 1) (po_some (pv 2)) po_none) pa_nil)) (nomark _)))
        (fun _ _ _ _ _ => pe_int)) (pe_lst pa_nil) (nomark _))), ?_⟩
    refine ⟨_, rfl, a, _, rfl, .inr (SqT.of ha), _, rfl, by omega, by rw [List.length_map]; omega, fun Dl hD => ?_⟩
    rw [List.length_map]
    refine lc_range (lo := 0) (n := (one.length : Int).toNat) (fun i H' => H' Dl = some (.lst ((((List.range i).filter fun j => decide ((one.drop j).sum < (other.drop j).sum)).map fun _ => (1 : Int)).map V.int)) ∧ Ex H H') ⟨upd_same, Ex.new hD⟩ (fun i H' hi hp => ?_) (fun H' hp => ?_)
    · obtain ⟨w1, w2⟩ := hp
      rw [Int.toNat_natCast] at hi
      rw [show (0 : Int) + (i : Int) = ((i : Nat) : Int) by omega]
      refine ⟨rfl, _, rfl, _, rfl, (i : Int), rfl, a, _, rfl, w2 _ _ ha, fun t1 H3 e3 h3 => ?_⟩
      rw [cut_fromI (by omega)] at h3
      refine ⟨t1, one.drop i, rfl, SqT.of h3, _, rfl, _, rfl, (i : Int), rfl, b, _, rfl, (w2.trans e3) _ _ hb, fun t2 H4 e4 h4 => ?_⟩
      rw [cut_fromI (by omega)] at h4
      refine ⟨t2, other.drop i, rfl, SqT.of h4, _, _, rfl, rfl, _, rfl, ?_⟩
      have x4 := (w2.trans e3).trans e4
      have w4 := (e3.trans e4) _ _ w1
      have lb : ((((List.range i).filter fun j => decide ((one.drop j).sum < (other.drop j).sum)).map fun _ => (1 : Int)).map V.int).length ≤ i := by
        rw [List.length_map, List.length_map]
        have := List.length_filter_le (fun j => decide ((one.drop j).sum < (other.drop j).sum)) (List.range i)
        rw [List.length_range] at this
        exact this
      refine ite2 (fun cc => ?_) (fun cc => ?_)
      · refine ⟨_, w4, small1000 (by omega), ?_, Ex.mut x4 hD⟩
        rw [upd_same, List.range_succ, List.filter_append, List.filter_cons, if_pos cc, List.map_append, List.map_append]
        rfl
      · refine ⟨?_, x4⟩
        rw [w4, List.range_succ, List.filter_append, List.filter_cons, if_neg cc, List.filter_nil, List.append_nil]
    · obtain ⟨w1, w2⟩ := hp
      rw [Int.toNat_natCast] at w1
      refine ⟨by show 0 ≤ sizeLine; decide, fun l0 hl0 => ?_⟩
      have x0 := Ex.new (o := .lst []) hl0
      refine CI.eqL (l' := []) (x0 _ _ w1) upd_same ?_
      refine q _ _ ?_ (w2.trans x0)
      rw [decide_eq_true_eq, List.map_eq_nil_iff, List.filter_eq_nil_iff]
      constructor
      · intro h c
        refine above_tell hl p2 (fun j hj => ?_) c
        have := h j (List.mem_range.mpr hj)
        rw [decide_eq_true_eq] at this
        omega
      · intro h j hj
        rw [decide_eq_true_eq]
        have := tell_above hl p1 (List.mem_range.mp hj) (h _)
        omega
end
end K1

set_option exponentiation.threshold 400
namespace K1
open PySem PySem.Spec PyProof.Rows L2 Evl HM LX ZW ZM DM DR TE
section
variable {P : Program} {w : World} {K : PySem.W.Frag} {mg : Str → Option Value} {base : Heap}
theorem sum_set7 {ls : List Int} {f : Int → Int} {x : Int} : ∀ {i : Nat}, i < ls.length → ((ls.set i x).map f).sum = (ls.map f).sum - f (ls.getD i 0) + f x := by
  induction ls with
  | nil =>
    intro i h
    exact absurd h (Nat.not_lt_zero _)
  | cons a r ih =>
    intro i h
    cases i with
    | zero =>
      show f x + (r.map f).sum = f a + (r.map f).sum - f a + f x
      omega
    | succ i =>
      have := ih (i := i) (by simpa using h)
      show f a + ((r.set i x).map f).sum = f a + (r.map f).sum - f (r.getD i 0) + f x
      omega
theorem sum_set0 {ls : List Int} {x : Int} {i : Nat} (h : i < ls.length) : (ls.set i x).sum = ls.sum - ls.getD i 0 + x := by
  have := sum_set7 (f := fun e => e) (x := x) h
  rw [List.map_id', List.map_id'] at this
  exact this
theorem getD_set1 {ls : List Int} {i j : Nat} {x : Int} (hi : i < ls.length) : (ls.set i x).getD j 0 = if j = i then x else ls.getD j 0 := by
  rw [List.getD_eq_getElem?_getD, List.getD_eq_getElem?_getD, List.getElem?_set]
  by_cases c : i = j
  · subst c
    rw [if_pos rfl, if_pos hi, if_pos rfl]
    rfl
  · rw [if_neg c, if_neg (fun z => c z.symm)]
theorem perm_range {n : Nat} {ms : List Int} (h : ms.Perm ((List.range n).map fun (i : Nat) => (i : Int))) (hn : 2 ≤ n) : ∃ (u v : Nat) (r : List Int), ms = (u : Int) :: (v : Int) :: r ∧ u ≠ v ∧ u < n ∧ v < n := by
  have hl := h.length_eq
  rw [List.length_map, List.length_range] at hl
  match ms, hl with
  | x :: y :: r, _ =>
    have nd : (x :: y :: r).Nodup := h.nodup_iff.mpr (List.pairwise_map.mpr (List.nodup_range.imp fun {a b} q e => q (by omega)))
    have hx := h.mem_iff.mp (List.mem_cons_self (a := x) (l := y :: r))
    have hy := h.mem_iff.mp (List.mem_cons_of_mem x (List.mem_cons_self (a := y) (l := r)))
    obtain ⟨u, hu, rfl⟩ := List.mem_map.mp hx
    obtain ⟨v, hv, rfl⟩ := List.mem_map.mp hy
    refine ⟨u, v, r, rfl, fun e => ?_, List.mem_range.mp hu, List.mem_range.mp hv⟩
    subst e
    exact (List.nodup_cons.mp nd).1 (List.mem_cons_self ..)
  | [], q => exact absurd (show (0 : Nat) = n from q) (by omega)
  | [x], q => exact absurd (show (1 : Nat) = n from q) (by omega)
theorem two_sorted {u v : Nat} {zs : List Int} (p : zs.Perm [(u : Int), (v : Int)]) (a : zs.Pairwise (· ≤ ·)) (n : u ≠ v) : ∃ i j : Nat, zs = [(i : Int), (j : Int)] ∧ i < j ∧ ((i = u ∧ j = v) ∨ (i = v ∧ j = u)) := by
  have hl := p.length_eq
  match zs, hl with
  | [x, y], _ =>
    have o : x ≤ y := (List.pairwise_cons.mp a).1 y (List.mem_singleton.mpr rfl)
    have hx := p.mem_iff.mp (List.mem_cons_self (a := x) (l := [y]))
    have hy := p.mem_iff.mp (List.mem_cons_of_mem x (List.mem_singleton.mpr (rfl : y = y)))
    have nd : [x, y].Nodup := p.nodup_iff.mpr (by
      rw [List.nodup_cons]
      refine ⟨fun z => ?_, List.nodup_cons.mpr ⟨fun z => absurd z (by simp), List.nodup_nil⟩⟩
      have := List.mem_singleton.mp z
      omega)
    have nxy : x ≠ y := fun e => (List.nodup_cons.mp nd).1 (by rw [e]; exact List.mem_singleton.mpr rfl)
    simp only [List.mem_cons, List.not_mem_nil, or_false] at hx hy
    rcases hx with rfl | rfl <;> rcases hy with rfl | rfl
    · exact absurd rfl nxy
    · exact ⟨u, v, rfl, by omega, .inl ⟨rfl, rfl⟩⟩
    · exact ⟨v, u, rfl, by omega, .inr ⟨rfl, rfl⟩⟩
    · exact absurd rfl nxy
theorem pe_cut {X : Cx} {e : Expr} {t : TE} (h : PE X e t) : PE X e (fun σ H Q => ∃ Mid : VK, t σ H Mid ∧ ∀ v H', Mid v H' → Q v H') :=
  ⟨fun pins s σ H Q I ⟨Mid, h1, h2⟩ => wpAny_mono (h.run pins s σ H Mid I h1) (fun u s' ⟨v, H', a, b, c⟩ => ⟨v, H', a, b, h2 v H' c⟩) (fun _ _ e => e)⟩
end
end K1

set_option exponentiation.threshold 400
namespace K1
open PySem PySem.Spec PyProof.Rows L2 Evl HM LX ZW ZM DM DR TE
theorem sum_bdB {B : Int} : ∀ {ls : List Int}, (∀ e ∈ ls, -B ≤ e ∧ e ≤ B) → -(B * (ls.length : Int)) ≤ ls.sum ∧ ls.sum ≤ B * (ls.length : Int)
  | [], _ => by simp
  | x :: r, h => by
    have a := sum_bdB (ls := r) fun e he => h e (List.mem_cons_of_mem _ he)
    have b := h x List.mem_cons_self
    rw [List.sum_cons, List.length_cons, Int.natCast_add, Int.mul_add]
    have : B * ((1 : Nat) : Int) = B := by simp
    omega
section
variable {P : Program} {w : World} {K : PySem.W.Frag} {mg : Str → Option Value} {base : Heap}
def spDrawnL : Sp := fun vs H Q _ => ∃ (d a : Addr) (ls : List Int), vs = [.ref d, .ref a] ∧ Dice H d ∧ H a = some (.tup (ls.map V.int)) ∧ 2 ≤ ls.length ∧ ls.length ≤ 60 ∧ ls.Pairwise (· ≤ ·) ∧ (∀ e ∈ ls, -1000 ≤ e ∧ e ≤ 1000) ∧
  ∀ (p : Addr) (ms : List Int) H', H' p = some (.tup (ms.map V.int)) → ms.length = ls.length → ms.sum = ls.sum → ms.Pairwise (· ≤ ·) → (∀ e ∈ ms, -100000 ≤ e ∧ e ≤ 100000) → Dice H' d → Keep d H H' → Q (.ref p) H'
theorem ok_drawn_levels (T : Txt K mg) {f : Addr} {fd : FuncData} (D : DefAt K mg "_law_drawn_levels" sLDrawnLevels ["_law_dice_here", "_law_levels_here"] f fd) : FnOk P w K mg base CX0 3 f fd ["_law_dice_here", "_law_levels_here"] spDrawnL := by
  refine D.F.ok scLDrawnLevels (fun vs H Q E h => ?_) (fun cdv A outer s₀ H vs Q E hr h => ?_)
  · obtain ⟨d, a, ls, rfl, _⟩ := h
    rfl
  · obtain ⟨d, a, ls, rfl, hd, ha, h2, h60, srt, hb, q⟩ := h
    obtain ⟨f1, fd1, D1⟩ := T.d_l_roll
    obtain ⟨f2, fd2, D2⟩ := T.d_l_mixed
    have hr1 : Room 1 _ := hr.mono (by decide)
    have hr2 : Room 2 _ := hr.mono (by decide)
    refine ⟨_, pss_cons (ps_par (i := 2) (j := 3) (by rfl) scLDrawnLevels.nd rfl rfl (by decide) rfl rfl (pa_cons (pe_callTy call_list_of (by rfl) T.z_list (by decide +kernel) (pa_cons (pv 1) pa_nil)) (pa_cons (pe_call (ok_roll T D1) hr1 (by rfl) D1.g D1.F.kp D1.b .nil pass0 (pa_cons (pv 0) (pa_cons pe_int pa_nil))) pa_nil)) (by rfl))
      (pss_cons (ps_if (pt_cmpR op_eq (pv 3) pe_int (nomark _)) (pss_cons (ps_setLc (i := 2) (own := [("_law_level", 7)]) (g := gName 7) (tt := tYes) (by rfl) scLDrawnLevels.nd rfl rfl (sw_true rfl rfl rfl (by decide +kernel)) (pi_list (pv 2))
        (blkOk_by (N := nLDrawnLevels) (sc := defScope sLDrawnLevels) (by decide +kernel)) (fun _ _ _ _ _ => (pg_name (i := 7) scLDrawnLevels.nd rfl (.inl rfl))) (fun _ _ _ _ _ => pts_nil)
        (fun _ _ _ _ _ => (pe_op op_sub (pe_call (ok_roll T D1) hr1 (by rfl) D1.g D1.F.kp D1.b .nil pass0 (pa_cons (pv 0) (pa_cons pe_int pa_nil))) pe_int)))
      (pss_cons (ps_asg (pe_op op_sub (pe_op op_add (pe_ix ix_list (pv 2) pe_int (fun _ _ => rfl)) (pe_callB (ST.cr_sumT rfl) (by rfl) T.z_sum (by decide +kernel) (pa_cons (pv 1) pa_nil))) (pe_callB (cr_sum rfl) (by rfl) T.z_sum (by decide +kernel) (pa_cons (pv 2) pa_nil))) (pg_sub (pv 2) pe_int set_list))
      (pss_one (ps_ret (pe_callTy call_tuple_of (by rfl) T.z_tuple (by decide +kernel) (pa_cons (pe_callB (cr_sortedI) (by rfl) T.z_sorted (by decide +kernel) (pa_cons (pv 2) pa_nil)) pa_nil)))))) pss_nil)
      (pss_cons (ps_for PassesOwn.never rfl (pi_range1 (by rfl) T.z_range (pa_cons (pe_op op_add pe_int (pe_call (ok_roll T D1) hr1 (by rfl) D1.g D1.F.kp D1.b .nil pass0 (pa_cons (pv 0) (pa_cons pe_int pa_nil)))) pa_nil)) (pg_name (i := 4) scLDrawnLevels.nd rfl (.inl rfl))
        (pss_cons (ps_asg (pe_callB (cr_sortedI) (by rfl) T.z_sorted (by decide +kernel) (pa_cons (pe_slice sl_list (pe_call (ok_mixed T D2) hr2 (by rfl) D2.g D2.F.kp D2.b .nil pass0 (pa_cons (pv 0) (pa_cons (pe_listRg rfl (by rfl) T.z_list (prg_1 (by rfl) T.z_range (pe_callB call_len_seq (by rfl) T.z_len PySem.boot_len (pa_cons (pv 2) pa_nil)))) pa_nil))) po_none (po_some pe_int)) pa_nil)) (pg_lst (by rfl) (pgs_cons (pg_name (i := 5) scLDrawnLevels.nd rfl (.inl rfl)) (pgs_cons (pg_name (i := 6) scLDrawnLevels.nd rfl (.inl rfl)) pgs_nil))))
      (pss_cons (ps_asg (pe_cut (pe_ifExp (pt_cmpR op_eq (pv 3) pe_int (nomark _)) (pe_tup (pa_cons (pe_op op_sub (pe_ix ix_list (pv 2) (pv 5) (fun _ _ => rfl)) pe_int) (pa_cons (pe_op op_add (pe_ix ix_list (pv 2) (pv 6) (fun _ _ => rfl)) pe_int) pa_nil))) (pe_tup (pa_cons (pe_op op_add (pe_ix ix_list (pv 2) (pv 5) (fun _ _ => rfl)) pe_int) (pa_cons (pe_op op_sub (pe_ix ix_list (pv 2) (pv 6) (fun _ _ => rfl)) pe_int) pa_nil))))) (pg_tup (by rfl) (pgs_cons (pg_sub (pv 2) (pv 5) set_list) (pgs_cons (pg_sub (pv 2) (pv 6) set_list) pgs_nil))))
      (pss_one (ps_set (i := 2) scLDrawnLevels.nd rfl (.inl rfl) (pe_callB (cr_sortedI) (by rfl) T.z_sorted (by decide +kernel) (pa_cons (pv 2) pa_nil)))))))
      (pss_one (ps_ret (pe_callTy call_tuple_of (by rfl) T.z_tuple (by decide +kernel) (pa_cons (pv 2) pa_nil)))))), ?_⟩
    refine ⟨_, rfl, a, _, rfl, .inr (SqT.of ha), fun l hl => ?_⟩
    have k0 : Keep d H (upd H l (.lst (ls.map V.int))) := Keep.new hl
    have hd0 := hd.upd (o := .lst (ls.map V.int)) (hd.ne_new hl)
    have ndl : d ≠ l := hd.ne_new hl
    have hl0 : (upd H l (.lst (ls.map V.int))) l = some (.lst (ls.map V.int)) := upd_same
    generalize upd H l (.lst (ls.map V.int)) = H0 at k0 hd0 hl0 ⊢
    refine ⟨_, rfl, d, _, rfl, hd0, by decide, by decide, fun way H1 w0 w1 hd1 k1 => ⟨_, _, rfl, ?_⟩⟩
    have hl1 := k1 _ _ ndl.symm hl0
    have ha1 := (k0.trans k1).tup hd ha
    refine ⟨_, rfl, rfl, _, rfl, ite2 (fun cc => ?_) (fun cc => ?_)⟩
    · have kl1 := k0.trans k1
      refine ⟨_, rfl, l, rfl, ⟨_, SqL.of hl1⟩, fun D2 hD2 => ?_⟩
      have nd2 : d ≠ D2 := hd1.ne_new hD2
      have hD0 : H D2 = none := kl1.free nd2.symm hD2
      refine lc_list (K := K) (a := l) (xs := ls.map V.int) (fun j H5 => ∃ js : List Int, H5 D2 = some (.lst (js.map V.int)) ∧ js.length = j ∧ (∀ e ∈ js, -2 ≤ e ∧ e ≤ 2) ∧ Dice H5 d ∧ Keep d H1 H5) ⟨[], upd_same, rfl, fun e he => absurd he (by simp), hd1.upd nd2, Keep.new hD2⟩ (fun j H5 _ hp5 => SqL.of (hp5.choose_spec.2.2.2.2 _ _ ndl.symm hl1)) (fun j x H5 hx hp5 => ?_) (fun H5 hp5 => ?_)
      · obtain ⟨js, v1, v2, v3, v4, v5⟩ := hp5
        have hj := (List.getElem?_eq_some_iff.mp hx).1
        rw [List.length_map] at hj
        refine ⟨rfl, ?_⟩
        dsimp only [tYes]
        rw [if_pos rfl]
        refine ⟨_, rfl, d, _, rfl, v4, by decide, by decide, fun r0 H6 r1 r2 hd6 k6 => ⟨_, _, rfl, rfl, _, k6 _ _ nd2.symm v1, by rw [List.length_map]; exact small1000 (by omega), js ++ [r0 - 2], ?_, ?_, fun e he => ?_, hd6.upd nd2, Keep.mut (v5.trans k6) hD2⟩⟩
        · rw [upd_same, List.map_append]
          rfl
        · rw [List.length_append, v2]
          rfl
        · rcases List.mem_append.mp he with m | m
          · exact v3 e m
          · rw [List.mem_singleton.mp m]
            omega
      · obtain ⟨js, v1, v2, v3, v4, v5⟩ := hp5
        rw [List.length_map] at v2
        have k15 := kl1.trans v5
        have ha5 := k15.tup hd ha
        have j0 : 0 < js.length := by omega
        refine ⟨_, rfl, D2, _, 0, V.int (js.getD 0 0), rfl, rfl, SqL.of v1, atI_nat (j := 0) (int_at j0), _, rfl, a, ls, rfl, SqT.of ha5, _, _, rfl, rfl, _, rfl, D2, js, rfl, SqL.of v1, _, _, rfl, rfl, ?_⟩
        refine ⟨_, rfl, D2, _, 0, 0, rfl, rfl, v1, ixN_at (by rw [List.length_map]; omega), ?_⟩
        have kf := Keep.mut (o := .lst ((js.map V.int).set 0 (V.int (js.getD 0 0 + ls.sum - js.sum)))) k15 hD0
        have hdf := v4.upd (o := .lst ((js.map V.int).set 0 (V.int (js.getD 0 0 + ls.sum - js.sum)))) nd2
        have gf : (upd H5 D2 (.lst ((js.map V.int).set 0 (V.int (js.getD 0 0 + ls.sum - js.sum))))) D2 = some (.lst ((js.set 0 (js.getD 0 0 + ls.sum - js.sum)).map V.int)) := by rw [upd_same, List.map_set]
        refine ⟨_, rfl, D2, _, rfl, SqL.of gf, fun fs p perm asc hp => ⟨p, _, rfl, .inl ⟨SqL.of upd_same, fun tp htp => ?_⟩⟩⟩
        have b1 := sum_bdB (B := 1000) hb
        have b2 := sum_bdB (B := 2) (ls := js) v3
        have b3 := v3 _ (get_mem j0)
        refine q tp fs _ upd_same (by rw [perm.length_eq, List.length_set, v2]) (by rw [sum_perm perm, sum_set0 j0]; omega) asc (fun e he => ?_) ((hdf.upd (hdf.ne_new hp)).upd ((hdf.upd (hdf.ne_new hp)).ne_new htp)) ((kf.trans (Keep.new hp)).trans (Keep.new htp))
        obtain ⟨t, ht, rfl⟩ := mem_get (perm.mem_iff.mp he)
        rw [List.length_set] at ht
        rw [getD_set1 j0]
        split
        · omega
        · have := v3 _ (get_mem ht)
          omega
    · refine ⟨_, rfl, d, _, rfl, hd1, by decide, by decide, fun r0 H2 r1 r2 hd2 k2 => ⟨_, _, rfl, rfl, _, rfl, by omega, by omega, ?_⟩⟩
      refine for_range (lo := 0) (n := (1 + r0).toNat) (fun i σ' H' => ∃ (l' : Addr) (fs : List Int) (y4 y5 y6 : Option V), σ' = [some (.ref d), some (.ref a), some (.ref l'), some (.int way), y4, y5, y6, none] ∧ H' l' = some (.lst (fs.map V.int)) ∧ H l' = none ∧ d ≠ l' ∧ fs.length = ls.length ∧ fs.sum = ls.sum ∧ fs.Pairwise (· ≤ ·) ∧ (∀ e ∈ fs, -(1000 + (i : Int)) ≤ e ∧ e ≤ 1000 + (i : Int)) ∧ Dice H' d ∧ Keep d H H') ⟨l, ls, none, none, none, rfl, k2 _ _ ndl.symm hl1, hl, ndl, rfl, rfl, srt, fun e he => by have := hb e he; constructor <;> omega, hd2, (k0.trans k1).trans k2⟩ (fun i σ' H' hi hW => ?_) (fun σ' H' hW => ?_)
      · obtain ⟨l', fs, y4, y5, y6, rfl, v1, v2, v3, v4, v5, v6, v7, v8, v9⟩ := hW
        have hi2 : i < 2 := by omega
        refine ⟨_, rfl, _, rfl, l', _, rfl, .inl (SqL.of v1), _, rfl, by rw [List.length_map]; exact RgOk.of_le (by omega) (by omega) (by omega) (by omega), fun l1 hl1' => ?_⟩
        have er : rgV 0 ((fs.map V.int).length : Int) = (((List.range fs.length).map fun (i : Nat) => (i : Int)).map V.int) := by
          unfold rgV
          rw [List.length_map, Int.sub_zero, Int.toNat_natCast, List.map_map]
          refine List.map_congr_left fun i _ => ?_
          show V.int (0 + (i : Int)) = V.int (i : Int)
          rw [Int.zero_add]
        rw [er]
        have x1 := Ex.new (o := .lst (((List.range fs.length).map fun (i : Nat) => (i : Int)).map V.int)) hl1'
        refine ⟨d, l1, (List.range fs.length).map fun (i : Nat) => (i : Int), rfl, v8.ex x1, upd_same, by rw [List.length_map, List.length_range]; omega, fun l2 ms H2' perm hl2 hd2' k2' => ?_⟩
        obtain ⟨u, v, r, rfl, nuv, hu, hv⟩ := perm_range perm (by omega)
        refine ⟨2, rfl, l2, _, rfl, SqL.of hl2, fun l3 hl3 => ?_⟩
        have x3 := Ex.new (o := .lst (cutV (((u : Int) :: (v : Int) :: r).map V.int) none (some 2))) hl3
        refine ⟨l3, [(u : Int), (v : Int)], rfl, SqL.of (by rw [upd_same, show (2 : Int) = ((2 : Nat) : Int) from rfl, cut_takeI (by show 2 ≤ r.length + 1 + 1; omega)]; rfl), fun zs l4 pz az hl4 => ?_⟩
        obtain ⟨i1, j1, rfl, hij, hcc⟩ := two_sorted pz az nuv
        have x4 := Ex.new (o := .lst ([(i1 : Int), (j1 : Int)].map V.int)) hl4
        have hi1 : i1 < fs.length := by omega
        have hj1 : j1 < fs.length := by omega
        have k13 : Keep d H' _ := ((Keep.ex x1).trans k2').trans (Keep.ex (x3.trans x4))
        have hd4 := hd2'.ex (x3.trans x4)
        refine ⟨l4, _, rfl, SqL.of upd_same, rfl, .int (i1 : Int), [_], rfl, .int (j1 : Int), [], rfl, rfl, ?_⟩
        show tSeq _ _ _ _ (upd (upd H2' l3 (.lst (cutV (((u : Int) :: (v : Int) :: r).map V.int) none (some 2)))) l4 (.lst ([(i1 : Int), (j1 : Int)].map V.int)))
        generalize upd (upd H2' l3 (.lst (cutV (((u : Int) :: (v : Int) :: r).map V.int) none (some 2)))) l4 (.lst ([(i1 : Int), (j1 : Int)].map V.int)) = H5 at k13 hd4 ⊢
        have g5 := k13 _ _ v3.symm v1
        have k15 := v9.trans k13
        refine ⟨fun v H6 => ∃ (tp : Addr) (x y : Int), v = .ref tp ∧ H6 tp = some (.tup [V.int x, V.int y]) ∧ Ex H5 H6 ∧ ((x = fs.getD i1 0 - 1 ∧ y = fs.getD j1 0 + 1) ∨ (x = fs.getD i1 0 + 1 ∧ y = fs.getD j1 0 - 1)), ?_, ?_⟩
        · refine ⟨_, rfl, rfl, _, rfl, ite2 (fun c1 => ?_) (fun c1 => ?_)⟩
          · refine ⟨_, rfl, _, rfl, l', _, (i1 : Int), .int (fs.getD i1 0), rfl, rfl, SqL.of g5, atI_nat (int_at hi1), _, _, rfl, rfl, ?_⟩
            refine ⟨_, rfl, _, rfl, l', _, (j1 : Int), .int (fs.getD j1 0), rfl, rfl, SqL.of g5, atI_nat (int_at hj1), _, _, rfl, rfl, by show 2 ≤ sizeLine; decide, fun tp htp => ?_⟩
            exact ⟨tp, _, _, rfl, upd_same, Ex.new htp, .inl ⟨rfl, rfl⟩⟩
          · refine ⟨_, rfl, _, rfl, l', _, (i1 : Int), .int (fs.getD i1 0), rfl, rfl, SqL.of g5, atI_nat (int_at hi1), _, _, rfl, rfl, ?_⟩
            refine ⟨_, rfl, _, rfl, l', _, (j1 : Int), .int (fs.getD j1 0), rfl, rfl, SqL.of g5, atI_nat (int_at hj1), _, _, rfl, rfl, by show 2 ≤ sizeLine; decide, fun tp htp => ?_⟩
            exact ⟨tp, _, _, rfl, upd_same, Ex.new htp, .inr ⟨rfl, rfl⟩⟩
        rintro vv H6 ⟨tp, x, y, rfl, htp, x6, hxy⟩
        have g6 := x6 _ _ g5
        have hd6 := hd4.ex x6
        have k16 := k15.trans (Keep.ex x6)
        refine ⟨tp, _, rfl, SqT.of htp, rfl, .int x, [_], rfl, ?_⟩
        refine ⟨_, rfl, _, rfl, l', _, (i1 : Int), i1, rfl, rfl, g6, ixN_at (by rw [List.length_map]; exact hi1), ?_⟩
        refine ⟨.int y, [], rfl, ?_⟩
        refine ⟨_, rfl, _, rfl, l', _, (j1 : Int), j1, rfl, rfl, upd_same, ixN_at (by rw [List.length_set, List.length_map]; exact hj1), rfl, ?_⟩
        have nij : ¬ j1 = i1 := by omega
        have gs : (fs.set i1 x).getD j1 0 = fs.getD j1 0 := by rw [getD_set1 hi1, if_neg nij]
        refine ⟨_, rfl, l', (fs.set i1 x).set j1 y, rfl, SqL.of (by rw [upd_same, List.map_set, List.map_set]), fun gs' p perm' asc hp' => ?_⟩
        have hd8 := ((hd6.upd (o := .lst ((fs.map V.int).set i1 (.int x))) v3).upd (o := .lst (((fs.map V.int).set i1 (.int x)).set j1 (.int y))) v3)
        have k8 := ((k16.mut (o := .lst ((fs.map V.int).set i1 (.int x))) v2).mut (o := .lst (((fs.map V.int).set i1 (.int x)).set j1 (.int y))) v2)
        have ndp := hd8.ne_new hp'
        refine ⟨p, gs', _, _, _, rfl, upd_same, k8.free ndp.symm hp', ndp, by rw [perm'.length_eq, List.length_set, List.length_set, v4], ?_, asc, fun e he => ?_, hd8.upd ndp, k8.trans (Keep.new hp')⟩
        · rw [sum_perm perm', sum_set0 (by rw [List.length_set]; exact hj1), sum_set0 hi1, gs]
          omega
        · obtain ⟨t, ht, rfl⟩ := mem_get (perm'.mem_iff.mp he)
          rw [List.length_set, List.length_set] at ht
          rw [getD_set1 (by rw [List.length_set]; exact hj1), getD_set1 hi1]
          have b1 := v7 _ (get_mem hi1)
          have b2 := v7 _ (get_mem hj1)
          have b3 := v7 _ (get_mem ht)
          split
          · omega
          · split
            · omega
            · omega
      · obtain ⟨l', fs, y4, y5, y6, rfl, v1, v2, v3, v4, v5, v6, v7, v8, v9⟩ := hW
        refine ⟨_, rfl, l', _, rfl, .inl ⟨SqL.of v1, fun tp htp => ?_⟩⟩
        exact q tp fs _ upd_same v4 v5 v6 (fun e he => by have := v7 e he; constructor <;> omega) (v8.upd (v8.ne_new htp)) (v9.trans (Keep.new htp))
end
end K1

set_option exponentiation.threshold 400
namespace K1
open PySem PySem.Spec PyProof.Rows L2 Evl HM LX ZW ZM DM DR TE
def sub (A B : List Nat) : Prop := ∀ c, hAt A c ≤ hAt B c
theorem hAt_step (k : Int) (B : List Nat) (q : Int) (c : Nat) : hAt (step k B q) c = hAt B c + b2n (gq B k q c) := hAt_grow gq_opn c
theorem rq_rmv {h : List Nat} {k q : Int} (c : Nat) (z : rq h k q c = true) : rmv h c = true := (Bool.and_eq_true_iff.mp z).1
theorem sub_ahead {k : Int} {A B : List Nat} (IA : IsHeap A) (IB : IsHeap B) {q : Int} (h : sub A (step k B q)) : sub (shr A (rq A k q)) B := fun c => by
  rw [hAt_shr IA rq_rmv]
  have h0 := h c
  rw [hAt_step] at h0
  by_cases le : hAt A c ≤ hAt B c
  · omega
  · have g : gq B k q c = true := by
      by_cases g : gq B k q c = true
      · exact g
      · exfalso
        unfold b2n at h0
        rw [if_neg g] at h0
        omega
    have e : hAt A c = hAt B c + 1 := by
      rw [g] at h0
      have : b2n true = 1 := rfl
      omega
    obtain ⟨g1, g2⟩ := Bool.and_eq_true_iff.mp g
    have r : rq A k q c = true := by
      unfold rq
      rw [show dg A c + 1 = dg B c by unfold dg; omega, g2, Bool.and_true]
      unfold rmv
      refine decide_eq_true ?_
      rcases Nat.lt_or_ge (hAt A (c + 1)) (hAt A c) with z | z
      · exact z
      · exfalso
        have h1 := h (c + 1)
        rw [hAt_step] at h1
        have bl := IB.le (show c ≤ c + 1 by omega)
        have b1 := b2n_le (gq B k q (c + 1))
        have g3 : gq B k q (c + 1) = true := by
          by_cases g3 : gq B k q (c + 1) = true
          · exact g3
          · exfalso
            unfold b2n at h1
            rw [if_neg g3] at h1
            omega
        have o := gq_opn _ g3
        unfold opn at o
        rw [decide_eq_false (show ¬ c + 1 = 0 by omega), Bool.false_or] at o
        have := of_decide_eq_true o
        rw [show c + 1 - 1 = c by omega] at this
        omega
    rw [r]
    show hAt A c - 1 ≤ _
    omega
theorem shr_none {h : List Nat} (IH : IsHeap h) {k q : Int} (no : ¬ ∃ c, rmv h c = true ∧ (dg h c + 1) % k = q) : shr h (rq h k q) = h := by
  refine heap_ext (shr_heap IH rq_rmv) IH fun c => ?_
  rw [hAt_shr IH rq_rmv]
  have : rq h k q c = false := by
    rw [Bool.eq_false_iff]
    intro z
    obtain ⟨z1, z2⟩ := Bool.and_eq_true_iff.mp z
    exact no ⟨c, z1, of_decide_eq_true z2⟩
  rw [this]
  rfl
theorem heap_bxh {n r : Nat} (h1 : 1 ≤ r) : IsHeap (bxh n r) := by
  refine ⟨fun c hc => ?_, fun c => ?_⟩
  · unfold bxh at hc
    rw [List.length_replicate] at hc
    rw [hAt_bxh, if_pos hc]
    omega
  · rw [hAt_bxh, hAt_bxh]
    split <;> split <;> omega
theorem heap_uni {a b : List Nat} (A : IsHeap a) (B : IsHeap b) : IsHeap (uni a b) := by
  have l : (uni a b).length = max a.length b.length := by unfold uni; rw [List.length_map, List.length_range]
  refine ⟨fun c hc => ?_, fun c => ?_⟩
  · rw [hAt_uni]
    rw [l] at hc
    by_cases q : c < a.length
    · have := A.pos c q
      omega
    · have := B.pos c (by omega)
      omega
  · rw [hAt_uni, hAt_uni]
    have := A.fall c
    have := B.fall c
    omega
theorem heap_core {ls : List Int} (hl : 1 ≤ ls.length) : ∀ m : Nat, (m : Int) ≤ -(ls.getD 0 0) - 1 + ls.getD (ls.length - 1) 0 → IsHeap (coreH ls (-(ls.getD (ls.length - 1) 0)) m)
  | 0, _ => IsHeap.nil
  | m + 1, hm => by
    have p := rows_ge (c := -(ls.getD (ls.length - 1) 0) + m) (get_mem (show 0 < ls.length by omega))
    exact heap_uni (heap_core hl m (by omega)) (heap_bxh (by omega))
theorem heap_coreL {ls : List Int} (hl : 1 ≤ ls.length) : IsHeap (coreL ls) := by
  unfold coreL
  rcases Int.lt_or_le (-(ls.getD 0 0) - 1 + ls.getD (ls.length - 1) 0) 0 with z | z
  · rw [show (-(ls.getD 0 0) - 1 + ls.getD (ls.length - 1) 0).toNat = 0 by omega]
    exact IsHeap.nil
  · exact heap_core hl _ (by omega)
/-- a core within the heap of some rings of its order has no more letters than rings -/
theorem lts_le_rings {rs : List (Int × Int)} {ps : List Int} {k : Nat} (hk : 2 ≤ k) : ∀ (g : Nat) {A : List Nat}, (∀ j, j < g → 2 ≤ (K1N.nAt rs j : Int) ∧ 1 ≤ K1N.sAt rs j) → (∀ j, j < g → 0 ≤ ps.getD j 0 ∧ ps.getD j 0 < (K1N.nAt rs j : Int)) → Eqo rs g k → IsHeap A → coreB A (k : Int) → sub A (hseq rs ps g) → lts A (k : Int) ≤ (g : Int)
  | 0, A, _, _, _, IA, _, h => by
    have e : A = [] := by
      refine heap_ext IA IsHeap.nil fun c => ?_
      have : hAt A c ≤ hAt ([] : List Nat) c := h c
      rw [hAt_ge (show ([] : List Nat).length ≤ c from Nat.zero_le c)] at this ⊢
      omega
    subst e
    exact Int.le_refl 0
  | g + 1, A, hr, hp, eq, IA, CA, h => by
    have ih : ∀ {B : List Nat}, IsHeap B → coreB B (k : Int) → sub B (hseq rs ps g) → lts B (k : Int) ≤ (g : Int) := fun IB CB hB => lts_le_rings hk g (fun j hj => hr j (by omega)) (fun j hj => hp j (by omega)) (fun j hj => eq j (by omega)) IB CB hB
    have I0 := (hseq_ok rs ps g).1
    obtain ⟨n2, s1⟩ := hr g (by omega)
    obtain ⟨p0, p1⟩ := hp g (by omega)
    have h' : sub A (grow (hseq rs ps g) (gl (hseq rs ps g) (K1N.nAt rs g) (K1N.sAt rs g) (ps.getD g 0))) := h
    have k0 : (0 : Int) < k := by omega
    by_cases ex : ∃ c, gl (hseq rs ps g) (K1N.nAt rs g) (K1N.sAt rs g) (ps.getD g 0) c = true
    · obtain ⟨c, hc⟩ := ex
      obtain ⟨_, hd⟩ := Bool.and_eq_true_iff.mp hc
      have hd := of_decide_eq_true hd
      have q0 := Int.emod_nonneg (dg (hseq rs ps g) c) (show (k : Int) ≠ 0 by omega)
      have q1 := Int.emod_lt_of_pos (dg (hseq rs ps g) c) k0
      have z := ord_mul (n := K1N.nAt rs g) (s := K1N.sAt rs g) (by omega) (by omega)
      rw [eq g (by omega)] at z
      have e : ps.getD g 0 = dg (hseq rs ps g) c % k * K1N.sAt rs g % (K1N.nAt rs g : Int) := by
        obtain ⟨a, ha⟩ := Int.dvd_of_emod_eq_zero z
        obtain ⟨b, hb⟩ := Int.dvd_of_emod_eq_zero hd
        have dm := Int.mul_ediv_add_emod (dg (hseq rs ps g) c) k
        have e1 : dg (hseq rs ps g) c % k * K1N.sAt rs g = ps.getD g 0 + (K1N.nAt rs g : Int) * (b - a * (dg (hseq rs ps g) c / k)) := by
          have e2 : dg (hseq rs ps g) c % k = dg (hseq rs ps g) c - (k : Int) * (dg (hseq rs ps g) c / k) := by omega
          rw [e2, Int.sub_mul, Int.mul_sub, Int.mul_right_comm, ha, Int.mul_assoc]
          omega
        rw [e1, Int.add_mul_emod_self_left, Int.emod_eq_of_lt p0 p1]
      rw [e, ring_letter n2 s1 (by rw [Int.toNat_natCast]; exact eq g (by omega)) hk q0 q1] at h'
      have sb := sub_ahead IA I0 h'
      by_cases tip : ∃ c', rmv A c' = true ∧ (dg A c' + 1) % (k : Int) = dg (hseq rs ps g) c % k
      · obtain ⟨_, _, I2, C2, _, _, le, _⟩ := tip_step (show (2 : Int) ≤ k by omega) IA CA tip
        have := ih I2 C2 sb
        omega
      · rw [shr_none IA tip] at sb
        have := ih IA CA sb
        omega
    · rw [grow_none fun c => Bool.eq_false_iff.mpr fun z => ex ⟨c, z⟩] at h'
      have := ih IA CA h'
      omega
/-- levels of a class are no further apart than it has rings -/
theorem lvs_near {rs : List (Int × Int)} {ps : List Int} {tot : Int} {k : Nat} {ls : List Int} (hk : 2 ≤ k) (L : Lvs rs ps tot k ls) (ok : RsOk rs ps.length) (pl : PlOk rs ps) (eq : Eqo rs ps.length k) : distL ls ≤ (ps.length : Int) := by
  have l1 : 1 ≤ ls.length := by rw [L.len]; omega
  have IC := heap_coreL l1
  rw [← core_lts L.asc l1 IC, L.len]
  refine lts_le_rings hk _ (fun j hj => by have := ok j hj; omega) (fun j hj => pl j hj) eq IC (by have := core_core L.asc l1; rw [L.len] at this; exact this) ?_
  refine (core_rich1 (tot := tot) L.asc l1 (by rw [L.sum ok eq hk, L.len])).mpr fun c => ?_
  rw [L.tell ok pl eq hk, L.len]
  exact Int.le_refl _
end K1

set_option exponentiation.threshold 400
namespace K1
open PySem PySem.Spec PyProof.Rows L2 Evl HM LX ZW ZM MP DM DR DK TE
theorem cx_mod {rs : List (Int × Int)} {t u : Nat → Int} (h : ∀ i, i < rs.length → (t i - (i : Int) * K1N.sAt rs i) % (K1N.nAt rs i : Int) = (u i - (i : Int) * K1N.sAt rs i) % (K1N.nAt rs i : Int)) : cx rs t = cx rs u := by
  unfold cx
  exact List.map_congr_left fun i hi => h i (List.mem_range.mp hi)
theorem more_cl {rs : List (Int × Int)} {ds us : Dl} {k n : Nat} {a b c : Int} (hn : n = rs.length) (ok : RsOk rs rs.length) (eq : Eqo rs rs.length k) (ha : a = c * k)
    (h : ∀ f, Nl rs f → Sf f us = Sf f ds + 1 * (a * f (0, K1N.sAt rs 0) + b * f ((n : Int) - 1, 0))) : Sf one us = Sf one ds + a + b ∧ (cx rs fun i => Sf (tau rs i) us) = cx rs fun i => Sf (tau rs i) ds := by
  constructor
  · rw [h _ (nl_one rs)]
    show _ + 1 * (a * 1 + b * 1) = _
    omega
  · refine cx_mod fun i hi => ?_
    rw [h _ (nl_tau rs i), tau_right hn hi, tau_left, Int.mul_zero, Int.add_zero, Int.one_mul]
    obtain ⟨o1, o2⟩ := ok i hi
    have z := ord_mul (n := K1N.nAt rs i) (s := K1N.sAt rs i) (by omega) (by omega)
    rw [eq i hi] at z
    obtain ⟨q, hq⟩ := Int.dvd_of_emod_eq_zero z
    rw [ha, Int.mul_assoc, hq, Int.mul_left_comm, show Sf (tau rs i) ds + (K1N.nAt rs i : Int) * (c * q) - (i : Int) * K1N.sAt rs i = (Sf (tau rs i) ds - (i : Int) * K1N.sAt rs i) + (K1N.nAt rs i : Int) * (c * q) by omega]
    exact Int.add_mul_emod_self_left _ _ _
section
variable {P : Program} {w : World} {K : PySem.W.Frag} {mg : Str → Option Value} {base : Heap}
def spClassRight : Sp := fun vs H Q _ => ∃ d c x p xs rs ps, ∃ (tot : Int) (k : Nat) (ls : List Int), vs = [.ref d, .ref c, .int tot, .ref x, .ref p] ∧ Dice H d ∧ ClsAt H c x xs rs ps tot ∧ tot.natAbs ≤ 100 ∧ Eqo rs xs.length k ∧ H p = some (.tup (ls.map V.int)) ∧ Lvs rs ps tot k ls ∧ ∀ H', Dice H' d → Keep d H H' → Q (.bl true) H'
theorem ok_class_right (T : Txt K mg) {f : Addr} {fd : FuncData} (D : DefAt K mg "_law_class_right" sLClassRight ["_law_dice_here", "_law_chain", "_law_total", "_law_x", "_law_own"] f fd) : FnOk P w K mg base CX0 10 f fd ["_law_dice_here", "_law_chain", "_law_total", "_law_x", "_law_own"] spClassRight := by
  refine D.F.ok scLClassRight (fun vs H Q E h => ?_) (fun cdv A outer s₀ H vs Q E hr h => ?_)
  · obtain ⟨d, c, x, p, xs, rs, ps, tot, k, ls, rfl, _⟩ := h
    rfl
  · obtain ⟨d, c, x, p, xs, rs, ps, tot, k, ls, rfl, hd, C, ht, eq, hp, L, q⟩ := h
    obtain ⟨f1, fd1, D1⟩ := T.d_has_levels
    obtain ⟨f2, fd2, D2⟩ := T.d_distance
    obtain ⟨f3, fd3, D3⟩ := T.d_l_distance
    obtain ⟨f4, fd4, D4⟩ := T.d_l_roll
    obtain ⟨f5, fd5, D5⟩ := T.d_l_rich
    obtain ⟨f6, fd6, D6⟩ := T.d_l_heap
    obtain ⟨f7, fd7, D7⟩ := T.d_richness
    obtain ⟨f8, fd8, D8⟩ := T.d_added
    obtain ⟨f9, fd9, D9⟩ := T.d_level_richness
    obtain ⟨f10, fd10, D10⟩ := T.d_at_ends
    obtain ⟨f11, fd11, D11⟩ := T.d_l_sum_of
    obtain ⟨f12, fd12, D12⟩ := T.d_levels_of
    obtain ⟨f13, fd13, D13⟩ := T.d_l_plain
    have hr1 : Room 1 _ := hr.mono (by decide)
    have hr2 : Room 2 _ := hr.mono (by decide)
    have hr6 : Room 6 _ := hr.mono (by decide)
    have hr7 : Room 7 _ := hr.mono (by decide)
    have hr9 : Room 9 _ := hr.mono (by decide)
    refine ⟨_, pss_cons (ps_par (i := 5) (j := 6) (by rfl) scLClassRight.nd rfl rfl (by decide) rfl rfl (pa_cons (pe_callB call_len_seq (by rfl) T.z_len PySem.boot_len (pa_cons (pv 4) pa_nil)) (pa_cons (pe_call (ok_plain T D13) hr1 (by rfl) D13.g D13.F.kp D13.b .nil pass0 (pa_cons (pv 1) (pa_cons (pv 2) (pa_cons (pv 3) pa_nil)))) pa_nil)) (by rfl))
      (pss_cons (ps_if (PW.pt (pw_or (pt_cmpR (op_neD hr.units) (pe_call (ok_levels_of T D12) hr9 (by rfl) D12.g D12.F.kp D12.b .nil pass0 (pa_cons (pv 1) (pa_cons (pv 6) pa_nil))) (pv 4) (nomark _))
          (pw_or1 (pt_cmpR op_ne (pe_callB (ST.cr_sumT rfl) (by rfl) T.z_sum (by decide +kernel) (pa_cons (pv 4) pa_nil)) (pe_op op_sub (pe_op op_sub (pe_op op_add (pv 2) pe_int) (pe_callB call_len_seq (by rfl) T.z_len PySem.boot_len (pa_cons (pv 1) pa_nil))) (pv 5)) (nomark _))))) (pss_one (ps_ret pe_bl)) pss_nil)
      (pss_cons (ps_for PassesOwn.never rfl (pi_tup (pe_tup (pa_cons pe_int (pa_cons (pe_op op_sub (pe_call (ok_roll T D4) hr1 (by rfl) D4.g D4.F.kp D4.b .nil pass0 (pa_cons (pv 0) (pa_cons pe_int pa_nil))) pe_int) (pa_cons (pe_op op_sub (pe_call (ok_roll T D4) hr1 (by rfl) D4.g D4.F.kp D4.b .nil pass0 (pa_cons (pv 0) (pa_cons pe_int pa_nil))) pe_int) pa_nil))))) (pg_name (i := 7) scLClassRight.nd rfl (.inl rfl))
        (pss_cons (ps_set (i := 8) scLClassRight.nd rfl (.inl rfl) (pe_op op_sub (pe_call (ok_sum_of T D11) hr1 (by rfl) D11.g D11.F.kp D11.b .nil pass0 (pa_cons (pv 4) (pa_cons (pv 7) pa_nil))) pe_int))
      (pss_cons (ps_set (i := 9) scLClassRight.nd rfl (.inl rfl) (pe_cut (pe_ifExp (pt_cmpR op_eq (pe_call (ok_roll T D4) hr1 (by rfl) D4.g D4.F.kp D4.b .nil pass0 (pa_cons (pv 0) (pa_cons pe_int pa_nil))) pe_int (nomark _)) (pe_call (ok_at_ends T D10) hr6 (by rfl) D10.g D10.F.kp D10.b .nil pass0 (pa_cons (pv 1) (pa_cons (pe_op op_mul (pv 7) (pv 5)) (pa_cons pe_int pa_nil)))) (pe_call (ok_at_ends T D10) hr6 (by rfl) D10.g D10.F.kp D10.b .nil pass0 (pa_cons (pv 1) (pa_cons pe_int (pa_cons (pe_op op_mul (pv 7) (pv 5)) pa_nil)))))))
      (pss_cons (ps_if (PW.pt (pw_or (pt_cmpR op_ne (pe_call (ok_level_richness T D9) hr7 (by rfl) D9.g D9.F.kp D9.b .nil pass0 (pa_cons (pv 4) (pa_cons (pv 7) pa_nil))) (pv 8) (nomark _))
          (pw_or1 (pt_cmpR op_ne (pe_call (ok_richness T D7) hr7 (by rfl) D7.g D7.F.kp D7.b .nil pass0 (pa_cons (pv 1) (pa_cons (pe_call (ok_added T D8) hr7 (by rfl) D8.g D8.F.kp D8.b .nil pass0 (pa_cons (pv 1) (pa_cons (pv 6) (pa_cons (pv 9) pa_nil)))) pa_nil))) (pv 8) (nomark _))))) (pss_one (ps_ret pe_bl)) pss_nil)
      (pss_one (ps_if (pt_cmpR op_ne (pe_call (ok_rich T D5) hr1 (by rfl) D5.g D5.F.kp D5.b .nil pass0 (pa_cons (pe_call (ok_lheap T D6) hr2 (by rfl) D6.g D6.F.kp D6.b .nil pass0 (pa_cons (pv 1) (pa_cons (pv 3) pa_nil))) (pa_cons (pe_callB call_len_seq (by rfl) T.z_len PySem.boot_len (pa_cons (pv 1) pa_nil)) (pa_cons (pe_op op_add (pv 2) (pe_op op_mul (pv 7) (pv 5))) pa_nil)))) (pv 8) (nomark _)) (pss_one (ps_ret pe_bl)) pss_nil))))))
      (pss_one (ps_ret (pe_and (pe_cmpR op_eq (pe_call (ok_distance T D2) hr7 (by rfl) D2.g D2.F.kp D2.b .nil pass0 (pa_cons (pv 4) pa_nil)) (pe_call (ok_ldistance T D3) hr1 (by rfl) D3.g D3.F.kp D3.b .nil pass0 (pa_cons (pv 4) pa_nil)) (nomark _)) (pe_and (pe_cmpR op_le (pe_call (ok_distance T D2) hr7 (by rfl) D2.g D2.F.kp D2.b .nil pass0 (pa_cons (pv 4) pa_nil)) (pe_callB call_len_seq (by rfl) T.z_len PySem.boot_len (pa_cons (pv 1) pa_nil)) (nomark _)) (pe_one (pe_call (ok_has_levels T D1) hr9 (by rfl) D1.g D1.F.kp D1.b .nil pass0 (pa_cons (pv 1) (pa_cons (pv 4) (pa_cons (pe_tup (pa_cons (pv 2) (pa_cons (pv 3) pa_nil))) pa_nil))))))))))), ?_⟩
    obtain ⟨hk2, hk60⟩ := eqo_k C.hR C.l1 eq
    have l1 := C.l1
    have l2 := C.l2
    have hlen : xs.length = rs.length := paired_len C.hR
    have hpl := C.len
    have pl := C.pl
    have rsok := C.ok
    have eqp : Eqo rs ps.length k := by rw [hpl]; exact eq
    have sh := L.short (by omega) hk60 (by omega) (by omega)
    have lsl := L.len
    have lab := L.abs (by omega)
    refine ⟨_, rfl, p, _, rfl, .inr (SqT.of hp), _, rfl, _, rfl, _, rfl, c, x, xs, rs, ps, tot, rfl, C.hc, C.hR, ⟨by omega, by omega⟩, C.hx, hpl, pl, by omega, fun dl H1 res e1 hr0 hdl dok lres hS => ⟨_, _, rfl, ?_⟩⟩
    rw [List.length_map, lsl]
    have hp1 := e1 _ _ hp
    have C1 := C.ex e1
    have ndl : dl ≠ d := fun z => by
      subst z
      obtain ⟨_, _, _, hz⟩ := hd
      rw [hz] at hr0
      cases hr0
    obtain ⟨t1, t2⟩ := plain_cl (tot := tot) (n := xs.length) hlen (by omega) pl (fun f _ => hS f)
    refine ⟨_, rfl, _, rfl, c, dl, xs, rs, res, _, k, rfl, C1.hc, C1.hR, ⟨l1, l2⟩, hdl, dok, by decide, eq, fun p2 ms H2 e2 hp2 L2 => ⟨_, rfl, ?_⟩⟩
    rw [t1, t2] at L2
    obtain rfl := L2.uniq L
    refine neT0 hp2 (e2 _ _ hp1) ⟨_, rfl, iteF' rfl ?_⟩
    have x2 := e1.trans e2
    have hp2' := x2 _ _ hp
    have C2 := C.ex x2
    have hd2 := hd.ex x2
    refine ⟨_, rfl, p, ms, rfl, SqT.of hp2', _, rfl, _, _, rfl, rfl, _, rfl, c, _, rfl, .inr (SqT.of C2.hc), _, _, rfl, rfl, _, rfl, _, _, rfl, rfl, rfl, _, rfl, iteF' (by rw [L.sum rsok eqp hk2, hpl, decide_eq_true rfl]; rfl) ?_⟩
    refine ⟨_, rfl, d, _, rfl, hd2, by decide, by decide, fun r1 H3 r10 r11 hd3 k3 => ⟨_, _, rfl, rfl, _, rfl, d, _, rfl, hd3, by decide, by decide, fun r2 H4 r20 r21 hd4 k4 => ⟨_, _, rfl, rfl, by show 3 ≤ sizeLine; decide, fun tp htp => ?_⟩⟩⟩
    have xt := Ex.new (o := .tup [V.int 0, V.int (r1 - 3), V.int (r2 - 3)]) htp
    have htp5 : (upd H4 tp (.tup [V.int 0, V.int (r1 - 3), V.int (r2 - 3)])) tp = some (.tup [V.int 0, V.int (r1 - 3), V.int (r2 - 3)]) := upd_same
    have hd5 := hd4.ex xt
    have k05 : Keep d H _ := ((Keep.ex x2).trans k3).trans (k4.trans (Keep.ex xt))
    have hdl5 := (k3.trans (k4.trans (Keep.ex xt))).deal hd2 (show DealAt H2 dl res from e2 _ _ hdl)
    have k25 := k3.trans (k4.trans (Keep.ex xt))
    generalize upd H4 tp (.tup [V.int 0, V.int (r1 - 3), V.int (r2 - 3)]) = H5 at xt htp5 hd5 k05 hdl5 k25 ⊢
    have C5 : ClsAt H5 c x xs rs ps tot := ⟨k25.tup hd2 C2.hc, C2.hR.keep k25 hd2, l1, l2, k25.tup hd2 C2.hx, hpl, pl, C.ht⟩
    have hp5 := k25.tup hd2 hp2'
    refine ⟨tp, rfl, ⟨_, SqT.of htp5⟩, ?_⟩
    refine for_tup (K := K) (a := tp) (xs := [V.int 0, V.int (r1 - 3), V.int (r2 - 3)]) (fun i σ' H' => ∃ (y7 y8 y9 : Option V), σ' = [some (.ref d), some (.ref c), some (.int tot), some (.ref x), some (.ref p), some (.int (k : Int)), some (.ref dl), y7, y8, y9] ∧ Dice H' d ∧ Keep d H5 H') ⟨none, none, none, rfl, hd5, Keep.refl _ _⟩ (fun i σ' H' _ hW => ?_) (fun i v σ' H' hv hW => ?_) (fun σ' H' hW => ?_)
    · obtain ⟨_, _, _, _, hd', k'⟩ := hW
      exact SqT.of (k'.tup hd5 htp5)
    · obtain ⟨y7, y8, y9, rfl, hd', k'⟩ := hW
      have hv := List.mem_of_getElem? hv
      obtain ⟨cc, rfl, cb⟩ : ∃ cc : Int, v = .int cc ∧ -3 ≤ cc ∧ cc ≤ 3 := by
        simp only [List.mem_cons, List.not_mem_nil, or_false] at hv
        rcases hv with rfl | rfl | rfl <;> exact ⟨_, rfl, by omega, by omega⟩
      have C6 : ClsAt H' c x xs rs ps tot := ⟨k'.tup hd5 C5.hc, C5.hR.keep k' hd5, l1, l2, k'.tup hd5 C5.hx, hpl, pl, C.ht⟩
      have hp6 := k'.tup hd5 hp5
      have hdl6 := k'.deal hd5 hdl5
      refine ⟨_, rfl, _, rfl, p, ms, cc, rfl, hp6, by omega, fun H7 e7 => ⟨_, _, rfl, rfl, ?_⟩⟩
      have hd7 := hd'.ex e7
      have C7 := C6.ex e7
      have hp7 := e7 _ _ hp6
      have hdl7 : DealAt H7 dl res := e7 _ _ hdl6
      have kb : ((cc * (k : Int)).natAbs : Int) ≤ 180 := by
        have : cc = -3 ∨ cc = -2 ∨ cc = -1 ∨ cc = 0 ∨ cc = 1 ∨ cc = 2 ∨ cc = 3 := by omega
        rcases this with rfl | rfl | rfl | rfl | rfl | rfl | rfl <;> omega
      refine ⟨fun v H8 => ∃ (r : Addr) (es : Dl) (a b c' : Int), v = .ref r ∧ DealAt H8 r es ∧ DOk rs es (10 ^ 46) ∧ es.length ≤ 2 ∧ a = c' * (k : Int) ∧ a + b = cc * (k : Int) ∧ (∀ f, Nl rs f → Sf f es = a * f (0, K1N.sAt rs 0) + b * f ((xs.length : Int) - 1, 0)) ∧ Dice H8 d ∧ Keep d H7 H8, ?_, ?_⟩
      · refine ⟨_, rfl, d, _, rfl, hd7, by decide, by decide, fun r0 H8 _ _ hd8 k8 => ?_⟩
        have C8 : ClsAt H8 c x xs rs ps tot := ⟨k8.tup hd7 C7.hc, C7.hR.keep k8 hd7, l1, l2, k8.tup hd7 C7.hx, hpl, pl, C.ht⟩
        refine ⟨rfl, _, rfl, ite2 (fun c1 => ?_) (fun c1 => ?_)⟩
        · refine ⟨_, rfl, _, rfl, _, rfl, _, _, rfl, rfl, .inl ⟨by omega, by omega⟩, c, xs, rs, _, _, rfl, C8.hc, C8.hR, ⟨l1, l2⟩, by omega, by decide, fun r H9 es e9 hr9 dok9 l9 hS9 => ?_⟩
          exact ⟨r, es, _, _, cc, rfl, hr9, dok9.mono (by decide), l9, rfl, by omega, hS9, hd8.ex e9, k8.trans (Keep.ex e9)⟩
        · refine ⟨_, rfl, _, rfl, _, rfl, _, _, rfl, rfl, .inl ⟨by omega, by omega⟩, c, xs, rs, _, _, rfl, C8.hc, C8.hR, ⟨l1, l2⟩, by decide, by omega, fun r H9 es e9 hr9 dok9 l9 hS9 => ?_⟩
          exact ⟨r, es, _, _, 0, rfl, hr9, dok9.mono (by decide), l9, by omega, by omega, hS9, hd8.ex e9, k8.trans (Keep.ex e9)⟩
      rintro v H8 ⟨r, es, a, b, c', rfl, hr8, dok8, l8, ea, eab, hS8, hd8, k8⟩
      have C8 : ClsAt H8 c x xs rs ps tot := ⟨k8.tup hd7 C7.hc, C7.hR.keep k8 hd7, l1, l2, k8.tup hd7 C7.hx, hpl, pl, C.ht⟩
      have hp8 := k8.tup hd7 hp7
      have hdl8 := k8.deal hd7 hdl7
      refine ⟨_, rfl, _, rfl, p, ms, cc, rfl, hp8, by omega, by omega, sh, L.asc, by omega, by omega, fun H9 e9 => ?_⟩
      refine ⟨_, rfl, rfl, _, rfl, iteF' (by rw [decide_eq_true rfl]; rfl) ?_⟩
      have C9 := C8.ex e9
      refine ⟨_, rfl, _, rfl, _, rfl, _, rfl, c, dl, r, xs, rs, res, es, 10 ^ 46, rfl, C9.hc, C9.hR, ⟨l1, l2⟩, e9 _ _ hdl8, e9 _ _ hr8, dok, dok8, by decide, by omega, fun ur H10 us e10 hur udok ul husS => ?_⟩
      have C10 := C9.ex e10
      obtain ⟨ma, mb⟩ := more_cl (us := us) (ds := res) (b := b) hlen (by rw [← hlen, ← hpl]; exact rsok) (by rw [← hlen]; exact eq) ea (fun f hf => by rw [husS f hf, hS8 f hf])
      refine ⟨c, ur, xs, rs, us, rfl, C10.hc, C10.hR, ⟨l1, l2⟩, hur, udok.mono (by decide), fun H11 e11 => ?_⟩
      rw [mb, ma, t1, t2, show tot + a + b = tot + cc * (k : Int) by omega]
      have te := L.tell rsok pl eqp hk2 cc
      refine ⟨_, rfl, rfl, _, rfl, iteF' (by rw [te, decide_eq_true rfl]; rfl) ?_⟩
      have C11 := C10.ex e11
      refine ⟨_, rfl, _, rfl, c, x, xs, rs, ps, rfl, C11.hc, C11.hR, l2, C11.hx, hpl, fun hb H12 e12 hhb => ?_⟩
      have C12 := C11.ex e12
      refine ⟨_, rfl, c, _, rfl, .inr (SqT.of C12.hc), _, rfl, _, rfl, _, rfl, _, _, rfl, rfl, .inl ⟨by omega, by omega⟩, _, _, rfl, rfl, hb, rs, ps, tot + cc * (k : Int), by rw [hpl]; rfl, by omega, by rw [hpl]; exact hhb, fun H13 e13 => ?_⟩
      refine ⟨_, rfl, rfl, _, rfl, iteF' (by rw [te, decide_eq_true rfl]; rfl) ?_⟩
      have e713 := ((e9.trans e10).trans e11).trans (e12.trans e13)
      exact ⟨_, _, _, rfl, hd8.ex e713, ((k'.trans (Keep.ex e7)).trans k8).trans (Keep.ex e713)⟩
    · obtain ⟨y7, y8, y9, rfl, hd', k'⟩ := hW
      have C6 : ClsAt H' c x xs rs ps tot := ⟨k'.tup hd5 C5.hc, C5.hR.keep k' hd5, l1, l2, k'.tup hd5 C5.hx, hpl, pl, C.ht⟩
      have hp6 := k'.tup hd5 hp5
      refine ⟨_, rfl, p, ms, rfl, hp6, by omega, by omega, sh, L.asc, fun H7 e7 => ?_⟩
      refine ⟨_, rfl, p, ms, rfl, e7 _ _ hp6, by omega, by omega, sh, L.asc, fun H8 e8 => ⟨rfl, ?_⟩⟩
      refine ⟨_, rfl, iteT9 (decide_eq_true rfl) ?_⟩
      have x8 := e7.trans e8
      refine ⟨_, rfl, p, ms, rfl, x8 _ _ hp6, by omega, by omega, sh, L.asc, fun H9 e9 => ?_⟩
      have C9 := C6.ex (x8.trans e9)
      have hp9 := (x8.trans e9) _ _ hp6
      have near := lvs_near hk2 L rsok pl eqp
      refine ⟨_, rfl, c, _, rfl, .inr (SqT.of C9.hc), _, _, rfl, rfl, _, rfl, iteT9 (decide_eq_true (by omega)) ?_⟩
      refine ⟨_, rfl, _, rfl, _, rfl, _, rfl, by show 2 ≤ sizeLine; decide, fun t ht9 => ?_⟩
      have xt9 := Ex.new (o := .tup [V.int tot, V.ref x]) ht9
      have C10 := C9.ex xt9
      refine ⟨c, p, t, x, xs, rs, ms, ps, tot, rfl, C10.hc, C10.hR, ⟨l1, l2⟩, by rw [lsl]; exact eq, xt9 _ _ hp9, by omega, by omega, sh, L.asc, upd_same, C10.hx, hpl, pl, by omega, fun ms' H' e' L' => ?_⟩
      rw [lsl] at L'
      rw [decide_eq_true (L'.uniq L)]
      have xf := ((x8.trans e9).trans xt9).trans e'
      exact q _ (hd'.ex xf) ((k05.trans k').trans (Keep.ex xf))
end
end K1

set_option exponentiation.threshold 400
namespace K1
open PySem PySem.Spec PyProof.Rows L2 Evl HM LX ZW ZM MP DM DR DK TE
theorem bl_ne {a b : Bool} (h : a = b) : (!decide (V.bl a = V.bl b)) = false := by
  subst h
  rw [decide_eq_true rfl]
  rfl
section
variable {P : Program} {w : World} {K : PySem.W.Frag} {mg : Str → Option Value} {base : Heap}
def spOtherRight : Sp := fun vs H Q _ => ∃ c x p o xs rs ps, ∃ (tot : Int) (k : Nat) (ls os : List Int), vs = [.ref c, .ref x, .ref p, .ref o] ∧ ClsAt H c x xs rs ps tot ∧ tot.natAbs ≤ 100 ∧ Eqo rs xs.length k ∧ H p = some (.tup (ls.map V.int)) ∧ Lvs rs ps tot k ls ∧
  H o = some (.tup (os.map V.int)) ∧ os.length = ls.length ∧ os.sum = ls.sum ∧ os.Pairwise (· ≤ ·) ∧ (∀ e ∈ os, -100000 ≤ e ∧ e ≤ 100000) ∧ ∀ H', Ex H H' → Q (.bl true) H'
theorem ok_other_right (T : Txt K mg) {f : Addr} {fd : FuncData} (D : DefAt K mg "_law_other_right" sLOtherRight ["_law_chain", "_law_x", "_law_own", "_law_other"] f fd) : FnOk P w K mg base CX0 10 f fd ["_law_chain", "_law_x", "_law_own", "_law_other"] spOtherRight := by
  refine D.F.ok scLOtherRight (fun vs H Q E h => ?_) (fun cdv A outer s₀ H vs Q E hr h => ?_)
  · obtain ⟨c, x, p, o, xs, rs, ps, tot, k, ls, os, rfl, _⟩ := h
    rfl
  · obtain ⟨c, x, p, o, xs, rs, ps, tot, k, ls, os, rfl, C, ht, eq, hp, L, ho, lo, so, srt, hb, q⟩ := h
    obtain ⟨f1, fd1, D1⟩ := T.d_is_held
    obtain ⟨f2, fd2, D2⟩ := T.d_l_heap
    obtain ⟨f3, fd3, D3⟩ := T.d_l_is_above
    obtain ⟨f4, fd4, D4⟩ := T.d_letters_of
    obtain ⟨f5, fd5, D5⟩ := T.d_is_core
    obtain ⟨f6, fd6, D6⟩ := T.d_core_of_levels
    obtain ⟨f7, fd7, D7⟩ := T.d_l_levels
    obtain ⟨f8, fd8, D8⟩ := T.d_has_levels
    obtain ⟨f9, fd9, D9⟩ := T.d_class_with_levels
    obtain ⟨f10, fd10, D10⟩ := T.d_are_above
    obtain ⟨f11, fd11, D11⟩ := T.d_can_be_met
    obtain ⟨f12, fd12, D12⟩ := T.d_distance
    obtain ⟨f13, fd13, D13⟩ := T.d_l_distance
    have hr1 : Room 1 _ := hr.mono (by decide)
    have hr2 : Room 2 _ := hr.mono (by decide)
    have hr3 : Room 3 _ := hr.mono (by decide)
    have hr5 : Room 5 _ := hr.mono (by decide)
    have hr6 : Room 6 _ := hr.mono (by decide)
    have hr7 : Room 7 _ := hr.mono (by decide)
    have hr8 : Room 8 _ := hr.mono (by decide)
    have hr9 : Room 9 _ := hr.mono (by decide)
    refine ⟨_, pss_cons (ps_par3 (i := 4) (j := 5) (l := 6) (by rfl) scLOtherRight.nd rfl rfl rfl (by decide) (by decide) (by decide) rfl rfl rfl (pa_cons (pe_callB call_len_seq (by rfl) T.z_len PySem.boot_len (pa_cons (pv 0) pa_nil)) (pa_cons (pe_callB call_len_seq (by rfl) T.z_len PySem.boot_len (pa_cons (pv 2) pa_nil)) (pa_cons (pe_call (ok_ldistance T D13) hr1 (by rfl) D13.g D13.F.kp D13.b .nil pass0 (pa_cons (pv 3) pa_nil)) pa_nil))) (by rfl))
      (pss_cons (ps_if (PW.pt (pw_or (pt_cmpR op_ne (pe_call (ok_distance T D12) hr7 (by rfl) D12.g D12.F.kp D12.b .nil pass0 (pa_cons (pv 3) pa_nil)) (pv 6) (nomark _))
          (pw_or1 (pt_cmpR op_ne (pe_call (ok_can_be_met T D11) hr7 (by rfl) D11.g D11.F.kp D11.b .nil pass0 (pa_cons (pv 4) (pa_cons (pv 3) pa_nil))) (pe_cmpR op_le (pv 6) (pv 4) (nomark _)) (nomark _))))) (pss_one (ps_ret pe_bl)) pss_nil)
      (pss_cons (ps_if (PW.pt (pw_or (pt_cmpR op_ne (pe_call (ok_are_above T D10) hr8 (by rfl) D10.g D10.F.kp D10.b .nil pass0 (pa_cons (pv 2) (pa_cons (pv 3) pa_nil))) (pe_call (ok_is_above T D3) hr1 (by rfl) D3.g D3.F.kp D3.b .nil pass0 (pa_cons (pv 2) (pa_cons (pv 3) pa_nil))) (nomark _))
          (pw_or1 (pt_cmpR op_ne (pe_call (ok_are_above T D10) hr8 (by rfl) D10.g D10.F.kp D10.b .nil pass0 (pa_cons (pv 3) (pa_cons (pv 2) pa_nil))) (pe_call (ok_is_above T D3) hr1 (by rfl) D3.g D3.F.kp D3.b .nil pass0 (pa_cons (pv 3) (pa_cons (pv 2) pa_nil))) (nomark _))))) (pss_one (ps_ret pe_bl)) pss_nil)
      (pss_cons (ps_set (i := 7) scLOtherRight.nd rfl (.inl rfl) (pe_call (ok_class_with_levels T D9) hr9 (by rfl) D9.g D9.F.kp D9.b .nil pass0 (pa_cons (pv 0) (pa_cons (pv 3) pa_nil))))
      (pss_cons (ps_if (PW.pt (pw_or (pt_cmpR op_ne (pe_cmpR op_notN (pv 7) pe_non (nomark _)) (pe_cmpR op_le (pv 6) (pv 4) (nomark _)) (nomark _))
          (pw_or1 (PW.pt (pw_and (pt_cmpR op_notN (pv 7) pe_non (nomark _))
          (pw_and1 (pt_not (pt_val (pe_call (ok_has_levels T D8) hr9 (by rfl) D8.g D8.F.kp D8.b .nil pass0 (pa_cons (pv 0) (pa_cons (pv 3) (pa_cons (pv 7) pa_nil)))))))))))) (pss_one (ps_ret pe_bl)) pss_nil)
      (pss_cons (ps_if (PW.pt (pw_and (pt_cmpR op_notN (pv 7) pe_non (nomark _))
          (pw_and1 (pt_cmpR (op_neD hr.units) (pe_callTy call_tuple_of (by rfl) T.z_tuple (by decide +kernel) (pa_cons (pe_call (ok_llevels T D7) hr3 (by rfl) D7.g D7.F.kp D7.b .nil pass0 (pa_cons (pv 0) (pa_cons (pe_ix ix_tup (pv 7) pe_int (fun _ _ => rfl)) (pa_cons (pe_ix ix_tup (pv 7) pe_int (fun _ _ => rfl)) pa_nil)))) pa_nil)) (pv 3) (nomark _))))) (pss_one (ps_ret pe_bl)) pss_nil)
      (pss_cons (ps_if (pt_cmpR op_gt (pv 6) pe_int (nomark _)) (pss_one (ps_ret pe_bl)) pss_nil)
      (pss_cons (ps_par (i := 8) (j := 9) (by rfl) scLOtherRight.nd rfl rfl (by decide) rfl rfl (pa_cons (pe_call (ok_core_of_levels T D6) hr8 (by rfl) D6.g D6.F.kp D6.b .nil pass0 (pa_cons (pv 3) pa_nil)) (pa_cons (pe_call (ok_lheap T D2) hr2 (by rfl) D2.g D2.F.kp D2.b .nil pass0 (pa_cons (pv 0) (pa_cons (pv 1) pa_nil))) pa_nil)) (by rfl))
      (pss_cons (ps_if (PW.pt (pw_or (pt_not (pt_val (pe_call (ok_is_core T D5) hr5 (by rfl) D5.g D5.F.kp D5.b .nil pass0 (pa_cons (pv 5) (pa_cons (pv 8) pa_nil)))))
          (pw_or (pt_cmpR op_ne (pe_call (ok_letters_of T D4) hr6 (by rfl) D4.g D4.F.kp D4.b .nil pass0 (pa_cons (pv 5) (pa_cons (pv 8) pa_nil))) (pv 6) (nomark _))
          (pw_or1 (pt_cmpR op_ne (pe_call (ok_is_held T D1) hr6 (by rfl) D1.g D1.F.kp D1.b .nil pass0 (pa_cons (pv 9) (pa_cons (pv 8) pa_nil))) (pe_call (ok_is_above T D3) hr1 (by rfl) D3.g D3.F.kp D3.b .nil pass0 (pa_cons (pv 2) (pa_cons (pv 3) pa_nil))) (nomark _)))))) (pss_one (ps_ret pe_bl)) pss_nil)
      (pss_one (ps_ret (pe_or (pe_cmpR op_isN (pv 7) pe_non (nomark _)) (pe_one (pe_call (ok_is_held T D1) hr6 (by rfl) D1.g D1.F.kp D1.b .nil pass0 (pa_cons (pe_call (ok_lheap T D2) hr2 (by rfl) D2.g D2.F.kp D2.b .nil pass0 (pa_cons (pv 0) (pa_cons (pe_ix ix_tup (pv 7) pe_int (fun _ _ => rfl)) pa_nil))) (pa_cons (pv 8) pa_nil))))))))))))))), ?_⟩
    obtain ⟨hk2, hk60⟩ := eqo_k C.hR C.l1 eq
    have l1 := C.l1
    have l2 := C.l2
    have hlen : xs.length = rs.length := paired_len C.hR
    have hpl := C.len
    have pl := C.pl
    have rsok := C.ok
    have eqp : Eqo rs ps.length k := by rw [hpl]; exact eq
    have sh := L.short (by omega) hk60 (by omega) (by omega)
    have lsl := L.len
    have lok : os.length = k := by omega
    have sho : Short os := fun i => by
      by_cases z : i < os.length
      · have := hb _ (get_mem z)
        constructor <;> omega
      · rw [List.getD_eq_getElem?_getD, List.getElem?_eq_none (by omega)]
        exact ⟨by decide, by decide⟩
    refine ⟨_, rfl, c, _, rfl, .inr (SqT.of C.hc), _, rfl, p, _, rfl, .inr (SqT.of hp), _, rfl, o, os, rfl, ho, by omega, by omega, sho, srt, fun H1 e1 => ⟨_, _, _, rfl, ?_⟩⟩
    rw [List.length_map, lsl]
    refine ⟨_, rfl, o, os, rfl, e1 _ _ ho, by omega, by omega, sho, srt, fun H2 e2 => ?_⟩
    have x2 := e1.trans e2
    refine ⟨_, rfl, rfl, _, rfl, iteF' (by rw [decide_eq_true rfl]; rfl) ?_⟩
    refine ⟨_, rfl, _, rfl, o, os, _, rfl, by omega, by omega, x2 _ _ ho, by omega, by omega, sho, srt, fun H3 e3 => ?_⟩
    have x3 := x2.trans e3
    refine ⟨_, rfl, _, rfl, _, _, rfl, rfl, rfl, _, rfl, iteF' (by rw [decide_eq_true rfl]; rfl) ?_⟩
    refine ⟨_, rfl, _, rfl, p, o, ls, os, rfl, x3 _ _ hp, x3 _ _ ho, lo.symm, so.symm, by omega, by omega, sh, sho, L.asc, srt, fun r1 H4 hr1' e4 => ?_⟩
    refine ⟨_, rfl, _, rfl, p, o, ls, os, rfl, (x3.trans e4) _ _ hp, (x3.trans e4) _ _ ho, lo.symm, by omega, L.asc, srt, fun r2 H5 hr2' e5 => ?_⟩
    obtain rfl : r1 = r2 := Bool.eq_iff_iff.mpr (hr1'.trans hr2'.symm)
    refine ⟨rfl, _, rfl, iteF' (by rw [decide_eq_true rfl]; rfl) ?_⟩
    have x5 := (x3.trans e4).trans e5
    refine ⟨_, rfl, _, rfl, o, p, os, ls, rfl, x5 _ _ ho, x5 _ _ hp, lo, so, by omega, by omega, sho, sh, srt, L.asc, fun r3 H6 hr3' e6 => ?_⟩
    refine ⟨_, rfl, _, rfl, o, p, os, ls, rfl, (x5.trans e6) _ _ ho, (x5.trans e6) _ _ hp, lo, by omega, srt, L.asc, fun r4 H7 hr4' e7 => ?_⟩
    obtain rfl : r3 = r4 := Bool.eq_iff_iff.mpr (hr3'.trans hr4'.symm)
    refine ⟨rfl, _, rfl, iteF' (by rw [decide_eq_true rfl]; rfl) ?_⟩
    have x7 := (x5.trans e6).trans e7
    have C7 := C.ex x7
    refine ⟨_, rfl, _, rfl, c, o, xs, rs, os, rfl, C7.hc, C7.hR, ⟨l1, l2⟩, by rw [lok]; exact eq, x7 _ _ ho, by omega, by omega, sho, srt, fun H8 e8 far => ?_, fun t y qs H8 e8 near ht8 hy8 lq okq hq => ?_⟩
    · have x8 := x7.trans e8
      have df : decide (distL os ≤ (xs.length : Int)) = false := decide_eq_false (by omega)
      refine ⟨_, rfl, rfl, _, rfl, _, rfl, _, _, rfl, rfl, rfl, _, rfl, iteF' (bl_ne (by rw [df]; rfl)) ?_⟩
      refine ⟨_, rfl, rfl, _, rfl, iteF' rfl (iteF' rfl ?_)⟩
      refine ⟨_, rfl, rfl, _, rfl, iteF' rfl (iteF' rfl ?_)⟩
      refine ⟨_, rfl, _, _, rfl, rfl, _, rfl, ite2 (fun cc => q _ x8) (fun cc => ?_)⟩
      have fb := of_decide_eq_false (Bool.eq_false_iff.mpr cc)
      refine ⟨_, rfl, o, os, rfl, x8 _ _ ho, by omega, by omega, sho, srt, by omega, fun pc Ha ea hpc gc => ⟨_, rfl, _, rfl, c, x, xs, rs, ps, rfl, ((C.ex x8).ex ea).hc, ((C.ex x8).ex ea).hR, l2, ((C.ex x8).ex ea).hx, hpl, fun ph Hb eb hph => ⟨_, _, rfl, ?_⟩⟩⟩
      have xb := (x8.trans ea).trans eb
      have hpc2 : HeapAt Hb pc (coreL os) := eb _ _ hpc
      have IC : IsHeap (coreL os) := gc.heap
      have l1o : 1 ≤ os.length := by omega
      have CC : coreB (coreL os) (k : Int) := by have := core_core srt l1o; rw [lok] at this; exact this
      have hlts : lts (coreL os) (k : Int) = distL os := by have := core_lts srt l1o IC; rw [lok] at this; exact this
      refine ⟨_, rfl, _, rfl, _, _, rfl, by omega, by omega, .inr ⟨pc, coreL os, rfl, hpc2, gc, fun b6 Hc hb6 ec => ?_⟩⟩
      obtain rfl : b6 = true := hb6.mpr CC
      refine ⟨true, rfl, iteF' rfl ?_⟩
      refine ⟨_, rfl, _, rfl, _, pc, coreL os, rfl, ec _ _ hpc2, gc, by omega, by omega, CC, fun Hd ed => ⟨_, rfl, rfl, _, rfl, iteF' (by rw [ltL_lts, hlts, decide_eq_true rfl]; rfl) ?_⟩⟩
      have xd := (xb.trans ec).trans ed
      have g3 := hseq_ok rs ps xs.length
      have gz : Good (hseq rs ps xs.length) := ⟨g3.1, by omega, by omega⟩
      have hph2 : HeapAt Hd ph (hseq rs ps xs.length) := (ec.trans ed) _ _ hph
      have hpc3 : HeapAt Hd pc (coreL os) := (ec.trans ed) _ _ hpc2
      refine ⟨_, rfl, _, rfl, _, _, _, _, rfl, hph2, hpc3, gz, gc, fun b1 He hb1 ee => ?_⟩
      refine ⟨_, rfl, _, rfl, p, o, ls, os, rfl, (xd.trans ee) _ _ hp, (xd.trans ee) _ _ ho, lo.symm, by omega, L.asc, srt, fun b2 Hf hb2 ef => ?_⟩
      have ebb : b1 = b2 := by
        refine Bool.eq_iff_iff.mpr (hb1.trans (Iff.trans ?_ hb2.symm))
        rw [← hpl]
        have key := core_rich1 (rs := rs) (ps := ps) (tot := tot) srt l1o (by rw [so, L.sum rsok eqp hk2, lok])
        refine key.trans (forall_congr' fun z => ?_)
        rw [L.tell rsok pl eqp hk2, lok]
      subst ebb
      refine ⟨rfl, _, rfl, iteF' (by rw [decide_eq_true rfl]; rfl) ?_⟩
      have xf := (xd.trans ee).trans ef

      exact ⟨_, rfl, rfl, _, rfl, iteT9 rfl (q _ xf)⟩
    · have x8 := x7.trans e8
      have df : decide (distL os ≤ (xs.length : Int)) = true := decide_eq_true near
      refine ⟨_, rfl, rfl, _, rfl, _, rfl, _, _, rfl, rfl, rfl, _, rfl, iteF' (bl_ne (by rw [df]; rfl)) ?_⟩
      refine ⟨_, rfl, rfl, _, rfl, iteT9 rfl ?_⟩
      have C8 := C7.ex e8
      have sb := sum_bdB (B := 100000) hb
      have l1o : 1 ≤ os.length := by omega
      have ho8 := x8 _ _ ho
      have IC := heap_coreL l1o
      have rokq : RsOk rs qs.length := by rw [lq, ← hpl]; exact rsok
      have tb : (os.sum + (xs.length : Int) + (os.length : Int) - 1).natAbs < 10 ^ 58 := by omega
      have lvq : ∀ {ms : List Int}, Lvs rs qs (os.sum + (xs.length : Int) + (os.length : Int) - 1) k ms → ms = os := fun Lm => lvs_core srt hk2 lok IC (by rw [lq]; exact hq) (by omega) Lm rokq okq (by rw [lq]; exact eq)
      refine ⟨_, rfl, _, rfl, _, rfl, c, o, t, y, xs, rs, os, qs, _, rfl, C8.hc, C8.hR, ⟨l1, l2⟩, by rw [lok]; exact eq, ho8, by omega, by omega, sho, srt, ht8, hy8, lq, okq, tb, fun ms H9 e9 L9 => ?_⟩
      rw [decide_eq_true (lvq (by rw [← lok]; exact L9))]
      refine ⟨true, rfl, iteF' rfl ?_⟩
      have x9 := x8.trans e9
      have ht9 := e9 _ _ ht8
      have C9 := C8.ex e9
      have Cq : ClsAt H9 c y xs rs qs (os.sum + (xs.length : Int) + (os.length : Int) - 1) := ⟨C9.hc, C9.hR, l1, l2, e9 _ _ hy8, lq, okq, tb⟩
      refine ⟨_, rfl, rfl, _, rfl, iteT9 rfl ?_⟩
      refine ⟨_, rfl, _, rfl, t, _, 0, _, rfl, rfl, SqT.of ht9, rfl, _, rfl, t, _, 1, _, rfl, rfl, SqT.of ht9, rfl, c, y, xs, rs, qs, _, k, rfl, Cq, eq, fun p10 ms2 H10 e10 hp10 L10 => ?_⟩
      obtain rfl := lvq L10
      refine ⟨p10, _, rfl, .inl ⟨SqL.of hp10, fun tu htu => ?_⟩⟩
      have xu := Ex.new (o := .tup (ms2.map V.int)) htu
      have x10 := (x9.trans e10).trans xu
      have ht10 := (e10.trans xu) _ _ ht9
      have Cq10 := (Cq.ex e10).ex xu
      have htu' : (upd H10 tu (.tup (ms2.map V.int))) tu = some (.tup (ms2.map V.int)) := upd_same
      generalize upd H10 tu (.tup (ms2.map V.int)) = H11 at xu x10 ht10 Cq10 htu' ⊢
      refine ⟨_, rfl, neT0 htu' (x10 _ _ ho) ⟨_, rfl, iteF' rfl ?_⟩⟩
      refine ⟨_, rfl, _, _, rfl, rfl, _, rfl, iteF' (decide_eq_false (by omega)) ?_⟩
      refine ⟨_, rfl, o, ms2, rfl, x10 _ _ ho, by omega, by omega, sho, srt, by omega, fun pc Ha ea hpc gc => ⟨_, rfl, _, rfl, c, x, xs, rs, ps, rfl, ((C.ex x10).ex ea).hc, ((C.ex x10).ex ea).hR, l2, ((C.ex x10).ex ea).hx, hpl, fun ph Hb eb hph => ⟨_, _, rfl, ?_⟩⟩⟩
      have xb := (x10.trans ea).trans eb
      have hpc2 : HeapAt Hb pc (coreL ms2) := eb _ _ hpc
      have IC : IsHeap (coreL ms2) := gc.heap
      have l1o : 1 ≤ ms2.length := by omega
      have CC : coreB (coreL ms2) (k : Int) := by have := core_core srt l1o; rw [lok] at this; exact this
      have hlts : lts (coreL ms2) (k : Int) = distL ms2 := by have := core_lts srt l1o IC; rw [lok] at this; exact this
      refine ⟨_, rfl, _, rfl, _, _, rfl, by omega, by omega, .inr ⟨pc, coreL ms2, rfl, hpc2, gc, fun b6 Hc hb6 ec => ?_⟩⟩
      obtain rfl : b6 = true := hb6.mpr CC
      refine ⟨true, rfl, iteF' rfl ?_⟩
      refine ⟨_, rfl, _, rfl, _, pc, coreL ms2, rfl, ec _ _ hpc2, gc, by omega, by omega, CC, fun Hd ed => ⟨_, rfl, rfl, _, rfl, iteF' (by rw [ltL_lts, hlts, decide_eq_true rfl]; rfl) ?_⟩⟩
      have xd := (xb.trans ec).trans ed
      have g3 := hseq_ok rs ps xs.length
      have gz : Good (hseq rs ps xs.length) := ⟨g3.1, by omega, by omega⟩
      have hph2 : HeapAt Hd ph (hseq rs ps xs.length) := (ec.trans ed) _ _ hph
      have hpc3 : HeapAt Hd pc (coreL ms2) := (ec.trans ed) _ _ hpc2
      refine ⟨_, rfl, _, rfl, _, _, _, _, rfl, hph2, hpc3, gz, gc, fun b1 He hb1 ee => ?_⟩
      refine ⟨_, rfl, _, rfl, p, o, ls, ms2, rfl, (xd.trans ee) _ _ hp, (xd.trans ee) _ _ ho, lo.symm, by omega, L.asc, srt, fun b2 Hf hb2 ef => ?_⟩
      have ebb : b1 = b2 := by
        refine Bool.eq_iff_iff.mpr (hb1.trans (Iff.trans ?_ hb2.symm))
        rw [← hpl]
        have key := core_rich1 (rs := rs) (ps := ps) (tot := tot) srt l1o (by rw [so, L.sum rsok eqp hk2, lok])
        refine key.trans (forall_congr' fun z => ?_)
        rw [L.tell rsok pl eqp hk2, lok]
      subst ebb
      refine ⟨rfl, _, rfl, iteF' (by rw [decide_eq_true rfl]; rfl) ?_⟩
      have xf := (xd.trans ee).trans ef

      refine ⟨_, rfl, rfl, _, rfl, iteF' rfl ?_⟩
      have e11f := ((((((ea.trans eb).trans ec).trans ed).trans ee).trans ef))
      have Cqf := Cq10.ex e11f
      refine ⟨_, rfl, _, rfl, t, _, 1, _, rfl, rfl, SqT.of (e11f _ _ ht10), rfl, c, y, xs, rs, qs, rfl, Cqf.hc, Cqf.hR, l2, Cqf.hx, lq, fun pq Hg eg hpq => ?_⟩
      rw [hq] at hpq
      refine ⟨_, rfl, _, _, _, _, rfl, hpq, (ee.trans (ef.trans eg)) _ _ hpc3, gc, gc, fun b9 Hh hb9 eh => ?_⟩
      obtain rfl : b9 = true := hb9.mpr fun _ => Nat.le_refl _
      exact q _ ((xf.trans eg).trans eh)
end
end K1

set_option exponentiation.threshold 400
namespace K1
open PySem PySem.Spec PyProof.Rows L2 Evl HM LX ZW ZM MP DM DR DK TE
theorem sql_keep {K : PySem.W.Frag} {H H1 H2 : Hp} {p a : Addr} {xs : List V} (h0 : H p = none) (e : Ex H H1) (k : Keep p H1 H2) (h : SqL K H a xs) : SqL K H2 a xs := by
  rcases h with (h | ⟨o, h⟩) | h
  · exact .inl (.inl (k _ _ (ne_of_none h h0) (e _ _ h)))
  · exact .inl (.inr ⟨o, k _ _ (ne_of_none h h0) (e _ _ h)⟩)
  · exact .inr h
section
variable {P : Program} {w : World} {K : PySem.W.Frag} {mg : Str → Option Value} {base : Heap}
def spRight : Sp := fun vs H Q _ => ∃ (d : Addr), vs = [.ref d] ∧ Dice H d ∧ ∀ H', Dice H' d → Keep d H H' → Q (.bl true) H'
theorem ok_right (T : Txt K mg) {f : Addr} {fd : FuncData} (D : DefAt K mg "_law_right" sLRight ["_law_dice_here"] f fd) : FnOk P w K mg base CX0 11 f fd ["_law_dice_here"] spRight := by
  refine D.F.ok scLRight (fun vs H Q E h => ?_) (fun cdv A outer s₀ H vs Q E hr h => ?_)
  · obtain ⟨d, rfl, _⟩ := h
    rfl
  · obtain ⟨d, rfl, hd, q⟩ := h
    obtain ⟨f1, fd1, D1⟩ := T.d_l_other_right
    obtain ⟨f2, fd2, D2⟩ := T.d_l_drawn_levels
    obtain ⟨f3, fd3, D3⟩ := T.d_l_class_right
    obtain ⟨f4, fd4, D4⟩ := T.d_l_levels
    obtain ⟨f5, fd5, D5⟩ := T.d_l_roll
    obtain ⟨f6, fd6, D6⟩ := T.d_l_tuple
    obtain ⟨f7, fd7, D7⟩ := T.d_l_equal_chain
    have hr1 : Room 1 _ := hr.mono (by decide)
    have hr2 : Room 2 _ := hr.mono (by decide)
    have hr3 : Room 3 _ := hr.mono (by decide)
    have hr4 : Room 4 _ := hr.mono (by decide)
    have hr10 : Room 10 _ := hr.mono (by decide)
    refine ⟨_, pss_cons (ps_set (i := 1) scLRight.nd rfl (.inl rfl) (pe_call (ok_equal_chain T D7) hr4 (by rfl) D7.g D7.F.kp D7.b .nil pass0 (pa_cons (pv 0) (pa_cons (pe_op op_add pe_int (pe_call (ok_roll T D5) hr1 (by rfl) D5.g D5.F.kp D5.b .nil pass0 (pa_cons (pv 0) (pa_cons pe_int pa_nil)))) (pa_cons (pe_op op_add pe_int (pe_call (ok_roll T D5) hr1 (by rfl) D5.g D5.F.kp D5.b .nil pass0 (pa_cons (pv 0) (pa_cons pe_int pa_nil)))) pa_nil)))))
      (pss_cons (ps_par (i := 2) (j := 3) (by rfl) scLRight.nd rfl rfl (by decide) rfl rfl (pa_cons (pe_call (ok_tuple T D6) hr2 (by rfl) D6.g D6.F.kp D6.b .nil pass0 (pa_cons (pv 0) (pa_cons (pv 1) pa_nil))) (pa_cons (pe_op op_sub (pe_call (ok_roll T D5) hr1 (by rfl) D5.g D5.F.kp D5.b .nil pass0 (pa_cons (pv 0) (pa_cons (pe_op op_add (pe_op op_mul pe_int (pe_callB call_len_seq (by rfl) T.z_len PySem.boot_len (pa_cons (pv 1) pa_nil))) pe_int) pa_nil))) pe_int) pa_nil)) (by rfl))
      (pss_cons (ps_set (i := 4) scLRight.nd rfl (.inl rfl) (pe_callTy call_tuple_of (by rfl) T.z_tuple (by decide +kernel) (pa_cons (pe_call (ok_llevels T D4) hr3 (by rfl) D4.g D4.F.kp D4.b .nil pass0 (pa_cons (pv 1) (pa_cons (pv 3) (pa_cons (pv 2) pa_nil)))) pa_nil)))
      (pss_cons (ps_if (pt_not (pt_val (pe_call (ok_class_right T D3) hr10 (by rfl) D3.g D3.F.kp D3.b .nil pass0 (pa_cons (pv 0) (pa_cons (pv 1) (pa_cons (pv 3) (pa_cons (pv 2) (pa_cons (pv 4) pa_nil)))))))) (pss_one (ps_ret pe_bl)) pss_nil)
      (pss_cons (ps_for PassesOwn.never rfl (pi_range1 (by rfl) T.z_range (pa_cons pe_int pa_nil)) (pg_name (i := 5) scLRight.nd rfl (.inl rfl))
        (pss_one (ps_if (pt_not (pt_val (pe_call (ok_other_right T D1) hr10 (by rfl) D1.g D1.F.kp D1.b .nil pass0 (pa_cons (pv 1) (pa_cons (pv 2) (pa_cons (pv 4) (pa_cons (pe_call (ok_drawn_levels T D2) hr3 (by rfl) D2.g D2.F.kp D2.b .nil pass0 (pa_cons (pv 0) (pa_cons (pv 4) pa_nil))) pa_nil))))))) (pss_one (ps_ret pe_bl)) pss_nil)))
      (pss_one (ps_ret pe_bl)))))), ?_⟩
    refine ⟨_, rfl, _, rfl, d, _, rfl, hd, by decide, by decide, fun r1 H1 r10 r11 hd1 k1 => ⟨_, _, rfl, rfl, _, rfl, d, _, rfl, hd1, by decide, by decide, fun r2 H2 r20 r21 hd2 k2 => ⟨_, _, rfl, rfl, ?_⟩⟩⟩
    obtain ⟨k, hk⟩ : ∃ k : Nat, (k : Int) = 2 + r2 := ⟨(2 + r2).toNat, by omega⟩
    refine ⟨d, 1 + r1, (k : Int), by rw [hk]; rfl, hd2, by omega, by omega, by omega, by omega, fun c xs rs H3 hc hR hxl eq hd3 k3 => ?_⟩
    rw [Int.toNat_natCast] at eq
    have l1 : 1 ≤ xs.length := by omega
    have l12 : xs.length ≤ 7 := by omega
    refine ⟨_, rfl, _, rfl, d, c, xs, rs, rfl, hd3, hc, hR, by omega, fun x ps H4 hx hpl pl hd4 k4 => ?_⟩
    have hc4 := k4.tup hd3 hc
    have hR4 := hR.keep k4 hd3
    refine ⟨_, rfl, _, rfl, c, _, rfl, .inr (SqT.of hc4), _, _, rfl, rfl, .inl ⟨by omega, by omega⟩, _, _, rfl, rfl, d, _, rfl, hd4, by omega, by omega, fun r5 H5 r50 r51 hd5 k5 => ⟨_, _, rfl, rfl, _, _, rfl, ?_⟩⟩
    obtain ⟨tot, htot⟩ : ∃ tot : Int, tot = r5 - 1 := ⟨_, rfl⟩
    have C5 : ClsAt H5 c x xs rs ps tot := ⟨k5.tup hd4 hc4, hR4.keep k5 hd4, l1, by omega, k5.tup hd4 hx, hpl, pl, by omega⟩
    refine ⟨_, rfl, _, rfl, _, rfl, c, x, xs, rs, ps, tot, k, by rw [htot]; rfl, C5, eq, fun pl0 ls H6 e6 hl6 L => ?_⟩
    refine ⟨pl0, _, rfl, .inl ⟨SqL.of hl6, fun p hp => ?_⟩⟩
    have x7 := e6.trans (Ex.new (o := .tup (ls.map V.int)) hp)
    have hp7 : (upd H6 p (.tup (ls.map V.int))) p = some (.tup (ls.map V.int)) := upd_same
    generalize upd H6 p (.tup (ls.map V.int)) = H7 at x7 hp7 ⊢
    have hd7 := hd5.ex x7
    have C7 := C5.ex x7
    have k07 : Keep d H H7 := ((((k1.trans k2).trans k3).trans k4).trans k5).trans (Keep.ex x7)
    obtain ⟨hk2, hk60⟩ := eqo_k C5.hR C5.l1 eq
    have lab := L.abs (by omega)
    refine ⟨_, rfl, _, rfl, _, rfl, _, rfl, _, rfl, d, c, x, p, xs, rs, ps, tot, k, ls, by rw [htot]; rfl, hd7, C7, by omega, eq, hp7, L, fun H8 hd8 k8 => ⟨true, rfl, iteF' rfl ?_⟩⟩
    refine ⟨_, rfl, by decide, by decide, for_range (lo := 0) (n := 3) (fun i σ' H' => ∃ (y5 : Option V), σ' = [some (.ref d), some (.ref c), some (.ref x), some (.int tot), some (.ref p), y5] ∧ Dice H' d ∧ Keep d H7 H') ⟨none, by rw [htot]; rfl, hd8, k8⟩ (fun i σ' H' hi hW => ?_) (fun σ' H' hW => ?_)⟩
    · obtain ⟨y5, rfl, hd', k'⟩ := hW
      have C9 : ClsAt H' c x xs rs ps tot := ⟨k'.tup hd7 C7.hc, C7.hR.keep k' hd7, C7.l1, C7.l2, k'.tup hd7 C7.hx, hpl, pl, C7.ht⟩
      have hp9 := k'.tup hd7 hp7
      refine ⟨_, rfl, _, rfl, _, rfl, _, rfl, _, rfl, d, p, ls, rfl, hd', hp9, by rw [L.len]; omega, by rw [L.len]; omega, L.asc, fun e he => by have := lab e he; constructor <;> omega, fun o os Ha ho lo so srt hb hda ka => ?_⟩
      have Ca : ClsAt Ha c x xs rs ps tot := ⟨ka.tup hd' C9.hc, C9.hR.keep ka hd', C7.l1, C7.l2, ka.tup hd' C9.hx, hpl, pl, C7.ht⟩
      refine ⟨c, x, p, o, xs, rs, ps, tot, k, ls, os, rfl, Ca, by omega, eq, ka.tup hd' hp9, L, ho, lo, so, srt, hb, fun Hb eb => ⟨true, rfl, iteF' rfl ?_⟩⟩
      exact ⟨_, rfl, hda.ex eb, (k'.trans ka).trans (Keep.ex eb)⟩
    · obtain ⟨y5, rfl, hd', k'⟩ := hW
      exact q _ hd' (k07.trans k')
def spLaw (K : PySem.W.Frag) : Sp := fun vs H Q _ => ∃ (a : Addr) (ns : List Int), vs = [.ref a] ∧ SqL K H a (ns.map V.int) ∧ ns.length ≤ 63 ∧ ∀ H', Q (.bl true) H'
theorem ok_law (T : Txt K mg) {f : Addr} {fd : FuncData} (F : Fun K "law" "law" sLaw f fd) : FnOk P w K mg base CX0 12 f fd ["_law_script"] (spLaw K) := by
  refine F.ok scLaw (fun vs H Q E h => ?_) (fun cdv A outer s₀ H vs Q E hr h => ?_)
  · obtain ⟨a, ns, rfl, _⟩ := h
    rfl
  · obtain ⟨a, ns, rfl, hS, hlen, q⟩ := h
    obtain ⟨f1, fd1, D1⟩ := T.d_l_right
    obtain ⟨f2, fd2, D2⟩ := T.d_l_dice
    have hr1 : Room 1 _ := hr.mono (by decide)
    have hr11 : Room 11 _ := hr.mono (by decide)
    refine ⟨_, pss_cons (ps_for PassesOwn.never rfl (pi_range1 (by rfl) T.z_range (pa_cons (pe_callB (call_max2 rfl) (by rfl) T.z_max (by decide +kernel) (pa_cons pe_int (pa_cons (pe_callB (call_min2 rfl) (by rfl) T.z_min (by decide +kernel) (pa_cons pe_int (pa_cons (pe_callB call_len_seq (by rfl) T.z_len PySem.boot_len (pa_cons (pv 0) pa_nil)) pa_nil))) pa_nil))) pa_nil)) (pg_name (i := 1) scLaw.nd rfl (.inl rfl))
        (pss_one (ps_if (pt_not (pt_val (pe_call (ok_right T D1) hr11 (by rfl) D1.g D1.F.kp D1.b .nil pass0 (pa_cons (pe_call (ok_dice T D2) hr1 (by rfl) D2.g D2.F.kp D2.b .nil pass0 (pa_cons (pv 0) (pa_cons (pv 1) pa_nil))) pa_nil)))) (pss_one (ps_ret pe_bl)) pss_nil)))
      (pss_one (ps_ret pe_bl)), ?_⟩
    refine ⟨_, rfl, a, _, rfl, .inl hS, _, _, rfl, _, _, rfl, _, rfl, ?_, ?_, for_range (lo := 0) (n := Int.toNat _) (fun i σ' H' => ∃ y1, σ' = [some (.ref a), y1] ∧ SqL K H' a (ns.map V.int)) ⟨none, rfl, hS⟩ (fun i σ' H' _ hp => ?_) (fun σ' H' hp => ?_)⟩
    · first | omega | (split <;> omega) | (split <;> split <;> omega)
    · rw [List.length_map]
      first | omega | (split <;> omega) | (split <;> split <;> omega)
    · obtain ⟨y1, rfl, hS'⟩ := hp
      refine ⟨_, rfl, _, rfl, a, ns, i, ?_, hS', fun d H1 hp0 e1 hd1 => ?_⟩
      · rw [Int.zero_add]
        rfl
      refine ⟨d, rfl, hd1, fun H2 hd2 k2 => ⟨true, rfl, iteF' rfl ?_⟩⟩
      exact ⟨_, rfl, sql_keep hp0 e1 k2 hS'⟩
    · obtain ⟨y1, rfl, hS'⟩ := hp
      exact q _
end
end K1

namespace K1
open PySem PySem.Spec PyProof.Rows L2
/-- what a def of the text leaves -/
theorem mk_def {K : PySem.W.Frag} {h : Heap} {mg : Str → Option Value} {x : Str} {st : Stmt} {ps : List Str} {f : Addr} {oc : Value} {od an : Option Addr} {osl : Array (Option Value)} {kV doc pm cdv ct : Value} (X : K.In h) (G : h.Ns mainGlobals mg)
    (a : PySem.W.nsIn K mainGlobals x = some (some (.ref f))) (l : K.lookup f = some ⟨oc, od, .func (PySem.W.fnOf x x (defArgs st) (defBody st) (defScope st) .none kV doc pm an cdv ct), osl⟩) (c : PySem.W.codeIn K cdv x = true) (k : PySem.W.keepIn K (.ref f) = true)
    (b : ∀ (kV doc pm : Value) (an : Option Addr) (cdv ct : Value) (us : List Value), us.length = ps.length → bindArgs (PySem.W.fnOf x x (defArgs st) (defBody st) (defScope st) .none kV doc pm an cdv ct) ⟨us, []⟩ = pure (ps.zip us)) :
    ∃ f fd, DefAt K mg x st ps f fd := ⟨f, _, ⟨fun_mk (st := st) l c k, PySem.W.mg_of X G a, (fun_mk (st := st) l c k).binds b⟩⟩
theorem all_mk {P : Program} {w : World} {K : PySem.W.Frag} {h : Heap} {mg : Str → Option Value} {fa : Addr} (X : K.In h) (G : h.Ns mainGlobals mg) (hfa : mg "law" = some (.ref fa)) (vBOUND : ∃ t, mg "BOUND" = some (.int (10 ^ 60) t)) (vSHORT_BOUND : ∃ t, mg "SHORT_BOUND" = some (.int (10 ^ 50) t))
    {tDIGITS tSHORT_DIGITS tRINGS tPLACES tSIDE tMAX_ORDER tMAX_LETTERS tMOST_DISTANCE : Tok} (gDIGITS : PySem.W.nsIn K mainGlobals "DIGITS" = some (some (.int 60 tDIGITS))) (gSHORT_DIGITS : PySem.W.nsIn K mainGlobals "SHORT_DIGITS" = some (some (.int 50 tSHORT_DIGITS))) (gRINGS : PySem.W.nsIn K mainGlobals "MOST_RINGS" = some (some (.int 12 tRINGS))) (gPLACES : PySem.W.nsIn K mainGlobals "MOST_PLACES" = some (some (.int 60 tPLACES))) (gSIDE : PySem.W.nsIn K mainGlobals "MOST_SIDE" = some (some (.int 60 tSIDE))) (gMAX_ORDER : PySem.W.nsIn K mainGlobals "MAX_ORDER" = some (some (.int 60 tMAX_ORDER))) (gMAX_LETTERS : PySem.W.nsIn K mainGlobals "MAX_LETTERS" = some (some (.int 30 tMAX_LETTERS))) (gMOST_DISTANCE : PySem.W.nsIn K mainGlobals "MOST_DISTANCE" = some (some (.int 12 tMOST_DISTANCE))) (bgcd : PySem.W.nsIn K mainGlobals "gcd" = some (some (.builtin "math.gcd")))
    (z_abs : PySem.W.nsIn K mainGlobals "abs" = some none) (z_all : PySem.W.nsIn K mainGlobals "all" = some none) (z_any : PySem.W.nsIn K mainGlobals "any" = some none) (z_bool : PySem.W.nsIn K mainGlobals "bool" = some none) (z_dict : PySem.W.nsIn K mainGlobals "dict" = some none) (z_enumerate : PySem.W.nsIn K mainGlobals "enumerate" = some none) (z_int : PySem.W.nsIn K mainGlobals "int" = some none) (z_isinstance : PySem.W.nsIn K mainGlobals "isinstance" = some none) (z_len : PySem.W.nsIn K mainGlobals "len" = some none) (z_list : PySem.W.nsIn K mainGlobals "list" = some none) (z_max : PySem.W.nsIn K mainGlobals "max" = some none) (z_min : PySem.W.nsIn K mainGlobals "min" = some none) (z_range : PySem.W.nsIn K mainGlobals "range" = some none) (z_reversed : PySem.W.nsIn K mainGlobals "reversed" = some none) (z_sorted : PySem.W.nsIn K mainGlobals "sorted" = some none) (z_sum : PySem.W.nsIn K mainGlobals "sum" = some none) (z_tuple : PySem.W.nsIn K mainGlobals "tuple" = some none) (z_zip : PySem.W.nsIn K mainGlobals "zip" = some none)
    {f0 : Addr} {oc0 : Value} {od0 an0 : Option Addr} {sl0 : Array (Option Value)} {kV0 dc0 pm0 cd0 ct0 : Value}
    (a0 : PySem.W.nsIn K mainGlobals "is_integer" = some (some (.ref f0))) (l0 : K.lookup f0 = some ⟨oc0, od0, .func (PySem.W.fnOf "is_integer" "is_integer" (defArgs sIsInteger) (defBody sIsInteger) (defScope sIsInteger) .none kV0 dc0 pm0 an0 cd0 ct0), sl0⟩) (c0 : PySem.W.codeIn K cd0 "is_integer" = true) (k0 : PySem.W.keepIn K (.ref f0) = true)
    {f1 : Addr} {oc1 : Value} {od1 an1 : Option Addr} {sl1 : Array (Option Value)} {kV1 dc1 pm1 cd1 ct1 : Value}
    (a1 : PySem.W.nsIn K mainGlobals "is_between" = some (some (.ref f1))) (l1 : K.lookup f1 = some ⟨oc1, od1, .func (PySem.W.fnOf "is_between" "is_between" (defArgs sIsBetween) (defBody sIsBetween) (defScope sIsBetween) .none kV1 dc1 pm1 an1 cd1 ct1), sl1⟩) (c1 : PySem.W.codeIn K cd1 "is_between" = true) (k1 : PySem.W.keepIn K (.ref f1) = true)
    {f2 : Addr} {oc2 : Value} {od2 an2 : Option Addr} {sl2 : Array (Option Value)} {kV2 dc2 pm2 cd2 ct2 : Value}
    (a2 : PySem.W.nsIn K mainGlobals "is_short" = some (some (.ref f2))) (l2 : K.lookup f2 = some ⟨oc2, od2, .func (PySem.W.fnOf "is_short" "is_short" (defArgs sIsShort) (defBody sIsShort) (defScope sIsShort) .none kV2 dc2 pm2 an2 cd2 ct2), sl2⟩) (c2 : PySem.W.codeIn K cd2 "is_short" = true) (k2 : PySem.W.keepIn K (.ref f2) = true)
    {f3 : Addr} {oc3 : Value} {od3 an3 : Option Addr} {sl3 : Array (Option Value)} {kV3 dc3 pm3 cd3 ct3 : Value}
    (a3 : PySem.W.nsIn K mainGlobals "are_short" = some (some (.ref f3))) (l3 : K.lookup f3 = some ⟨oc3, od3, .func (PySem.W.fnOf "are_short" "are_short" (defArgs sAreShort) (defBody sAreShort) (defScope sAreShort) .none kV3 dc3 pm3 an3 cd3 ct3), sl3⟩) (c3 : PySem.W.codeIn K cd3 "are_short" = true) (k3 : PySem.W.keepIn K (.ref f3) = true)
    {f4 : Addr} {oc4 : Value} {od4 an4 : Option Addr} {sl4 : Array (Option Value)} {kV4 dc4 pm4 cd4 ct4 : Value}
    (a4 : PySem.W.nsIn K mainGlobals "is_pair" = some (some (.ref f4))) (l4 : K.lookup f4 = some ⟨oc4, od4, .func (PySem.W.fnOf "is_pair" "is_pair" (defArgs sIsPair) (defBody sIsPair) (defScope sIsPair) .none kV4 dc4 pm4 an4 cd4 ct4), sl4⟩) (c4 : PySem.W.codeIn K cd4 "is_pair" = true) (k4 : PySem.W.keepIn K (.ref f4) = true)
    {f5 : Addr} {oc5 : Value} {od5 an5 : Option Addr} {sl5 : Array (Option Value)} {kV5 dc5 pm5 cd5 ct5 : Value}
    (a5 : PySem.W.nsIn K mainGlobals "check_integer" = some (some (.ref f5))) (l5 : K.lookup f5 = some ⟨oc5, od5, .func (PySem.W.fnOf "check_integer" "check_integer" (defArgs sCheckInteger) (defBody sCheckInteger) (defScope sCheckInteger) .none kV5 dc5 pm5 an5 cd5 ct5), sl5⟩) (c5 : PySem.W.codeIn K cd5 "check_integer" = true) (k5 : PySem.W.keepIn K (.ref f5) = true)
    {f6 : Addr} {oc6 : Value} {od6 an6 : Option Addr} {sl6 : Array (Option Value)} {kV6 dc6 pm6 cd6 ct6 : Value}
    (a6 : PySem.W.nsIn K mainGlobals "check_between" = some (some (.ref f6))) (l6 : K.lookup f6 = some ⟨oc6, od6, .func (PySem.W.fnOf "check_between" "check_between" (defArgs sCheckBetween) (defBody sCheckBetween) (defScope sCheckBetween) .none kV6 dc6 pm6 an6 cd6 ct6), sl6⟩) (c6 : PySem.W.codeIn K cd6 "check_between" = true) (k6 : PySem.W.keepIn K (.ref f6) = true)
    {f7 : Addr} {oc7 : Value} {od7 an7 : Option Addr} {sl7 : Array (Option Value)} {kV7 dc7 pm7 cd7 ct7 : Value}
    (a7 : PySem.W.nsIn K mainGlobals "check_up_to" = some (some (.ref f7))) (l7 : K.lookup f7 = some ⟨oc7, od7, .func (PySem.W.fnOf "check_up_to" "check_up_to" (defArgs sCheckUpTo) (defBody sCheckUpTo) (defScope sCheckUpTo) .none kV7 dc7 pm7 an7 cd7 ct7), sl7⟩) (c7 : PySem.W.codeIn K cd7 "check_up_to" = true) (k7 : PySem.W.keepIn K (.ref f7) = true)
    {f8 : Addr} {oc8 : Value} {od8 an8 : Option Addr} {sl8 : Array (Option Value)} {kV8 dc8 pm8 cd8 ct8 : Value}
    (a8 : PySem.W.nsIn K mainGlobals "check_digits" = some (some (.ref f8))) (l8 : K.lookup f8 = some ⟨oc8, od8, .func (PySem.W.fnOf "check_digits" "check_digits" (defArgs sCheckDigits) (defBody sCheckDigits) (defScope sCheckDigits) .none kV8 dc8 pm8 an8 cd8 ct8), sl8⟩) (c8 : PySem.W.codeIn K cd8 "check_digits" = true) (k8 : PySem.W.keepIn K (.ref f8) = true)
    {f9 : Addr} {oc9 : Value} {od9 an9 : Option Addr} {sl9 : Array (Option Value)} {kV9 dc9 pm9 cd9 ct9 : Value}
    (a9 : PySem.W.nsIn K mainGlobals "is_ring" = some (some (.ref f9))) (l9 : K.lookup f9 = some ⟨oc9, od9, .func (PySem.W.fnOf "is_ring" "is_ring" (defArgs sIsRing) (defBody sIsRing) (defScope sIsRing) .none kV9 dc9 pm9 an9 cd9 ct9), sl9⟩) (c9 : PySem.W.codeIn K cd9 "is_ring" = true) (k9 : PySem.W.keepIn K (.ref f9) = true)
    {f10 : Addr} {oc10 : Value} {od10 an10 : Option Addr} {sl10 : Array (Option Value)} {kV10 dc10 pm10 cd10 ct10 : Value}
    (a10 : PySem.W.nsIn K mainGlobals "is_chain" = some (some (.ref f10))) (l10 : K.lookup f10 = some ⟨oc10, od10, .func (PySem.W.fnOf "is_chain" "is_chain" (defArgs sIsChain) (defBody sIsChain) (defScope sIsChain) .none kV10 dc10 pm10 an10 cd10 ct10), sl10⟩) (c10 : PySem.W.codeIn K cd10 "is_chain" = true) (k10 : PySem.W.keepIn K (.ref f10) = true)
    {f11 : Addr} {oc11 : Value} {od11 an11 : Option Addr} {sl11 : Array (Option Value)} {kV11 dc11 pm11 cd11 ct11 : Value}
    (a11 : PySem.W.nsIn K mainGlobals "lies_on" = some (some (.ref f11))) (l11 : K.lookup f11 = some ⟨oc11, od11, .func (PySem.W.fnOf "lies_on" "lies_on" (defArgs sLiesOn) (defBody sLiesOn) (defScope sLiesOn) .none kV11 dc11 pm11 an11 cd11 ct11), sl11⟩) (c11 : PySem.W.codeIn K cd11 "lies_on" = true) (k11 : PySem.W.keepIn K (.ref f11) = true)
    {f12 : Addr} {oc12 : Value} {od12 an12 : Option Addr} {sl12 : Array (Option Value)} {kV12 dc12 pm12 cd12 ct12 : Value}
    (a12 : PySem.W.nsIn K mainGlobals "lies_dealt" = some (some (.ref f12))) (l12 : K.lookup f12 = some ⟨oc12, od12, .func (PySem.W.fnOf "lies_dealt" "lies_dealt" (defArgs sLiesDealt) (defBody sLiesDealt) (defScope sLiesDealt) .none kV12 dc12 pm12 an12 cd12 ct12), sl12⟩) (c12 : PySem.W.codeIn K cd12 "lies_dealt" = true) (k12 : PySem.W.keepIn K (.ref f12) = true)
    {f13 : Addr} {oc13 : Value} {od13 an13 : Option Addr} {sl13 : Array (Option Value)} {kV13 dc13 pm13 cd13 ct13 : Value}
    (a13 : PySem.W.nsIn K mainGlobals "check_ring" = some (some (.ref f13))) (l13 : K.lookup f13 = some ⟨oc13, od13, .func (PySem.W.fnOf "check_ring" "check_ring" (defArgs sCheckRing) (defBody sCheckRing) (defScope sCheckRing) .none kV13 dc13 pm13 an13 cd13 ct13), sl13⟩) (c13 : PySem.W.codeIn K cd13 "check_ring" = true) (k13 : PySem.W.keepIn K (.ref f13) = true)
    {f14 : Addr} {oc14 : Value} {od14 an14 : Option Addr} {sl14 : Array (Option Value)} {kV14 dc14 pm14 cd14 ct14 : Value}
    (a14 : PySem.W.nsIn K mainGlobals "check_chain" = some (some (.ref f14))) (l14 : K.lookup f14 = some ⟨oc14, od14, .func (PySem.W.fnOf "check_chain" "check_chain" (defArgs sCheckChain) (defBody sCheckChain) (defScope sCheckChain) .none kV14 dc14 pm14 an14 cd14 ct14), sl14⟩) (c14 : PySem.W.codeIn K cd14 "check_chain" = true) (k14 : PySem.W.keepIn K (.ref f14) = true)
    {f15 : Addr} {oc15 : Value} {od15 an15 : Option Addr} {sl15 : Array (Option Value)} {kV15 dc15 pm15 cd15 ct15 : Value}
    (a15 : PySem.W.nsIn K mainGlobals "check_deal" = some (some (.ref f15))) (l15 : K.lookup f15 = some ⟨oc15, od15, .func (PySem.W.fnOf "check_deal" "check_deal" (defArgs sCheckDeal) (defBody sCheckDeal) (defScope sCheckDeal) .none kV15 dc15 pm15 an15 cd15 ct15), sl15⟩) (c15 : PySem.W.codeIn K cd15 "check_deal" = true) (k15 : PySem.W.keepIn K (.ref f15) = true)
    {f16 : Addr} {oc16 : Value} {od16 an16 : Option Addr} {sl16 : Array (Option Value)} {kV16 dc16 pm16 cd16 ct16 : Value}
    (a16 : PySem.W.nsIn K mainGlobals "order_of" = some (some (.ref f16))) (l16 : K.lookup f16 = some ⟨oc16, od16, .func (PySem.W.fnOf "order_of" "order_of" (defArgs sOrderOf) (defBody sOrderOf) (defScope sOrderOf) .none kV16 dc16 pm16 an16 cd16 ct16), sl16⟩) (c16 : PySem.W.codeIn K cd16 "order_of" = true) (k16 : PySem.W.keepIn K (.ref f16) = true)
    {f17 : Addr} {oc17 : Value} {od17 an17 : Option Addr} {sl17 : Array (Option Value)} {kV17 dc17 pm17 cd17 ct17 : Value}
    (a17 : PySem.W.nsIn K mainGlobals "lets" = some (some (.ref f17))) (l17 : K.lookup f17 = some ⟨oc17, od17, .func (PySem.W.fnOf "lets" "lets" (defArgs sLets) (defBody sLets) (defScope sLets) .none kV17 dc17 pm17 an17 cd17 ct17), sl17⟩) (c17 : PySem.W.codeIn K cd17 "lets" = true) (k17 : PySem.W.keepIn K (.ref f17) = true)
    {f18 : Addr} {oc18 : Value} {od18 an18 : Option Addr} {sl18 : Array (Option Value)} {kV18 dc18 pm18 cd18 ct18 : Value}
    (a18 : PySem.W.nsIn K mainGlobals "left_name" = some (some (.ref f18))) (l18 : K.lookup f18 = some ⟨oc18, od18, .func (PySem.W.fnOf "left_name" "left_name" (defArgs sLeftName) (defBody sLeftName) (defScope sLeftName) .none kV18 dc18 pm18 an18 cd18 ct18), sl18⟩) (c18 : PySem.W.codeIn K cd18 "left_name" = true) (k18 : PySem.W.keepIn K (.ref f18) = true)
    {f19 : Addr} {oc19 : Value} {od19 an19 : Option Addr} {sl19 : Array (Option Value)} {kV19 dc19 pm19 cd19 ct19 : Value}
    (a19 : PySem.W.nsIn K mainGlobals "right_name" = some (some (.ref f19))) (l19 : K.lookup f19 = some ⟨oc19, od19, .func (PySem.W.fnOf "right_name" "right_name" (defArgs sRightName) (defBody sRightName) (defScope sRightName) .none kV19 dc19 pm19 an19 cd19 ct19), sl19⟩) (c19 : PySem.W.codeIn K cd19 "right_name" = true) (k19 : PySem.W.keepIn K (.ref f19) = true)
    {f20 : Addr} {oc20 : Value} {od20 an20 : Option Addr} {sl20 : Array (Option Value)} {kV20 dc20 pm20 cd20 ct20 : Value}
    (a20 : PySem.W.nsIn K mainGlobals "written_name" = some (some (.ref f20))) (l20 : K.lookup f20 = some ⟨oc20, od20, .func (PySem.W.fnOf "written_name" "written_name" (defArgs sWrittenName) (defBody sWrittenName) (defScope sWrittenName) .none kV20 dc20 pm20 an20 cd20 ct20), sl20⟩) (c20 : PySem.W.codeIn K cd20 "written_name" = true) (k20 : PySem.W.keepIn K (.ref f20) = true)
    {f21 : Addr} {oc21 : Value} {od21 an21 : Option Addr} {sl21 : Array (Option Value)} {kV21 dc21 pm21 cd21 ct21 : Value}
    (a21 : PySem.W.nsIn K mainGlobals "combined" = some (some (.ref f21))) (l21 : K.lookup f21 = some ⟨oc21, od21, .func (PySem.W.fnOf "combined" "combined" (defArgs sCombined) (defBody sCombined) (defScope sCombined) .none kV21 dc21 pm21 an21 cd21 ct21), sl21⟩) (c21 : PySem.W.codeIn K cd21 "combined" = true) (k21 : PySem.W.keepIn K (.ref f21) = true)
    {f22 : Addr} {oc22 : Value} {od22 an22 : Option Addr} {sl22 : Array (Option Value)} {kV22 dc22 pm22 cd22 ct22 : Value}
    (a22 : PySem.W.nsIn K mainGlobals "told_sum" = some (some (.ref f22))) (l22 : K.lookup f22 = some ⟨oc22, od22, .func (PySem.W.fnOf "told_sum" "told_sum" (defArgs sToldSum) (defBody sToldSum) (defScope sToldSum) .none kV22 dc22 pm22 an22 cd22 ct22), sl22⟩) (c22 : PySem.W.codeIn K cd22 "told_sum" = true) (k22 : PySem.W.keepIn K (.ref f22) = true)
    {f23 : Addr} {oc23 : Value} {od23 an23 : Option Addr} {sl23 : Array (Option Value)} {kV23 dc23 pm23 cd23 ct23 : Value}
    (a23 : PySem.W.nsIn K mainGlobals "check_deals" = some (some (.ref f23))) (l23 : K.lookup f23 = some ⟨oc23, od23, .func (PySem.W.fnOf "check_deals" "check_deals" (defArgs sCheckDeals) (defBody sCheckDeals) (defScope sCheckDeals) .none kV23 dc23 pm23 an23 cd23 ct23), sl23⟩) (c23 : PySem.W.codeIn K cd23 "check_deals" = true) (k23 : PySem.W.keepIn K (.ref f23) = true)
    {f24 : Addr} {oc24 : Value} {od24 an24 : Option Addr} {sl24 : Array (Option Value)} {kV24 dc24 pm24 cd24 ct24 : Value}
    (a24 : PySem.W.nsIn K mainGlobals "added" = some (some (.ref f24))) (l24 : K.lookup f24 = some ⟨oc24, od24, .func (PySem.W.fnOf "added" "added" (defArgs sAdded) (defBody sAdded) (defScope sAdded) .none kV24 dc24 pm24 an24 cd24 ct24), sl24⟩) (c24 : PySem.W.codeIn K cd24 "added" = true) (k24 : PySem.W.keepIn K (.ref f24) = true)
    {f25 : Addr} {oc25 : Value} {od25 an25 : Option Addr} {sl25 : Array (Option Value)} {kV25 dc25 pm25 cd25 ct25 : Value}
    (a25 : PySem.W.nsIn K mainGlobals "at_ends" = some (some (.ref f25))) (l25 : K.lookup f25 = some ⟨oc25, od25, .func (PySem.W.fnOf "at_ends" "at_ends" (defArgs sAtEnds) (defBody sAtEnds) (defScope sAtEnds) .none kV25 dc25 pm25 an25 cd25 ct25), sl25⟩) (c25 : PySem.W.codeIn K cd25 "at_ends" = true) (k25 : PySem.W.keepIn K (.ref f25) = true)
    {f26 : Addr} {oc26 : Value} {od26 an26 : Option Addr} {sl26 : Array (Option Value)} {kV26 dc26 pm26 cd26 ct26 : Value}
    (a26 : PySem.W.nsIn K mainGlobals "lies_told" = some (some (.ref f26))) (l26 : K.lookup f26 = some ⟨oc26, od26, .func (PySem.W.fnOf "lies_told" "lies_told" (defArgs sLiesTold) (defBody sLiesTold) (defScope sLiesTold) .none kV26 dc26 pm26 an26 cd26 ct26), sl26⟩) (c26 : PySem.W.codeIn K cd26 "lies_told" = true) (k26 : PySem.W.keepIn K (.ref f26) = true)
    {f27 : Addr} {oc27 : Value} {od27 an27 : Option Addr} {sl27 : Array (Option Value)} {kV27 dc27 pm27 cd27 ct27 : Value}
    (a27 : PySem.W.nsIn K mainGlobals "is_class" = some (some (.ref f27))) (l27 : K.lookup f27 = some ⟨oc27, od27, .func (PySem.W.fnOf "is_class" "is_class" (defArgs sIsClass) (defBody sIsClass) (defScope sIsClass) .none kV27 dc27 pm27 an27 cd27 ct27), sl27⟩) (c27 : PySem.W.codeIn K cd27 "is_class" = true) (k27 : PySem.W.keepIn K (.ref f27) = true)
    {f28 : Addr} {oc28 : Value} {od28 an28 : Option Addr} {sl28 : Array (Option Value)} {kV28 dc28 pm28 cd28 ct28 : Value}
    (a28 : PySem.W.nsIn K mainGlobals "class_at" = some (some (.ref f28))) (l28 : K.lookup f28 = some ⟨oc28, od28, .func (PySem.W.fnOf "class_at" "class_at" (defArgs sClassAt) (defBody sClassAt) (defScope sClassAt) .none kV28 dc28 pm28 an28 cd28 ct28), sl28⟩) (c28 : PySem.W.codeIn K cd28 "class_at" = true) (k28 : PySem.W.keepIn K (.ref f28) = true)
    {f29 : Addr} {oc29 : Value} {od29 an29 : Option Addr} {sl29 : Array (Option Value)} {kV29 dc29 pm29 cd29 ct29 : Value}
    (a29 : PySem.W.nsIn K mainGlobals "is_heap" = some (some (.ref f29))) (l29 : K.lookup f29 = some ⟨oc29, od29, .func (PySem.W.fnOf "is_heap" "is_heap" (defArgs sIsHeap) (defBody sIsHeap) (defScope sIsHeap) .none kV29 dc29 pm29 an29 cd29 ct29), sl29⟩) (c29 : PySem.W.codeIn K cd29 "is_heap" = true) (k29 : PySem.W.keepIn K (.ref f29) = true)
    {f30 : Addr} {oc30 : Value} {od30 an30 : Option Addr} {sl30 : Array (Option Value)} {kV30 dc30 pm30 cd30 ct30 : Value}
    (a30 : PySem.W.nsIn K mainGlobals "check_heap" = some (some (.ref f30))) (l30 : K.lookup f30 = some ⟨oc30, od30, .func (PySem.W.fnOf "check_heap" "check_heap" (defArgs sCheckHeap) (defBody sCheckHeap) (defScope sCheckHeap) .none kV30 dc30 pm30 an30 cd30 ct30), sl30⟩) (c30 : PySem.W.codeIn K cd30 "check_heap" = true) (k30 : PySem.W.keepIn K (.ref f30) = true)
    {f31 : Addr} {oc31 : Value} {od31 an31 : Option Addr} {sl31 : Array (Option Value)} {kV31 dc31 pm31 cd31 ct31 : Value}
    (a31 : PySem.W.nsIn K mainGlobals "check_heaps" = some (some (.ref f31))) (l31 : K.lookup f31 = some ⟨oc31, od31, .func (PySem.W.fnOf "check_heaps" "check_heaps" (defArgs sCheckHeaps) (defBody sCheckHeaps) (defScope sCheckHeaps) .none kV31 dc31 pm31 an31 cd31 ct31), sl31⟩) (c31 : PySem.W.codeIn K cd31 "check_heaps" = true) (k31 : PySem.W.keepIn K (.ref f31) = true)
    {f32 : Addr} {oc32 : Value} {od32 an32 : Option Addr} {sl32 : Array (Option Value)} {kV32 dc32 pm32 cd32 ct32 : Value}
    (a32 : PySem.W.nsIn K mainGlobals "height_at" = some (some (.ref f32))) (l32 : K.lookup f32 = some ⟨oc32, od32, .func (PySem.W.fnOf "height_at" "height_at" (defArgs sHeightAt) (defBody sHeightAt) (defScope sHeightAt) .none kV32 dc32 pm32 an32 cd32 ct32), sl32⟩) (c32 : PySem.W.codeIn K cd32 "height_at" = true) (k32 : PySem.W.keepIn K (.ref f32) = true)
    {f33 : Addr} {oc33 : Value} {od33 an33 : Option Addr} {sl33 : Array (Option Value)} {kV33 dc33 pm33 cd33 ct33 : Value}
    (a33 : PySem.W.nsIn K mainGlobals "has_box" = some (some (.ref f33))) (l33 : K.lookup f33 = some ⟨oc33, od33, .func (PySem.W.fnOf "has_box" "has_box" (defArgs sHasBox) (defBody sHasBox) (defScope sHasBox) .none kV33 dc33 pm33 an33 cd33 ct33), sl33⟩) (c33 : PySem.W.codeIn K cd33 "has_box" = true) (k33 : PySem.W.keepIn K (.ref f33) = true)
    {f34 : Addr} {oc34 : Value} {od34 an34 : Option Addr} {sl34 : Array (Option Value)} {kV34 dc34 pm34 cd34 ct34 : Value}
    (a34 : PySem.W.nsIn K mainGlobals "holds" = some (some (.ref f34))) (l34 : K.lookup f34 = some ⟨oc34, od34, .func (PySem.W.fnOf "holds" "holds" (defArgs sHolds) (defBody sHolds) (defScope sHolds) .none kV34 dc34 pm34 an34 cd34 ct34), sl34⟩) (c34 : PySem.W.codeIn K cd34 "holds" = true) (k34 : PySem.W.keepIn K (.ref f34) = true)
    {f35 : Addr} {oc35 : Value} {od35 an35 : Option Addr} {sl35 : Array (Option Value)} {kV35 dc35 pm35 cd35 ct35 : Value}
    (a35 : PySem.W.nsIn K mainGlobals "box" = some (some (.ref f35))) (l35 : K.lookup f35 = some ⟨oc35, od35, .func (PySem.W.fnOf "box" "box" (defArgs sBox) (defBody sBox) (defScope sBox) .none kV35 dc35 pm35 an35 cd35 ct35), sl35⟩) (c35 : PySem.W.codeIn K cd35 "box" = true) (k35 : PySem.W.keepIn K (.ref f35) = true)
    {f36 : Addr} {oc36 : Value} {od36 an36 : Option Addr} {sl36 : Array (Option Value)} {kV36 dc36 pm36 cd36 ct36 : Value}
    (a36 : PySem.W.nsIn K mainGlobals "is_held" = some (some (.ref f36))) (l36 : K.lookup f36 = some ⟨oc36, od36, .func (PySem.W.fnOf "is_held" "is_held" (defArgs sIsHeld) (defBody sIsHeld) (defScope sIsHeld) .none kV36 dc36 pm36 an36 cd36 ct36), sl36⟩) (c36 : PySem.W.codeIn K cd36 "is_held" = true) (k36 : PySem.W.keepIn K (.ref f36) = true)
    {f37 : Addr} {oc37 : Value} {od37 an37 : Option Addr} {sl37 : Array (Option Value)} {kV37 dc37 pm37 cd37 ct37 : Value}
    (a37 : PySem.W.nsIn K mainGlobals "lengths_of" = some (some (.ref f37))) (l37 : K.lookup f37 = some ⟨oc37, od37, .func (PySem.W.fnOf "lengths_of" "lengths_of" (defArgs sLengthsOf) (defBody sLengthsOf) (defScope sLengthsOf) .none kV37 dc37 pm37 an37 cd37 ct37), sl37⟩) (c37 : PySem.W.codeIn K cd37 "lengths_of" = true) (k37 : PySem.W.keepIn K (.ref f37) = true)
    {f38 : Addr} {oc38 : Value} {od38 an38 : Option Addr} {sl38 : Array (Option Value)} {kV38 dc38 pm38 cd38 ct38 : Value}
    (a38 : PySem.W.nsIn K mainGlobals "hook_at" = some (some (.ref f38))) (l38 : K.lookup f38 = some ⟨oc38, od38, .func (PySem.W.fnOf "hook_at" "hook_at" (defArgs sHookAt) (defBody sHookAt) (defScope sHookAt) .none kV38 dc38 pm38 an38 cd38 ct38), sl38⟩) (c38 : PySem.W.codeIn K cd38 "hook_at" = true) (k38 : PySem.W.keepIn K (.ref f38) = true)
    {f39 : Addr} {oc39 : Value} {od39 an39 : Option Addr} {sl39 : Array (Option Value)} {kV39 dc39 pm39 cd39 ct39 : Value}
    (a39 : PySem.W.nsIn K mainGlobals "union_of" = some (some (.ref f39))) (l39 : K.lookup f39 = some ⟨oc39, od39, .func (PySem.W.fnOf "union_of" "union_of" (defArgs sUnionOf) (defBody sUnionOf) (defScope sUnionOf) .none kV39 dc39 pm39 an39 cd39 ct39), sl39⟩) (c39 : PySem.W.codeIn K cd39 "union_of" = true) (k39 : PySem.W.keepIn K (.ref f39) = true)
    {f40 : Addr} {oc40 : Value} {od40 an40 : Option Addr} {sl40 : Array (Option Value)} {kV40 dc40 pm40 cd40 ct40 : Value}
    (a40 : PySem.W.nsIn K mainGlobals "open_columns" = some (some (.ref f40))) (l40 : K.lookup f40 = some ⟨oc40, od40, .func (PySem.W.fnOf "open_columns" "open_columns" (defArgs sOpenColumns) (defBody sOpenColumns) (defScope sOpenColumns) .none kV40 dc40 pm40 an40 cd40 ct40), sl40⟩) (c40 : PySem.W.codeIn K cd40 "open_columns" = true) (k40 : PySem.W.keepIn K (.ref f40) = true)
    {f41 : Addr} {oc41 : Value} {od41 an41 : Option Addr} {sl41 : Array (Option Value)} {kV41 dc41 pm41 cd41 ct41 : Value}
    (a41 : PySem.W.nsIn K mainGlobals "tips_of" = some (some (.ref f41))) (l41 : K.lookup f41 = some ⟨oc41, od41, .func (PySem.W.fnOf "tips_of" "tips_of" (defArgs sTipsOf) (defBody sTipsOf) (defScope sTipsOf) .none kV41 dc41 pm41 an41 cd41 ct41), sl41⟩) (c41 : PySem.W.codeIn K cd41 "tips_of" = true) (k41 : PySem.W.keepIn K (.ref f41) = true)
    {f42 : Addr} {oc42 : Value} {od42 an42 : Option Addr} {sl42 : Array (Option Value)} {kV42 dc42 pm42 cd42 ct42 : Value}
    (a42 : PySem.W.nsIn K mainGlobals "heaped" = some (some (.ref f42))) (l42 : K.lookup f42 = some ⟨oc42, od42, .func (PySem.W.fnOf "heaped" "heaped" (defArgs sHeaped) (defBody sHeaped) (defScope sHeaped) .none kV42 dc42 pm42 an42 cd42 ct42), sl42⟩) (c42 : PySem.W.codeIn K cd42 "heaped" = true) (k42 : PySem.W.keepIn K (.ref f42) = true)
    {f43 : Addr} {oc43 : Value} {od43 an43 : Option Addr} {sl43 : Array (Option Value)} {kV43 dc43 pm43 cd43 ct43 : Value}
    (a43 : PySem.W.nsIn K mainGlobals "lowered" = some (some (.ref f43))) (l43 : K.lookup f43 = some ⟨oc43, od43, .func (PySem.W.fnOf "lowered" "lowered" (defArgs sLowered) (defBody sLowered) (defScope sLowered) .none kV43 dc43 pm43 an43 cd43 ct43), sl43⟩) (c43 : PySem.W.codeIn K cd43 "lowered" = true) (k43 : PySem.W.keepIn K (.ref f43) = true)
    {f44 : Addr} {oc44 : Value} {od44 an44 : Option Addr} {sl44 : Array (Option Value)} {kV44 dc44 pm44 cd44 ct44 : Value}
    (a44 : PySem.W.nsIn K mainGlobals "grown_by" = some (some (.ref f44))) (l44 : K.lookup f44 = some ⟨oc44, od44, .func (PySem.W.fnOf "grown_by" "grown_by" (defArgs sGrownBy) (defBody sGrownBy) (defScope sGrownBy) .none kV44 dc44 pm44 an44 cd44 ct44), sl44⟩) (c44 : PySem.W.codeIn K cd44 "grown_by" = true) (k44 : PySem.W.keepIn K (.ref f44) = true)
    {f45 : Addr} {oc45 : Value} {od45 an45 : Option Addr} {sl45 : Array (Option Value)} {kV45 dc45 pm45 cd45 ct45 : Value}
    (a45 : PySem.W.nsIn K mainGlobals "heaps_of" = some (some (.ref f45))) (l45 : K.lookup f45 = some ⟨oc45, od45, .func (PySem.W.fnOf "heaps_of" "heaps_of" (defArgs sHeapsOf) (defBody sHeapsOf) (defScope sHeapsOf) .none kV45 dc45 pm45 an45 cd45 ct45), sl45⟩) (c45 : PySem.W.codeIn K cd45 "heaps_of" = true) (k45 : PySem.W.keepIn K (.ref f45) = true)
    {f46 : Addr} {oc46 : Value} {od46 an46 : Option Addr} {sl46 : Array (Option Value)} {kV46 dc46 pm46 cd46 ct46 : Value}
    (a46 : PySem.W.nsIn K mainGlobals "check_order" = some (some (.ref f46))) (l46 : K.lookup f46 = some ⟨oc46, od46, .func (PySem.W.fnOf "check_order" "check_order" (defArgs sCheckOrder) (defBody sCheckOrder) (defScope sCheckOrder) .none kV46 dc46 pm46 an46 cd46 ct46), sl46⟩) (c46 : PySem.W.codeIn K cd46 "check_order" = true) (k46 : PySem.W.keepIn K (.ref f46) = true)
    {f47 : Addr} {oc47 : Value} {od47 an47 : Option Addr} {sl47 : Array (Option Value)} {kV47 dc47 pm47 cd47 ct47 : Value}
    (a47 : PySem.W.nsIn K mainGlobals "beads_of" = some (some (.ref f47))) (l47 : K.lookup f47 = some ⟨oc47, od47, .func (PySem.W.fnOf "beads_of" "beads_of" (defArgs sBeadsOf) (defBody sBeadsOf) (defScope sBeadsOf) .none kV47 dc47 pm47 an47 cd47 ct47), sl47⟩) (c47 : PySem.W.codeIn K cd47 "beads_of" = true) (k47 : PySem.W.keepIn K (.ref f47) = true)
    {f48 : Addr} {oc48 : Value} {od48 an48 : Option Addr} {sl48 : Array (Option Value)} {kV48 dc48 pm48 cd48 ct48 : Value}
    (a48 : PySem.W.nsIn K mainGlobals "stays_core" = some (some (.ref f48))) (l48 : K.lookup f48 = some ⟨oc48, od48, .func (PySem.W.fnOf "stays_core" "stays_core" (defArgs sStaysCore) (defBody sStaysCore) (defScope sStaysCore) .none kV48 dc48 pm48 an48 cd48 ct48), sl48⟩) (c48 : PySem.W.codeIn K cd48 "stays_core" = true) (k48 : PySem.W.keepIn K (.ref f48) = true)
    {f49 : Addr} {oc49 : Value} {od49 an49 : Option Addr} {sl49 : Array (Option Value)} {kV49 dc49 pm49 cd49 ct49 : Value}
    (a49 : PySem.W.nsIn K mainGlobals "is_core" = some (some (.ref f49))) (l49 : K.lookup f49 = some ⟨oc49, od49, .func (PySem.W.fnOf "is_core" "is_core" (defArgs sIsCore) (defBody sIsCore) (defScope sIsCore) .none kV49 dc49 pm49 an49 cd49 ct49), sl49⟩) (c49 : PySem.W.codeIn K cd49 "is_core" = true) (k49 : PySem.W.keepIn K (.ref f49) = true)
    {f50 : Addr} {oc50 : Value} {od50 an50 : Option Addr} {sl50 : Array (Option Value)} {kV50 dc50 pm50 cd50 ct50 : Value}
    (a50 : PySem.W.nsIn K mainGlobals "check_core" = some (some (.ref f50))) (l50 : K.lookup f50 = some ⟨oc50, od50, .func (PySem.W.fnOf "check_core" "check_core" (defArgs sCheckCore) (defBody sCheckCore) (defScope sCheckCore) .none kV50 dc50 pm50 an50 cd50 ct50), sl50⟩) (c50 : PySem.W.codeIn K cd50 "check_core" = true) (k50 : PySem.W.keepIn K (.ref f50) = true)
    {f51 : Addr} {oc51 : Value} {od51 an51 : Option Addr} {sl51 : Array (Option Value)} {kV51 dc51 pm51 cd51 ct51 : Value}
    (a51 : PySem.W.nsIn K mainGlobals "check_told" = some (some (.ref f51))) (l51 : K.lookup f51 = some ⟨oc51, od51, .func (PySem.W.fnOf "check_told" "check_told" (defArgs sCheckTold) (defBody sCheckTold) (defScope sCheckTold) .none kV51 dc51 pm51 an51 cd51 ct51), sl51⟩) (c51 : PySem.W.codeIn K cd51 "check_told" = true) (k51 : PySem.W.keepIn K (.ref f51) = true)
    {f52 : Addr} {oc52 : Value} {od52 an52 : Option Addr} {sl52 : Array (Option Value)} {kV52 dc52 pm52 cd52 ct52 : Value}
    (a52 : PySem.W.nsIn K mainGlobals "parts_of" = some (some (.ref f52))) (l52 : K.lookup f52 = some ⟨oc52, od52, .func (PySem.W.fnOf "parts_of" "parts_of" (defArgs sPartsOf) (defBody sPartsOf) (defScope sPartsOf) .none kV52 dc52 pm52 an52 cd52 ct52), sl52⟩) (c52 : PySem.W.codeIn K cd52 "parts_of" = true) (k52 : PySem.W.keepIn K (.ref f52) = true)
    {f53 : Addr} {oc53 : Value} {od53 an53 : Option Addr} {sl53 : Array (Option Value)} {kV53 dc53 pm53 cd53 ct53 : Value}
    (a53 : PySem.W.nsIn K mainGlobals "letters_of" = some (some (.ref f53))) (l53 : K.lookup f53 = some ⟨oc53, od53, .func (PySem.W.fnOf "letters_of" "letters_of" (defArgs sLettersOf) (defBody sLettersOf) (defScope sLettersOf) .none kV53 dc53 pm53 an53 cd53 ct53), sl53⟩) (c53 : PySem.W.codeIn K cd53 "letters_of" = true) (k53 : PySem.W.keepIn K (.ref f53) = true)
    {f54 : Addr} {oc54 : Value} {od54 an54 : Option Addr} {sl54 : Array (Option Value)} {kV54 dc54 pm54 cd54 ct54 : Value}
    (a54 : PySem.W.nsIn K mainGlobals "check_letters" = some (some (.ref f54))) (l54 : K.lookup f54 = some ⟨oc54, od54, .func (PySem.W.fnOf "check_letters" "check_letters" (defArgs sCheckLetters) (defBody sCheckLetters) (defScope sCheckLetters) .none kV54 dc54 pm54 an54 cd54 ct54), sl54⟩) (c54 : PySem.W.codeIn K cd54 "check_letters" = true) (k54 : PySem.W.keepIn K (.ref f54) = true)
    {f55 : Addr} {oc55 : Value} {od55 an55 : Option Addr} {sl55 : Array (Option Value)} {kV55 dc55 pm55 cd55 ct55 : Value}
    (a55 : PySem.W.nsIn K mainGlobals "ahead_of_letter" = some (some (.ref f55))) (l55 : K.lookup f55 = some ⟨oc55, od55, .func (PySem.W.fnOf "ahead_of_letter" "ahead_of_letter" (defArgs sAheadOfLetter) (defBody sAheadOfLetter) (defScope sAheadOfLetter) .none kV55 dc55 pm55 an55 cd55 ct55), sl55⟩) (c55 : PySem.W.codeIn K cd55 "ahead_of_letter" = true) (k55 : PySem.W.keepIn K (.ref f55) = true)
    {f56 : Addr} {oc56 : Value} {od56 an56 : Option Addr} {sl56 : Array (Option Value)} {kV56 dc56 pm56 cd56 ct56 : Value}
    (a56 : PySem.W.nsIn K mainGlobals "last_letters" = some (some (.ref f56))) (l56 : K.lookup f56 = some ⟨oc56, od56, .func (PySem.W.fnOf "last_letters" "last_letters" (defArgs sLastLetters) (defBody sLastLetters) (defScope sLastLetters) .none kV56 dc56 pm56 an56 cd56 ct56), sl56⟩) (c56 : PySem.W.codeIn K cd56 "last_letters" = true) (k56 : PySem.W.keepIn K (.ref f56) = true)
    {f57 : Addr} {oc57 : Value} {od57 an57 : Option Addr} {sl57 : Array (Option Value)} {kV57 dc57 pm57 cd57 ct57 : Value}
    (a57 : PySem.W.nsIn K mainGlobals "growing_word" = some (some (.ref f57))) (l57 : K.lookup f57 = some ⟨oc57, od57, .func (PySem.W.fnOf "growing_word" "growing_word" (defArgs sGrowingWord) (defBody sGrowingWord) (defScope sGrowingWord) .none kV57 dc57 pm57 an57 cd57 ct57), sl57⟩) (c57 : PySem.W.codeIn K cd57 "growing_word" = true) (k57 : PySem.W.keepIn K (.ref f57) = true)
    {f58 : Addr} {oc58 : Value} {od58 an58 : Option Addr} {sl58 : Array (Option Value)} {kV58 dc58 pm58 cd58 ct58 : Value}
    (a58 : PySem.W.nsIn K mainGlobals "letter_of" = some (some (.ref f58))) (l58 : K.lookup f58 = some ⟨oc58, od58, .func (PySem.W.fnOf "letter_of" "letter_of" (defArgs sLetterOf) (defBody sLetterOf) (defScope sLetterOf) .none kV58 dc58 pm58 an58 cd58 ct58), sl58⟩) (c58 : PySem.W.codeIn K cd58 "letter_of" = true) (k58 : PySem.W.keepIn K (.ref f58) = true)
    {f59 : Addr} {oc59 : Value} {od59 an59 : Option Addr} {sl59 : Array (Option Value)} {kV59 dc59 pm59 cd59 ct59 : Value}
    (a59 : PySem.W.nsIn K mainGlobals "map_values" = some (some (.ref f59))) (l59 : K.lookup f59 = some ⟨oc59, od59, .func (PySem.W.fnOf "map_values" "map_values" (defArgs sMapValues) (defBody sMapValues) (defScope sMapValues) .none kV59 dc59 pm59 an59 cd59 ct59), sl59⟩) (c59 : PySem.W.codeIn K cd59 "map_values" = true) (k59 : PySem.W.keepIn K (.ref f59) = true)
    {f60 : Addr} {oc60 : Value} {od60 an60 : Option Addr} {sl60 : Array (Option Value)} {kV60 dc60 pm60 cd60 ct60 : Value}
    (a60 : PySem.W.nsIn K mainGlobals "is_levels" = some (some (.ref f60))) (l60 : K.lookup f60 = some ⟨oc60, od60, .func (PySem.W.fnOf "is_levels" "is_levels" (defArgs sIsLevels) (defBody sIsLevels) (defScope sIsLevels) .none kV60 dc60 pm60 an60 cd60 ct60), sl60⟩) (c60 : PySem.W.codeIn K cd60 "is_levels" = true) (k60 : PySem.W.keepIn K (.ref f60) = true)
    {f61 : Addr} {oc61 : Value} {od61 an61 : Option Addr} {sl61 : Array (Option Value)} {kV61 dc61 pm61 cd61 ct61 : Value}
    (a61 : PySem.W.nsIn K mainGlobals "check_levels" = some (some (.ref f61))) (l61 : K.lookup f61 = some ⟨oc61, od61, .func (PySem.W.fnOf "check_levels" "check_levels" (defArgs sCheckLevels) (defBody sCheckLevels) (defScope sCheckLevels) .none kV61 dc61 pm61 an61 cd61 ct61), sl61⟩) (c61 : PySem.W.codeIn K cd61 "check_levels" = true) (k61 : PySem.W.keepIn K (.ref f61) = true)
    {f62 : Addr} {oc62 : Value} {od62 an62 : Option Addr} {sl62 : Array (Option Value)} {kV62 dc62 pm62 cd62 ct62 : Value}
    (a62 : PySem.W.nsIn K mainGlobals "check_like_levels" = some (some (.ref f62))) (l62 : K.lookup f62 = some ⟨oc62, od62, .func (PySem.W.fnOf "check_like_levels" "check_like_levels" (defArgs sCheckLikeLevels) (defBody sCheckLikeLevels) (defScope sCheckLikeLevels) .none kV62 dc62 pm62 an62 cd62 ct62), sl62⟩) (c62 : PySem.W.codeIn K cd62 "check_like_levels" = true) (k62 : PySem.W.keepIn K (.ref f62) = true)
    {f63 : Addr} {oc63 : Value} {od63 an63 : Option Addr} {sl63 : Array (Option Value)} {kV63 dc63 pm63 cd63 ct63 : Value}
    (a63 : PySem.W.nsIn K mainGlobals "check_one_order" = some (some (.ref f63))) (l63 : K.lookup f63 = some ⟨oc63, od63, .func (PySem.W.fnOf "check_one_order" "check_one_order" (defArgs sCheckOneOrder) (defBody sCheckOneOrder) (defScope sCheckOneOrder) .none kV63 dc63 pm63 an63 cd63 ct63), sl63⟩) (c63 : PySem.W.codeIn K cd63 "check_one_order" = true) (k63 : PySem.W.keepIn K (.ref f63) = true)
    {f64 : Addr} {oc64 : Value} {od64 an64 : Option Addr} {sl64 : Array (Option Value)} {kV64 dc64 pm64 cd64 ct64 : Value}
    (a64 : PySem.W.nsIn K mainGlobals "distance_in" = some (some (.ref f64))) (l64 : K.lookup f64 = some ⟨oc64, od64, .func (PySem.W.fnOf "distance_in" "distance_in" (defArgs sDistanceIn) (defBody sDistanceIn) (defScope sDistanceIn) .none kV64 dc64 pm64 an64 cd64 ct64), sl64⟩) (c64 : PySem.W.codeIn K cd64 "distance_in" = true) (k64 : PySem.W.keepIn K (.ref f64) = true)
    {f65 : Addr} {oc65 : Value} {od65 an65 : Option Addr} {sl65 : Array (Option Value)} {kV65 dc65 pm65 cd65 ct65 : Value}
    (a65 : PySem.W.nsIn K mainGlobals "distance" = some (some (.ref f65))) (l65 : K.lookup f65 = some ⟨oc65, od65, .func (PySem.W.fnOf "distance" "distance" (defArgs sDistance) (defBody sDistance) (defScope sDistance) .none kV65 dc65 pm65 an65 cd65 ct65), sl65⟩) (c65 : PySem.W.codeIn K cd65 "distance" = true) (k65 : PySem.W.keepIn K (.ref f65) = true)
    {f66 : Addr} {oc66 : Value} {od66 an66 : Option Addr} {sl66 : Array (Option Value)} {kV66 dc66 pm66 cd66 ct66 : Value}
    (a66 : PySem.W.nsIn K mainGlobals "columns_at" = some (some (.ref f66))) (l66 : K.lookup f66 = some ⟨oc66, od66, .func (PySem.W.fnOf "columns_at" "columns_at" (defArgs sColumnsAt) (defBody sColumnsAt) (defScope sColumnsAt) .none kV66 dc66 pm66 an66 cd66 ct66), sl66⟩) (c66 : PySem.W.codeIn K cd66 "columns_at" = true) (k66 : PySem.W.keepIn K (.ref f66) = true)
    {f67 : Addr} {oc67 : Value} {od67 an67 : Option Addr} {sl67 : Array (Option Value)} {kV67 dc67 pm67 cd67 ct67 : Value}
    (a67 : PySem.W.nsIn K mainGlobals "rows_at" = some (some (.ref f67))) (l67 : K.lookup f67 = some ⟨oc67, od67, .func (PySem.W.fnOf "rows_at" "rows_at" (defArgs sRowsAt) (defBody sRowsAt) (defScope sRowsAt) .none kV67 dc67 pm67 an67 cd67 ct67), sl67⟩) (c67 : PySem.W.codeIn K cd67 "rows_at" = true) (k67 : PySem.W.keepIn K (.ref f67) = true)
    {f68 : Addr} {oc68 : Value} {od68 an68 : Option Addr} {sl68 : Array (Option Value)} {kV68 dc68 pm68 cd68 ct68 : Value}
    (a68 : PySem.W.nsIn K mainGlobals "level_richness" = some (some (.ref f68))) (l68 : K.lookup f68 = some ⟨oc68, od68, .func (PySem.W.fnOf "level_richness" "level_richness" (defArgs sLevelRichness) (defBody sLevelRichness) (defScope sLevelRichness) .none kV68 dc68 pm68 an68 cd68 ct68), sl68⟩) (c68 : PySem.W.codeIn K cd68 "level_richness" = true) (k68 : PySem.W.keepIn K (.ref f68) = true)
    {f69 : Addr} {oc69 : Value} {od69 an69 : Option Addr} {sl69 : Array (Option Value)} {kV69 dc69 pm69 cd69 ct69 : Value}
    (a69 : PySem.W.nsIn K mainGlobals "are_above" = some (some (.ref f69))) (l69 : K.lookup f69 = some ⟨oc69, od69, .func (PySem.W.fnOf "are_above" "are_above" (defArgs sAreAbove) (defBody sAreAbove) (defScope sAreAbove) .none kV69 dc69 pm69 an69 cd69 ct69), sl69⟩) (c69 : PySem.W.codeIn K cd69 "are_above" = true) (k69 : PySem.W.keepIn K (.ref f69) = true)
    {f70 : Addr} {oc70 : Value} {od70 an70 : Option Addr} {sl70 : Array (Option Value)} {kV70 dc70 pm70 cd70 ct70 : Value}
    (a70 : PySem.W.nsIn K mainGlobals "levels_at" = some (some (.ref f70))) (l70 : K.lookup f70 = some ⟨oc70, od70, .func (PySem.W.fnOf "levels_at" "levels_at" (defArgs sLevelsAt) (defBody sLevelsAt) (defScope sLevelsAt) .none kV70 dc70 pm70 an70 cd70 ct70), sl70⟩) (c70 : PySem.W.codeIn K cd70 "levels_at" = true) (k70 : PySem.W.keepIn K (.ref f70) = true)
    {f71 : Addr} {oc71 : Value} {od71 an71 : Option Addr} {sl71 : Array (Option Value)} {kV71 dc71 pm71 cd71 ct71 : Value}
    (a71 : PySem.W.nsIn K mainGlobals "levels_of" = some (some (.ref f71))) (l71 : K.lookup f71 = some ⟨oc71, od71, .func (PySem.W.fnOf "levels_of" "levels_of" (defArgs sLevelsOf) (defBody sLevelsOf) (defScope sLevelsOf) .none kV71 dc71 pm71 an71 cd71 ct71), sl71⟩) (c71 : PySem.W.codeIn K cd71 "levels_of" = true) (k71 : PySem.W.keepIn K (.ref f71) = true)
    {f72 : Addr} {oc72 : Value} {od72 an72 : Option Addr} {sl72 : Array (Option Value)} {kV72 dc72 pm72 cd72 ct72 : Value}
    (a72 : PySem.W.nsIn K mainGlobals "core_with_levels" = some (some (.ref f72))) (l72 : K.lookup f72 = some ⟨oc72, od72, .func (PySem.W.fnOf "core_with_levels" "core_with_levels" (defArgs sCoreWithLevels) (defBody sCoreWithLevels) (defScope sCoreWithLevels) .none kV72 dc72 pm72 an72 cd72 ct72), sl72⟩) (c72 : PySem.W.codeIn K cd72 "core_with_levels" = true) (k72 : PySem.W.keepIn K (.ref f72) = true)
    {f73 : Addr} {oc73 : Value} {od73 an73 : Option Addr} {sl73 : Array (Option Value)} {kV73 dc73 pm73 cd73 ct73 : Value}
    (a73 : PySem.W.nsIn K mainGlobals "core_of_levels" = some (some (.ref f73))) (l73 : K.lookup f73 = some ⟨oc73, od73, .func (PySem.W.fnOf "core_of_levels" "core_of_levels" (defArgs sCoreOfLevels) (defBody sCoreOfLevels) (defScope sCoreOfLevels) .none kV73 dc73 pm73 an73 cd73 ct73), sl73⟩) (c73 : PySem.W.codeIn K cd73 "core_of_levels" = true) (k73 : PySem.W.keepIn K (.ref f73) = true)
    {f74 : Addr} {oc74 : Value} {od74 an74 : Option Addr} {sl74 : Array (Option Value)} {kV74 dc74 pm74 cd74 ct74 : Value}
    (a74 : PySem.W.nsIn K mainGlobals "can_be_met" = some (some (.ref f74))) (l74 : K.lookup f74 = some ⟨oc74, od74, .func (PySem.W.fnOf "can_be_met" "can_be_met" (defArgs sCanBeMet) (defBody sCanBeMet) (defScope sCanBeMet) .none kV74 dc74 pm74 an74 cd74 ct74), sl74⟩) (c74 : PySem.W.codeIn K cd74 "can_be_met" = true) (k74 : PySem.W.keepIn K (.ref f74) = true)
    {f75 : Addr} {oc75 : Value} {od75 an75 : Option Addr} {sl75 : Array (Option Value)} {kV75 dc75 pm75 cd75 ct75 : Value}
    (a75 : PySem.W.nsIn K mainGlobals "check_asked_levels" = some (some (.ref f75))) (l75 : K.lookup f75 = some ⟨oc75, od75, .func (PySem.W.fnOf "check_asked_levels" "check_asked_levels" (defArgs sCheckAskedLevels) (defBody sCheckAskedLevels) (defScope sCheckAskedLevels) .none kV75 dc75 pm75 an75 cd75 ct75), sl75⟩) (c75 : PySem.W.codeIn K cd75 "check_asked_levels" = true) (k75 : PySem.W.keepIn K (.ref f75) = true)
    {f76 : Addr} {oc76 : Value} {od76 an76 : Option Addr} {sl76 : Array (Option Value)} {kV76 dc76 pm76 cd76 ct76 : Value}
    (a76 : PySem.W.nsIn K mainGlobals "idle_at" = some (some (.ref f76))) (l76 : K.lookup f76 = some ⟨oc76, od76, .func (PySem.W.fnOf "idle_at" "idle_at" (defArgs sIdleAt) (defBody sIdleAt) (defScope sIdleAt) .none kV76 dc76 pm76 an76 cd76 ct76), sl76⟩) (c76 : PySem.W.codeIn K cd76 "idle_at" = true) (k76 : PySem.W.keepIn K (.ref f76) = true)
    {f77 : Addr} {oc77 : Value} {od77 an77 : Option Addr} {sl77 : Array (Option Value)} {kV77 dc77 pm77 cd77 ct77 : Value}
    (a77 : PySem.W.nsIn K mainGlobals "class_with_levels" = some (some (.ref f77))) (l77 : K.lookup f77 = some ⟨oc77, od77, .func (PySem.W.fnOf "class_with_levels" "class_with_levels" (defArgs sClassWithLevels) (defBody sClassWithLevels) (defScope sClassWithLevels) .none kV77 dc77 pm77 an77 cd77 ct77), sl77⟩) (c77 : PySem.W.codeIn K cd77 "class_with_levels" = true) (k77 : PySem.W.keepIn K (.ref f77) = true)
    {f78 : Addr} {oc78 : Value} {od78 an78 : Option Addr} {sl78 : Array (Option Value)} {kV78 dc78 pm78 cd78 ct78 : Value}
    (a78 : PySem.W.nsIn K mainGlobals "has_levels" = some (some (.ref f78))) (l78 : K.lookup f78 = some ⟨oc78, od78, .func (PySem.W.fnOf "has_levels" "has_levels" (defArgs sHasLevels) (defBody sHasLevels) (defScope sHasLevels) .none kV78 dc78 pm78 an78 cd78 ct78), sl78⟩) (c78 : PySem.W.codeIn K cd78 "has_levels" = true) (k78 : PySem.W.keepIn K (.ref f78) = true)
    {f79 : Addr} {oc79 : Value} {od79 an79 : Option Addr} {sl79 : Array (Option Value)} {kV79 dc79 pm79 cd79 ct79 : Value}
    (a79 : PySem.W.nsIn K mainGlobals "richness_at" = some (some (.ref f79))) (l79 : K.lookup f79 = some ⟨oc79, od79, .func (PySem.W.fnOf "richness_at" "richness_at" (defArgs sRichnessAt) (defBody sRichnessAt) (defScope sRichnessAt) .none kV79 dc79 pm79 an79 cd79 ct79), sl79⟩) (c79 : PySem.W.codeIn K cd79 "richness_at" = true) (k79 : PySem.W.keepIn K (.ref f79) = true)
    {f80 : Addr} {oc80 : Value} {od80 an80 : Option Addr} {sl80 : Array (Option Value)} {kV80 dc80 pm80 cd80 ct80 : Value}
    (a80 : PySem.W.nsIn K mainGlobals "richness_of" = some (some (.ref f80))) (l80 : K.lookup f80 = some ⟨oc80, od80, .func (PySem.W.fnOf "richness_of" "richness_of" (defArgs sRichnessOf) (defBody sRichnessOf) (defScope sRichnessOf) .none kV80 dc80 pm80 an80 cd80 ct80), sl80⟩) (c80 : PySem.W.codeIn K cd80 "richness_of" = true) (k80 : PySem.W.keepIn K (.ref f80) = true)
    {f81 : Addr} {oc81 : Value} {od81 an81 : Option Addr} {sl81 : Array (Option Value)} {kV81 dc81 pm81 cd81 ct81 : Value}
    (a81 : PySem.W.nsIn K mainGlobals "richness" = some (some (.ref f81))) (l81 : K.lookup f81 = some ⟨oc81, od81, .func (PySem.W.fnOf "richness" "richness" (defArgs sRichness) (defBody sRichness) (defScope sRichness) .none kV81 dc81 pm81 an81 cd81 ct81), sl81⟩) (c81 : PySem.W.codeIn K cd81 "richness" = true) (k81 : PySem.W.keepIn K (.ref f81) = true)
    {f82 : Addr} {oc82 : Value} {od82 an82 : Option Addr} {sl82 : Array (Option Value)} {kV82 dc82 pm82 cd82 ct82 : Value}
    (a82 : PySem.W.nsIn K mainGlobals "_law_dice" = some (some (.ref f82))) (l82 : K.lookup f82 = some ⟨oc82, od82, .func (PySem.W.fnOf "_law_dice" "_law_dice" (defArgs sLDice) (defBody sLDice) (defScope sLDice) .none kV82 dc82 pm82 an82 cd82 ct82), sl82⟩) (c82 : PySem.W.codeIn K cd82 "_law_dice" = true) (k82 : PySem.W.keepIn K (.ref f82) = true)
    {f83 : Addr} {oc83 : Value} {od83 an83 : Option Addr} {sl83 : Array (Option Value)} {kV83 dc83 pm83 cd83 ct83 : Value}
    (a83 : PySem.W.nsIn K mainGlobals "_law_roll" = some (some (.ref f83))) (l83 : K.lookup f83 = some ⟨oc83, od83, .func (PySem.W.fnOf "_law_roll" "_law_roll" (defArgs sLRoll) (defBody sLRoll) (defScope sLRoll) .none kV83 dc83 pm83 an83 cd83 ct83), sl83⟩) (c83 : PySem.W.codeIn K cd83 "_law_roll" = true) (k83 : PySem.W.keepIn K (.ref f83) = true)
    {f84 : Addr} {oc84 : Value} {od84 an84 : Option Addr} {sl84 : Array (Option Value)} {kV84 dc84 pm84 cd84 ct84 : Value}
    (a84 : PySem.W.nsIn K mainGlobals "_law_one_of" = some (some (.ref f84))) (l84 : K.lookup f84 = some ⟨oc84, od84, .func (PySem.W.fnOf "_law_one_of" "_law_one_of" (defArgs sLOneOf) (defBody sLOneOf) (defScope sLOneOf) .none kV84 dc84 pm84 an84 cd84 ct84), sl84⟩) (c84 : PySem.W.codeIn K cd84 "_law_one_of" = true) (k84 : PySem.W.keepIn K (.ref f84) = true)
    {f85 : Addr} {oc85 : Value} {od85 an85 : Option Addr} {sl85 : Array (Option Value)} {kV85 dc85 pm85 cd85 ct85 : Value}
    (a85 : PySem.W.nsIn K mainGlobals "_law_mixed" = some (some (.ref f85))) (l85 : K.lookup f85 = some ⟨oc85, od85, .func (PySem.W.fnOf "_law_mixed" "_law_mixed" (defArgs sLMixed) (defBody sLMixed) (defScope sLMixed) .none kV85 dc85 pm85 an85 cd85 ct85), sl85⟩) (c85 : PySem.W.codeIn K cd85 "_law_mixed" = true) (k85 : PySem.W.keepIn K (.ref f85) = true)
    {f86 : Addr} {oc86 : Value} {od86 an86 : Option Addr} {sl86 : Array (Option Value)} {kV86 dc86 pm86 cd86 ct86 : Value}
    (a86 : PySem.W.nsIn K mainGlobals "_law_common" = some (some (.ref f86))) (l86 : K.lookup f86 = some ⟨oc86, od86, .func (PySem.W.fnOf "_law_common" "_law_common" (defArgs sLCommon) (defBody sLCommon) (defScope sLCommon) .none kV86 dc86 pm86 an86 cd86 ct86), sl86⟩) (c86 : PySem.W.codeIn K cd86 "_law_common" = true) (k86 : PySem.W.keepIn K (.ref f86) = true)
    {f87 : Addr} {oc87 : Value} {od87 an87 : Option Addr} {sl87 : Array (Option Value)} {kV87 dc87 pm87 cd87 ct87 : Value}
    (a87 : PySem.W.nsIn K mainGlobals "_law_order" = some (some (.ref f87))) (l87 : K.lookup f87 = some ⟨oc87, od87, .func (PySem.W.fnOf "_law_order" "_law_order" (defArgs sLOrder) (defBody sLOrder) (defScope sLOrder) .none kV87 dc87 pm87 an87 cd87 ct87), sl87⟩) (c87 : PySem.W.codeIn K cd87 "_law_order" = true) (k87 : PySem.W.keepIn K (.ref f87) = true)
    {f88 : Addr} {oc88 : Value} {od88 an88 : Option Addr} {sl88 : Array (Option Value)} {kV88 dc88 pm88 cd88 ct88 : Value}
    (a88 : PySem.W.nsIn K mainGlobals "_law_ring_of" = some (some (.ref f88))) (l88 : K.lookup f88 = some ⟨oc88, od88, .func (PySem.W.fnOf "_law_ring_of" "_law_ring_of" (defArgs sLRingOf) (defBody sLRingOf) (defScope sLRingOf) .none kV88 dc88 pm88 an88 cd88 ct88), sl88⟩) (c88 : PySem.W.codeIn K cd88 "_law_ring_of" = true) (k88 : PySem.W.keepIn K (.ref f88) = true)
    {f89 : Addr} {oc89 : Value} {od89 an89 : Option Addr} {sl89 : Array (Option Value)} {kV89 dc89 pm89 cd89 ct89 : Value}
    (a89 : PySem.W.nsIn K mainGlobals "_law_equal_chain" = some (some (.ref f89))) (l89 : K.lookup f89 = some ⟨oc89, od89, .func (PySem.W.fnOf "_law_equal_chain" "_law_equal_chain" (defArgs sLEqualChain) (defBody sLEqualChain) (defScope sLEqualChain) .none kV89 dc89 pm89 an89 cd89 ct89), sl89⟩) (c89 : PySem.W.codeIn K cd89 "_law_equal_chain" = true) (k89 : PySem.W.keepIn K (.ref f89) = true)
    {f90 : Addr} {oc90 : Value} {od90 an90 : Option Addr} {sl90 : Array (Option Value)} {kV90 dc90 pm90 cd90 ct90 : Value}
    (a90 : PySem.W.nsIn K mainGlobals "_law_tuple" = some (some (.ref f90))) (l90 : K.lookup f90 = some ⟨oc90, od90, .func (PySem.W.fnOf "_law_tuple" "_law_tuple" (defArgs sLTuple) (defBody sLTuple) (defScope sLTuple) .none kV90 dc90 pm90 an90 cd90 ct90), sl90⟩) (c90 : PySem.W.codeIn K cd90 "_law_tuple" = true) (k90 : PySem.W.keepIn K (.ref f90) = true)
    {f91 : Addr} {oc91 : Value} {od91 an91 : Option Addr} {sl91 : Array (Option Value)} {kV91 dc91 pm91 cd91 ct91 : Value}
    (a91 : PySem.W.nsIn K mainGlobals "_law_plain" = some (some (.ref f91))) (l91 : K.lookup f91 = some ⟨oc91, od91, .func (PySem.W.fnOf "_law_plain" "_law_plain" (defArgs sLPlain) (defBody sLPlain) (defScope sLPlain) .none kV91 dc91 pm91 an91 cd91 ct91), sl91⟩) (c91 : PySem.W.codeIn K cd91 "_law_plain" = true) (k91 : PySem.W.keepIn K (.ref f91) = true)
    {f92 : Addr} {oc92 : Value} {od92 an92 : Option Addr} {sl92 : Array (Option Value)} {kV92 dc92 pm92 cd92 ct92 : Value}
    (a92 : PySem.W.nsIn K mainGlobals "_law_grown" = some (some (.ref f92))) (l92 : K.lookup f92 = some ⟨oc92, od92, .func (PySem.W.fnOf "_law_grown" "_law_grown" (defArgs sLGrown) (defBody sLGrown) (defScope sLGrown) .none kV92 dc92 pm92 an92 cd92 ct92), sl92⟩) (c92 : PySem.W.codeIn K cd92 "_law_grown" = true) (k92 : PySem.W.keepIn K (.ref f92) = true)
    {f93 : Addr} {oc93 : Value} {od93 an93 : Option Addr} {sl93 : Array (Option Value)} {kV93 dc93 pm93 cd93 ct93 : Value}
    (a93 : PySem.W.nsIn K mainGlobals "_law_heap" = some (some (.ref f93))) (l93 : K.lookup f93 = some ⟨oc93, od93, .func (PySem.W.fnOf "_law_heap" "_law_heap" (defArgs sLHeap) (defBody sLHeap) (defScope sLHeap) .none kV93 dc93 pm93 an93 cd93 ct93), sl93⟩) (c93 : PySem.W.codeIn K cd93 "_law_heap" = true) (k93 : PySem.W.keepIn K (.ref f93) = true)
    {f94 : Addr} {oc94 : Value} {od94 an94 : Option Addr} {sl94 : Array (Option Value)} {kV94 dc94 pm94 cd94 ct94 : Value}
    (a94 : PySem.W.nsIn K mainGlobals "_law_rich" = some (some (.ref f94))) (l94 : K.lookup f94 = some ⟨oc94, od94, .func (PySem.W.fnOf "_law_rich" "_law_rich" (defArgs sLRich) (defBody sLRich) (defScope sLRich) .none kV94 dc94 pm94 an94 cd94 ct94), sl94⟩) (c94 : PySem.W.codeIn K cd94 "_law_rich" = true) (k94 : PySem.W.keepIn K (.ref f94) = true)
    {f95 : Addr} {oc95 : Value} {od95 an95 : Option Addr} {sl95 : Array (Option Value)} {kV95 dc95 pm95 cd95 ct95 : Value}
    (a95 : PySem.W.nsIn K mainGlobals "_law_map" = some (some (.ref f95))) (l95 : K.lookup f95 = some ⟨oc95, od95, .func (PySem.W.fnOf "_law_map" "_law_map" (defArgs sLMap) (defBody sLMap) (defScope sLMap) .none kV95 dc95 pm95 an95 cd95 ct95), sl95⟩) (c95 : PySem.W.codeIn K cd95 "_law_map" = true) (k95 : PySem.W.keepIn K (.ref f95) = true)
    {f96 : Addr} {oc96 : Value} {od96 an96 : Option Addr} {sl96 : Array (Option Value)} {kV96 dc96 pm96 cd96 ct96 : Value}
    (a96 : PySem.W.nsIn K mainGlobals "_law_levels" = some (some (.ref f96))) (l96 : K.lookup f96 = some ⟨oc96, od96, .func (PySem.W.fnOf "_law_levels" "_law_levels" (defArgs sLLevels) (defBody sLLevels) (defScope sLLevels) .none kV96 dc96 pm96 an96 cd96 ct96), sl96⟩) (c96 : PySem.W.codeIn K cd96 "_law_levels" = true) (k96 : PySem.W.keepIn K (.ref f96) = true)
    {f97 : Addr} {oc97 : Value} {od97 an97 : Option Addr} {sl97 : Array (Option Value)} {kV97 dc97 pm97 cd97 ct97 : Value}
    (a97 : PySem.W.nsIn K mainGlobals "_law_distance" = some (some (.ref f97))) (l97 : K.lookup f97 = some ⟨oc97, od97, .func (PySem.W.fnOf "_law_distance" "_law_distance" (defArgs sLDistance) (defBody sLDistance) (defScope sLDistance) .none kV97 dc97 pm97 an97 cd97 ct97), sl97⟩) (c97 : PySem.W.codeIn K cd97 "_law_distance" = true) (k97 : PySem.W.keepIn K (.ref f97) = true)
    {f98 : Addr} {oc98 : Value} {od98 an98 : Option Addr} {sl98 : Array (Option Value)} {kV98 dc98 pm98 cd98 ct98 : Value}
    (a98 : PySem.W.nsIn K mainGlobals "_law_sum_of" = some (some (.ref f98))) (l98 : K.lookup f98 = some ⟨oc98, od98, .func (PySem.W.fnOf "_law_sum_of" "_law_sum_of" (defArgs sLSumOf) (defBody sLSumOf) (defScope sLSumOf) .none kV98 dc98 pm98 an98 cd98 ct98), sl98⟩) (c98 : PySem.W.codeIn K cd98 "_law_sum_of" = true) (k98 : PySem.W.keepIn K (.ref f98) = true)
    {f99 : Addr} {oc99 : Value} {od99 an99 : Option Addr} {sl99 : Array (Option Value)} {kV99 dc99 pm99 cd99 ct99 : Value}
    (a99 : PySem.W.nsIn K mainGlobals "_law_is_above" = some (some (.ref f99))) (l99 : K.lookup f99 = some ⟨oc99, od99, .func (PySem.W.fnOf "_law_is_above" "_law_is_above" (defArgs sLIsAbove) (defBody sLIsAbove) (defScope sLIsAbove) .none kV99 dc99 pm99 an99 cd99 ct99), sl99⟩) (c99 : PySem.W.codeIn K cd99 "_law_is_above" = true) (k99 : PySem.W.keepIn K (.ref f99) = true)
    {f100 : Addr} {oc100 : Value} {od100 an100 : Option Addr} {sl100 : Array (Option Value)} {kV100 dc100 pm100 cd100 ct100 : Value}
    (a100 : PySem.W.nsIn K mainGlobals "_law_drawn_levels" = some (some (.ref f100))) (l100 : K.lookup f100 = some ⟨oc100, od100, .func (PySem.W.fnOf "_law_drawn_levels" "_law_drawn_levels" (defArgs sLDrawnLevels) (defBody sLDrawnLevels) (defScope sLDrawnLevels) .none kV100 dc100 pm100 an100 cd100 ct100), sl100⟩) (c100 : PySem.W.codeIn K cd100 "_law_drawn_levels" = true) (k100 : PySem.W.keepIn K (.ref f100) = true)
    {f101 : Addr} {oc101 : Value} {od101 an101 : Option Addr} {sl101 : Array (Option Value)} {kV101 dc101 pm101 cd101 ct101 : Value}
    (a101 : PySem.W.nsIn K mainGlobals "_law_class_right" = some (some (.ref f101))) (l101 : K.lookup f101 = some ⟨oc101, od101, .func (PySem.W.fnOf "_law_class_right" "_law_class_right" (defArgs sLClassRight) (defBody sLClassRight) (defScope sLClassRight) .none kV101 dc101 pm101 an101 cd101 ct101), sl101⟩) (c101 : PySem.W.codeIn K cd101 "_law_class_right" = true) (k101 : PySem.W.keepIn K (.ref f101) = true)
    {f102 : Addr} {oc102 : Value} {od102 an102 : Option Addr} {sl102 : Array (Option Value)} {kV102 dc102 pm102 cd102 ct102 : Value}
    (a102 : PySem.W.nsIn K mainGlobals "_law_other_right" = some (some (.ref f102))) (l102 : K.lookup f102 = some ⟨oc102, od102, .func (PySem.W.fnOf "_law_other_right" "_law_other_right" (defArgs sLOtherRight) (defBody sLOtherRight) (defScope sLOtherRight) .none kV102 dc102 pm102 an102 cd102 ct102), sl102⟩) (c102 : PySem.W.codeIn K cd102 "_law_other_right" = true) (k102 : PySem.W.keepIn K (.ref f102) = true)
    {f103 : Addr} {oc103 : Value} {od103 an103 : Option Addr} {sl103 : Array (Option Value)} {kV103 dc103 pm103 cd103 ct103 : Value}
    (a103 : PySem.W.nsIn K mainGlobals "_law_right" = some (some (.ref f103))) (l103 : K.lookup f103 = some ⟨oc103, od103, .func (PySem.W.fnOf "_law_right" "_law_right" (defArgs sLRight) (defBody sLRight) (defScope sLRight) .none kV103 dc103 pm103 an103 cd103 ct103), sl103⟩) (c103 : PySem.W.codeIn K cd103 "_law_right" = true) (k103 : PySem.W.keepIn K (.ref f103) = true)
    {f104 : Addr} {oc104 : Value} {od104 an104 : Option Addr} {sl104 : Array (Option Value)} {kV104 dc104 pm104 cd104 ct104 : Value}
    (a104 : PySem.W.nsIn K mainGlobals "law" = some (some (.ref f104))) (l104 : K.lookup f104 = some ⟨oc104, od104, .func (PySem.W.fnOf "law" "law" (defArgs sLaw) (defBody sLaw) (defScope sLaw) .none kV104 dc104 pm104 an104 cd104 ct104), sl104⟩) (c104 : PySem.W.codeIn K cd104 "law" = true) (k104 : PySem.W.keepIn K (.ref f104) = true) :
    ∃ fd : FuncData, (∀ (s : Shared) (v : Value), BindsTo s fd ⟨[v], []⟩ [("_law_script", v)]) ∧ ∀ base : Heap, K.In base → base.Ns mainGlobals mg → FnOk P w K mg base CX0 12 fa fd ["_law_script"] (spLaw K) := by
  have e := hfa.symm.trans (PySem.W.mg_of X G a104)
  cases e
  have T : Txt K mg :=
    { z_abs := PySem.W.mg_none_of X G z_abs, z_all := PySem.W.mg_none_of X G z_all, z_any := PySem.W.mg_none_of X G z_any, z_bool := PySem.W.mg_none_of X G z_bool, z_dict := PySem.W.mg_none_of X G z_dict, z_enumerate := PySem.W.mg_none_of X G z_enumerate, z_int := PySem.W.mg_none_of X G z_int, z_isinstance := PySem.W.mg_none_of X G z_isinstance, z_len := PySem.W.mg_none_of X G z_len, z_list := PySem.W.mg_none_of X G z_list, z_max := PySem.W.mg_none_of X G z_max, z_min := PySem.W.mg_none_of X G z_min, z_range := PySem.W.mg_none_of X G z_range, z_reversed := PySem.W.mg_none_of X G z_reversed, z_sorted := PySem.W.mg_none_of X G z_sorted, z_sum := PySem.W.mg_none_of X G z_sum, z_tuple := PySem.W.mg_none_of X G z_tuple, z_zip := PySem.W.mg_none_of X G z_zip, v_gcd := PySem.W.mg_of X G bgcd, v_BOUND := vBOUND, v_DIGITS := ⟨tDIGITS, PySem.W.mg_of X G gDIGITS⟩, v_SHORT_BOUND := vSHORT_BOUND, v_SHORT_DIGITS := ⟨tSHORT_DIGITS, PySem.W.mg_of X G gSHORT_DIGITS⟩, v_RINGS := ⟨tRINGS, PySem.W.mg_of X G gRINGS⟩, v_PLACES := ⟨tPLACES, PySem.W.mg_of X G gPLACES⟩, v_SIDE := ⟨tSIDE, PySem.W.mg_of X G gSIDE⟩, v_MAX_ORDER := ⟨tMAX_ORDER, PySem.W.mg_of X G gMAX_ORDER⟩, v_MAX_LETTERS := ⟨tMAX_LETTERS, PySem.W.mg_of X G gMAX_LETTERS⟩, v_MOST_DISTANCE := ⟨tMOST_DISTANCE, PySem.W.mg_of X G gMOST_DISTANCE⟩,
      d_is_integer := mk_def (ps := ["value"]) X G a0 l0 c0 k0 fun _ _ _ _ _ _ us hl => match us, hl with | [_], _ => rfl,
      d_is_between := mk_def (ps := ["value", "low", "high"]) X G a1 l1 c1 k1 fun _ _ _ _ _ _ us hl => match us, hl with | [_, _, _], _ => rfl,
      d_is_short := mk_def (ps := ["value"]) X G a2 l2 c2 k2 fun _ _ _ _ _ _ us hl => match us, hl with | [_], _ => rfl,
      d_are_short := mk_def (ps := ["numbers"]) X G a3 l3 c3 k3 fun _ _ _ _ _ _ us hl => match us, hl with | [_], _ => rfl,
      d_is_pair := mk_def (ps := ["value"]) X G a4 l4 c4 k4 fun _ _ _ _ _ _ us hl => match us, hl with | [_], _ => rfl,
      d_check_integer := mk_def (ps := ["value"]) X G a5 l5 c5 k5 fun _ _ _ _ _ _ us hl => match us, hl with | [_], _ => rfl,
      d_check_between := mk_def (ps := ["value", "low", "high"]) X G a6 l6 c6 k6 fun _ _ _ _ _ _ us hl => match us, hl with | [_, _, _], _ => rfl,
      d_check_up_to := mk_def (ps := ["value", "high"]) X G a7 l7 c7 k7 fun _ _ _ _ _ _ us hl => match us, hl with | [_, _], _ => rfl,
      d_check_digits := mk_def (ps := ["numbers"]) X G a8 l8 c8 k8 fun _ _ _ _ _ _ us hl => match us, hl with | [_], _ => rfl,
      d_is_ring := mk_def (ps := ["value"]) X G a9 l9 c9 k9 fun _ _ _ _ _ _ us hl => match us, hl with | [_], _ => rfl,
      d_is_chain := mk_def (ps := ["value"]) X G a10 l10 c10 k10 fun _ _ _ _ _ _ us hl => match us, hl with | [_], _ => rfl,
      d_lies_on := mk_def (ps := ["chain", "value"]) X G a11 l11 c11 k11 fun _ _ _ _ _ _ us hl => match us, hl with | [_, _], _ => rfl,
      d_lies_dealt := mk_def (ps := ["chain", "value"]) X G a12 l12 c12 k12 fun _ _ _ _ _ _ us hl => match us, hl with | [_, _], _ => rfl,
      d_check_ring := mk_def (ps := ["ring"]) X G a13 l13 c13 k13 fun _ _ _ _ _ _ us hl => match us, hl with | [_], _ => rfl,
      d_check_chain := mk_def (ps := ["chain"]) X G a14 l14 c14 k14 fun _ _ _ _ _ _ us hl => match us, hl with | [_], _ => rfl,
      d_check_deal := mk_def (ps := ["chain", "deal"]) X G a15 l15 c15 k15 fun _ _ _ _ _ _ us hl => match us, hl with | [_, _], _ => rfl,
      d_order_of := mk_def (ps := ["ring"]) X G a16 l16 c16 k16 fun _ _ _ _ _ _ us hl => match us, hl with | [_], _ => rfl,
      d_lets := mk_def (ps := ["ring", "place", "diagonal"]) X G a17 l17 c17 k17 fun _ _ _ _ _ _ us hl => match us, hl with | [_, _, _], _ => rfl,
      d_left_name := mk_def (ps := ["chain"]) X G a18 l18 c18 k18 fun _ _ _ _ _ _ us hl => match us, hl with | [_], _ => rfl,
      d_right_name := mk_def (ps := ["chain"]) X G a19 l19 c19 k19 fun _ _ _ _ _ _ us hl => match us, hl with | [_], _ => rfl,
      d_written_name := mk_def (ps := ["chain", "place"]) X G a20 l20 c20 k20 fun _ _ _ _ _ _ us hl => match us, hl with | [_, _], _ => rfl,
      d_combined := mk_def (ps := ["chain", "parts"]) X G a21 l21 c21 k21 fun _ _ _ _ _ _ us hl => match us, hl with | [_, _], _ => rfl,
      d_told_sum := mk_def (ps := ["chain", "parts"]) X G a22 l22 c22 k22 fun _ _ _ _ _ _ us hl => match us, hl with | [_, _], _ => rfl,
      d_check_deals := mk_def (ps := ["chain", "one", "other"]) X G a23 l23 c23 k23 fun _ _ _ _ _ _ us hl => match us, hl with | [_, _, _], _ => rfl,
      d_added := mk_def (ps := ["chain", "one", "other"]) X G a24 l24 c24 k24 fun _ _ _ _ _ _ us hl => match us, hl with | [_, _, _], _ => rfl,
      d_at_ends := mk_def (ps := ["chain", "a", "b"]) X G a25 l25 c25 k25 fun _ _ _ _ _ _ us hl => match us, hl with | [_, _, _], _ => rfl,
      d_lies_told := mk_def (ps := ["chain", "value"]) X G a26 l26 c26 k26 fun _ _ _ _ _ _ us hl => match us, hl with | [_, _], _ => rfl,
      d_is_class := mk_def (ps := ["chain", "value"]) X G a27 l27 c27 k27 fun _ _ _ _ _ _ us hl => match us, hl with | [_, _], _ => rfl,
      d_class_at := mk_def (ps := ["chain", "deal"]) X G a28 l28 c28 k28 fun _ _ _ _ _ _ us hl => match us, hl with | [_, _], _ => rfl,
      d_is_heap := mk_def (ps := ["value"]) X G a29 l29 c29 k29 fun _ _ _ _ _ _ us hl => match us, hl with | [_], _ => rfl,
      d_check_heap := mk_def (ps := ["heap"]) X G a30 l30 c30 k30 fun _ _ _ _ _ _ us hl => match us, hl with | [_], _ => rfl,
      d_check_heaps := mk_def (ps := ["one", "other"]) X G a31 l31 c31 k31 fun _ _ _ _ _ _ us hl => match us, hl with | [_, _], _ => rfl,
      d_height_at := mk_def (ps := ["heap", "column"]) X G a32 l32 c32 k32 fun _ _ _ _ _ _ us hl => match us, hl with | [_, _], _ => rfl,
      d_has_box := mk_def (ps := ["heap", "columns", "rows"]) X G a33 l33 c33 k33 fun _ _ _ _ _ _ us hl => match us, hl with | [_, _, _], _ => rfl,
      d_holds := mk_def (ps := ["heap", "other"]) X G a34 l34 c34 k34 fun _ _ _ _ _ _ us hl => match us, hl with | [_, _], _ => rfl,
      d_box := mk_def (ps := ["columns", "rows"]) X G a35 l35 c35 k35 fun _ _ _ _ _ _ us hl => match us, hl with | [_, _], _ => rfl,
      d_is_held := mk_def (ps := ["heap", "other"]) X G a36 l36 c36 k36 fun _ _ _ _ _ _ us hl => match us, hl with | [_, _], _ => rfl,
      d_lengths_of := mk_def (ps := ["heap"]) X G a37 l37 c37 k37 fun _ _ _ _ _ _ us hl => match us, hl with | [_], _ => rfl,
      d_hook_at := mk_def (ps := ["heap", "lengths", "column", "row"]) X G a38 l38 c38 k38 fun _ _ _ _ _ _ us hl => match us, hl with | [_, _, _, _], _ => rfl,
      d_union_of := mk_def (ps := ["one", "other"]) X G a39 l39 c39 k39 fun _ _ _ _ _ _ us hl => match us, hl with | [_, _], _ => rfl,
      d_open_columns := mk_def (ps := ["heap"]) X G a40 l40 c40 k40 fun _ _ _ _ _ _ us hl => match us, hl with | [_], _ => rfl,
      d_tips_of := mk_def (ps := ["heap"]) X G a41 l41 c41 k41 fun _ _ _ _ _ _ us hl => match us, hl with | [_], _ => rfl,
      d_heaped := mk_def (ps := ["heap", "columns"]) X G a42 l42 c42 k42 fun _ _ _ _ _ _ us hl => match us, hl with | [_, _], _ => rfl,
      d_lowered := mk_def (ps := ["heap", "columns"]) X G a43 l43 c43 k43 fun _ _ _ _ _ _ us hl => match us, hl with | [_, _], _ => rfl,
      d_grown_by := mk_def (ps := ["heap", "ring", "place"]) X G a44 l44 c44 k44 fun _ _ _ _ _ _ us hl => match us, hl with | [_, _, _], _ => rfl,
      d_heaps_of := mk_def (ps := ["chain", "places"]) X G a45 l45 c45 k45 fun _ _ _ _ _ _ us hl => match us, hl with | [_, _], _ => rfl,
      d_check_order := mk_def (ps := ["k"]) X G a46 l46 c46 k46 fun _ _ _ _ _ _ us hl => match us, hl with | [_], _ => rfl,
      d_beads_of := mk_def (ps := ["heap"]) X G a47 l47 c47 k47 fun _ _ _ _ _ _ us hl => match us, hl with | [_], _ => rfl,
      d_stays_core := mk_def (ps := ["k", "heap"]) X G a48 l48 c48 k48 fun _ _ _ _ _ _ us hl => match us, hl with | [_, _], _ => rfl,
      d_is_core := mk_def (ps := ["k", "value"]) X G a49 l49 c49 k49 fun _ _ _ _ _ _ us hl => match us, hl with | [_, _], _ => rfl,
      d_check_core := mk_def (ps := ["k", "core"]) X G a50 l50 c50 k50 fun _ _ _ _ _ _ us hl => match us, hl with | [_, _], _ => rfl,
      d_check_told := mk_def (ps := ["k", "core"]) X G a51 l51 c51 k51 fun _ _ _ _ _ _ us hl => match us, hl with | [_, _], _ => rfl,
      d_parts_of := mk_def (ps := ["k", "heap"]) X G a52 l52 c52 k52 fun _ _ _ _ _ _ us hl => match us, hl with | [_, _], _ => rfl,
      d_letters_of := mk_def (ps := ["k", "core"]) X G a53 l53 c53 k53 fun _ _ _ _ _ _ us hl => match us, hl with | [_, _], _ => rfl,
      d_check_letters := mk_def (ps := ["k", "core", "most"]) X G a54 l54 c54 k54 fun _ _ _ _ _ _ us hl => match us, hl with | [_, _, _], _ => rfl,
      d_ahead_of_letter := mk_def (ps := ["k", "core", "letter"]) X G a55 l55 c55 k55 fun _ _ _ _ _ _ us hl => match us, hl with | [_, _, _], _ => rfl,
      d_last_letters := mk_def (ps := ["k", "core"]) X G a56 l56 c56 k56 fun _ _ _ _ _ _ us hl => match us, hl with | [_, _], _ => rfl,
      d_growing_word := mk_def (ps := ["k", "core"]) X G a57 l57 c57 k57 fun _ _ _ _ _ _ us hl => match us, hl with | [_, _], _ => rfl,
      d_letter_of := mk_def (ps := ["ring", "place"]) X G a58 l58 c58 k58 fun _ _ _ _ _ _ us hl => match us, hl with | [_, _], _ => rfl,
      d_map_values := mk_def (ps := ["chain", "degree", "places", "first", "last"]) X G a59 l59 c59 k59 fun _ _ _ _ _ _ us hl => match us, hl with | [_, _, _, _, _], _ => rfl,
      d_is_levels := mk_def (ps := ["value"]) X G a60 l60 c60 k60 fun _ _ _ _ _ _ us hl => match us, hl with | [_], _ => rfl,
      d_check_levels := mk_def (ps := ["levels"]) X G a61 l61 c61 k61 fun _ _ _ _ _ _ us hl => match us, hl with | [_], _ => rfl,
      d_check_like_levels := mk_def (ps := ["levels", "many"]) X G a62 l62 c62 k62 fun _ _ _ _ _ _ us hl => match us, hl with | [_, _], _ => rfl,
      d_check_one_order := mk_def (ps := ["chain"]) X G a63 l63 c63 k63 fun _ _ _ _ _ _ us hl => match us, hl with | [_], _ => rfl,
      d_distance_in := mk_def (ps := ["levels"]) X G a64 l64 c64 k64 fun _ _ _ _ _ _ us hl => match us, hl with | [_], _ => rfl,
      d_distance := mk_def (ps := ["levels"]) X G a65 l65 c65 k65 fun _ _ _ _ _ _ us hl => match us, hl with | [_], _ => rfl,
      d_columns_at := mk_def (ps := ["levels", "c"]) X G a66 l66 c66 k66 fun _ _ _ _ _ _ us hl => match us, hl with | [_, _], _ => rfl,
      d_rows_at := mk_def (ps := ["levels", "c"]) X G a67 l67 c67 k67 fun _ _ _ _ _ _ us hl => match us, hl with | [_, _], _ => rfl,
      d_level_richness := mk_def (ps := ["levels", "c"]) X G a68 l68 c68 k68 fun _ _ _ _ _ _ us hl => match us, hl with | [_, _], _ => rfl,
      d_are_above := mk_def (ps := ["one", "other"]) X G a69 l69 c69 k69 fun _ _ _ _ _ _ us hl => match us, hl with | [_, _], _ => rfl,
      d_levels_at := mk_def (ps := ["chain", "degree", "places"]) X G a70 l70 c70 k70 fun _ _ _ _ _ _ us hl => match us, hl with | [_, _, _], _ => rfl,
      d_levels_of := mk_def (ps := ["chain", "deal"]) X G a71 l71 c71 k71 fun _ _ _ _ _ _ us hl => match us, hl with | [_, _], _ => rfl,
      d_core_with_levels := mk_def (ps := ["levels"]) X G a72 l72 c72 k72 fun _ _ _ _ _ _ us hl => match us, hl with | [_], _ => rfl,
      d_core_of_levels := mk_def (ps := ["levels"]) X G a73 l73 c73 k73 fun _ _ _ _ _ _ us hl => match us, hl with | [_], _ => rfl,
      d_can_be_met := mk_def (ps := ["rings", "levels"]) X G a74 l74 c74 k74 fun _ _ _ _ _ _ us hl => match us, hl with | [_, _], _ => rfl,
      d_check_asked_levels := mk_def (ps := ["chain", "levels"]) X G a75 l75 c75 k75 fun _ _ _ _ _ _ us hl => match us, hl with | [_, _], _ => rfl,
      d_idle_at := mk_def (ps := ["k", "core"]) X G a76 l76 c76 k76 fun _ _ _ _ _ _ us hl => match us, hl with | [_, _], _ => rfl,
      d_class_with_levels := mk_def (ps := ["chain", "levels"]) X G a77 l77 c77 k77 fun _ _ _ _ _ _ us hl => match us, hl with | [_, _], _ => rfl,
      d_has_levels := mk_def (ps := ["chain", "levels", "value"]) X G a78 l78 c78 k78 fun _ _ _ _ _ _ us hl => match us, hl with | [_, _, _], _ => rfl,
      d_richness_at := mk_def (ps := ["chain", "degree", "places"]) X G a79 l79 c79 k79 fun _ _ _ _ _ _ us hl => match us, hl with | [_, _, _], _ => rfl,
      d_richness_of := mk_def (ps := ["chain", "deal"]) X G a80 l80 c80 k80 fun _ _ _ _ _ _ us hl => match us, hl with | [_, _], _ => rfl,
      d_richness := mk_def (ps := ["chain", "deal"]) X G a81 l81 c81 k81 fun _ _ _ _ _ _ us hl => match us, hl with | [_, _], _ => rfl,
      d_l_dice := mk_def (ps := ["_law_script", "_law_at"]) X G a82 l82 c82 k82 fun _ _ _ _ _ _ us hl => match us, hl with | [_, _], _ => rfl,
      d_l_roll := mk_def (ps := ["_law_dice_here", "_law_total"]) X G a83 l83 c83 k83 fun _ _ _ _ _ _ us hl => match us, hl with | [_, _], _ => rfl,
      d_l_one_of := mk_def (ps := ["_law_dice_here", "_law_items"]) X G a84 l84 c84 k84 fun _ _ _ _ _ _ us hl => match us, hl with | [_, _], _ => rfl,
      d_l_mixed := mk_def (ps := ["_law_dice_here", "_law_items"]) X G a85 l85 c85 k85 fun _ _ _ _ _ _ us hl => match us, hl with | [_, _], _ => rfl,
      d_l_common := mk_def (ps := ["_law_one", "_law_other"]) X G a86 l86 c86 k86 fun _ _ _ _ _ _ us hl => match us, hl with | [_, _], _ => rfl,
      d_l_order := mk_def (ps := ["_law_ring"]) X G a87 l87 c87 k87 fun _ _ _ _ _ _ us hl => match us, hl with | [_], _ => rfl,
      d_l_ring_of := mk_def (ps := ["_law_dice_here", "_law_k", "_law_times"]) X G a88 l88 c88 k88 fun _ _ _ _ _ _ us hl => match us, hl with | [_, _, _], _ => rfl,
      d_l_equal_chain := mk_def (ps := ["_law_dice_here", "_law_rings", "_law_k"]) X G a89 l89 c89 k89 fun _ _ _ _ _ _ us hl => match us, hl with | [_, _, _], _ => rfl,
      d_l_tuple := mk_def (ps := ["_law_dice_here", "_law_chain"]) X G a90 l90 c90 k90 fun _ _ _ _ _ _ us hl => match us, hl with | [_, _], _ => rfl,
      d_l_plain := mk_def (ps := ["_law_chain", "_law_total", "_law_x"]) X G a91 l91 c91 k91 fun _ _ _ _ _ _ us hl => match us, hl with | [_, _, _], _ => rfl,
      d_l_grown := mk_def (ps := ["_law_heap_here", "_law_ring", "_law_x"]) X G a92 l92 c92 k92 fun _ _ _ _ _ _ us hl => match us, hl with | [_, _, _], _ => rfl,
      d_l_heap := mk_def (ps := ["_law_chain", "_law_x"]) X G a93 l93 c93 k93 fun _ _ _ _ _ _ us hl => match us, hl with | [_, _], _ => rfl,
      d_l_rich := mk_def (ps := ["_law_heap_here", "_law_rings", "_law_total"]) X G a94 l94 c94 k94 fun _ _ _ _ _ _ us hl => match us, hl with | [_, _, _], _ => rfl,
      d_l_map := mk_def (ps := ["_law_chain", "_law_total", "_law_x", "_law_first", "_law_last"]) X G a95 l95 c95 k95 fun _ _ _ _ _ _ us hl => match us, hl with | [_, _, _, _, _], _ => rfl,
      d_l_levels := mk_def (ps := ["_law_chain", "_law_total", "_law_x"]) X G a96 l96 c96 k96 fun _ _ _ _ _ _ us hl => match us, hl with | [_, _, _], _ => rfl,
      d_l_distance := mk_def (ps := ["_law_levels_here"]) X G a97 l97 c97 k97 fun _ _ _ _ _ _ us hl => match us, hl with | [_], _ => rfl,
      d_l_sum_of := mk_def (ps := ["_law_levels_here", "_law_c"]) X G a98 l98 c98 k98 fun _ _ _ _ _ _ us hl => match us, hl with | [_, _], _ => rfl,
      d_l_is_above := mk_def (ps := ["_law_one", "_law_other"]) X G a99 l99 c99 k99 fun _ _ _ _ _ _ us hl => match us, hl with | [_, _], _ => rfl,
      d_l_drawn_levels := mk_def (ps := ["_law_dice_here", "_law_levels_here"]) X G a100 l100 c100 k100 fun _ _ _ _ _ _ us hl => match us, hl with | [_, _], _ => rfl,
      d_l_class_right := mk_def (ps := ["_law_dice_here", "_law_chain", "_law_total", "_law_x", "_law_own"]) X G a101 l101 c101 k101 fun _ _ _ _ _ _ us hl => match us, hl with | [_, _, _, _, _], _ => rfl,
      d_l_other_right := mk_def (ps := ["_law_chain", "_law_x", "_law_own", "_law_other"]) X G a102 l102 c102 k102 fun _ _ _ _ _ _ us hl => match us, hl with | [_, _, _, _], _ => rfl,
      d_l_right := mk_def (ps := ["_law_dice_here"]) X G a103 l103 c103 k103 fun _ _ _ _ _ _ us hl => match us, hl with | [_], _ => rfl }
  have F := fun_mk (st := sLaw) l104 c104 k104
  exact ⟨PySem.W.fnOf "law" "law" (defArgs sLaw) (defBody sLaw) (defScope sLaw) .none kV104 dc104 pm104 an104 cd104 ct104, fun s v => .of_eq rfl, fun base _ _ => ok_law T F⟩
/-- the end of the law's row, what the loose names hold told -/
theorem walk_x {l : PySem.W.OpenLaw} {k : Nat} {q : Program} {loose : List Str} {lv : List (Str × PySem.W.WData)} {YP : World → Heap → Prop} {d : DefRec} {K : Params → PySem.W.Frag}
    (hn : l.most = some 63) (hdf : d.params.defaults = []) (hr : Room k callerA) (hY : ∀ (w : World) (h : Heap), YP w h → (K w.params).In h)
    (F : ∀ (w : World) (mg : Str → Option Value) (fa : Addr) (h : Heap), (K w.params).In h → h.Ns mainGlobals mg → PySem.W.XL q lv mg h → mg d.name = some (.ref fa) →
      ∃ fd : FuncData, (∀ (s : Shared) (u : Value), BindsTo s fd ⟨[u], []⟩ [("_law_script", u)]) ∧
        ∀ base : Heap, (K w.params).In base → base.Ns mainGlobals mg → FnOk l.prog w (K w.params) mg base CX0 k fa fd ["_law_script"] (spLaw (K w.params))) :
    PySem.W.WalkO q loose (PySem.W.XL q lv) YP l.row.toRowW d [] (fun f vs => PySem.call f vs) := by
  refine Att.attach_call hn hdf fun w s₀ s₁ mg mb fa o pm cd doc a vs ns G Y ho hd hcd hmg hobj hints hlen hg => ?_
  obtain ⟨fd, hb, hF⟩ := F w mg fa _ (hY w _ Y) G.T.g G.X hmg
  exact law_call (hY w _ Y) G.T.g G.T.b G.T.builtins G.T.nolimit hg hobj hints (Nat.le_trans hlen (by decide)) hr hF hb (fun H _ hS => ⟨a, ns, rfl, hS, hlen, fun _ => rfl⟩) fun H e s' z => z
end K1

open PySem PySem.W PyProof.Rows
set_option maxHeartbeats 0 in
theorem PySem.Challenge.cw_ringstairs_k97_whole_levels_and_all_mult_holds : PySem.Challenge.rw_ringstairs_k97_whole_levels_and_all_mult.Holds := by
  w_on; o_law; k_head; (case hw => w_witness2)
  k_fill
  refine K1.walk_x (k := 12) rfl rfl ⟨rfl, by decide, by decide⟩ (fun w h Y => PySem.W.kIn_of Y) ?F
  case F =>
    intro w mg fa h KX G XF hmg
    have vBOUND : ∃ t, mg "BOUND" = some (.int (10 ^ 60) t) := by
      obtain ⟨v, e1, e2⟩ := XF.2.val _ (List.mem_cons_self ..)
      cases e2
      exact ⟨_, e1⟩
    have vSHORT_BOUND : ∃ t, mg "SHORT_BOUND" = some (.int (10 ^ 50) t) := by
      obtain ⟨v, e1, e2⟩ := XF.2.val _ (List.mem_cons_of_mem _ (List.mem_cons_self ..))
      cases e2
      exact ⟨_, e1⟩
    refine' K1.all_mk KX G hmg vBOUND vSHORT_BOUND ?gDIGITS ?gSHORT_DIGITS ?gRINGS ?gPLACES ?gSIDE ?gMAX_ORDER ?gMAX_LETTERS ?gMOST_DISTANCE ?bgcd ?z_abs ?z_all ?z_any ?z_bool ?z_dict ?z_enumerate ?z_int ?z_isinstance ?z_len ?z_list ?z_max ?z_min ?z_range ?z_reversed ?z_sorted ?z_sum ?z_tuple ?z_zip ?a0 ?l0 ?c0 ?k0 ?a1 ?l1 ?c1 ?k1 ?a2 ?l2 ?c2 ?k2 ?a3 ?l3 ?c3 ?k3 ?a4 ?l4 ?c4 ?k4 ?a5 ?l5 ?c5 ?k5 ?a6 ?l6 ?c6 ?k6 ?a7 ?l7 ?c7 ?k7 ?a8 ?l8 ?c8 ?k8 ?a9 ?l9 ?c9 ?k9 ?a10 ?l10 ?c10 ?k10 ?a11 ?l11 ?c11 ?k11 ?a12 ?l12 ?c12 ?k12 ?a13 ?l13 ?c13 ?k13 ?a14 ?l14 ?c14 ?k14 ?a15 ?l15 ?c15 ?k15 ?a16 ?l16 ?c16 ?k16 ?a17 ?l17 ?c17 ?k17 ?a18 ?l18 ?c18 ?k18 ?a19 ?l19 ?c19 ?k19 ?a20 ?l20 ?c20 ?k20 ?a21 ?l21 ?c21 ?k21 ?a22 ?l22 ?c22 ?k22 ?a23 ?l23 ?c23 ?k23 ?a24 ?l24 ?c24 ?k24 ?a25 ?l25 ?c25 ?k25 ?a26 ?l26 ?c26 ?k26 ?a27 ?l27 ?c27 ?k27 ?a28 ?l28 ?c28 ?k28 ?a29 ?l29 ?c29 ?k29 ?a30 ?l30 ?c30 ?k30 ?a31 ?l31 ?c31 ?k31 ?a32 ?l32 ?c32 ?k32 ?a33 ?l33 ?c33 ?k33 ?a34 ?l34 ?c34 ?k34 ?a35 ?l35 ?c35 ?k35 ?a36 ?l36 ?c36 ?k36 ?a37 ?l37 ?c37 ?k37 ?a38 ?l38 ?c38 ?k38 ?a39 ?l39 ?c39 ?k39 ?a40 ?l40 ?c40 ?k40 ?a41 ?l41 ?c41 ?k41 ?a42 ?l42 ?c42 ?k42 ?a43 ?l43 ?c43 ?k43 ?a44 ?l44 ?c44 ?k44 ?a45 ?l45 ?c45 ?k45 ?a46 ?l46 ?c46 ?k46 ?a47 ?l47 ?c47 ?k47 ?a48 ?l48 ?c48 ?k48 ?a49 ?l49 ?c49 ?k49 ?a50 ?l50 ?c50 ?k50 ?a51 ?l51 ?c51 ?k51 ?a52 ?l52 ?c52 ?k52 ?a53 ?l53 ?c53 ?k53 ?a54 ?l54 ?c54 ?k54 ?a55 ?l55 ?c55 ?k55 ?a56 ?l56 ?c56 ?k56 ?a57 ?l57 ?c57 ?k57 ?a58 ?l58 ?c58 ?k58 ?a59 ?l59 ?c59 ?k59 ?a60 ?l60 ?c60 ?k60 ?a61 ?l61 ?c61 ?k61 ?a62 ?l62 ?c62 ?k62 ?a63 ?l63 ?c63 ?k63 ?a64 ?l64 ?c64 ?k64 ?a65 ?l65 ?c65 ?k65 ?a66 ?l66 ?c66 ?k66 ?a67 ?l67 ?c67 ?k67 ?a68 ?l68 ?c68 ?k68 ?a69 ?l69 ?c69 ?k69 ?a70 ?l70 ?c70 ?k70 ?a71 ?l71 ?c71 ?k71 ?a72 ?l72 ?c72 ?k72 ?a73 ?l73 ?c73 ?k73 ?a74 ?l74 ?c74 ?k74 ?a75 ?l75 ?c75 ?k75 ?a76 ?l76 ?c76 ?k76 ?a77 ?l77 ?c77 ?k77 ?a78 ?l78 ?c78 ?k78 ?a79 ?l79 ?c79 ?k79 ?a80 ?l80 ?c80 ?k80 ?a81 ?l81 ?c81 ?k81 ?a82 ?l82 ?c82 ?k82 ?a83 ?l83 ?c83 ?k83 ?a84 ?l84 ?c84 ?k84 ?a85 ?l85 ?c85 ?k85 ?a86 ?l86 ?c86 ?k86 ?a87 ?l87 ?c87 ?k87 ?a88 ?l88 ?c88 ?k88 ?a89 ?l89 ?c89 ?k89 ?a90 ?l90 ?c90 ?k90 ?a91 ?l91 ?c91 ?k91 ?a92 ?l92 ?c92 ?k92 ?a93 ?l93 ?c93 ?k93 ?a94 ?l94 ?c94 ?k94 ?a95 ?l95 ?c95 ?k95 ?a96 ?l96 ?c96 ?k96 ?a97 ?l97 ?c97 ?k97 ?a98 ?l98 ?c98 ?k98 ?a99 ?l99 ?c99 ?k99 ?a100 ?l100 ?c100 ?k100 ?a101 ?l101 ?c101 ?k101 ?a102 ?l102 ?c102 ?k102 ?a103 ?l103 ?c103 ?k103 ?a104 ?l104 ?c104 ?k104
    (case gDIGITS => k_is); (case gSHORT_DIGITS => k_is); (case gRINGS => k_is); (case gPLACES => k_is); (case gSIDE => k_is); (case gMAX_ORDER => k_is); (case gMAX_LETTERS => k_is); (case gMOST_DISTANCE => k_is)
    (case bgcd => k_is); (case z_abs => k_is); (case z_all => k_is); (case z_any => k_is); (case z_bool => k_is); (case z_dict => k_is); (case z_enumerate => k_is); (case z_int => k_is)
    (case z_isinstance => k_is); (case z_len => k_is); (case z_list => k_is); (case z_max => k_is); (case z_min => k_is); (case z_range => k_is); (case z_reversed => k_is); (case z_sorted => k_is)
    (case z_sum => k_is); (case z_tuple => k_is); (case z_zip => k_is); (case a0 => k_is); (case l0 => k_is); (case c0 => k_is); (case k0 => k_is); (case a1 => k_is)
    (case l1 => k_is); (case c1 => k_is); (case k1 => k_is); (case a2 => k_is); (case l2 => k_is); (case c2 => k_is); (case k2 => k_is); (case a3 => k_is)
    (case l3 => k_is); (case c3 => k_is); (case k3 => k_is); (case a4 => k_is); (case l4 => k_is); (case c4 => k_is); (case k4 => k_is); (case a5 => k_is)
    (case l5 => k_is); (case c5 => k_is); (case k5 => k_is); (case a6 => k_is); (case l6 => k_is); (case c6 => k_is); (case k6 => k_is); (case a7 => k_is)
    (case l7 => k_is); (case c7 => k_is); (case k7 => k_is); (case a8 => k_is); (case l8 => k_is); (case c8 => k_is); (case k8 => k_is); (case a9 => k_is)
    (case l9 => k_is); (case c9 => k_is); (case k9 => k_is); (case a10 => k_is); (case l10 => k_is); (case c10 => k_is); (case k10 => k_is); (case a11 => k_is)
    (case l11 => k_is); (case c11 => k_is); (case k11 => k_is); (case a12 => k_is); (case l12 => k_is); (case c12 => k_is); (case k12 => k_is); (case a13 => k_is)
    (case l13 => k_is); (case c13 => k_is); (case k13 => k_is); (case a14 => k_is); (case l14 => k_is); (case c14 => k_is); (case k14 => k_is); (case a15 => k_is)
    (case l15 => k_is); (case c15 => k_is); (case k15 => k_is); (case a16 => k_is); (case l16 => k_is); (case c16 => k_is); (case k16 => k_is); (case a17 => k_is)
    (case l17 => k_is); (case c17 => k_is); (case k17 => k_is); (case a18 => k_is); (case l18 => k_is); (case c18 => k_is); (case k18 => k_is); (case a19 => k_is)
    (case l19 => k_is); (case c19 => k_is); (case k19 => k_is); (case a20 => k_is); (case l20 => k_is); (case c20 => k_is); (case k20 => k_is); (case a21 => k_is)
    (case l21 => k_is); (case c21 => k_is); (case k21 => k_is); (case a22 => k_is); (case l22 => k_is); (case c22 => k_is); (case k22 => k_is); (case a23 => k_is)
    (case l23 => k_is); (case c23 => k_is); (case k23 => k_is); (case a24 => k_is); (case l24 => k_is); (case c24 => k_is); (case k24 => k_is); (case a25 => k_is)
    (case l25 => k_is); (case c25 => k_is); (case k25 => k_is); (case a26 => k_is); (case l26 => k_is); (case c26 => k_is); (case k26 => k_is); (case a27 => k_is)
    (case l27 => k_is); (case c27 => k_is); (case k27 => k_is); (case a28 => k_is); (case l28 => k_is); (case c28 => k_is); (case k28 => k_is); (case a29 => k_is)
    (case l29 => k_is); (case c29 => k_is); (case k29 => k_is); (case a30 => k_is); (case l30 => k_is); (case c30 => k_is); (case k30 => k_is); (case a31 => k_is)
    (case l31 => k_is); (case c31 => k_is); (case k31 => k_is); (case a32 => k_is); (case l32 => k_is); (case c32 => k_is); (case k32 => k_is); (case a33 => k_is)
    (case l33 => k_is); (case c33 => k_is); (case k33 => k_is); (case a34 => k_is); (case l34 => k_is); (case c34 => k_is); (case k34 => k_is); (case a35 => k_is)
    (case l35 => k_is); (case c35 => k_is); (case k35 => k_is); (case a36 => k_is); (case l36 => k_is); (case c36 => k_is); (case k36 => k_is); (case a37 => k_is)
    (case l37 => k_is); (case c37 => k_is); (case k37 => k_is); (case a38 => k_is); (case l38 => k_is); (case c38 => k_is); (case k38 => k_is); (case a39 => k_is)
    (case l39 => k_is); (case c39 => k_is); (case k39 => k_is); (case a40 => k_is); (case l40 => k_is); (case c40 => k_is); (case k40 => k_is); (case a41 => k_is)
    (case l41 => k_is); (case c41 => k_is); (case k41 => k_is); (case a42 => k_is); (case l42 => k_is); (case c42 => k_is); (case k42 => k_is); (case a43 => k_is)
    (case l43 => k_is); (case c43 => k_is); (case k43 => k_is); (case a44 => k_is); (case l44 => k_is); (case c44 => k_is); (case k44 => k_is); (case a45 => k_is)
    (case l45 => k_is); (case c45 => k_is); (case k45 => k_is); (case a46 => k_is); (case l46 => k_is); (case c46 => k_is); (case k46 => k_is); (case a47 => k_is)
    (case l47 => k_is); (case c47 => k_is); (case k47 => k_is); (case a48 => k_is); (case l48 => k_is); (case c48 => k_is); (case k48 => k_is); (case a49 => k_is)
    (case l49 => k_is); (case c49 => k_is); (case k49 => k_is); (case a50 => k_is); (case l50 => k_is); (case c50 => k_is); (case k50 => k_is); (case a51 => k_is)
    (case l51 => k_is); (case c51 => k_is); (case k51 => k_is); (case a52 => k_is); (case l52 => k_is); (case c52 => k_is); (case k52 => k_is); (case a53 => k_is)
    (case l53 => k_is); (case c53 => k_is); (case k53 => k_is); (case a54 => k_is); (case l54 => k_is); (case c54 => k_is); (case k54 => k_is); (case a55 => k_is)
    (case l55 => k_is); (case c55 => k_is); (case k55 => k_is); (case a56 => k_is); (case l56 => k_is); (case c56 => k_is); (case k56 => k_is); (case a57 => k_is)
    (case l57 => k_is); (case c57 => k_is); (case k57 => k_is); (case a58 => k_is); (case l58 => k_is); (case c58 => k_is); (case k58 => k_is); (case a59 => k_is)
    (case l59 => k_is); (case c59 => k_is); (case k59 => k_is); (case a60 => k_is); (case l60 => k_is); (case c60 => k_is); (case k60 => k_is); (case a61 => k_is)
    (case l61 => k_is); (case c61 => k_is); (case k61 => k_is); (case a62 => k_is); (case l62 => k_is); (case c62 => k_is); (case k62 => k_is); (case a63 => k_is)
    (case l63 => k_is); (case c63 => k_is); (case k63 => k_is); (case a64 => k_is); (case l64 => k_is); (case c64 => k_is); (case k64 => k_is); (case a65 => k_is)
    (case l65 => k_is); (case c65 => k_is); (case k65 => k_is); (case a66 => k_is); (case l66 => k_is); (case c66 => k_is); (case k66 => k_is); (case a67 => k_is)
    (case l67 => k_is); (case c67 => k_is); (case k67 => k_is); (case a68 => k_is); (case l68 => k_is); (case c68 => k_is); (case k68 => k_is); (case a69 => k_is)
    (case l69 => k_is); (case c69 => k_is); (case k69 => k_is); (case a70 => k_is); (case l70 => k_is); (case c70 => k_is); (case k70 => k_is); (case a71 => k_is)
    (case l71 => k_is); (case c71 => k_is); (case k71 => k_is); (case a72 => k_is); (case l72 => k_is); (case c72 => k_is); (case k72 => k_is); (case a73 => k_is)
    (case l73 => k_is); (case c73 => k_is); (case k73 => k_is); (case a74 => k_is); (case l74 => k_is); (case c74 => k_is); (case k74 => k_is); (case a75 => k_is)
    (case l75 => k_is); (case c75 => k_is); (case k75 => k_is); (case a76 => k_is); (case l76 => k_is); (case c76 => k_is); (case k76 => k_is); (case a77 => k_is)
    (case l77 => k_is); (case c77 => k_is); (case k77 => k_is); (case a78 => k_is); (case l78 => k_is); (case c78 => k_is); (case k78 => k_is); (case a79 => k_is)
    (case l79 => k_is); (case c79 => k_is); (case k79 => k_is); (case a80 => k_is); (case l80 => k_is); (case c80 => k_is); (case k80 => k_is); (case a81 => k_is)
    (case l81 => k_is); (case c81 => k_is); (case k81 => k_is); (case a82 => k_is); (case l82 => k_is); (case c82 => k_is); (case k82 => k_is); (case a83 => k_is)
    (case l83 => k_is); (case c83 => k_is); (case k83 => k_is); (case a84 => k_is); (case l84 => k_is); (case c84 => k_is); (case k84 => k_is); (case a85 => k_is)
    (case l85 => k_is); (case c85 => k_is); (case k85 => k_is); (case a86 => k_is); (case l86 => k_is); (case c86 => k_is); (case k86 => k_is); (case a87 => k_is)
    (case l87 => k_is); (case c87 => k_is); (case k87 => k_is); (case a88 => k_is); (case l88 => k_is); (case c88 => k_is); (case k88 => k_is); (case a89 => k_is)
    (case l89 => k_is); (case c89 => k_is); (case k89 => k_is); (case a90 => k_is); (case l90 => k_is); (case c90 => k_is); (case k90 => k_is); (case a91 => k_is)
    (case l91 => k_is); (case c91 => k_is); (case k91 => k_is); (case a92 => k_is); (case l92 => k_is); (case c92 => k_is); (case k92 => k_is); (case a93 => k_is)
    (case l93 => k_is); (case c93 => k_is); (case k93 => k_is); (case a94 => k_is); (case l94 => k_is); (case c94 => k_is); (case k94 => k_is); (case a95 => k_is)
    (case l95 => k_is); (case c95 => k_is); (case k95 => k_is); (case a96 => k_is); (case l96 => k_is); (case c96 => k_is); (case k96 => k_is); (case a97 => k_is)
    (case l97 => k_is); (case c97 => k_is); (case k97 => k_is); (case a98 => k_is); (case l98 => k_is); (case c98 => k_is); (case k98 => k_is); (case a99 => k_is)
    (case l99 => k_is); (case c99 => k_is); (case k99 => k_is); (case a100 => k_is); (case l100 => k_is); (case c100 => k_is); (case k100 => k_is); (case a101 => k_is)
    (case l101 => k_is); (case c101 => k_is); (case k101 => k_is); (case a102 => k_is); (case l102 => k_is); (case c102 => k_is); (case k102 => k_is); (case a103 => k_is)
    (case l103 => k_is); (case c103 => k_is); (case k103 => k_is); (case a104 => k_is); (case l104 => k_is); (case c104 => k_is); (case k104 => k_is)

