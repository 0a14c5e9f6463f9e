import PyProof.Rows.All
import Wide.All
import OpenK.AllK
import Wide.FinOn
import HandS.ForMost
import HandS.ForExc
import HandS.Wide
import HandS.Gcd
import HandS.TupMul
import HandS.IsInst
import HandS.Evl
import KE.GoesEnum
import KE.KExcInit
import PySem.Challenge.RW_ringstairs_k01_orders_and_let_diagonals
set_option Elab.async false
set_option linter.all false
set_option maxRecDepth 100000
set_option maxHeartbeats 4000000
/-! plain mathematics for the orders and the diagonals -/
namespace K1M
/-- the step: the i-th place on the way from the right door by the left door -/
theorem dvd_iff {n s i : Nat} (hn : 0 < n) : (i * s) % n = 0 ↔ (n / Nat.gcd n s) ∣ i := by
  have hg : 0 < Nat.gcd n s := Nat.gcd_pos_of_pos_left _ hn
  have hc : Nat.Coprime (n / Nat.gcd n s) (s / Nat.gcd n s) := Nat.coprime_div_gcd_div_gcd hg
  have hn' : n = Nat.gcd n s * (n / Nat.gcd n s) := (Nat.mul_div_cancel' (Nat.gcd_dvd_left n s)).symm
  have hs' : s = Nat.gcd n s * (s / Nat.gcd n s) := (Nat.mul_div_cancel' (Nat.gcd_dvd_right n s)).symm
  constructor
  · intro h
    have d : n ∣ i * s := Nat.dvd_of_mod_eq_zero h
    have d2 : Nat.gcd n s * (n / Nat.gcd n s) ∣ Nat.gcd n s * (i * (s / Nat.gcd n s)) := by
      rw [← hn']
      have e : Nat.gcd n s * (i * (s / Nat.gcd n s)) = i * s := by
        rw [Nat.mul_left_comm, ← hs']
      rw [e]
      exact d
    have d3 := Nat.dvd_of_mul_dvd_mul_left hg d2
    exact hc.dvd_of_dvd_mul_right d3
  · rintro ⟨c, rfl⟩
    apply Nat.mod_eq_zero_of_dvd
    refine ⟨c * (s / Nat.gcd n s), ?_⟩
    have e : n / Nat.gcd n s * c * s = n / Nat.gcd n s * c * (Nat.gcd n s * (s / Nat.gcd n s)) := by rw [← hs']
    rw [e]
    have e2 : n * (c * (s / Nat.gcd n s)) = Nat.gcd n s * (n / Nat.gcd n s) * (c * (s / Nat.gcd n s)) := by rw [← hn']
    rw [e2]
    simp only [Nat.mul_assoc, Nat.mul_left_comm, Nat.mul_comm]
def ord (n s : Nat) : Nat := n / Nat.gcd n s
theorem ord_pos {n s : Nat} (hn : 0 < n) : 0 < ord n s := Nat.div_pos (Nat.gcd_le_left s hn) (Nat.gcd_pos_of_pos_left _ hn)
theorem ord_le {n s : Nat} : ord n s ≤ n := Nat.div_le_self _ _
theorem ord_ge2 {n s : Nat} (h1 : 1 ≤ s) (h2 : s < n) : 2 ≤ ord n s := by
  have hn : 0 < n := by omega
  have hg : 0 < Nat.gcd n s := Nat.gcd_pos_of_pos_left _ hn
  have hle : Nat.gcd n s ≤ s := Nat.le_of_dvd h1 (Nat.gcd_dvd_right n s)
  have hn' : n = Nat.gcd n s * ord n s := (Nat.mul_div_cancel' (Nat.gcd_dvd_left n s)).symm
  rcases Nat.lt_or_ge (ord n s) 2 with h | h
  · exfalso
    have hp := ord_pos (s := s) hn
    have e1 : ord n s = 1 := by omega
    rw [e1, Nat.mul_one] at hn'
    omega
  · exact h
/-- the way: while the next is not 0 and there are fewer than n -/
def stp (n s i : Nat) : Nat := (i * s) % n
theorem stp_zero_iff {n s i : Nat} (hn : 0 < n) : stp n s i = 0 ↔ ord n s ∣ i := dvd_iff hn
theorem stp_mod {n s i : Nat} (hn : 0 < n) : stp n s (i % ord n s) = stp n s i := by
  have h0 : (ord n s * s) % n = 0 := (stp_zero_iff (i := ord n s) hn).mpr (Nat.dvd_refl _)
  have e : i = ord n s * (i / ord n s) + i % ord n s := (Nat.div_add_mod i (ord n s)).symm
  have e2 : i * s = (i / ord n s) * (ord n s * s) + (i % ord n s) * s := by
    have : (ord n s * (i / ord n s) + i % ord n s) * s = (i / ord n s) * (ord n s * s) + (i % ord n s) * s := by
      rw [Nat.add_mul]
      congr 1
      simp only [Nat.mul_assoc, Nat.mul_left_comm, Nat.mul_comm]
    rw [← this, ← e]
  obtain ⟨q, hq⟩ := Nat.dvd_of_mod_eq_zero h0
  unfold stp
  rw [e2, hq, Nat.mul_left_comm, Nat.add_comm, Nat.add_mul_mod_self_left]
/-- the same for integers: the diagonal's place -/
theorem istp {n s : Nat} (hn : 0 < n) (c : Int) : (c * (s : Int)) % (n : Int) = ((stp n s (c % (ord n s : Int)).toNat : Nat) : Int) := by
  have hm : 0 < ord n s := ord_pos hn
  have hm' : (0 : Int) < (ord n s : Int) := by exact_mod_cast hm
  have hr0 : 0 ≤ c % (ord n s : Int) := Int.emod_nonneg _ (by omega)
  have h0 : ((ord n s : Int) * (s : Int)) % (n : Int) = 0 := by
    have h0 : (ord n s * s) % n = 0 := (stp_zero_iff (i := ord n s) hn).mpr (Nat.dvd_refl _)
    have := congrArg (fun x : Nat => (x : Int)) h0
    simpa using this
  have e : c = (ord n s : Int) * (c / (ord n s : Int)) + c % (ord n s : Int) := (Int.mul_ediv_add_emod c (ord n s : Int)).symm
  have e2 : c * (s : Int) = (c / (ord n s : Int)) * ((ord n s : Int) * (s : Int)) + (c % (ord n s : Int)) * (s : Int) := by
    have : ((ord n s : Int) * (c / (ord n s : Int)) + c % (ord n s : Int)) * (s : Int) = (c / (ord n s : Int)) * ((ord n s : Int) * (s : Int)) + (c % (ord n s : Int)) * (s : Int) := by
      rw [Int.add_mul]
      congr 1
      rw [Int.mul_assoc, Int.mul_left_comm]
    rw [← this, ← e]
  rw [e2, Int.add_emod, Int.mul_emod, h0, Int.mul_zero, Int.zero_emod, Int.zero_add, Int.emod_emod]
  unfold stp
  have e3 : c % (ord n s : Int) = (((c % (ord n s : Int)).toNat : Nat) : Int) := (Int.toNat_of_nonneg hr0).symm
  conv => lhs; rw [e3]
  simp
/-- does_let tells just the place -/
theorem lets_iff {n : Nat} {x p : Int} (hn : 0 < n) (h0 : 0 ≤ p) (h1 : p < n) : (x - p) % (n : Int) = 0 ↔ x % (n : Int) = p := by
  have hn' : (0 : Int) < n := by exact_mod_cast hn
  constructor
  · intro h
    have e := Int.emod_emod_of_dvd x (Int.dvd_refl (n : Int))
    have h2 : x = (n : Int) * ((x - p) / n) + p := by
      have := Int.mul_ediv_add_emod (x - p) n
      omega
    rw [h2, Int.add_comm, Int.add_mul_emod_self_left]
    exact Int.emod_eq_of_lt h0 h1
  · intro h
    have h2 := Int.mul_ediv_add_emod x n
    have h3 : x - p = (n : Int) * (x / n) := by omega
    rw [h3, Int.mul_emod_right]
/-- the stop of the loop is the order -/
theorem stop_is {n s k : Nat} (hn : 0 < n) (hk : 1 ≤ k) (hkn : k ≤ n) (hlow : ∀ i, 0 < i → i < k → stp n s i ≠ 0) (hstop : stp n s k = 0 ∨ k = n) : k = ord n s := by
  have hm := ord_pos (s := s) hn
  have hmn : ord n s ≤ n := ord_le
  have h1 : k ≤ ord n s := by
    rcases Nat.lt_or_ge (ord n s) k with h | h
    · exact absurd ((stp_zero_iff hn).mpr (Nat.dvd_refl _)) (hlow _ hm h)
    · exact h
  rcases hstop with h | h
  · have d := (stp_zero_iff hn).mp h
    have := Nat.le_of_dvd hk d
    omega
  · omega
end K1M

namespace K1
open PySem PySem.Spec PyProof.Rows L2 Evl
def topS (i : Nat) : Stmt := PySem.Challenge.pw_ringstairs_k01_orders_and_let_diagonals.main.body.getD i (.Pass ⟨0, 0, 0, 0⟩)
abbrev sIsInteger : Stmt := topS 8
abbrev nIsInteger : List Str := ["value"]
theorem scIsInteger : FnScope nIsInteger ["value"] (defScope sIsInteger) := ⟨rfl, rfl, rfl, by decide +kernel, rfl, by decide +kernel, by decide +kernel⟩
abbrev sIsBetween : Stmt := topS 9
abbrev nIsBetween : List Str := ["value", "low", "high"]
theorem scIsBetween : FnScope nIsBetween ["value", "low", "high"] (defScope sIsBetween) := ⟨rfl, rfl, rfl, by decide +kernel, rfl, by decide +kernel, by decide +kernel⟩
abbrev sIsPair : Stmt := topS 10
abbrev nIsPair : List Str := ["value"]
theorem scIsPair : FnScope nIsPair ["value"] (defScope sIsPair) := ⟨rfl, rfl, rfl, by decide +kernel, rfl, by decide +kernel, by decide +kernel⟩
abbrev sCheckInteger : Stmt := topS 11
abbrev nCheckInteger : List Str := ["value"]
theorem scCheckInteger : FnScope nCheckInteger ["value"] (defScope sCheckInteger) := ⟨rfl, rfl, rfl, by decide +kernel, rfl, by decide +kernel, by decide +kernel⟩
abbrev sIsRing : Stmt := topS 15
abbrev nIsRing : List Str := ["value", "places", "door"]
theorem scIsRing : FnScope nIsRing ["value"] (defScope sIsRing) := ⟨rfl, rfl, rfl, by decide +kernel, rfl, by decide +kernel, by decide +kernel⟩
abbrev sIsChain : Stmt := topS 16
abbrev nIsChain : List Str := ["value", "ring"]
theorem scIsChain : FnScope nIsChain ["value"] (defScope sIsChain) := ⟨rfl, rfl, rfl, by decide +kernel, rfl, by decide +kernel, by decide +kernel⟩
abbrev sCheckRing : Stmt := topS 17
abbrev nCheckRing : List Str := ["ring"]
theorem scCheckRing : FnScope nCheckRing ["ring"] (defScope sCheckRing) := ⟨rfl, rfl, rfl, by decide +kernel, rfl, by decide +kernel, by decide +kernel⟩
abbrev sCheckChain : Stmt := topS 18
abbrev nCheckChain : List Str := ["chain"]
theorem scCheckChain : FnScope nCheckChain ["chain"] (defScope sCheckChain) := ⟨rfl, rfl, rfl, by decide +kernel, rfl, by decide +kernel, by decide +kernel⟩
abbrev sOrderOf : Stmt := topS 19
abbrev nOrderOf : List Str := ["ring"]
theorem scOrderOf : FnScope nOrderOf ["ring"] (defScope sOrderOf) := ⟨rfl, rfl, rfl, by decide +kernel, rfl, by decide +kernel, by decide +kernel⟩
abbrev sLets : Stmt := topS 20
abbrev nLets : List Str := ["ring", "place", "diagonal"]
theorem scLets : FnScope nLets ["ring", "place", "diagonal"] (defScope sLets) := ⟨rfl, rfl, rfl, by decide +kernel, rfl, by decide +kernel, by decide +kernel⟩
abbrev sDoesLet : Stmt := topS 21
abbrev nDoesLet : List Str := ["ring", "place", "diagonal"]
theorem scDoesLet : FnScope nDoesLet ["ring", "place", "diagonal"] (defScope sDoesLet) := ⟨rfl, rfl, rfl, by decide +kernel, rfl, by decide +kernel, by decide +kernel⟩
abbrev sWrittenName : Stmt := topS 22
abbrev nWrittenName : List Str := ["chain", "place", "index", "spot"]
theorem scWrittenName : FnScope nWrittenName ["chain", "place"] (defScope sWrittenName) := ⟨rfl, rfl, rfl, by decide +kernel, rfl, by decide +kernel, by decide +kernel⟩
abbrev sNamesOf : Stmt := topS 23
abbrev nNamesOf : List Str := ["chain", "every", "index", "ring", "spot", "place"]
theorem scNamesOf : FnScope nNamesOf ["chain"] (defScope sNamesOf) := ⟨rfl, rfl, rfl, by decide +kernel, rfl, by decide +kernel, by decide +kernel⟩
abbrev sPlacesOf : Stmt := topS 24
abbrev nPlacesOf : List Str := ["chain"]
theorem scPlacesOf : FnScope nPlacesOf ["chain"] (defScope sPlacesOf) := ⟨rfl, rfl, rfl, by decide +kernel, rfl, by decide +kernel, by decide +kernel⟩
abbrev sJoinedChains : Stmt := topS 25
abbrev nJoinedChains : List Str := ["one", "other"]
theorem scJoinedChains : FnScope nJoinedChains ["one", "other"] (defScope sJoinedChains) := ⟨rfl, rfl, rfl, by decide +kernel, rfl, by decide +kernel, by decide +kernel⟩
abbrev sLDice : Stmt := topS 27
abbrev nLDice : List Str := ["_law_script", "_law_at", "_law_cell", "_law_great", "_law_left", "_law_mixed_here"]
theorem scLDice : FnScope nLDice ["_law_script", "_law_at"] (defScope sLDice) := ⟨rfl, rfl, rfl, by decide +kernel, rfl, by decide +kernel, by decide +kernel⟩
abbrev sLRoll : Stmt := topS 28
abbrev nLRoll : List Str := ["_law_dice_here", "_law_total", "_law_size", "_law_drawn", "_law_one", "_law_two"]
theorem scLRoll : FnScope nLRoll ["_law_dice_here", "_law_total"] (defScope sLRoll) := ⟨rfl, rfl, rfl, by decide +kernel, rfl, by decide +kernel, by decide +kernel⟩
abbrev sLOneOf : Stmt := topS 29
abbrev nLOneOf : List Str := ["_law_dice_here", "_law_items"]
theorem scLOneOf : FnScope nLOneOf ["_law_dice_here", "_law_items"] (defScope sLOneOf) := ⟨rfl, rfl, rfl, by decide +kernel, rfl, by decide +kernel, by decide +kernel⟩
abbrev sLCommon : Stmt := topS 31
abbrev nLCommon : List Str := ["_law_one", "_law_other"]
theorem scLCommon : FnScope nLCommon ["_law_one", "_law_other"] (defScope sLCommon) := ⟨rfl, rfl, rfl, by decide +kernel, rfl, by decide +kernel, by decide +kernel⟩
abbrev sLRing : Stmt := topS 33
abbrev nLRing : List Str := ["_law_dice_here", "_law_most", "_law_n"]
theorem scLRing : FnScope nLRing ["_law_dice_here", "_law_most"] (defScope sLRing) := ⟨rfl, rfl, rfl, by decide +kernel, rfl, by decide +kernel, by decide +kernel⟩
abbrev sLRingOf : Stmt := topS 34
abbrev nLRingOf : List Str := ["_law_dice_here", "_law_k", "_law_times", "_law_more", "_law_steps_here", "_law_one"]
theorem scLRingOf : FnScope nLRingOf ["_law_dice_here", "_law_k", "_law_times"] (defScope sLRingOf) := ⟨rfl, rfl, rfl, by decide +kernel, rfl, by decide +kernel, by decide +kernel⟩
abbrev sLChain : Stmt := topS 35
abbrev nLChain : List Str := ["_law_dice_here", "_law_rings", "_law_most", "_law_k", "_law_turn"]
theorem scLChain : FnScope nLChain ["_law_dice_here", "_law_rings", "_law_most"] (defScope sLChain) := ⟨rfl, rfl, rfl, by decide +kernel, rfl, by decide +kernel, by decide +kernel⟩
abbrev sLSteps : Stmt := topS 36
abbrev nLSteps : List Str := ["_law_ring_here", "_law_found", "_law_here"]
theorem scLSteps : FnScope nLSteps ["_law_ring_here"] (defScope sLSteps) := ⟨rfl, rfl, rfl, by decide +kernel, rfl, by decide +kernel, by decide +kernel⟩
abbrev sLRingRight : Stmt := topS 37
abbrev nLRingRight : List Str := ["_law_dice_here", "_law_ring_here", "_law_steps_here", "_law_m", "_law_great", "_law_diagonal", "_law_place", "_law_let", "_law_due", "_law_c"]
theorem scLRingRight : FnScope nLRingRight ["_law_dice_here", "_law_ring_here"] (defScope sLRingRight) := ⟨rfl, rfl, rfl, by decide +kernel, rfl, by decide +kernel, by decide +kernel⟩
abbrev sLRingsJudged : Stmt := topS 38
abbrev nLRingsJudged : List Str := ["_law_dice_here", "_law_ring_here", "_law_n", "_law_s", "_law_odd", "_law_wrong"]
theorem scLRingsJudged : FnScope nLRingsJudged ["_law_dice_here", "_law_ring_here"] (defScope sLRingsJudged) := ⟨rfl, rfl, rfl, by decide +kernel, rfl, by decide +kernel, by decide +kernel⟩
abbrev sLJoinedRight : Stmt := topS 39
abbrev nLJoinedRight : List Str := ["_law_dice_here", "_law_one", "_law_other", "e", "_law_both"]
theorem scLJoinedRight : FnScope nLJoinedRight ["_law_dice_here"] (defScope sLJoinedRight) := ⟨rfl, rfl, rfl, by decide +kernel, rfl, by decide +kernel, by decide +kernel⟩
abbrev sLRight : Stmt := topS 40
abbrev nLRight : List Str := ["_law_dice_here", "_law_turn", "_law_ring_here"]
theorem scLRight : FnScope nLRight ["_law_dice_here"] (defScope sLRight) := ⟨rfl, rfl, rfl, by decide +kernel, rfl, by decide +kernel, by decide +kernel⟩
abbrev sLaw : Stmt := topS 41
abbrev nLaw : List Str := ["_law_script", "_law_at"]
theorem scLaw : FnScope nLaw ["_law_script"] (defScope sLaw) := ⟨rfl, rfl, rfl, by decide +kernel, rfl, by decide +kernel, by decide +kernel⟩
/-- a def of the text at its place, and how its arguments bind -/
structure DefAt (K : PySem.W.Frag) (mg : Str → Option Value) (x : Str) (st : Stmt) (ps : List Str) (f : Addr) (fd : FuncData) : Prop where
  F : Fun K x x st f fd
  g : mg x = some (.ref f)
  b : Binds K fd ps []
/-- what the top has written -/
structure Txt (K : PySem.W.Frag) (mg : Str → Option Value) : Prop where
  z_isinstance : mg "isinstance" = none
  z_len : mg "len" = none
  z_int : mg "int" = none
  z_bool : mg "bool" = none
  z_tuple : mg "tuple" = none
  z_all : mg "all" = none
  z_range : mg "range" = none
  z_abs : mg "abs" = none
  z_min : mg "min" = none
  z_max : mg "max" = none
  z_enumerate : mg "enumerate" = none
  v_gcd : mg "gcd" = some (.builtin "math.gcd")
  v_BOUND : ∃ t, mg "BOUND" = some (.int (10 ^ 60) t)
  v_RINGS : ∃ t, mg "MOST_RINGS" = some (.int 12 t)
  v_PLACES : ∃ t, mg "MOST_PLACES" = some (.int 60 t)
  d_is_integer : ∃ f fd, DefAt K mg "is_integer" sIsInteger ["value"] f fd
  d_is_between : ∃ f fd, DefAt K mg "is_between" sIsBetween ["value", "low", "high"] f fd
  d_is_pair : ∃ f fd, DefAt K mg "is_pair" sIsPair ["value"] f fd
  d_check_integer : ∃ f fd, DefAt K mg "check_integer" sCheckInteger ["value"] f fd
  d_is_ring : ∃ f fd, DefAt K mg "is_ring" sIsRing ["value"] f fd
  d_is_chain : ∃ f fd, DefAt K mg "is_chain" sIsChain ["value"] f fd
  d_check_ring : ∃ f fd, DefAt K mg "check_ring" sCheckRing ["ring"] f fd
  d_check_chain : ∃ f fd, DefAt K mg "check_chain" sCheckChain ["chain"] f fd
  d_order_of : ∃ f fd, DefAt K mg "order_of" sOrderOf ["ring"] f fd
  d_lets : ∃ f fd, DefAt K mg "lets" sLets ["ring", "place", "diagonal"] f fd
  d_does_let : ∃ f fd, DefAt K mg "does_let" sDoesLet ["ring", "place", "diagonal"] f fd
  d_written_name : ∃ f fd, DefAt K mg "written_name" sWrittenName ["chain", "place"] f fd
  d_names_of : ∃ f fd, DefAt K mg "names_of" sNamesOf ["chain"] f fd
  d_places_of : ∃ f fd, DefAt K mg "places_of" sPlacesOf ["chain"] f fd
  d_joined_chains : ∃ f fd, DefAt K mg "joined_chains" sJoinedChains ["one", "other"] f fd
  d_l_dice : ∃ f fd, DefAt K mg "_law_dice" sLDice ["_law_script", "_law_at"] f fd
  d_l_roll : ∃ f fd, DefAt K mg "_law_roll" sLRoll ["_law_dice_here", "_law_total"] f fd
  d_l_one_of : ∃ f fd, DefAt K mg "_law_one_of" sLOneOf ["_law_dice_here", "_law_items"] f fd
  d_l_common : ∃ f fd, DefAt K mg "_law_common" sLCommon ["_law_one", "_law_other"] f fd
  d_l_ring : ∃ f fd, DefAt K mg "_law_ring" sLRing ["_law_dice_here", "_law_most"] f fd
  d_l_ring_of : ∃ f fd, DefAt K mg "_law_ring_of" sLRingOf ["_law_dice_here", "_law_k", "_law_times"] f fd
  d_l_chain : ∃ f fd, DefAt K mg "_law_chain" sLChain ["_law_dice_here", "_law_rings", "_law_most"] f fd
  d_l_steps : ∃ f fd, DefAt K mg "_law_steps" sLSteps ["_law_ring_here"] f fd
  d_l_ring_right : ∃ f fd, DefAt K mg "_law_ring_right" sLRingRight ["_law_dice_here", "_law_ring_here"] f fd
  d_l_rings_judged : ∃ f fd, DefAt K mg "_law_rings_judged" sLRingsJudged ["_law_dice_here", "_law_ring_here"] f fd
  d_l_joined_right : ∃ f fd, DefAt K mg "_law_joined_right" sLJoinedRight ["_law_dice_here"] f fd
  d_l_right : ∃ f fd, DefAt K mg "_law_right" sLRight ["_law_dice_here"] f fd
end K1

namespace K1
open PySem PySem.Spec PyProof.Rows L2 Evl
/-! ### great powers -/
def CPowW (i j : Int) : Prop := 0 ≤ j ∧ (Builtin.Int.intBits i : Int) * j ≤ 2 ^ 27
theorem op_powW {X : Cx} : OpR X (binaryOp .Pow) (rI CPowW fun i j => .int (i ^ j.toNat)) := opI fun _ _ _ _ _ _ _ hc q => pow_int hc.1 hc.2 q
/-! ### values that are looked at -/
/-- no int -/
inductive NotInt (K : PySem.W.Frag) (H : Hp) : V → Prop where
  | bl (b : Bool) : NotInt K H (.bl b)
  | non : NotInt K H .non
  | str (x : Str) : NotInt K H (.str x)
  | lst {a : Addr} {xs : List V} (e : H a = some (.lst xs)) : NotInt K H (.ref a)
  | tup {a : Addr} {xs : List V} (e : H a = some (.tup xs)) : NotInt K H (.ref a)
  | dK {a : Addr} {kvs : List (Key × V)} (e : H a = some (.dK kvs)) : NotInt K H (.ref a)
inductive IntB (K : PySem.W.Frag) (H : Hp) : V → Bool → Prop where
  | int (i : Int) : IntB K H (.int i) (decide (-(10 ^ 60) < i) && decide (i < 10 ^ 60))
  | no {x : V} (h : NotInt K H x) : IntB K H x false
/-- between two ints -/
inductive BtwB (K : PySem.W.Frag) (H : Hp) (lo hi : Int) : V → Bool → Prop where
  | int (i : Int) : BtwB K H lo hi (.int i) ((decide (-(10 ^ 60) < i) && decide (i < 10 ^ 60)) && (decide (lo ≤ i) && decide (i ≤ hi)))
  | no {x : V} (h : NotInt K H x) : BtwB K H lo hi x false
theorem NotInt.ty {K : PySem.W.Frag} {H : Hp} {x : V} (h : NotInt K H x) : ∃ t : Value, TyX K H x t ∧ ((PySem.W.kitOne K t (.type "int") = some false) ∨ (t = .type "bool")) := by
  cases h with
  | bl b => exact ⟨_, .base (.bl b), .inr rfl⟩
  | non => exact ⟨_, .base .non, .inl (kit_ty (by decide +kernel))⟩
  | str x => exact ⟨_, .base (.str x), .inl (kit_ty (by decide +kernel))⟩
  | lst e => exact ⟨_, .base (.lst e), .inl (kit_ty (by decide +kernel))⟩
  | tup e => exact ⟨_, .base (.tup e), .inl (kit_ty (by decide +kernel))⟩
  | dK e => exact ⟨_, .base (.dK e), .inl (kit_ty (by decide +kernel))⟩
theorem NotInt.mono {K : PySem.W.Frag} {H H' : Hp} {x : V} (e : Ex H H') (h : NotInt K H x) : NotInt K H' x := by
  cases h with
  | bl b => exact .bl b
  | non => exact .non
  | str x => exact .str x
  | lst q => exact .lst (e _ _ q)
  | tup q => exact .tup (e _ _ q)
  | dK q => exact .dK (e _ _ q)
section
variable {P : Program} {w : World} {K : PySem.W.Frag} {mg : Str → Option Value} {base : Heap}
def spIsInteger (K : PySem.W.Frag) : Sp := fun vs H Q _ => ∃ x b, vs = [x] ∧ IntB K H x b ∧ ∀ H', Ex H H' → Q (.bl b) H'
theorem ok_is_integer (T : Txt K mg) {f : Addr} {fd : FuncData} (D : DefAt K mg "is_integer" sIsInteger ["value"] f fd) : FnOk P w K mg base CX0 1 f fd ["value"] (spIsInteger K) := by
  refine D.F.ok scIsInteger (fun vs H Q E h => ?_) (fun cdv A outer s H vs Q E hr h => ?_)
  · obtain ⟨x, b, rfl, _⟩ := h
    rfl
  · obtain ⟨x, b, rfl, hb, q⟩ := h
    obtain ⟨tB, vB⟩ := T.v_BOUND
    refine ⟨_, pss_one (ps_ret (pe_and (pe_callB call_isi (by rfl) T.z_isinstance (by decide +kernel) (pa_cons (pv 0) (pa_cons (pe_bltn (v := .ty "int") (by rfl) T.z_int (by decide +kernel) rfl) pa_nil)))
      (pe_and (pe_not (pe_callB call_isi (by rfl) T.z_isinstance (by decide +kernel) (pa_cons (pv 0) (pa_cons (pe_bltn (v := .ty "bool") (by rfl) T.z_bool (by decide +kernel) rfl) pa_nil))))
      (pe_one (pe_chain op_lt op_lt (pe_un un_neg (pe_glob (v := .int (10 ^ 60)) rfl vB ⟨_, rfl⟩)) (pv 0) (pe_glob (v := .int (10 ^ 60)) rfl vB ⟨_, rfl⟩)))))), ?_⟩
    cases hb with
    | int i =>
      refine ⟨.int i, rfl, .int i, .ty "int", .type "int", .type "int", true, rfl, .ty _, .base (.int i), kit_ty (by decide +kernel), true, rfl, iteT ?_⟩
      refine ⟨.int i, rfl, .int i, .ty "bool", .type "int", .type "bool", false, rfl, .ty _, .base (.int i), kit_ty (by decide +kernel), false, rfl, true, rfl, iteT ?_⟩
      refine ⟨_, rfl, .int i, rfl, _, _, rfl, rfl, _, rfl, ite2 (fun c => ?_) (fun c => ?_)⟩
      · refine ⟨_, _, rfl, rfl, ?_⟩
        have e : decide (-(10 ^ 60) < i) = true := c
        rw [e, Bool.true_and] at q
        exact q _ (Ex.refl _)
      · have e : decide (-(10 ^ 60) < i) = false := Bool.eq_false_iff.mpr c
        rw [e, Bool.false_and] at q
        exact q _ (Ex.refl _)
    | no hn =>
      obtain ⟨t, ty, h | rfl⟩ := hn.ty
      · exact ⟨x, rfl, x, .ty "int", t, .type "int", false, rfl, .ty _, ty, h, false, rfl, iteF (q _ (Ex.refl _))⟩
      · refine ⟨x, rfl, x, .ty "int", .type "bool", .type "int", true, rfl, .ty _, ty, kit_ty (by decide +kernel), true, rfl, iteT ?_⟩
        exact ⟨x, rfl, x, .ty "bool", .type "bool", .type "bool", true, rfl, .ty _, ty, kit_ty (by decide +kernel), true, rfl, false, rfl, iteF (q _ (Ex.refl _))⟩
def spIsBetween (K : PySem.W.Frag) : Sp := fun vs H Q _ => ∃ x lo hi b, vs = [x, .int lo, .int hi] ∧ BtwB K H lo hi x b ∧ ∀ H', Ex H H' → Q (.bl b) H'
theorem ok_is_between (T : Txt K mg) {f : Addr} {fd : FuncData} (D : DefAt K mg "is_between" sIsBetween ["value", "low", "high"] f fd) : FnOk P w K mg base CX0 2 f fd ["value", "low", "high"] (spIsBetween K) := by
  refine D.F.ok scIsBetween (fun vs H Q E h => ?_) (fun cdv A outer s H vs Q E hr h => ?_)
  · obtain ⟨x, lo, hi, b, rfl, _⟩ := h
    rfl
  · obtain ⟨x, lo, hi, b, rfl, hb, q⟩ := h
    obtain ⟨f1, fd1, D1⟩ := T.d_is_integer
    refine ⟨_, pss_one (ps_ret (pe_and (pe_call (ok_is_integer T D1) hr (by rfl) D1.g D1.F.kp D1.b .nil pass0 (pa_cons (pv 0) pa_nil)) (pe_one (pe_chain op_le op_le (pv 1) (pv 0) (pv 2))))), ?_⟩
    cases hb with
    | int i =>
      refine ⟨.int i, rfl, .int i, _, rfl, .int i, fun H1 e1 => ⟨_, rfl, ite2 (fun c => ?_) (fun c => ?_)⟩⟩
      · refine ⟨.int lo, rfl, .int i, rfl, _, _, rfl, rfl, _, rfl, ?_⟩
        rw [c, Bool.true_and] at q
        refine ite2 (fun c2 => ⟨.int hi, rfl, _, _, rfl, rfl, ?_⟩) (fun c2 => ?_)
        · have e : decide (lo ≤ i) = true := c2
          rw [e, Bool.true_and] at q
          exact q _ e1
        · have e : decide (lo ≤ i) = false := Bool.eq_false_iff.mpr c2
          rw [e, Bool.false_and] at q
          exact q _ e1
      · rw [Bool.eq_false_iff.mpr c, Bool.false_and] at q
        exact q _ e1
    | no hn => exact ⟨x, rfl, x, false, rfl, .no hn, fun H1 e1 => ⟨false, rfl, iteF (q _ e1)⟩⟩
end
end K1

namespace K1
open PySem PySem.Spec PyProof.Rows L2 Evl
/-! ### the dice -/
def Dice (H : Hp) (d : Addr) : Prop := ∃ l m c : Int, H d = some (.lst [.int l, .int m, .int c])
/-- all but the dice is as it was -/
def Keep (d : Addr) (H H' : Hp) : Prop := ∀ b o, b ≠ d → H b = some o → H' b = some o
theorem Keep.refl (d : Addr) (H : Hp) : Keep d H H := fun _ _ _ h => h
theorem Keep.trans {d : Addr} {H H1 H2 : Hp} (a : Keep d H H1) (b : Keep d H1 H2) : Keep d H H2 := fun x o n h => b x o n (a x o n h)
theorem Keep.ex {d : Addr} {H H' : Hp} (e : Ex H H') : Keep d H H' := fun b o _ h => e b o h
theorem Keep.dice {d : Addr} {H : Hp} {o : HO} : Keep d H (upd H d o) := fun b u n h => by
  rw [upd_ne n]
  exact h
theorem Keep.new {d p : Addr} {H : Hp} {o : HO} (h : H p = none) : Keep d H (upd H p o) := .ex (.new h)
/-- a thing that H did not know may change -/
theorem Keep.mut {d p : Addr} {H H' : Hp} {o : HO} (e : Keep d H H') (h : H p = none) : Keep d H (upd H' p o) := fun b u n q => by
  rw [upd_ne (ne_of_none q h)]
  exact e b u n q
theorem Keep.free {d p : Addr} {H H' : Hp} (e : Keep d H H') (n : p ≠ d) (h : H' p = none) : H p = none := by
  cases q : H p with
  | none => rfl
  | some o =>
    rw [e p o n q] at h
    cases h
theorem Dice.ex {d : Addr} {H H' : Hp} (e : Ex H H') (h : Dice H d) : Dice H' d := by
  obtain ⟨l, m, c, q⟩ := h
  exact ⟨l, m, c, e _ _ q⟩
theorem Dice.upd {d p : Addr} {H : Hp} {o : HO} (n : d ≠ p) (h : Dice H d) : Dice (L2.upd H p o) d := by
  obtain ⟨l, m, c, q⟩ := h
  exact ⟨l, m, c, by rw [upd_ne n]; exact q⟩
theorem Dice.ne_new {d p : Addr} {H : Hp} (h : Dice H d) (n : H p = none) : d ≠ p := by
  obtain ⟨l, m, c, q⟩ := h
  exact ne_of_none q n
theorem Dice.ne_tup {d p : Addr} {H : Hp} {xs : List V} (h : Dice H d) (n : H p = some (.tup xs)) : p ≠ d := by
  obtain ⟨l, m, c, q⟩ := h
  exact ne_of n q (by intro z; cases z)
theorem Keep.tup {d p : Addr} {H H' : Hp} {xs : List V} (e : Keep d H H') (h : Dice H d) (n : H p = some (.tup xs)) : H' p = some (.tup xs) := e _ _ (h.ne_tup n) n
theorem wide_n {n : Int} (h : 1 ≤ n) (h2 : n ≤ 10 ^ 12) {i : Int} : CDivW i n := wide_div (b := 40) (by omega) (by omega) (by decide) (by decide)
section
variable {P : Program} {w : World} {K : PySem.W.Frag} {mg : Str → Option Value} {base : Heap}
def spRoll : Sp := fun vs H Q _ => ∃ (d : Addr) (n : Int), vs = [.ref d, .int n] ∧ Dice H d ∧ 1 ≤ n ∧ n ≤ 10 ^ 12 ∧ ∀ (r : Int) H', 0 ≤ r → r < n → Dice H' d → Keep d H H' → Q (.int r) H'
theorem ok_roll (T : Txt K mg) {f : Addr} {fd : FuncData} (D : DefAt K mg "_law_roll" sLRoll ["_law_dice_here", "_law_total"] f fd) : FnOk P w K mg base CX0 1 f fd ["_law_dice_here", "_law_total"] spRoll := by
  refine D.F.ok scLRoll (fun vs H Q E h => ?_) (fun cdv A outer s H vs Q E hr h => ?_)
  · obtain ⟨d, n, rfl, _⟩ := h
    rfl
  · obtain ⟨d, n, rfl, ⟨l, m, c, hd⟩, h1, h2, q⟩ := h
    refine ⟨_, pss_cons (ps_set (i := 2) scLRoll.nd rfl (.inl rfl) (pe_callTy call_int1 (by rfl) T.z_int (by decide +kernel) (pa_cons (pv 1) pa_nil)))
      (pss_cons (ps_if (pt_cmpR op_gt (pe_ix ix_list (pv 0) pe_int (fun _ _ => rfl)) pe_int (nomark _))
        (pss_cons (ps_set (i := 3) scLRoll.nd rfl (.inl rfl) (pe_op op_mod (pe_ix ix_list (pv 0) pe_int (fun _ _ => rfl)) (pv 2)))
        (pss_cons (ps_asg (pe_op op_fdivW (pe_ix ix_list (pv 0) pe_int (fun _ _ => rfl)) (pv 2)) (pg_sub (pv 0) pe_int set_list))
        (pss_one (ps_ret (pe_callTy call_int1 (by rfl) T.z_int (by decide +kernel) (pa_cons (pv 3) pa_nil)))))) pss_nil)
      (pss_cons (ps_asg (pe_op op_add (pe_ix ix_list (pv 0) pe_int (fun _ _ => rfl)) pe_int) (pg_sub (pv 0) pe_int set_list))
      (pss_cons (ps_set (i := 4) scLRoll.nd rfl (.inl rfl) (pe_op op_mod (pe_op op_add (pe_ix ix_list (pv 0) pe_int (fun _ _ => rfl)) (pe_op op_mul pe_int (pe_ix ix_list (pv 0) pe_int (fun _ _ => rfl)))) pe_int))
      (pss_cons (ps_set (i := 5) scLRoll.nd rfl (.inl rfl) (pe_op op_add (pe_op op_mul (pe_op op_mod (pe_op op_mul (pv 4) (pv 4)) pe_int) (pv 4)) (pe_op op_mul pe_int (pe_ix ix_list (pv 0) pe_int (fun _ _ => rfl)))))
      (pss_cons (ps_set (i := 5) scLRoll.nd rfl (.inl rfl) (pe_op op_mod (pv 5) pe_int))
      (pss_one (ps_ret (pe_callTy call_int1 (by rfl) T.z_int (by decide +kernel) (pa_cons (pe_op op_mod (pe_op op_fdiv (pv 5) pe_int) (pv 2)) pa_nil))))))))), ?_⟩
    refine ⟨.int n, rfl, .inl ⟨n, rfl, ?_⟩⟩
    have S0 : SqL K H d [.int l, .int m, .int c] := SqL.of hd
    refine ⟨.ref d, rfl, d, _, 0, .int l, rfl, rfl, S0, rfl, l, 0, rfl, rfl, _, rfl, ite2 (fun cc => ?_) (fun cc => ?_)⟩
    · refine ⟨.ref d, rfl, d, _, 0, .int l, rfl, rfl, S0, rfl, .int n, rfl, l, n, rfl, rfl, by omega, ?_⟩
      refine ⟨.ref d, rfl, d, _, 0, .int l, rfl, rfl, S0, rfl, .int n, rfl, l, n, rfl, rfl, wide_n h1 h2, .ref d, rfl, d, _, 0, 0, rfl, rfl, hd, rfl, ?_⟩
      refine ⟨_, rfl, .inl ⟨l % n, rfl, ?_⟩⟩
      exact q _ _ (Int.emod_nonneg _ (by omega)) (Int.emod_lt_of_pos _ (by omega)) ⟨_, _, _, upd_same⟩ Keep.dice
    · refine ⟨.ref d, rfl, d, _, 2, .int c, rfl, rfl, S0, rfl, c, 1, rfl, rfl, .ref d, rfl, d, _, 2, 2, rfl, rfl, hd, rfl, ?_⟩
      generalize hH1 : upd H d _ = H1
      have hd1 : H1 d = some (.lst [.int l, .int m, .int (c + 1)]) := by
        rw [← hH1]
        exact upd_same
      have k1 : Keep d H H1 := by
        rw [← hH1]
        exact Keep.dice
      have S1 : SqL K H1 d [.int l, .int m, .int (c + 1)] := SqL.of hd1
      refine ⟨.ref d, rfl, d, _, 1, .int m, rfl, rfl, S1, rfl, .ref d, rfl, d, _, 2, .int (c + 1), rfl, rfl, S1, rfl, _, _, rfl, rfl, .inl (by decide), _, _, rfl, rfl, _, _, rfl, rfl, by show (0 : Int) < _; decide, ?_⟩
      refine ⟨_, rfl, _, rfl, (m + 1000409 * (c + 1)) % 2305843009213693951, (m + 1000409 * (c + 1)) % 2305843009213693951, rfl, rfl, .inl (by constructor <;> omega), _, _, rfl, rfl, by show (0 : Int) < _; decide, _, rfl, _, (m + 1000409 * (c + 1)) % 2305843009213693951, rfl, rfl, .inr (by constructor <;> omega), ?_⟩
      refine ⟨.ref d, rfl, d, _, 2, .int (c + 1), rfl, rfl, S1, rfl, _, _, rfl, rfl, .inl (by decide), _, _, rfl, rfl, ?_⟩
      refine ⟨_, rfl, _, _, rfl, rfl, by show (0 : Int) < _; decide, ?_⟩
      refine ⟨_, rfl, _, _, rfl, rfl, ⟨by decide, by decide⟩, .int n, rfl, _, n, rfl, rfl, by omega, .inl ⟨_, rfl, ?_⟩⟩
      exact q _ _ (Int.emod_nonneg _ (by omega)) (Int.emod_lt_of_pos _ (by omega)) ⟨_, _, _, hd1⟩ k1
def spOneOf (K : PySem.W.Frag) : Sp := fun vs H Q _ => ∃ (d a : Addr) (xs : List V), vs = [.ref d, .ref a] ∧ Dice H d ∧ H a = some (.lst xs) ∧ a ≠ d ∧ 1 ≤ xs.length ∧ xs.length ≤ 1000 ∧ ∀ x H', x ∈ xs → Dice H' d → Keep d H H' → Q x H'
theorem ok_one_of (T : Txt K mg) {f : Addr} {fd : FuncData} (D : DefAt K mg "_law_one_of" sLOneOf ["_law_dice_here", "_law_items"] f fd) : FnOk P w K mg base CX0 2 f fd ["_law_dice_here", "_law_items"] (spOneOf K) := by
  refine D.F.ok scLOneOf (fun vs H Q E h => ?_) (fun cdv A outer s H vs Q E hr h => ?_)
  · obtain ⟨d, a, xs, rfl, _⟩ := h
    rfl
  · obtain ⟨d, a, xs, rfl, hd, ha, nad, h1, h2, q⟩ := h
    obtain ⟨f1, fd1, D1⟩ := T.d_l_roll
    refine ⟨_, pss_one (ps_ret (pe_ix ix_list (pv 1) (pe_call (ok_roll T D1) hr (by rfl) D1.g D1.F.kp D1.b .nil pass0 (pa_cons (pv 0) (pa_cons (pe_callB call_len_seq (by rfl) T.z_len PySem.boot_len (pa_cons (pv 1) pa_nil)) pa_nil))) (fun _ _ => rfl))), ?_⟩
    refine ⟨.ref a, rfl, .ref d, rfl, .ref a, rfl, a, xs, rfl, .inl (SqL.of ha), d, _, rfl, hd, by omega, by omega, fun r H1 r0 r1 hd1 k1 => ?_⟩
    have hx : xs[r.toNat]? = some (xs[r.toNat]'(by omega)) := List.getElem?_eq_getElem _
    refine ⟨a, xs, r, _, rfl, rfl, SqL.of (k1 _ _ nad ha), ?_, q (xs[r.toNat]'(by omega)) H1 (List.getElem_mem _) hd1 k1⟩
    exact at_of (show r = ((r.toNat : Nat) : Int) by omega) hx
/-- a drawn ring -/
def RingAt (H : Hp) (most : Int) (x : V) (n s : Int) : Prop := ∃ t, x = .ref t ∧ H t = some (.tup [.int n, .int s]) ∧ 2 ≤ n ∧ n ≤ most ∧ 1 ≤ s ∧ s < n
def spRing : Sp := fun vs H Q _ => ∃ (d : Addr) (most : Int), vs = [.ref d, .int most] ∧ Dice H d ∧ 2 ≤ most ∧ most ≤ 1000 ∧ ∀ x n s H', RingAt H' most x n s → Dice H' d → Keep d H H' → Q x H'
theorem ok_ring (T : Txt K mg) {f : Addr} {fd : FuncData} (D : DefAt K mg "_law_ring" sLRing ["_law_dice_here", "_law_most"] f fd) : FnOk P w K mg base CX0 2 f fd ["_law_dice_here", "_law_most"] spRing := by
  refine D.F.ok scLRing (fun vs H Q E h => ?_) (fun cdv A outer s H vs Q E hr h => ?_)
  · obtain ⟨d, a, rfl, _⟩ := h
    rfl
  · obtain ⟨d, most, rfl, hd, h1, h2, q⟩ := h
    obtain ⟨f1, fd1, D1⟩ := T.d_l_roll
    refine ⟨_, pss_cons (ps_set (i := 2) scLRing.nd rfl (.inl rfl) (pe_op op_add pe_int (pe_call (ok_roll T D1) hr (by rfl) D1.g D1.F.kp D1.b .nil pass0 (pa_cons (pv 0) (pa_cons (pe_op op_sub (pv 1) pe_int) pa_nil)))))
      (pss_one (ps_ret (pe_tup (pa_cons (pv 2) (pa_cons (pe_op op_add pe_int (pe_call (ok_roll T D1) hr (by rfl) D1.g D1.F.kp D1.b .nil pass0 (pa_cons (pv 0) (pa_cons (pe_op op_sub (pv 2) pe_int) pa_nil)))) pa_nil))))), ?_⟩
    refine ⟨.ref d, rfl, .int most, rfl, _, _, rfl, rfl, d, _, rfl, hd, by omega, by omega, fun r H1 r0 r1 hd1 k1 => ?_⟩
    refine ⟨2, r, rfl, rfl, _, rfl, .ref d, rfl, .int (2 + r), rfl, _, _, rfl, rfl, d, _, rfl, hd1, by omega, by omega, fun r' H2 r0' r1' hd2 k2 => ?_⟩
    refine ⟨1, r', rfl, rfl, by show 2 ≤ sizeLine; decide, fun t ht => ?_⟩
    exact q _ (2 + r) (1 + r') _ ⟨t, rfl, upd_same, by omega, by omega, by omega, by omega⟩ (hd2.upd (hd2.ne_new ht)) ((k1.trans k2).trans (Keep.new ht))
end
end K1

namespace K1
open PySem PySem.Spec PyProof.Rows L2 Evl
section
variable {P : Program} {w : World} {K : PySem.W.Frag} {mg : Str → Option Value} {base : Heap}
def spDice (K : PySem.W.Frag) : Sp := fun vs H Q _ => ∃ (a : Addr) (ns : List Int) (i : Nat), vs = [.ref a, .int i] ∧ SqL K H a (ns.map V.int) ∧ ∀ p H', H p = none → Ex H H' → Dice H' p → Q (.ref p) H'
theorem ok_dice (T : Txt K mg) {f : Addr} {fd : FuncData} (D : DefAt K mg "_law_dice" sLDice ["_law_script", "_law_at"] f fd) : FnOk P w K mg base CX0 1 f fd ["_law_script", "_law_at"] (spDice K) := by
  refine D.F.ok scLDice (fun vs H Q E h => ?_) (fun cdv A outer s H vs Q E hr h => ?_)
  · obtain ⟨d, n, i, rfl, _⟩ := h
    rfl
  · obtain ⟨a, ns, i, rfl, hS, q⟩ := h
    refine ⟨_, pss_cons (ps_set (i := 2) scLDice.nd rfl (.inl rfl) (pe_op op_add (pe_op op_mul pe_int (pv 1)) pe_int))
      (pss_cut (ps_if (pt_cmpR op_lt (pv 1) (pe_callB call_len_seq (by rfl) T.z_len PySem.boot_len (pa_cons (pv 0) pa_nil)) (nomark _))
        (pss_one (ps_set (i := 2) scLDice.nd rfl (.inl rfl) (pe_ix ix_list (pv 0) (pv 1) (fun _ _ => rfl)))) pss_nil)
      (pss_cons (ps_set (i := 3) scLDice.nd rfl (.inl rfl) (pe_op op_mod (pe_callTy call_int1 (by rfl) T.z_int (by decide +kernel) (pa_cons (pe_callB call_abs (by rfl) T.z_abs (by decide +kernel) (pa_cons (pv 2) pa_nil)) pa_nil)) (pe_op op_powW (pe_op op_pow pe_int pe_int) pe_int)))
      (pss_cons (ps_set (i := 4) scLDice.nd rfl (.inl rfl) (pe_op op_fdivW (pv 3) (pe_op op_pow pe_int pe_int)))
      (pss_cons (ps_set (i := 5) scLDice.nd rfl (.inl rfl) (pe_op op_add (pe_op op_add (pe_op op_add (pe_op op_mul (pe_op op_mod (pv 3) pe_int) pe_int) (pe_op op_mul pe_int (pv 1))) (pe_op op_mul pe_int (pe_callTy call_int1 (by rfl) T.z_int (by decide +kernel) (pa_cons (pe_cmpR op_lt (pv 2) pe_int (nomark _)) pa_nil)))) pe_int))
      (pss_one (ps_ret (pe_lst (pa_cons (pv 4) (pa_cons (pe_op op_mod (pv 5) pe_int) (pa_cons pe_int pa_nil))))))))) ), ?_⟩
    refine ⟨_, rfl, _, _, rfl, rfl, .inl (by decide), _, _, rfl, rfl, ?_⟩
    refine ⟨fun σ' H' => ∃ cell : Int, σ' = [some (.ref a), some (.int i), some (.int cell), none, none, none] ∧ H' = H, ?_, ?_⟩
    · refine ⟨_, rfl, .ref a, rfl, a, _, rfl, .inl hS, _, _, rfl, rfl, _, rfl, ite2 (fun c => ?_) (fun c => ⟨_, rfl, rfl⟩)⟩
      have c' : (i : Int) < ((ns.map V.int).length : Int) := of_decide_eq_true c
      rw [List.length_map] at c'
      have hx : (ns.map V.int)[i]? = some (.int (ns[i]'(by omega))) := by
        rw [List.getElem?_map, List.getElem?_eq_getElem (by omega)]
        rfl
      exact ⟨.ref a, rfl, _, rfl, a, _, _, _, rfl, rfl, hS, atI_nat hx, _, rfl, rfl⟩
    · rintro σ' H' ⟨cell, rfl, rfl⟩
      refine ⟨_, rfl, _, rfl, .inl ⟨_, rfl, _, _, rfl, rfl, ⟨by decide, by decide, by decide⟩, _, _, rfl, rfl, ⟨by decide, by decide +kernel⟩, _, _, rfl, rfl, by show (0 : Int) < (10 ^ Int.toNat 60) ^ Int.toNat 10; decide +kernel, ?_⟩⟩
      refine ⟨_, rfl, _, _, rfl, rfl, ⟨by decide, by decide, by decide⟩, _, _, rfl, rfl, wide_div (b := 60) (by decide +kernel) (by decide +kernel) (by decide) (by decide), ?_⟩
      refine ⟨_, rfl, _, _, rfl, rfl, by show (0 : Int) < _; decide, _, _, rfl, rfl, .inr (by decide), _, rfl, _, _, rfl, rfl, .inl (by decide), _, _, rfl, rfl, _, rfl, _, _, rfl, rfl, .inr ⟨_, rfl, _, _, rfl, rfl, .inl (by decide), _, _, rfl, rfl, _, _, rfl, rfl, ?_⟩⟩
      refine ⟨_, rfl, _, rfl, _, _, rfl, rfl, by show (0 : Int) < _; decide, by show 3 ≤ sizeLine; decide, fun p hp => ?_⟩
      exact q p _ hp (Ex.new hp) ⟨_, _, _, upd_same⟩
/-- the greatest common divisor -/
def spCommon : Sp := fun vs H Q _ => ∃ (a b : Nat), vs = [.int a, .int b] ∧ ∀ H', Ex H H' → Q (.int (Nat.gcd a b : Nat)) H'
theorem ok_common (T : Txt K mg) {f : Addr} {fd : FuncData} (D : DefAt K mg "_law_common" sLCommon ["_law_one", "_law_other"] f fd) : FnOk P w K mg base CX0 1 f fd ["_law_one", "_law_other"] spCommon := by
  refine D.F.ok scLCommon (fun vs H Q E h => ?_) (fun cdv A outer s H vs Q E hr h => ?_)
  · obtain ⟨d, n, rfl, _⟩ := h
    rfl
  · obtain ⟨a, b, rfl, q⟩ := h
    refine ⟨_, pss_cons (ps_while PassesOwn.never (pt_cmpR op_ne (pv 1) pe_int (nomark _))
        (pss_one (ps_par (i := 0) (j := 1) (by rfl) scLCommon.nd rfl rfl (by decide) rfl rfl (pa_cons (pv 1) (pa_cons (pe_op op_mod (pv 0) (pv 1)) pa_nil)) (by rfl))))
      (pss_one (ps_ret (pv 0))), ?_⟩
    refine q_while (fun m σ' H' => ∃ x y : Nat, σ' = [some (.int x), some (.int y)] ∧ m = y ∧ Nat.gcd x y = Nat.gcd a b ∧ Ex H H') b ⟨a, b, rfl, rfl, rfl, Ex.refl _⟩ (fun m σ' H' hW => ?_)
    obtain ⟨x, y, rfl, rfl, hg, e1⟩ := hW
    refine ⟨_, et_test (ev_op (ev_var (v := .int (m : Int)) rfl) ev_c (rv_ne rfl)), fun hb H1 e2 => ?_, fun hb H1 e2 => ?_⟩
    · have hy : m ≠ 0 := fun z => by
        subst z
        exact absurd hb (by decide)
      have hm : (x : Int) % (m : Int) = ((x % m : Nat) : Int) := by simp
      refine ⟨fun σ2 H2 => σ2 = [some (.int m), some (.int ((x % m : Nat) : Int))] ∧ H2 = H1, fun σ2 H2 hN => ?_, ?_⟩
      · obtain ⟨rfl, rfl⟩ := hN
        refine ⟨x % m, Nat.mod_lt _ (by omega), m, x % m, rfl, rfl, ?_, e1.trans e2⟩
        rw [← hg, Nat.gcd_comm m (x % m), ← Nat.gcd_rec, Nat.gcd_comm]
      · refine ⟨_, rfl, _, rfl, _, rfl, (x : Int), (m : Int), rfl, rfl, by omega, _, _, rfl, ?_⟩
        refine ⟨?_, rfl⟩
        show [some (V.int (m : Int)), some (V.int ((x : Int) % (m : Int)))] = _
        rw [hm]
    · have hy : m = 0 := by
        by_cases z : m = 0
        · exact z
        · exfalso
          have : (!decide (V.int (m : Int) = V.int 0)) = true := by
            rw [decide_eq_false (fun q => z (by have := V.int.inj q; omega))]
            rfl
          rw [this] at hb
          cases hb
      subst hy
      refine ⟨_, rfl, ?_⟩
      rw [Nat.gcd_zero_right] at hg
      rw [hg]
      exact q _ (e1.trans e2)
/-- a drawn ring of one order -/
def spRingOf : Sp := fun vs H Q _ => ∃ (d : Addr) (k t : Int), vs = [.ref d, .int k, .int t] ∧ Dice H d ∧ 2 ≤ k ∧ k ≤ 100 ∧ 1 ≤ t ∧ t ≤ 1000 ∧ ∀ x n s H', RingAt H' (k * t) x n s → Dice H' d → Keep d H H' → Q x H'
theorem ok_ring_of (T : Txt K mg) {f : Addr} {fd : FuncData} (D : DefAt K mg "_law_ring_of" sLRingOf ["_law_dice_here", "_law_k", "_law_times"] f fd) : FnOk P w K mg base CX0 3 f fd ["_law_dice_here", "_law_k", "_law_times"] spRingOf := by
  refine D.F.ok scLRingOf (fun vs H Q E h => ?_) (fun cdv A outer s H vs Q E hr h => ?_)
  · obtain ⟨d, n, t, rfl, _⟩ := h
    rfl
  · obtain ⟨d, k, t, rfl, hd, h1, h2, h3, h4, q⟩ := h
    obtain ⟨f1, fd1, D1⟩ := T.d_l_roll
    obtain ⟨f2, fd2, D2⟩ := T.d_l_common
    obtain ⟨f3, fd3, D3⟩ := T.d_l_one_of
    have hr1 : Room 1 _ := hr.mono (by decide)
    refine ⟨_, pss_cons (ps_set (i := 3) scLRingOf.nd rfl (.inl rfl) (pe_op op_add pe_int (pe_call (ok_roll T D1) hr1 (by rfl) D1.g D1.F.kp D1.b .nil pass0 (pa_cons (pv 0) (pa_cons (pv 2) pa_nil)))))
      (pss_cons (ps_setLc (i := 4) (own := [("_law_one", 5)]) (g := gName 5) (by rfl) scLRingOf.nd rfl rfl (sw_true rfl rfl rfl (by decide +kernel)) (pi_range2 (by rfl) T.z_range (pa_cons pe_int (pa_cons (pv 1) pa_nil)))
        (blkOk_by (N := nLRingOf) (sc := defScope sLRingOf) (by decide +kernel)) (fun _ _ _ _ _ => pg_name (i := 5) scLRingOf.nd rfl (Or.inl rfl))
        (fun _ _ _ _ _ => pts_one (pt_cmpR op_eq (pe_call (ok_common T D2) hr1 (by rfl) D2.g D2.F.kp D2.b .nil pass0 (pa_cons (pv 1) (pa_cons (pv 5) pa_nil))) pe_int (nomark _))) (fun _ _ _ _ _ => pv 5))
      (pss_one (ps_ret (pe_tup (pa_cons (pe_op op_mul (pv 1) (pv 3)) (pa_cons (pe_op op_mul (pv 3) (pe_call (ok_one_of T D3) hr (by rfl) D3.g D3.F.kp D3.b .nil pass0 (pa_cons (pv 0) (pa_cons (pv 4) pa_nil)))) pa_nil)))))), ?_⟩
    refine ⟨.ref d, rfl, .int t, rfl, d, _, rfl, hd, by omega, by omega, fun r H1 r0 r1 hd1 k1 => ?_⟩
    refine ⟨1, r, rfl, rfl, .int k, rfl, 1, k, rfl, by omega, fun Dl hD => ?_⟩
    have ndl : d ≠ Dl := hd1.ne_new hD
    have hD0 : H Dl = none := k1.free ndl.symm hD
    refine lc_range (lo := 1) (n := (k - 1).toNat) (fun i H' => ∃ js : List Int, H' Dl = some (.lst (js.map V.int)) ∧ js.length ≤ i ∧ (∀ j ∈ js, 1 ≤ j ∧ j < k) ∧ (1 ≤ i → 1 ≤ js.length) ∧ Keep d H H' ∧ Dice H' d)
      ⟨[], upd_same, Nat.le_refl _, by simp, by omega, k1.trans (Keep.new hD), hd1.upd (hd1.ne_new hD)⟩ (fun i H' hi hp => ?_) (fun H' hp => ?_)
    · obtain ⟨js, a1, a2, a3, a4, a5, a6⟩ := hp
      refine ⟨rfl, .int k, rfl, .int (1 + (i : Int)), rfl, k.toNat, 1 + i, ?_, fun H2 e2 => ?_⟩
      · show [V.int k, V.int (1 + (i : Int))] = [V.int ((k.toNat : Nat) : Int), V.int (((1 + i : Nat)) : Int)]
        rw [show ((k.toNat : Nat) : Int) = k by omega, show (((1 + i : Nat)) : Int) = 1 + (i : Int) by omega]
      · refine ⟨rfl, _, rfl, ite2 (fun c => ?_) (fun c => ?_)⟩
        · refine ⟨_, rfl, js.map V.int, e2 _ _ a1, ?_, js ++ [1 + (i : Int)], ?_, ?_, ?_, ?_, ?_, ?_⟩
          · rw [List.length_map]
            exact small1000 (by omega)
          · rw [List.map_append]
            exact upd_same
          · rw [List.length_append]
            exact Nat.add_le_add_right a2 1
          · intro j hj
            rcases List.mem_append.mp hj with hj | hj
            · exact a3 j hj
            · have := List.mem_singleton.mp hj
              omega
          · intro _
            rw [List.length_append]
            exact Nat.le_add_left _ _
          · exact (a5.trans (Keep.ex e2)).mut hD0
          · exact (a6.ex e2).upd ndl
        · refine ⟨js, e2 _ _ a1, by omega, a3, fun _ => ?_, a5.trans (Keep.ex e2), a6.ex e2⟩
          by_cases z : i = 0
          · subst z
            refine absurd ?_ c
            rw [show k.toNat.gcd (1 + 0) = 1 from Nat.gcd_one_right k.toNat]
            rfl
          · exact a4 (by omega)
    · obtain ⟨js, a1, a2, a3, a4, a5, a6⟩ := hp
      have hl : 1 ≤ js.length := a4 (by omega)
      have hb : 1 ≤ 1 + r ∧ 1 + r ≤ t := by omega
      have hkm : k * (1 + r) ≤ k * t := Int.mul_le_mul_of_nonneg_left hb.2 (by omega)
      have hk2 : 2 ≤ k * (1 + r) := by
        have := Int.mul_le_mul_of_nonneg_left hb.1 (show (0 : Int) ≤ k by omega)
        omega
      refine ⟨.int k, rfl, .int (1 + r), rfl, k, 1 + r, rfl, rfl, .inl (by constructor <;> omega), .int (1 + r), rfl, .ref d, rfl, .ref Dl, rfl, d, Dl, _, rfl, a6, a1, ndl.symm, by rw [List.length_map]; exact hl, by rw [List.length_map]; omega, fun x H2 hx hd2 k2 => ?_⟩
      obtain ⟨j, hj, rfl⟩ := List.mem_map.mp hx
      obtain ⟨j1, j2⟩ := a3 j hj
      refine ⟨1 + r, j, rfl, rfl, .inl (by constructor <;> omega), by show 2 ≤ sizeLine; decide, fun p hp => ?_⟩
      have c1 : 1 ≤ (1 + r) * j := by
        have := Int.mul_le_mul_of_nonneg_left j1 (show (0 : Int) ≤ 1 + r by omega)
        omega
      have c2 : (1 + r) * j < k * (1 + r) := by
        rw [Int.mul_comm k (1 + r)]
        exact Int.mul_lt_mul_of_pos_left j2 (by omega)
      exact q _ _ _ _ ⟨p, rfl, upd_same, hk2, hkm, c1, c2⟩ (hd2.upd (hd2.ne_new hp)) ((a5.trans k2).trans (Keep.new hp))
end
end K1

namespace K1
open PySem PySem.Spec PyProof.Rows L2 Evl
/-! ### chains -/
theorem RingAt.keep {d : Addr} {H H' : Hp} {most n s : Int} {x : V} (e : Keep d H H') (h : Dice H d) (r : RingAt H most x n s) : RingAt H' most x n s := by
  obtain ⟨t, rfl, ht, q⟩ := r
  exact ⟨t, rfl, e.tup h ht, q⟩
theorem RingAt.ex {H H' : Hp} {most n s : Int} {x : V} (e : Ex H H') (r : RingAt H most x n s) : RingAt H' most x n s := by
  obtain ⟨t, rfl, ht, q⟩ := r
  exact ⟨t, rfl, e _ _ ht, q⟩
theorem RingAt.upd {H : Hp} {most n s : Int} {x : V} {p : Addr} {o : HO} (h : ∀ t, x = .ref t → t ≠ p) (r : RingAt H most x n s) : RingAt (upd H p o) most x n s := by
  obtain ⟨t, rfl, ht, q⟩ := r
  exact ⟨t, rfl, by rw [upd_ne (h t rfl)]; exact ht, q⟩
theorem RingAt.most {H : Hp} {m m' n s : Int} {x : V} (h : m ≤ m') (r : RingAt H m x n s) : RingAt H m' x n s := by
  obtain ⟨t, rfl, ht, q1, q2, q3, q4⟩ := r
  exact ⟨t, rfl, ht, q1, by omega, q3, q4⟩
/-- rings at values, one by one -/
abbrev RingsAt (H : Hp) (most : Int) (xs : List V) (rs : List (Int × Int)) : Prop := Paired (fun x (r : Int × Int) => RingAt H most x r.1 r.2) xs rs
theorem paired_snoc {α β : Type} {R : α → β → Prop} {x : α} {y : β} (h : R x y) : ∀ {xs : List α} {ys : List β}, Paired R xs ys → Paired R (xs ++ [x]) (ys ++ [y])
  | _, _, .nil => .cons h .nil
  | _, _, .cons r t => .cons r (paired_snoc h t)
theorem paired_imp {α β : Type} {R S : α → β → Prop} (h : ∀ x y, R x y → S x y) : ∀ {xs : List α} {ys : List β}, Paired R xs ys → Paired S xs ys
  | _, _, .nil => .nil
  | _, _, .cons r t => .cons (h _ _ r) (paired_imp h t)
theorem paired_append {α β : Type} {R : α → β → Prop} : ∀ {xs xs' : List α} {ys ys' : List β}, Paired R xs ys → Paired R xs' ys' → Paired R (xs ++ xs') (ys ++ ys')
  | _, _, _, _, .nil, s => s
  | _, _, _, _, .cons r t, s => .cons r (paired_append t s)
theorem paired_get {α β : Type} {R : α → β → Prop} : ∀ {xs : List α} {ys : List β} {i : Nat} {x : α}, Paired R xs ys → xs[i]? = some x → ∃ y, ys[i]? = some y ∧ R x y
  | _, _, _, _, .nil, e => by simp at e
  | _, _, 0, _, .cons r _, e => by simp at e; subst e; exact ⟨_, rfl, r⟩
  | _, _, i + 1, x, .cons _ t, e => by
    obtain ⟨u, h1, h2⟩ := paired_get (i := i) (x := x) t (by simpa using e)
    exact ⟨u, by simpa using h1, h2⟩
theorem paired_len {α β : Type} {R : α → β → Prop} {xs : List α} {ys : List β} (h : Paired R xs ys) : xs.length = ys.length := Paired.length h
section
variable {P : Program} {w : World} {K : PySem.W.Frag} {mg : Str → Option Value} {base : Heap}
def spChain : Sp := fun vs H Q _ => ∃ (d : Addr) (g most : Int), vs = [.ref d, .int g, .int most] ∧ Dice H d ∧ 1 ≤ g ∧ g ≤ 100 ∧ 2 ≤ most ∧ most ≤ 60 ∧
  ∀ p xs rs H', H' p = some (.tup xs) → RingsAt H' most xs rs → (xs.length : Int) = g → Dice H' d → Keep d H H' → Q (.ref p) H'
/-- what stands behind i rings of the list at D -/
def ChW (d Dl : Addr) (H : Hp) (most : Int) (i : Nat) (H' : Hp) : Prop := ∃ xs rs, H' Dl = some (.lst xs) ∧ RingsAt H' most xs rs ∧ xs.length = i ∧ Keep d H H' ∧ Dice H' d
theorem ChW.turn {d Dl : Addr} {H H' H2 : Hp} {most n s : Int} {x : V} {i : Nat} (W : ChW d Dl H most i H') (ndl : d ≠ Dl) (hD0 : H Dl = none) (k : Keep d H' H2) (hd : Dice H2 d) (r : RingAt H2 most x n s) (hi : i < 1000) :
    ∃ acc, H2 Dl = some (.lst acc) ∧ acc.length < sizeLine ∧ ChW d Dl H most (i + 1) (upd H2 Dl (.lst (acc ++ [x]))) := by
  obtain ⟨xs, rs, a1, a2, a3, a4, a5⟩ := W
  have e1 : H2 Dl = some (.lst xs) := k _ _ ndl.symm a1
  have nt : ∀ {y : V} {n s : Int}, RingAt H2 most y n s → RingAt (upd H2 Dl (.lst (xs ++ [x]))) most y n s := fun {y n s} q => q.upd fun t ht => by
    obtain ⟨t', rfl, ht', _⟩ := q
    cases ht
    exact ne_of ht' e1 (by intro z; cases z)
  refine ⟨xs, e1, small1000 (by omega), xs ++ [x], rs ++ [(n, s)], upd_same, paired_snoc (R := fun x (r : Int × Int) => RingAt (upd H2 Dl (.lst (xs ++ [_]))) most x r.1 r.2) (y := (n, s)) (nt r) (paired_imp (R := fun x (r : Int × Int) => RingAt H' most x r.1 r.2) (fun y r' q => nt (q.keep k a5)) a2), ?_, (a4.trans k).mut hD0, hd.upd ndl⟩
  rw [List.length_append, a3]
  rfl
theorem ok_chain (T : Txt K mg) {f : Addr} {fd : FuncData} (D : DefAt K mg "_law_chain" sLChain ["_law_dice_here", "_law_rings", "_law_most"] f fd) : FnOk P w K mg base CX0 4 f fd ["_law_dice_here", "_law_rings", "_law_most"] spChain := by
  refine D.F.ok scLChain (fun vs H Q E h => ?_) (fun cdv A outer s H vs Q E hr h => ?_)
  · obtain ⟨d, n, t, rfl, _⟩ := h
    rfl
  · obtain ⟨d, g, most, rfl, hd, h1, h2, h3, h4, q⟩ := h
    obtain ⟨f1, fd1, D1⟩ := T.d_l_roll
    obtain ⟨f2, fd2, D2⟩ := T.d_l_ring_of
    obtain ⟨f3, fd3, D3⟩ := T.d_l_ring
    have hr1 : Room 1 _ := hr.mono (by decide)
    have hr2 : Room 2 _ := hr.mono (by decide)
    refine ⟨_, pss_cons (ps_if (pt_cmpR op_eq (pe_call (ok_roll T D1) hr1 (by rfl) D1.g D1.F.kp D1.b .nil pass0 (pa_cons (pv 0) (pa_cons pe_int pa_nil))) pe_int (nomark _))
        (pss_cons (ps_set (i := 3) scLChain.nd rfl (.inr rfl) (pe_op op_add pe_int (pe_call (ok_roll T D1) hr1 (by rfl) D1.g D1.F.kp D1.b .nil pass0 (pa_cons (pv 0) (pa_cons (pe_callB (call_min2 rfl) (by rfl) T.z_min (by decide +kernel) (pa_cons pe_int (pa_cons (pe_op op_sub (pv 2) pe_int) pa_nil))) pa_nil)))))
        (pss_one (ps_ret (pe_callTy call_tuple_of (by rfl) T.z_tuple (by decide +kernel) (pa_cons (pe_lc (own := [("_law_turn", 4)]) (g := gName 4) (tt := tYes) rfl scLChain.nd (pi_range1 (by rfl) T.z_range (pa_cons (pv 1) pa_nil))
          (blkOk_by (N := nLChain) (sc := defScope sLChain) (by decide +kernel)) (fun _ _ _ _ _ => pg_name (i := 4) scLChain.nd rfl (Or.inl rfl)) (fun _ _ _ _ _ => pts_nil)
          (fun _ _ _ _ _ => pe_call (ok_ring_of T D2) hr (by rfl) D2.g D2.F.kp D2.b .nil pass0 (pa_cons (pv 0) (pa_cons (pv 3) (pa_cons (pe_op op_fdiv (pv 2) (pv 3)) pa_nil))))) pa_nil))))) pss_nil)
      (pss_one (ps_ret (pe_callTy call_tuple_of (by rfl) T.z_tuple (by decide +kernel) (pa_cons (pe_lc (own := [("_law_turn", 4)]) (g := gName 4) (tt := tYes) rfl scLChain.nd (pi_range1 (by rfl) T.z_range (pa_cons (pv 1) pa_nil))
          (blkOk_by (N := nLChain) (sc := defScope sLChain) (by decide +kernel)) (fun _ _ _ _ _ => pg_name (i := 4) scLChain.nd rfl (Or.inl rfl)) (fun _ _ _ _ _ => pts_nil)
          (fun _ _ _ _ _ => pe_call (ok_ring T D3) hr2 (by rfl) D3.g D3.F.kp D3.b .nil pass0 (pa_cons (pv 0) (pa_cons (pv 2) pa_nil)))) pa_nil)))), ?_⟩
    refine ⟨.ref d, rfl, d, 3, rfl, hd, by omega, by omega, fun r H1 r0 r1 hd1 k1 => ?_⟩
    refine ⟨rfl, _, rfl, ite2 (fun c => ?_) (fun c => ?_)⟩
    · refine ⟨.ref d, rfl, .int most, rfl, most, 1, rfl, rfl, 3, most - 1, rfl, d, _, rfl, hd1, ?_, ?_, fun r' H2 r0' r1' hd2 k2 => ?_⟩
      · split <;> omega
      · split <;> omega
      have hk : 2 + r' ≤ most ∧ 2 + r' ≤ 4 := by
        split at r1' <;> omega
      refine ⟨2, r', rfl, rfl, .int g, rfl, g, rfl, by omega, by omega, fun Dl hD => ?_⟩
      have ndl : d ≠ Dl := hd2.ne_new hD
      have k12 := k1.trans k2
      have hD0 : H Dl = none := k12.free ndl.symm hD
      refine lc_range (lo := 0) (n := g.toNat) (ChW d Dl H most) ⟨[], [], upd_same, .nil, rfl, k12.trans (Keep.new hD), hd2.upd ndl⟩ (fun i H' hi W => ?_) (fun H' W => ?_)
      · have hd' := W.choose_spec.choose_spec.2.2.2.2
        have hq : 1 ≤ most / (2 + r') := Int.le_ediv_of_mul_le (by omega) (by omega)
        have hq2 : most / (2 + r') ≤ most := Int.ediv_le_self _ (by omega)
        have hq3 : (2 + r') * (most / (2 + r')) ≤ most := Int.mul_ediv_self_le (by omega)
        refine ⟨rfl, ?_⟩
        dsimp only [tYes]
        rw [if_pos rfl]
        refine ⟨.ref d, rfl, .int (2 + r'), rfl, .int most, rfl, .int (2 + r'), rfl, most, 2 + r', rfl, rfl, ⟨by omega, by omega⟩, d, 2 + r', most / (2 + r'), rfl, hd', by omega, by omega, hq, by omega, fun x n s H3 hx hd3 k3 => ?_⟩
        exact W.turn ndl hD0 k3 hd3 (hx.most hq3) (by omega)
      · obtain ⟨xs, rs, a1, a2, a3, a4, a5⟩ := W
        refine ⟨Dl, xs, rfl, .inl ⟨SqL.of a1, fun p hp => q p xs rs _ upd_same (paired_imp (fun y r' z => RingAt.ex (.new hp) z) a2) (by omega) (a5.upd (a5.ne_new hp)) (a4.trans (Keep.new hp))⟩⟩
    · refine ⟨.int g, rfl, g, rfl, by omega, by omega, fun Dl hD => ?_⟩
      have ndl : d ≠ Dl := hd1.ne_new hD
      have hD0 : H Dl = none := k1.free ndl.symm hD
      refine lc_range (lo := 0) (n := g.toNat) (ChW d Dl H most) ⟨[], [], upd_same, .nil, rfl, k1.trans (Keep.new hD), hd1.upd ndl⟩ (fun i H' hi W => ?_) (fun H' W => ?_)
      · have hd' := W.choose_spec.choose_spec.2.2.2.2
        refine ⟨rfl, ?_⟩
        dsimp only [tYes]
        rw [if_pos rfl]
        refine ⟨.ref d, rfl, .int most, rfl, d, most, rfl, hd', by omega, by omega, fun x n s H3 hx hd3 k3 => ?_⟩
        exact W.turn ndl hD0 k3 hd3 hx (by omega)
      · obtain ⟨xs, rs, a1, a2, a3, a4, a5⟩ := W
        refine ⟨Dl, xs, rfl, .inl ⟨SqL.of a1, fun p hp => q p xs rs _ upd_same (paired_imp (fun y r' z => RingAt.ex (.new hp) z) a2) (by omega) (a5.upd (a5.ne_new hp)) (a4.trans (Keep.new hp))⟩⟩
end
end K1

namespace K1
open PySem PySem.Spec PyProof.Rows L2 Evl
/-! ### judges of rings and chains -/
/-- no tuple -/
inductive NotTup (K : PySem.W.Frag) (H : Hp) : V → Prop where
  | bl (b : Bool) : NotTup K H (.bl b)
  | non : NotTup K H .non
  | int (i : Int) : NotTup K H (.int i)
  | str (x : Str) : NotTup K H (.str x)
  | lst {a : Addr} {xs : List V} (e : H a = some (.lst xs)) : NotTup K H (.ref a)
  | dK {a : Addr} {kvs : List (Key × V)} (e : H a = some (.dK kvs)) : NotTup K H (.ref a)
theorem NotTup.ty {K : PySem.W.Frag} {H : Hp} {x : V} (h : NotTup K H x) : ∃ t : Value, TyX K H x t ∧ PySem.W.kitOne K t (.type "tuple") = some false := by
  cases h with
  | bl b => exact ⟨_, .base (.bl b), (kit_ty (by decide +kernel))⟩
  | non => exact ⟨_, .base .non, (kit_ty (by decide +kernel))⟩
  | int x => exact ⟨_, .base (.int x), (kit_ty (by decide +kernel))⟩
  | str x => exact ⟨_, .base (.str x), (kit_ty (by decide +kernel))⟩
  | lst e => exact ⟨_, .base (.lst e), (kit_ty (by decide +kernel))⟩
  | dK e => exact ⟨_, .base (.dK e), (kit_ty (by decide +kernel))⟩
theorem NotTup.mono {K : PySem.W.Frag} {H H' : Hp} {x : V} (e : Ex H H') (h : NotTup K H x) : NotTup K H' x := by
  cases h with
  | bl b => exact .bl b
  | non => exact .non
  | int x => exact .int x
  | str x => exact .str x
  | lst q => exact .lst (e _ _ q)
  | dK q => exact .dK (e _ _ q)
theorem BtwB.mono {K : PySem.W.Frag} {H H' : Hp} {lo hi : Int} {x : V} {b : Bool} (e : Ex H H') (h : BtwB K H lo hi x b) : BtwB K H' lo hi x b := by
  cases h with
  | int i => exact .int i
  | no h => exact .no (h.mono e)
theorem BtwB.yes {K : PySem.W.Frag} {H : Hp} {lo hi i : Int} (h1 : lo ≤ i) (h2 : i ≤ hi) (h3 : -(10 ^ 60) < i) (h4 : i < 10 ^ 60) : BtwB K H lo hi (.int i) true := by
  have := BtwB.int (K := K) (H := H) (lo := lo) (hi := hi) i
  rw [decide_eq_true h1, decide_eq_true h2, decide_eq_true h3, decide_eq_true h4] at this
  exact this
theorem BtwB.out {K : PySem.W.Frag} {H : Hp} {lo hi i : Int} (h1 : ¬ (lo ≤ i ∧ i ≤ hi)) : BtwB K H lo hi (.int i) false := by
  have := BtwB.int (K := K) (H := H) (lo := lo) (hi := hi) i
  have e : (decide (lo ≤ i) && decide (i ≤ hi)) = false := by
    by_cases c : lo ≤ i
    · have c2 : ¬ i ≤ hi := fun z => h1 ⟨c, z⟩
      rw [decide_eq_false c2, Bool.and_false]
    · rw [decide_eq_false c, Bool.false_and]
  rw [e, Bool.and_false] at this
  exact this
inductive PairB (K : PySem.W.Frag) (H : Hp) : V → Bool → Prop where
  | no {x : V} (h : NotTup K H x) : PairB K H x false
  | tup {a : Addr} {xs : List V} (e : H a = some (.tup xs)) : PairB K H (.ref a) (decide (xs.length = 2))
inductive RingB (K : PySem.W.Frag) (H : Hp) : V → Bool → Prop where
  | no {x : V} (h : NotTup K H x) : RingB K H x false
  | len {a : Addr} {xs : List V} (e : H a = some (.tup xs)) (h : xs.length ≠ 2) : RingB K H (.ref a) false
  | first {a : Addr} {x y : V} (e : H a = some (.tup [x, y])) (h : BtwB K H 2 60 x false) : RingB K H (.ref a) false
  | both {a : Addr} {n : Int} {y : V} {b : Bool} (e : H a = some (.tup [.int n, y])) (h1 : 2 ≤ n) (h2 : n ≤ 60) (h : BtwB K H 1 (n - 1) y b) : RingB K H (.ref a) b
theorem RingB.mono {K : PySem.W.Frag} {H H' : Hp} {x : V} {b : Bool} (e : Ex H H') (h : RingB K H x b) : RingB K H' x b := by
  cases h with
  | no h => exact .no (h.mono e)
  | len q h => exact .len (e _ _ q) h
  | first q h => exact .first (e _ _ q) (h.mono e)
  | both q h1 h2 h => exact .both (e _ _ q) h1 h2 (h.mono e)
inductive ChainB (K : PySem.W.Frag) (H : Hp) : V → Bool → Prop where
  | no {x : V} (h : NotTup K H x) : ChainB K H x false
  | len {a : Addr} {xs : List V} (e : H a = some (.tup xs)) (h : ¬ (1 ≤ xs.length ∧ xs.length ≤ 12)) : ChainB K H (.ref a) false
  | tup {a : Addr} {xs : List V} {bs : List Bool} (e : H a = some (.tup xs)) (h : 1 ≤ xs.length ∧ xs.length ≤ 12) (hb : Paired (RingB K H) xs bs) : ChainB K H (.ref a) (bs.all id)
theorem RingAt.ring {K : PySem.W.Frag} {H : Hp} {most n s : Int} {x : V} (h : RingAt H most x n s) (hm : most ≤ 60) : RingB K H x true := by
  obtain ⟨t, rfl, ht, h1, h2, h3, h4⟩ := h
  exact .both ht h1 (by omega) (.yes h3 (by omega) (by omega) (by omega))
section
variable {P : Program} {w : World} {K : PySem.W.Frag} {mg : Str → Option Value} {base : Heap}
def spIsPair (K : PySem.W.Frag) : Sp := fun vs H Q _ => ∃ x b, vs = [x] ∧ PairB K H x b ∧ ∀ H', Ex H H' → Q (.bl b) H'
theorem ok_is_pair (T : Txt K mg) {f : Addr} {fd : FuncData} (D : DefAt K mg "is_pair" sIsPair ["value"] f fd) : FnOk P w K mg base CX0 1 f fd ["value"] (spIsPair K) := by
  refine D.F.ok scIsPair (fun vs H Q E h => ?_) (fun cdv A outer s H vs Q E hr h => ?_)
  · obtain ⟨x, b, rfl, _⟩ := h
    rfl
  · obtain ⟨x, b, rfl, hb, q⟩ := h
    refine ⟨_, pss_one (ps_ret (pe_and (pe_callB call_isi (by rfl) T.z_isinstance (by decide +kernel) (pa_cons (pv 0) (pa_cons (pe_bltn (v := .ty "tuple") (by rfl) T.z_tuple (by decide +kernel) rfl) pa_nil)))
      (pe_one (pe_cmpR op_eq (pe_callB call_len (by rfl) T.z_len PySem.boot_len (pa_cons (pv 0) pa_nil)) pe_int (nomark _))))), ?_⟩
    cases hb with
    | no hn =>
      obtain ⟨t, ty, h⟩ := hn.ty
      exact ⟨x, rfl, x, .ty "tuple", t, .type "tuple", false, rfl, .ty _, ty, h, false, rfl, iteF (q _ (Ex.refl _))⟩
    | @tup a xs e =>
      refine ⟨_, rfl, .ref a, .ty "tuple", .type "tuple", .type "tuple", true, rfl, .ty _, .base (.tup e), kit_ty (by decide +kernel), true, rfl, iteT ?_⟩
      refine ⟨_, rfl, _, xs.length, rfl, .inr ⟨_, SqT.of e, rfl⟩, rfl, ?_⟩
      have e2 : decide (V.int (xs.length : Int) = V.int 2) = decide (xs.length = 2) := by
        by_cases c : xs.length = 2
        · rw [c]
          rfl
        · rw [decide_eq_false c, decide_eq_false (fun z => c (by have := V.int.inj z; omega))]
      rw [e2]
      exact q _ (Ex.refl _)
def spIsRing (K : PySem.W.Frag) : Sp := fun vs H Q _ => ∃ x b, vs = [x] ∧ RingB K H x b ∧ ∀ H', Ex H H' → Q (.bl b) H'
theorem ok_is_ring (T : Txt K mg) {f : Addr} {fd : FuncData} (D : DefAt K mg "is_ring" sIsRing ["value"] f fd) : FnOk P w K mg base CX0 3 f fd ["value"] (spIsRing K) := by
  refine D.F.ok scIsRing (fun vs H Q E h => ?_) (fun cdv A outer s H vs Q E hr h => ?_)
  · obtain ⟨x, b, rfl, _⟩ := h
    rfl
  · obtain ⟨x, b, rfl, hb, q⟩ := h
    obtain ⟨f1, fd1, D1⟩ := T.d_is_pair
    obtain ⟨f2, fd2, D2⟩ := T.d_is_between
    obtain ⟨tM, vM⟩ := T.v_PLACES
    have hr1 : Room 1 _ := hr.mono (by decide)
    refine ⟨_, pss_cons (ps_if (pt_not (pt_val (pe_call (ok_is_pair T D1) hr1 (by rfl) D1.g D1.F.kp D1.b .nil pass0 (pa_cons (pv 0) pa_nil)))) (pss_one (ps_ret pe_bl)) pss_nil)
      (pss_cons (ps_asg (pv 0) (pg_tup (by rfl) (pgs_cons (pg_name (i := 1) scIsRing.nd rfl (.inl rfl)) (pgs_cons (pg_name (i := 2) scIsRing.nd rfl (.inl rfl)) pgs_nil))))
      (pss_one (ps_ret (pe_and (pe_call (ok_is_between T D2) hr (by rfl) D2.g D2.F.kp D2.b .nil pass0 (pa_cons (pv 1) (pa_cons pe_int (pa_cons (pe_glob (v := .int 60) rfl vM ⟨_, rfl⟩) pa_nil))))
        (pe_one (pe_call (ok_is_between T D2) hr (by rfl) D2.g D2.F.kp D2.b .nil pass0 (pa_cons (pv 2) (pa_cons pe_int (pa_cons (pe_op op_sub (pv 1) pe_int) pa_nil))))))))), ?_⟩
    cases hb with
    | no h => exact ⟨x, rfl, x, false, rfl, .no h, fun H1 e1 => ⟨false, rfl, iteT (q _ e1)⟩⟩
    | @len a xs e h => exact ⟨_, rfl, .ref a, false, rfl, by have := PairB.tup (K := K) e; rw [decide_eq_false h] at this; exact this, fun H1 e1 => ⟨false, rfl, iteT (q _ e1)⟩⟩
    | @first a x y e h =>
      refine ⟨_, rfl, .ref a, true, rfl, .tup e, fun H1 e1 => ⟨true, rfl, iteF ?_⟩⟩
      refine ⟨_, rfl, a, [x, y], rfl, SqT.of (e1 _ _ e), rfl, x, [y], rfl, y, [], rfl, rfl, ?_⟩
      exact ⟨x, rfl, x, 2, 60, false, rfl, h.mono e1, fun H2 e2 => ⟨false, rfl, iteF (q _ (e1.trans e2))⟩⟩
    | @both a n y b e h1 h2 h =>
      refine ⟨_, rfl, .ref a, true, rfl, .tup e, fun H1 e1 => ⟨true, rfl, iteF ?_⟩⟩
      refine ⟨_, rfl, a, [.int n, y], rfl, SqT.of (e1 _ _ e), rfl, .int n, [y], rfl, y, [], rfl, rfl, ?_⟩
      refine ⟨.int n, rfl, .int n, 2, 60, true, rfl, .yes h1 h2 (by omega) (by omega), fun H2 e2 => ⟨true, rfl, iteT ?_⟩⟩
      exact ⟨y, rfl, .int n, rfl, n, 1, rfl, rfl, y, 1, n - 1, b, rfl, h.mono (e1.trans e2), fun H3 e3 => q _ ((e1.trans e2).trans e3)⟩
def spIsChain (K : PySem.W.Frag) : Sp := fun vs H Q _ => ∃ x b, vs = [x] ∧ ChainB K H x b ∧ ∀ H', Ex H H' → Q (.bl b) H'
theorem ok_is_chain (T : Txt K mg) {f : Addr} {fd : FuncData} (D : DefAt K mg "is_chain" sIsChain ["value"] f fd) : FnOk P w K mg base CX0 4 f fd ["value"] (spIsChain K) := by
  refine D.F.ok scIsChain (fun vs H Q E h => ?_) (fun cdv A outer s H vs Q E hr h => ?_)
  · obtain ⟨x, b, rfl, _⟩ := h
    rfl
  · obtain ⟨x, b, rfl, hb, q⟩ := h
    obtain ⟨f1, fd1, D1⟩ := T.d_is_ring
    obtain ⟨tM, vM⟩ := T.v_RINGS
    refine ⟨_, pss_cons (ps_if (PW.pt (pw_or (pt_not (pt_val (pe_callB call_isi (by rfl) T.z_isinstance (by decide +kernel) (pa_cons (pv 0) (pa_cons (pe_bltn (v := .ty "tuple") (by rfl) T.z_tuple (by decide +kernel) rfl) pa_nil)))))
        (pw_or1 (pt_not (pt_chain op_le op_le pe_int (pe_callB call_len (by rfl) T.z_len PySem.boot_len (pa_cons (pv 0) pa_nil)) (pe_glob (v := .int 12) rfl vM ⟨_, rfl⟩)))))) (pss_one (ps_ret pe_bl)) pss_nil)
      (pss_one (ps_ret (pe_callB (cr_all rfl) (by rfl) T.z_all (by decide +kernel) (pa_cons (pe_lc (own := [("ring", 1)]) (g := gName 1) (tt := tYes) rfl scIsChain.nd (pi_tup (pv 0))
          (blkOk_by (N := nIsChain) (sc := defScope sIsChain) (by decide +kernel)) (fun _ _ _ _ _ => pg_name (i := 1) scIsChain.nd rfl (Or.inl rfl)) (fun _ _ _ _ _ => pts_nil)
          (fun _ _ _ _ _ => pe_call (ok_is_ring T D1) hr (by rfl) D1.g D1.F.kp D1.b .nil pass0 (pa_cons (pv 1) pa_nil))) pa_nil)))), ?_⟩
    cases hb with
    | no hn =>
      obtain ⟨t, ty, h⟩ := hn.ty
      exact ⟨x, rfl, x, .ty "tuple", t, .type "tuple", false, rfl, .ty _, ty, h, false, rfl, iteT (iteT (q _ (Ex.refl _)))⟩
    | @len a xs e h =>
      refine ⟨_, rfl, .ref a, .ty "tuple", .type "tuple", .type "tuple", true, rfl, .ty _, .base (.tup e), kit_ty (by decide +kernel), true, rfl, iteF ?_⟩
      refine ⟨_, rfl, _, xs.length, rfl, .inr ⟨_, SqT.of e, rfl⟩, _, _, rfl, rfl, _, rfl, ite2 (fun c => ?_) (fun c => ?_)⟩
      · refine ⟨_, _, rfl, rfl, _, rfl, ?_⟩
        have c2 : ¬ ((xs.length : Int) ≤ 12) := fun z => h ⟨by have : (1 : Int) ≤ (xs.length : Int) := of_decide_eq_true c; omega, by omega⟩
        rw [decide_eq_false c2]
        exact iteT (q _ (Ex.refl _))
      · exact ⟨_, rfl, iteT (q _ (Ex.refl _))⟩
    | @tup a xs bs e h hb =>
      refine ⟨_, rfl, .ref a, .ty "tuple", .type "tuple", .type "tuple", true, rfl, .ty _, .base (.tup e), kit_ty (by decide +kernel), true, rfl, iteF ?_⟩
      refine ⟨_, rfl, _, xs.length, rfl, .inr ⟨_, SqT.of e, rfl⟩, _, _, rfl, rfl, _, rfl, ite2 (fun c => ?_) (fun c => ?_)⟩
      · refine ⟨_, _, rfl, rfl, _, rfl, ?_⟩
        rw [decide_eq_true (show (xs.length : Int) ≤ 12 by omega)]
        refine iteF ?_
        refine ⟨_, rfl, a, rfl, ⟨_, SqT.of e⟩, fun Dl hD => ?_⟩
        refine lc_tup (K := K) (a := a) (xs := xs) (fun i H' => H' Dl = some (.lst ((bs.take i).map V.bl)) ∧ Ex H H') ⟨upd_same, Ex.new hD⟩ (fun i H' _ hp => SqT.of (hp.2 _ _ e)) (fun i x H' hx hp => ?_) (fun H' hp => ?_)
        · obtain ⟨y, hy, hR⟩ := paired_get hb hx
          refine ⟨rfl, ?_⟩
          dsimp only [tYes]
          rw [if_pos rfl]
          refine ⟨x, rfl, x, y, rfl, hR.mono hp.2, fun H2 e2 => ⟨_, e2 _ _ hp.1, ?_, ?_, ?_⟩⟩
          · have := (List.getElem?_eq_some_iff.mp hx).1
            rw [List.length_map, List.length_take]
            exact small1000 (Nat.le_trans (Nat.min_le_left _ _) (by omega))
          · rw [upd_same, List.take_add_one, hy, List.map_append]
            rfl
          · exact Ex.mut (hp.2.trans e2) hD
        · refine ⟨Dl, bs, rfl, ?_, q _ hp.2⟩
          have e3 : bs.take xs.length = bs := List.take_of_length_le (by rw [paired_len hb]; exact Nat.le_refl _)
          have h1 := hp.1
          rw [e3] at h1
          exact SqL.of h1
      · exact absurd (decide_eq_true (show (1 : Int) ≤ (xs.length : Int) by omega)) c
end
end K1

namespace K1
open PySem PySem.Spec PyProof.Rows L2 Evl
/-! ### orders and diagonals -/
section
variable {P : Program} {w : World} {K : PySem.W.Frag} {mg : Str → Option Value} {base : Heap}
def spCheckInteger (K : PySem.W.Frag) : Sp := fun vs H Q _ => ∃ i : Int, vs = [.int i] ∧ -(10 ^ 60) < i ∧ i < 10 ^ 60 ∧ ∀ H', Ex H H' → Q .non H'
theorem ok_check_integer (T : Txt K mg) {f : Addr} {fd : FuncData} (D : DefAt K mg "check_integer" sCheckInteger ["value"] f fd) : FnOk P w K mg base CX0 2 f fd ["value"] (spCheckInteger K) := by
  refine D.F.ok scCheckInteger (fun vs H Q E h => ?_) (fun cdv A outer s H vs Q E hr h => ?_)
  · obtain ⟨x, rfl, _⟩ := h
    rfl
  · obtain ⟨i, rfl, h1, h2, q⟩ := h
    obtain ⟨f1, fd1, D1⟩ := T.d_is_integer
    refine ⟨_, pss_one (ps_if (pt_not (pt_val (pe_call (ok_is_integer T D1) hr (by rfl) D1.g D1.F.kp D1.b .nil pass0 (pa_cons (pv 0) pa_nil)))) pss_never pss_nil), ?_⟩
    refine ⟨_, rfl, .int i, true, rfl, ?_, fun H1 e1 => ⟨true, rfl, iteF (q _ e1)⟩⟩
    have := IntB.int (K := K) (H := H) i
    rw [decide_eq_true h1, decide_eq_true h2] at this
    exact this
def spCheckRing (K : PySem.W.Frag) : Sp := fun vs H Q _ => ∃ x, vs = [x] ∧ RingB K H x true ∧ ∀ H', Ex H H' → Q .non H'
theorem ok_check_ring (T : Txt K mg) {f : Addr} {fd : FuncData} (D : DefAt K mg "check_ring" sCheckRing ["ring"] f fd) : FnOk P w K mg base CX0 4 f fd ["ring"] (spCheckRing K) := by
  refine D.F.ok scCheckRing (fun vs H Q E h => ?_) (fun cdv A outer s H vs Q E hr h => ?_)
  · obtain ⟨x, rfl, _⟩ := h
    rfl
  · obtain ⟨x, rfl, hb, q⟩ := h
    obtain ⟨f1, fd1, D1⟩ := T.d_is_ring
    refine ⟨_, pss_one (ps_if (pt_not (pt_val (pe_call (ok_is_ring T D1) hr (by rfl) D1.g D1.F.kp D1.b .nil pass0 (pa_cons (pv 0) pa_nil)))) pss_never pss_nil), ?_⟩
    exact ⟨_, rfl, x, true, rfl, hb, fun H1 e1 => ⟨true, rfl, iteF (q _ e1)⟩⟩
def spCheckChain (K : PySem.W.Frag) : Sp := fun vs H Q _ => ∃ x, vs = [x] ∧ ChainB K H x true ∧ ∀ H', Ex H H' → Q .non H'
theorem ok_check_chain (T : Txt K mg) {f : Addr} {fd : FuncData} (D : DefAt K mg "check_chain" sCheckChain ["chain"] f fd) : FnOk P w K mg base CX0 5 f fd ["chain"] (spCheckChain K) := by
  refine D.F.ok scCheckChain (fun vs H Q E h => ?_) (fun cdv A outer s H vs Q E hr h => ?_)
  · obtain ⟨x, rfl, _⟩ := h
    rfl
  · obtain ⟨x, rfl, hb, q⟩ := h
    obtain ⟨f1, fd1, D1⟩ := T.d_is_chain
    refine ⟨_, pss_one (ps_if (pt_not (pt_val (pe_call (ok_is_chain T D1) hr (by rfl) D1.g D1.F.kp D1.b .nil pass0 (pa_cons (pv 0) pa_nil)))) pss_never pss_nil), ?_⟩
    exact ⟨_, rfl, x, true, rfl, hb, fun H1 e1 => ⟨true, rfl, iteF (q _ e1)⟩⟩
def spOrderOf : Sp := fun vs H Q _ => ∃ x n s, vs = [x] ∧ RingAt H 60 x n s ∧ ∀ H', Ex H H' → Q (.int (K1M.ord n.natAbs s.natAbs : Nat)) H'
theorem ok_order_of (T : Txt K mg) {f : Addr} {fd : FuncData} (D : DefAt K mg "order_of" sOrderOf ["ring"] f fd) : FnOk P w K mg base CX0 5 f fd ["ring"] spOrderOf := by
  refine D.F.ok scOrderOf (fun vs H Q E h => ?_) (fun cdv A outer s H vs Q E hr h => ?_)
  · obtain ⟨x, n, s, rfl, _⟩ := h
    rfl
  · obtain ⟨x, n, s, rfl, hx, q⟩ := h
    obtain ⟨f1, fd1, D1⟩ := T.d_check_ring
    refine ⟨_, pss_cons (ps_expr (pe_call (ok_check_ring T D1) hr (by rfl) D1.g D1.F.kp D1.b .nil pass0 (pa_cons (pv 0) pa_nil)))
      (pss_one (ps_ret (pe_op op_fdivN (pe_ix ix_tup (pv 0) pe_int (fun _ _ => rfl)) (pe_callBfun cr_gcd (by rfl) T.v_gcd (pa_cons (pe_ix ix_tup (pv 0) pe_int (fun _ _ => rfl)) (pa_cons (pe_ix ix_tup (pv 0) pe_int (fun _ _ => rfl)) pa_nil)))))), ?_⟩
    refine ⟨_, rfl, x, rfl, hx.ring (Int.le_refl _), fun H1 e1 => ?_⟩
    obtain ⟨t, rfl, ht, h1, h2, h3, h4⟩ := hx
    have ht1 := SqT.of (K := K) (e1 _ _ ht)
    refine ⟨_, rfl, t, _, 0, .int n, rfl, rfl, ht1, rfl, _, rfl, t, _, 0, .int n, rfl, rfl, ht1, rfl, _, rfl, t, _, 1, .int s, rfl, rfl, ht1, rfl, n, s, rfl, ?_⟩
    have hg : 0 < Nat.gcd n.natAbs s.natAbs := Nat.gcd_pos_of_pos_left _ (by omega)
    have hle : Nat.gcd n.natAbs s.natAbs ≤ n.natAbs := Nat.gcd_le_left _ (by omega)
    refine ⟨n, _, rfl, rfl, ⟨by omega, by omega⟩, ?_⟩
    have e : n.fdiv ((Nat.gcd n.natAbs s.natAbs : Nat) : Int) = ((K1M.ord n.natAbs s.natAbs : Nat) : Int) := by
      rw [Int.fdiv_eq_ediv_of_nonneg _ (by omega)]
      conv => lhs; lhs; rw [show n = ((n.natAbs : Nat) : Int) by omega]
      rfl
    show Q (V.int (n.fdiv ((Nat.gcd n.natAbs s.natAbs : Nat) : Int))) H1
    rw [e]
    exact q _ e1
def spLets : Sp := fun vs H Q _ => ∃ x n s p c, vs = [x, .int p, .int c] ∧ RingAt H 60 x n s ∧ ∀ H', Ex H H' → Q (.bl (decide ((c * s - p) % n = 0))) H'
theorem ok_lets (T : Txt K mg) {f : Addr} {fd : FuncData} (D : DefAt K mg "lets" sLets ["ring", "place", "diagonal"] f fd) : FnOk P w K mg base CX0 1 f fd ["ring", "place", "diagonal"] spLets := by
  refine D.F.ok scLets (fun vs H Q E h => ?_) (fun cdv A outer s H vs Q E hr h => ?_)
  · obtain ⟨x, n, s, p, c, rfl, _⟩ := h
    rfl
  · obtain ⟨x, n, s, p, c, rfl, hx, q⟩ := h
    refine ⟨_, pss_one (ps_ret (pe_cmpR op_eq (pe_op op_mod (pe_op op_sub (pe_op op_mul (pv 2) (pe_ix ix_tup (pv 0) pe_int (fun _ _ => rfl))) (pv 1)) (pe_ix ix_tup (pv 0) pe_int (fun _ _ => rfl))) pe_int (nomark _))), ?_⟩
    obtain ⟨t, rfl, ht, h1, h2, h3, h4⟩ := hx
    have ht1 := SqT.of (K := K) ht
    refine ⟨_, rfl, _, rfl, t, _, 1, .int s, rfl, rfl, ht1, rfl, c, s, rfl, rfl, .inr (by constructor <;> omega), _, rfl, _, _, rfl, rfl, _, rfl, t, _, 0, .int n, rfl, rfl, ht1, rfl, _, n, rfl, rfl, by omega, rfl, ?_⟩
    have e : decide (V.int ((c * s - p) % n) = V.int 0) = decide ((c * s - p) % n = 0) := by
      by_cases z : (c * s - p) % n = 0
      · rw [z]
        rfl
      · rw [decide_eq_false z, decide_eq_false (fun y => z (V.int.inj y))]
    show Q (V.bl (decide (V.int ((c * s - p) % n) = V.int 0))) H
    rw [e]
    exact q _ (Ex.refl _)
def spDoesLet : Sp := fun vs H Q _ => ∃ x n s p c, vs = [x, .int p, .int c] ∧ RingAt H 60 x n s ∧ 0 ≤ p ∧ p < n ∧ -(10 ^ 60) < c ∧ c < 10 ^ 60 ∧ ∀ H', Ex H H' → Q (.bl (decide ((c * s) % n = p))) H'
theorem ok_does_let (T : Txt K mg) {f : Addr} {fd : FuncData} (D : DefAt K mg "does_let" sDoesLet ["ring", "place", "diagonal"] f fd) : FnOk P w K mg base CX0 5 f fd ["ring", "place", "diagonal"] spDoesLet := by
  refine D.F.ok scDoesLet (fun vs H Q E h => ?_) (fun cdv A outer s H vs Q E hr h => ?_)
  · obtain ⟨x, n, s, p, c, rfl, _⟩ := h
    rfl
  · obtain ⟨x, n, s, p, c, rfl, hx, hp0, hp1, hc0, hc1, q⟩ := h
    obtain ⟨f1, fd1, D1⟩ := T.d_check_ring
    obtain ⟨f2, fd2, D2⟩ := T.d_is_between
    obtain ⟨f3, fd3, D3⟩ := T.d_check_integer
    obtain ⟨f4, fd4, D4⟩ := T.d_lets
    have hr1 : Room 1 _ := hr.mono (by decide)
    have hr2 : Room 2 _ := hr.mono (by decide)
    refine ⟨_, pss_cons (ps_expr (pe_call (ok_check_ring T D1) hr (by rfl) D1.g D1.F.kp D1.b .nil pass0 (pa_cons (pv 0) pa_nil)))
      (pss_cons (ps_if (pt_not (pt_val (pe_call (ok_is_between T D2) hr2 (by rfl) D2.g D2.F.kp D2.b .nil pass0 (pa_cons (pv 1) (pa_cons pe_int (pa_cons (pe_op op_sub (pe_ix ix_tup (pv 0) pe_int (fun _ _ => rfl)) pe_int) pa_nil)))))) pss_never pss_nil)
      (pss_cons (ps_expr (pe_call (ok_check_integer T D3) hr2 (by rfl) D3.g D3.F.kp D3.b .nil pass0 (pa_cons (pv 2) pa_nil)))
      (pss_one (ps_ret (pe_call (ok_lets T D4) hr1 (by rfl) D4.g D4.F.kp D4.b .nil pass0 (pa_cons (pv 0) (pa_cons (pv 1) (pa_cons (pv 2) pa_nil)))))))), ?_⟩
    refine ⟨_, rfl, x, rfl, hx.ring (Int.le_refl _), fun H1 e1 => ?_⟩
    have hx1 := hx.ex e1
    have hx' := hx1
    obtain ⟨t, rfl, ht, h1, h2, h3, h4⟩ := hx1
    refine ⟨_, rfl, _, rfl, t, _, 0, .int n, rfl, rfl, SqT.of ht, rfl, n, 1, rfl, rfl, .int p, 0, n - 1, true, rfl, .yes hp0 (by omega) (by omega) (by omega), fun H2 e2 => ⟨true, rfl, iteF ?_⟩⟩
    refine ⟨_, rfl, c, rfl, hc0, hc1, fun H3 e3 => ?_⟩
    refine ⟨_, rfl, _, rfl, _, rfl, _, n, s, p, c, rfl, hx'.ex (e2.trans e3), fun H4 e4 => ?_⟩
    have e : decide ((c * s - p) % n = 0) = decide ((c * s) % n = p) := by
      have := K1M.lets_iff (n := n.natAbs) (x := c * s) (p := p) (by omega) hp0 (by omega)
      rw [show ((n.natAbs : Nat) : Int) = n by omega] at this
      exact decide_eq_decide.mpr this
    rw [e]
    exact q _ ((e1.trans e2).trans (e3.trans e4))
end
end K1

namespace K1
open PySem PySem.Spec PyProof.Rows L2 Evl
/-! ### the way of the left door -/
def stl (n s k : Nat) : List V := (List.range k).map fun i => V.int ((K1M.stp n s i : Nat) : Int)
theorem stl_len (n s k : Nat) : (stl n s k).length = k := by
  unfold stl
  rw [List.length_map, List.length_range]
theorem stl_succ (n s k : Nat) : stl n s (k + 1) = stl n s k ++ [V.int ((K1M.stp n s k : Nat) : Int)] := by
  unfold stl
  rw [List.range_succ, List.map_append]
  rfl
theorem stl_get {n s k i : Nat} (h : i < k) : (stl n s k)[i]? = some (V.int ((K1M.stp n s i : Nat) : Int)) := by
  unfold stl
  rw [List.getElem?_map, List.getElem?_range h]
  rfl
section
variable {P : Program} {w : World} {K : PySem.W.Frag} {mg : Str → Option Value} {base : Heap}
def spSteps : Sp := fun vs H Q _ => ∃ x n s, vs = [x] ∧ RingAt H 60 x n s ∧ ∀ p H', H p = none → Ex H H' → H' p = some (.lst (stl n.natAbs s.natAbs (K1M.ord n.natAbs s.natAbs))) → Q (.ref p) H'
theorem ok_steps (T : Txt K mg) {f : Addr} {fd : FuncData} (D : DefAt K mg "_law_steps" sLSteps ["_law_ring_here"] f fd) : FnOk P w K mg base CX0 1 f fd ["_law_ring_here"] spSteps := by
  refine D.F.ok scLSteps (fun vs H Q E h => ?_) (fun cdv A outer s H vs Q E hr h => ?_)
  · obtain ⟨x, n, s, rfl, _⟩ := h
    rfl
  · obtain ⟨x, n, s, rfl, hx, q⟩ := h
    obtain ⟨t, rfl, ht, h1, h2, h3, h4⟩ := hx
    refine ⟨_, pss_cons (ps_par (i := 1) (j := 2) (by rfl) scLSteps.nd rfl rfl (by decide) rfl rfl (pa_cons (pe_lst (pa_cons pe_int pa_nil)) (pa_cons (pe_ix ix_tup (pv 0) pe_int (fun _ _ => rfl)) pa_nil)) (by rfl))
      (pss_cons (ps_while PassesOwn.never (PW.pt (pw_and (pt_cmpR op_ne (pv 2) pe_int (nomark _)) (pw_and1 (pt_cmpR op_lt (pe_callB call_len_seq (by rfl) T.z_len PySem.boot_len (pa_cons (pv 1) pa_nil)) (pe_ix ix_tup (pv 0) pe_int (fun _ _ => rfl)) (nomark _)))))
        (pss_cons (ps_expr (pe_bm PySem.F.plainAttrs_list PySem.F.slot_list_append PySem.F.type_list_append mt_append (pv 1) (pa_cons (pv 2) pa_nil)))
        (pss_one (ps_set (i := 2) scLSteps.nd rfl (.inl rfl) (pe_op op_mod (pe_op op_add (pv 2) (pe_ix ix_tup (pv 0) pe_int (fun _ _ => rfl))) (pe_ix ix_tup (pv 0) pe_int (fun _ _ => rfl)))))))
      (pss_one (ps_ret (pv 1)))), ?_⟩
    generalize hN : n.natAbs = N at *
    generalize hS : s.natAbs = S at *
    have eN : n = (N : Int) := by omega
    have eS : s = (S : Int) := by omega
    subst eN
    subst eS
    have hpos : 0 < N := by omega
    refine ⟨by show 1 ≤ sizeLine; decide, fun p hp => ?_⟩
    refine ⟨_, rfl, t, _, 1, .int S, rfl, rfl, SqT.of (Ex.new hp _ _ ht), rfl, _, _, rfl, ?_⟩
    refine ⟨fun m σ' H' => ∃ k, 1 ≤ k ∧ k ≤ N ∧ σ' = [some (.ref t), some (.ref p), some (.int ((K1M.stp N S k : Nat) : Int))] ∧ H' p = some (.lst (stl N S k)) ∧ Ex H H' ∧ (∀ i, 0 < i → i < k → K1M.stp N S i ≠ 0) ∧ m = N - k,
      ⟨N - 1, 1, Nat.le_refl _, hpos, ?_, ?_, Ex.new hp, fun i a b => by omega, rfl⟩, fun m σ' H' hW => ?_⟩
    · have : K1M.stp N S 1 = S := by
        unfold K1M.stp
        rw [Nat.one_mul]
        exact Nat.mod_eq_of_lt (by omega)
      rw [this]
      rfl
    · rw [upd_same]
      unfold stl K1M.stp
      simp
    · obtain ⟨k, k1, k2, rfl, ep, e1, hlow, rfl⟩ := hW
      have ht1 := SqT.of (K := K) (e1 _ _ ht)
      have hend : (K1M.stp N S k = 0 ∨ k = N) → k = K1M.ord N S := fun z => K1M.stop_is hpos k1 k2 hlow z
      refine ⟨_, rfl, rfl, _, rfl, ite2 (fun c => ?_) (fun c => ?_)⟩
      · have c0 : K1M.stp N S k ≠ 0 := fun z => by
          rw [z] at c
          exact absurd c (by decide)
        refine ⟨_, rfl, p, _, rfl, .inl (SqL.of ep), _, rfl, t, _, 0, .int N, rfl, rfl, ht1, rfl, _, _, rfl, rfl, _, rfl, ite2 (fun c2 => ?_) (fun c2 => ?_)⟩
        · have c3 : k < N := by
            have : ((stl N S k).length : Int) < (N : Int) := of_decide_eq_true c2
            rw [stl_len] at this
            omega
          refine ⟨fun σ2 H2 => σ2 = [some (.ref t), some (.ref p), some (.int ((K1M.stp N S (k + 1) : Nat) : Int))] ∧ H2 = upd H' p (.lst (stl N S (k + 1))), fun σ2 H2 hN2 => ?_, ?_⟩
          · obtain ⟨rfl, rfl⟩ := hN2
            refine ⟨N - (k + 1), by omega, k + 1, by omega, by omega, rfl, upd_same, Ex.mut e1 hp, fun i a b => ?_, rfl⟩
            by_cases z : i = k
            · rw [z]
              exact c0
            · exact hlow i a (by omega)
          · refine ⟨_, rfl, .inl ⟨rfl, _, SqL.of ep⟩, _, rfl, p, _, _, rfl, rfl, ep, ?_, ?_⟩
            · rw [stl_len]
              exact small1000 (by omega)
            · have htp : (upd H' p (HO.lst (stl N S k ++ [V.int ((K1M.stp N S k : Nat) : Int)]))) t = some (.tup [.int N, .int S]) := by
                rw [upd_ne (ne_of_none ht hp)]
                exact e1 _ _ ht
              refine ⟨_, rfl, _, rfl, t, _, 1, .int S, rfl, rfl, SqT.of htp, rfl, _, _, rfl, rfl, _, rfl, t, _, 0, .int N, rfl, rfl, SqT.of htp, rfl, _, _, rfl, rfl, by omega, ?_⟩
              refine ⟨?_, ?_⟩
              · show [some (V.ref t), some (V.ref p), some (V.int ((((K1M.stp N S k : Nat) : Int) + (S : Int)) % (N : Int)))] = _
                have : (((K1M.stp N S k : Nat) : Int) + (S : Int)) % (N : Int) = ((K1M.stp N S (k + 1) : Nat) : Int) := by
                  unfold K1M.stp
                  rw [Nat.add_mul, Nat.one_mul]
                  simp
                rw [this]
              · rw [stl_succ]
        · have c3 : k = N := by
            by_cases z : k = N
            · exact z
            · exfalso
              refine c2 (decide_eq_true ?_)
              show ((stl N S k).length : Int) < (N : Int)
              rw [stl_len]
              omega
          rw [hend (.inr c3)] at ep
          exact ⟨_, rfl, q p H' hp e1 ep⟩
      · have c0 : K1M.stp N S k = 0 := by
          by_cases z : K1M.stp N S k = 0
          · exact z
          · exfalso
            refine c ?_
            rw [decide_eq_false (fun y => z (by have := V.int.inj y; omega))]
            rfl
        refine iteF ?_
        rw [hend (.inl c0)] at ep
        exact ⟨_, rfl, q p H' hp e1 ep⟩
end
end K1

namespace K1
open PySem PySem.Spec PyProof.Rows L2 Evl
/-! ### data -/
theorem dpAll_bools {K : PySem.W.Frag} {H : Hp} : ∀ bs : List Bool, DpAll K H (bs.map V.bl) (bs.map PyData.bool)
  | [] => .nil
  | b :: r => .cons (.bl b) (dpAll_bools r)
theorem shaped_bools (bs : List Bool) : SeqAt.shaped (.list (bs.map PyData.bool)) = true := by
  induction bs with
  | nil => rfl
  | cons b r ih => exact ih
theorem canLay_bools (bs : List Bool) : (PyData.list (bs.map PyData.bool)).canLay0 = true := by
  have : ∀ l : List Bool, PyData.canLayAll0 (l.map PyData.bool) = true := fun l => by
    induction l with
    | nil => rfl
    | cons b r ih => simp [PyData.canLayAll0, PyData.canLay0, ih]
  simp [PyData.canLay0, this]
theorem eqv_bools (bs : List Bool) : PyData.eqv (.list (bs.map PyData.bool)) (.list (bs.map PyData.bool)) = true := SeqAt.eqv_refl _ (canLay_bools bs)
theorem eqv_one (i : Int) : PyData.eqv (.list [.int i]) (.list [.int i]) = true := SeqAt.eqv_refl _ (by simp [PyData.canLay0, PyData.canLayAll0])
/-- the let places so far -/
def one1 (g : Int) (i : Nat) : List V := if g < (i : Int) then [V.int g] else []
theorem one1_len (g : Int) (i : Nat) : (one1 g i).length ≤ 1 := by
  unfold one1
  split <;> simp
theorem one1_yes {g : Int} {i : Nat} (h : g = (i : Int)) : one1 g i ++ [V.int (0 + (i : Int))] = one1 g (i + 1) := by
  unfold one1
  rw [if_neg (by omega), if_pos (by omega), h, Int.zero_add]
  rfl
theorem one1_no {g : Int} {i : Nat} (h : ¬ g = (i : Int)) : one1 g i = one1 g (i + 1) := by
  unfold one1
  by_cases c : g < (i : Int)
  · rw [if_pos c, if_pos (by omega)]
  · rw [if_neg c, if_neg (by omega)]
section
variable {P : Program} {w : World} {K : PySem.W.Frag} {mg : Str → Option Value} {base : Heap}
/-- the place of a diagonal is the step's -/
theorem place_is {N S : Nat} (hN : 0 < N) (c : Int) {st : Addr} {H : Hp} (h : H st = some (.lst (stl N S (K1M.ord N S)))) : atI (stl N S (K1M.ord N S)) (c % ((K1M.ord N S : Nat) : Int)) = some (V.int ((c * (S : Int)) % (N : Int))) := by
  have hm := K1M.ord_pos (s := S) hN
  have h0 : 0 ≤ c % ((K1M.ord N S : Nat) : Int) := Int.emod_nonneg _ (by omega)
  have h1 : c % ((K1M.ord N S : Nat) : Int) < ((K1M.ord N S : Nat) : Int) := Int.emod_lt_of_pos _ (by omega)
  rw [K1M.istp hN c]
  exact at_of (show c % ((K1M.ord N S : Nat) : Int) = (((c % ((K1M.ord N S : Nat) : Int)).toNat : Nat) : Int) by omega) (stl_get (by omega))
def spRingRight : Sp := fun vs H Q _ => ∃ d x n s, vs = [.ref d, x] ∧ Dice H d ∧ RingAt H 60 x n s ∧ ∀ H', Dice H' d → Keep d H H' → Q (.bl true) H'
theorem ok_ring_right (T : Txt K mg) {f : Addr} {fd : FuncData} (D : DefAt K mg "_law_ring_right" sLRingRight ["_law_dice_here", "_law_ring_here"] f fd) : FnOk P w K mg base CX0 6 f fd ["_law_dice_here", "_law_ring_here"] spRingRight := by
  refine D.F.ok scLRingRight (fun vs H Q E h => ?_) (fun cdv A outer s₀ H vs Q E hr h => ?_)
  · obtain ⟨d, x, n, s, rfl, _⟩ := h
    rfl
  · obtain ⟨d, x, n, s, rfl, hd, hx, q⟩ := h
    obtain ⟨f1, fd1, D1⟩ := T.d_l_steps
    obtain ⟨f2, fd2, D2⟩ := T.d_l_roll
    obtain ⟨f3, fd3, D3⟩ := T.d_is_ring
    obtain ⟨f4, fd4, D4⟩ := T.d_order_of
    obtain ⟨f5, fd5, D5⟩ := T.d_does_let
    have hr1 : Room 1 _ := hr.mono (by decide)
    have hr3 : Room 3 _ := hr.mono (by decide)
    refine ⟨_, pss_cons (ps_set (i := 2) scLRingRight.nd rfl (.inr rfl) (pe_call (ok_steps T D1) hr1 (by rfl) D1.g D1.F.kp D1.b .nil pass0 (pa_cons (pv 1) pa_nil)))
      (pss_cut (ps_asg (pe_tup (pa_cons (pe_callB call_len_seq (by rfl) T.z_len PySem.boot_len (pa_cons (pv 2) pa_nil)) (pa_cons (pe_op op_add (pe_op op_mul (pe_call (ok_roll T D2) hr1 (by rfl) D2.g D2.F.kp D2.b .nil pass0 (pa_cons (pv 0) (pa_cons (pe_op op_pow pe_int pe_int) pa_nil))) (pe_op op_pow pe_int pe_int)) (pe_call (ok_roll T D2) hr1 (by rfl) D2.g D2.F.kp D2.b .nil pass0 (pa_cons (pv 0) (pa_cons (pe_op op_pow pe_int pe_int) pa_nil)))) pa_nil)))
          (pg_tup (by rfl) (pgs_cons (pg_name (i := 3) scLRingRight.nd rfl (.inr rfl)) (pgs_cons (pg_name (i := 4) scLRingRight.nd rfl (.inl rfl)) pgs_nil))))
      (pss_cons (ps_if (PW.pt (pw_or (pt_not (pt_val (pe_call (ok_is_ring T D3) hr3 (by rfl) D3.g D3.F.kp D3.b .nil pass0 (pa_cons (pv 1) pa_nil))))
          (pw_or (pt_cmpR op_ne (pe_call (ok_order_of T D4) hr (by rfl) D4.g D4.F.kp D4.b .nil pass0 (pa_cons (pv 1) pa_nil)) (pv 3) (nomark _)) (pw_or1 (pt_cmpR op_lt (pv 3) pe_int (nomark _)))))) (pss_one (ps_ret pe_bl)) pss_nil)
      (pss_cons (ps_for PassesOwn.never rfl (pi_tup (pe_tup (pa_cons (pe_op op_sub (pe_call (ok_roll T D2) hr1 (by rfl) D2.g D2.F.kp D2.b .nil pass0 (pa_cons (pv 0) (pa_cons pe_int pa_nil))) pe_int) (pa_cons (pv 4) (pa_cons (pe_op op_sub pe_int (pv 4)) (pa_cons (pe_op op_mul (pe_op op_fdiv (pv 4) (pv 3)) (pv 3)) pa_nil))))))
          (pg_name (i := 5) scLRingRight.nd rfl (.inr rfl))
          (pss_cons (ps_setLc (i := 7) (own := [("_law_place", 6)]) (g := gName 6) (by rfl) scLRingRight.nd rfl rfl (sw_true rfl rfl rfl (by decide +kernel)) (pi_range1 (by rfl) T.z_range (pa_cons (pe_ix ix_tup (pv 1) pe_int (fun _ _ => rfl)) pa_nil))
              (blkOk_by (N := nLRingRight) (sc := defScope sLRingRight) (by decide +kernel)) (fun _ _ _ _ _ => pg_name (i := 6) scLRingRight.nd rfl (Or.inl rfl))
              (fun _ _ _ _ _ => pts_one (pt_val (pe_call (ok_does_let T D5) hr (by rfl) D5.g D5.F.kp D5.b .nil pass0 (pa_cons (pv 1) (pa_cons (pv 6) (pa_cons (pv 5) pa_nil)))))) (fun _ _ _ _ _ => pv 6))
          (pss_one (ps_if (pt_cmpR (op_neD hr.units) (pv 7) (pe_lst (pa_cons (pe_ix ix_list (pv 2) (pe_op op_mod (pv 5) (pv 3)) (fun _ _ => rfl)) pa_nil)) (nomark _)) (pss_one (ps_ret pe_bl)) pss_nil))))
      (pss_cons (ps_set (i := 6) scLRingRight.nd rfl (.inr rfl) (pe_call (ok_roll T D2) hr1 (by rfl) D2.g D2.F.kp D2.b .nil pass0 (pa_cons (pv 0) (pa_cons (pe_ix ix_tup (pv 1) pe_int (fun _ _ => rfl)) pa_nil))))
      (pss_cons (ps_setLc (i := 8) (own := [("_law_c", 9)]) (g := gName 9) (tt := tYes) (by rfl) scLRingRight.nd rfl rfl (sw_true rfl rfl rfl (by decide +kernel)) (pi_range2 (by rfl) T.z_range (pa_cons (pe_un un_neg pe_int) (pa_cons pe_int pa_nil)))
          (blkOk_by (N := nLRingRight) (sc := defScope sLRingRight) (by decide +kernel)) (fun _ _ _ _ _ => pg_name (i := 9) scLRingRight.nd rfl (Or.inl rfl)) (fun _ _ _ _ _ => pts_nil)
          (fun _ _ _ _ _ => pe_cmpR op_eq (pe_ix (show IxR _ (rIxL K) from ix_list) (pv 2) (pe_op op_mod (pv 9) (pv 3)) (fun _ _ => rfl)) (pv 6) (nomark _)))
      (pss_one (ps_ret (pe_cmpR (op_eqD hr.units) (pe_lc (own := [("_law_c", 9)]) (g := gName 9) (tt := tYes) rfl scLRingRight.nd (pi_range2 (by rfl) T.z_range (pa_cons (pe_un un_neg pe_int) (pa_cons pe_int pa_nil)))
          (blkOk_by (N := nLRingRight) (sc := defScope sLRingRight) (by decide +kernel)) (fun _ _ _ _ _ => pg_name (i := 9) scLRingRight.nd rfl (Or.inl rfl)) (fun _ _ _ _ _ => pts_nil)
          (fun _ _ _ _ _ => pe_call (ok_does_let T D5) hr (by rfl) D5.g D5.F.kp D5.b .nil pass0 (pa_cons (pv 1) (pa_cons (pv 6) (pa_cons (pv 9) pa_nil))))) (pv 8) (nomark _))))))))), ?_⟩
    refine ⟨x, rfl, x, n, s, rfl, hx, fun st H1 hst0 e1 hst => ?_⟩
    have hx' := hx
    obtain ⟨t, rfl, ht, h1, h2, h3, h4⟩ := hx'
    generalize hN : n.natAbs = N at *
    generalize hS : s.natAbs = S at *
    have eN : n = (N : Int) := by omega
    have eS : s = (S : Int) := by omega
    subst eN
    subst eS
    have hpos : 0 < N := by omega
    have hM2 : 2 ≤ K1M.ord N S := K1M.ord_ge2 (by omega) (by omega)
    have hMN : K1M.ord N S ≤ N := K1M.ord_le
    have hd1 : Dice H1 d := hd.ex e1
    have nds : d ≠ st := hd.ne_new hst0
    have ndt : t ≠ d := hd.ne_tup ht
    have p9 : (10 : Int) ^ (Int.toNat 9) = 1000000000 := by decide +kernel
    have p50 : (10 : Int) ^ (Int.toNat 50) = 100000000000000000000000000000000000000000000000000 := by decide +kernel
    refine ⟨fun σ' H' => ∃ g : Int, σ' = [some (.ref d), some (.ref t), some (.ref st), some (.int ((K1M.ord N S : Nat) : Int)), some (.int g), none, none, none, none, none] ∧ 0 ≤ g ∧ g < 10 ^ 59 * 2 ∧ Dice H' d ∧ Keep d H H' ∧ H' st = some (.lst (stl N S (K1M.ord N S))), ?_, ?_⟩
    · refine ⟨.ref st, rfl, st, _, rfl, .inl (SqL.of hst), .ref d, rfl, 10, 9, rfl, rfl, ⟨by decide, by decide, by decide⟩, d, _, rfl, hd1, by rw [p9]; decide, by rw [p9]; decide, fun r1 H2 r10 r11 hd2 k2 => ?_⟩
      refine ⟨10, 50, rfl, rfl, ⟨by decide, by decide, by decide⟩, r1, _, rfl, rfl, .inl ⟨by omega, by rw [p9] at r11; omega⟩, .ref d, rfl, 10, 9, rfl, rfl, ⟨by decide, by decide, by decide⟩, d, _, rfl, hd2, by rw [p9]; decide, by rw [p9]; decide, fun r2 H3 r20 r21 hd3 k3 => ?_⟩
      refine ⟨_, _, rfl, rfl, by show 2 ≤ sizeLine; decide, fun tp htp => ?_⟩
      refine ⟨tp, _, rfl, SqT.of upd_same, rfl, _, _, rfl, _, _, rfl, rfl, ?_⟩
      have k13 : Keep d H H3 := ((Keep.ex e1).trans k2).trans k3
      refine ⟨r1 * (10 : Int) ^ (Int.toNat 50) + r2, ?_, ?_, ?_, hd3.upd (hd3.ne_new htp), k13.trans (Keep.new htp), ?_⟩
      · rw [stl_len]
        rfl
      · rw [p50]
        omega
      · rw [p50]
        rw [p9] at r11 r21
        omega
      · have q3 := k3 _ _ nds.symm (k2 _ _ nds.symm hst)
        rw [upd_ne (ne_of_none q3 htp)]
        exact q3
    rintro σ' H2 ⟨g, rfl, g0, g1, hd2, k2, hst2⟩
    have hx2 := hx.keep k2 hd
    refine ⟨_, rfl, _, true, rfl, hx2.ring (Int.le_refl _), fun H3 e3 => ⟨true, rfl, iteF ?_⟩⟩
    refine ⟨_, rfl, _, _, _, rfl, hx2.ex e3, fun H4 e4 => ⟨_, rfl, rfl, _, rfl, ?_⟩⟩
    rw [Int.natAbs_natCast, Int.natAbs_natCast, decide_eq_true (rfl : V.int ((K1M.ord N S : Nat) : Int) = V.int ((K1M.ord N S : Nat) : Int))]
    refine iteF ?_
    refine ⟨_, rfl, _, _, rfl, rfl, _, rfl, ?_⟩
    rw [decide_eq_false (show ¬ ((K1M.ord N S : Nat) : Int) < 2 by omega)]
    refine iteF ?_
    have e34 := e3.trans e4
    have hd4 := hd2.ex e34
    have k4 : Keep d H H4 := k2.trans (Keep.ex e34)
    have hst4 := e34 _ _ hst2
    clear hst2 hd2 hd1
    -- for diagonal in (..)
    refine ⟨.ref d, rfl, d, 41, rfl, hd4, by decide, by decide, fun r H5 r0 r1 hd5 k5 => ?_⟩
    refine ⟨r, 20, rfl, rfl, _, rfl, _, rfl, _, _, rfl, rfl, _, rfl, _, rfl, g, _, rfl, rfl, ⟨by omega, by omega⟩, _, rfl, _, _, rfl, rfl, .inr ⟨by omega, by omega⟩, by show 4 ≤ sizeLine; decide, fun tq htq => ?_⟩
    have hq0 : 0 ≤ g / ((K1M.ord N S : Nat) : Int) * ((K1M.ord N S : Nat) : Int) := Int.mul_nonneg (Int.ediv_nonneg g0 (by omega)) (by omega)
    have hq1 : g / ((K1M.ord N S : Nat) : Int) * ((K1M.ord N S : Nat) : Int) ≤ g := Int.ediv_mul_le g (by omega)
    have k05 : ∀ o, Keep d H (upd H5 tq o) := fun o => (k4.trans k5).trans (Keep.new htq)
    have nq : d ≠ tq := hd5.ne_new htq
    have hst5 := k5 _ _ nds.symm hst4
    refine ⟨tq, rfl, ⟨_, SqT.of upd_same⟩, for_tup (K := K) (a := tq) (xs := [V.int (r - 20), V.int g, V.int (0 - g), V.int (g / ((K1M.ord N S : Nat) : Int) * ((K1M.ord N S : Nat) : Int))])
      (fun i σ' H' => ∃ y5 y7, σ' = [some (.ref d), some (.ref t), some (.ref st), some (.int ((K1M.ord N S : Nat) : Int)), some (.int g), y5, none, y7, none, none] ∧ Dice H' d ∧ Keep d H H' ∧ H' st = some (.lst (stl N S (K1M.ord N S))) ∧ H' tq = some (.tup [V.int (r - 20), V.int g, V.int (0 - g), V.int (g / ((K1M.ord N S : Nat) : Int) * ((K1M.ord N S : Nat) : Int))]))
      ⟨none, none, rfl, hd5.upd nq, k05 _, by rw [upd_ne (ne_of_none hst5 htq)]; exact hst5, upd_same⟩ (fun i σ' H' _ hp => ?_) (fun i y σ' H' hy hp => ?_) (fun σ' H' hp => ?_)⟩
    · obtain ⟨_, _, _, _, _, _, z⟩ := hp
      exact SqT.of z
    · obtain ⟨y5, y7, rfl, hd6, k6, hst6, hq6⟩ := hp
      obtain ⟨c, rfl, c0, c1⟩ : ∃ c : Int, y = .int c ∧ -(10 ^ 60) < c ∧ c < 10 ^ 60 := by
        have hm := List.mem_of_getElem? hy
        simp only [List.mem_cons, List.not_mem_nil, or_false] at hm
        rcases hm with rfl | rfl | rfl | rfl
        · exact ⟨_, rfl, by omega, by omega⟩
        · exact ⟨_, rfl, by omega, by omega⟩
        · exact ⟨_, rfl, by omega, by omega⟩
        · exact ⟨_, rfl, by omega, by omega⟩
      have ht6 : H' t = some (.tup [.int N, .int S]) := k6 _ _ ndt ht
      have hx6 := hx.keep k6 hd
      have g0' : 0 ≤ (c * (S : Int)) % (N : Int) := Int.emod_nonneg _ (by omega)
      have g1' : (c * (S : Int)) % (N : Int) < (N : Int) := Int.emod_lt_of_pos _ (by omega)
      refine ⟨_, rfl, t, _, 0, .int N, rfl, rfl, SqT.of ht6, rfl, N, rfl, by omega, by omega, fun Dl hD => ?_⟩
      refine lc_range (lo := 0) (n := (N : Int).toNat) (fun i H2 => H2 Dl = some (.lst (one1 ((c * (S : Int)) % (N : Int)) i)) ∧ Ex H' H2) ⟨by rw [upd_same]; unfold one1; rw [if_neg (by omega)], Ex.new hD⟩ (fun i H2 hi hp2 => ?_) (fun H2 hp2 => ?_)
      · refine ⟨rfl, _, rfl, _, rfl, _, rfl, _, N, S, 0 + (i : Int), c, rfl, hx6.ex hp2.2, by omega, by omega, c0, c1, fun H3 e3 => ⟨_, rfl, ite2 (fun cc => ?_) (fun cc => ?_)⟩⟩
        · have cc' := of_decide_eq_true cc
          refine ⟨_, rfl, _, e3 _ _ hp2.1, small1000 (Nat.le_trans (one1_len _ _) (by decide)), ?_, Ex.mut (hp2.2.trans e3) hD⟩
          rw [upd_same, one1_yes (by omega)]
        · have cc' : ¬ (c * (S : Int)) % (N : Int) = 0 + (i : Int) := fun z => cc (decide_eq_true z)
          refine ⟨?_, hp2.2.trans e3⟩
          rw [← one1_no (by omega)]
          exact e3 _ _ hp2.1
      · have hl := hp2.1
        have el : one1 ((c * (S : Int)) % (N : Int)) (N : Int).toNat = [V.int ((c * (S : Int)) % (N : Int))] := by
          unfold one1
          rw [if_pos (by omega)]
        rw [el] at hl
        have hst7 := hp2.2 _ _ hst6
        refine ⟨.ref Dl, rfl, .ref st, rfl, .int c, rfl, _, rfl, c, _, rfl, rfl, by omega, st, _, _, _, rfl, rfl, SqL.of hst7, place_is hpos c hst7, by show 1 ≤ sizeLine; decide, fun L hL => ?_⟩
        refine ⟨.list [.int _], .list [.int _], .lst (SqL.of (Ex.new hL _ _ hl)) (.cons (.int _) .nil), .lst (SqL.of upd_same) (.cons (.int _) .nil), rfl, rfl, _, rfl, ?_⟩
        rw [eqv_one]
        refine iteF ?_
        exact ⟨_, _, rfl, (hd6.ex hp2.2).ex (Ex.new hL), (k6.trans (Keep.ex hp2.2)).trans (Keep.new hL), Ex.new hL _ _ hst7, Ex.new hL _ _ (hp2.2 _ _ hq6)⟩
    · obtain ⟨y5, y7, rfl, hd6, k6, hst6, _⟩ := hp
      have ht6 : H' t = some (.tup [.int N, .int S]) := k6 _ _ ndt ht
      refine ⟨_, rfl, _, rfl, t, _, 0, .int N, rfl, rfl, SqT.of ht6, rfl, d, N, rfl, hd6, by omega, by omega, fun pl H7 p0 p1 hd7 k7 => ?_⟩
      have k07 := k6.trans k7
      have hx7 := hx.keep k07 hd
      have hst7 := k7 _ _ nds.symm hst6
      let fb : Nat → Bool := fun i => decide (((-7 + (i : Int)) * (S : Int)) % (N : Int) = pl)
      have hb : ∀ i : Nat, decide (V.int (((-7 + (i : Int)) * (S : Int)) % (N : Int)) = V.int pl) = fb i := fun i => decide_eq_decide.mpr ⟨fun z => V.int.inj z, fun z => by rw [z]⟩
      have snoc : ∀ i : Nat, ((List.range i).map fb).map V.bl ++ [V.bl (fb i)] = ((List.range (i + 1)).map fb).map V.bl := fun i => by
        rw [List.range_succ, List.map_append, List.map_append]
        rfl
      have len : ∀ i : Nat, i ≤ 15 → (((List.range i).map fb).map V.bl).length < sizeLine := fun i hi => by
        rw [List.length_map, List.length_map, List.length_range]
        exact small1000 (by omega)
      refine ⟨7, rfl, -7, 8, rfl, by decide, fun Dl hD => ?_⟩
      refine lc_range (lo := -7) (n := 15) (fun i H2 => H2 Dl = some (.lst (((List.range i).map fb).map V.bl)) ∧ Ex H7 H2) ⟨upd_same, Ex.new hD⟩ (fun i H2 hi hp2 => ?_) (fun H8 hp2 => ?_)
      · refine ⟨rfl, ?_⟩
        dsimp only [tYes]
        rw [if_pos rfl]
        have hst8 := hp2.2 _ _ hst7
        refine ⟨.ref st, rfl, _, rfl, _, rfl, -7 + (i : Int), _, rfl, rfl, by omega, st, _, _, _, rfl, rfl, SqL.of hst8, place_is hpos (-7 + (i : Int)) hst8, .int pl, rfl, rfl, ?_⟩
        refine ⟨_, hp2.1, len i (by omega), ?_, Ex.mut hp2.2 hD⟩
        rw [upd_same, hb i, snoc i]
      · obtain ⟨hl8, e8⟩ := hp2
        refine ⟨7, rfl, -7, 8, rfl, by decide, fun D2 hD2 => ?_⟩
        refine lc_range (lo := -7) (n := 15) (fun i H2 => H2 D2 = some (.lst (((List.range i).map fb).map V.bl)) ∧ Ex H8 H2) ⟨upd_same, Ex.new hD2⟩ (fun i H2 hi hp3 => ?_) (fun H9 hp3 => ?_)
        · refine ⟨rfl, ?_⟩
          dsimp only [tYes]
          rw [if_pos rfl]
          refine ⟨.ref t, rfl, .int pl, rfl, _, rfl, _, N, S, pl, -7 + (i : Int), rfl, (hx7.ex e8).ex hp3.2, p0, p1, by omega, by omega, fun H3 e3 => ?_⟩
          refine ⟨_, e3 _ _ hp3.1, len i (by omega), ?_, Ex.mut (hp3.2.trans e3) hD2⟩
          rw [upd_same, ← snoc i]
        · refine ⟨_, rfl, .list _, .list _, .lst (SqL.of hp3.1) (dpAll_bools _), .lst (SqL.of (hp3.2 _ _ hl8)) (dpAll_bools _), shaped_bools _, shaped_bools _, ?_⟩
          rw [eqv_bools]
          exact q _ ((hd7.ex e8).ex hp3.2) ((k07.trans (Keep.ex e8)).trans (Keep.ex hp3.2))
end
end K1

namespace K1
open PySem PySem.Spec PyProof.Rows L2 Evl
/-! ### what is no ring -/
theorem NotInt.keep {K : PySem.W.Frag} {H H' : Hp} {d : Addr} {x : V} (k : Keep d H H') (h0 : Dice H d) (h1 : Dice H' d) (h : NotInt K H x) : NotInt K H' x := by
  cases h with
  | bl b => exact .bl b
  | non => exact .non
  | str x => exact .str x
  | @lst a xs q =>
    by_cases c : a = d
    · subst c
      obtain ⟨_, _, _, z⟩ := h1
      exact .lst z
    · exact .lst (k _ _ c q)
  | tup q => exact .tup (k.tup h0 q)
  | @dK a kvs q =>
    obtain ⟨_, _, _, z⟩ := h0
    exact .dK (k _ _ (ne_of q z (by intro y; cases y)) q)
theorem NotTup.keep {K : PySem.W.Frag} {H H' : Hp} {d : Addr} {x : V} (k : Keep d H H') (h0 : Dice H d) (h1 : Dice H' d) (h : NotTup K H x) : NotTup K H' x := by
  cases h with
  | bl b => exact .bl b
  | non => exact .non
  | int i => exact .int i
  | str x => exact .str x
  | @lst a xs q =>
    by_cases c : a = d
    · subst c
      obtain ⟨_, _, _, z⟩ := h1
      exact .lst z
    · exact .lst (k _ _ c q)
  | @dK a kvs q =>
    obtain ⟨_, _, _, z⟩ := h0
    exact .dK (k _ _ (ne_of q z (by intro y; cases y)) q)
theorem BtwB.keep {K : PySem.W.Frag} {H H' : Hp} {d : Addr} {lo hi : Int} {x : V} {b : Bool} (k : Keep d H H') (h0 : Dice H d) (h1 : Dice H' d) (h : BtwB K H lo hi x b) : BtwB K H' lo hi x b := by
  cases h with
  | int i => exact .int i
  | no h => exact .no (h.keep k h0 h1)
theorem RingB.keep {K : PySem.W.Frag} {H H' : Hp} {d : Addr} {x : V} {b : Bool} (k : Keep d H H') (h0 : Dice H d) (h1 : Dice H' d) (h : RingB K H x b) : RingB K H' x b := by
  cases h with
  | no h => exact .no (h.keep k h0 h1)
  | len q h => exact .len (k.tup h0 q) h
  | first q h => exact .first (k.tup h0 q) (h.keep k h0 h1)
  | both q a1 a2 h => exact .both (k.tup h0 q) a1 a2 (h.keep k h0 h1)
def BadA (K : PySem.W.Frag) (n : Nat) (ta : TA) (σ : L2.St) (H : Hp) : Prop := ∀ H1, Ex H H1 → ∀ Q : List V → Hp → Prop, (∀ xs H2, Ex H1 H2 → (∀ x ∈ xs, RingB K H2 x false) → xs.length = n → Q xs H2) → ta σ H1 Q
def BadE (K : PySem.W.Frag) (te : TE) (σ : L2.St) (H : Hp) : Prop := ∀ H1, Ex H H1 → ∀ Q : VK, (∀ x H2, Ex H1 H2 → RingB K H2 x false → Q x H2) → te σ H1 Q
section
variable {K : PySem.W.Frag} {σ : L2.St} {H : Hp} {ta tr : TA} {te : TE} {n : Nat} {vs : List V}
theorem bad_nil : BadA K 0 tNil σ H := fun H1 e Q q => q [] H1 (Ex.refl _) (by simp) rfl
theorem bad_cons (h : BadE K te σ H) (hr : BadA K n tr σ H) : BadA K (n + 1) (tCons te tr) σ H := fun H1 e Q q =>
  h H1 e _ fun x H2 e2 hb => hr H2 (e.trans e2) _ fun xs H3 e3 hbs hl => q (x :: xs) H3 (e2.trans e3) (fun y hy => by
    rcases List.mem_cons.mp hy with rfl | hy
    · exact hb.mono e3
    · exact hbs y hy) (by rw [List.length_cons, hl])
theorem bad_tup (h : EvA ta σ H vs) (hl : vs.length ≤ 1000) (hb : ∀ a H', Ex H H' → H' a = some (.tup vs) → RingB K H' (.ref a) false) : BadE K (tTup ta) σ H := fun H1 e Q q =>
  h H1 e _ fun H2 e2 => ⟨sz_of (by omega), fun p hp => q _ _ (e2.trans (Ex.new hp)) (hb p _ ((e.trans e2).trans (Ex.new hp)) upd_same)⟩
theorem bad_lst (h : EvA ta σ H vs) (hl : vs.length ≤ 1000) : BadE K (tLst ta) σ H := fun H1 e Q q =>
  h H1 e _ fun H2 e2 => ⟨sz_of (by omega), fun p hp => q _ _ (e2.trans (Ex.new hp)) (.no (.lst upd_same))⟩
theorem bad_val {v : V} (h : Ev te σ H v) (hb : ∀ H', NotTup K H' v) : BadE K te σ H := fun H1 e Q q => h H1 e _ fun H2 e2 => q _ _ e2 (.no (hb H2))
theorem bad_dict : BadE K (fun (σ : L2.St) (H : Hp) (Q : VK) => ∀ d, H d = none → Q (.ref d) (upd H d (.dK []))) σ H := fun H1 e Q q d hd => q _ _ (Ex.new hd) (.no (.dK upd_same))
end
abbrev oddTA : TA := tCons (tTup (tCons (tVar 2) (tCons (tC (.int 0)) tNil))) (tCons (tTup (tCons (tVar 2) (tCons (tVar 2) tNil))) (tCons (tTup (tCons (tC (.int 1)) (tCons (tC (.int 1)) tNil)))
  (tCons (tTup (tCons (tC (.int 61)) (tCons (tC (.int 2)) tNil))) (tCons (tTup (tCons (tVar 2) (tCons (tUn (rU fun i => .int (-i)) (tC (.int 1))) tNil))) (tCons (tTup (tCons (tVar 2) tNil))
  (tCons (tTup (tCons (tVar 2) (tCons (tVar 3) (tCons (tVar 3) tNil)))) (tCons (tLst (tCons (tVar 2) (tCons (tVar 3) tNil))) (tCons (tC .non) (tCons (tTup (tCons (tVar 2) (tCons (tC (.bl true)) tNil)))
  (tCons (tTup (tCons (tC (.str (PySem.Str.ofString "5"))) (tCons (tC (.int 1)) tNil))) (tCons tDNewK (tCons (tVar 2) (tCons (tTup (tCons (tC (.int 0)) (tCons (tC (.int 0)) tNil))) (tCons (tTup (tCons (tVar 2) (tCons (tC .non) tNil))) tNil))))))))))))))
theorem q_asgBad {K : PySem.W.Frag} {σ : L2.St} {H : Hp} {ta : TA} {n i : Nat} {tz : TS} {D : Ends} (h : BadA K n ta σ H) (hn : n ≤ 1000)
    (k : ∀ xs p H1, Ex H H1 → H1 p = some (.lst xs) → H p = none → (∀ x ∈ xs, RingB K H1 x false) → xs.length = n → tz D (σ.set i (some (.ref p))) H1) : tSeq (tAsg (tLst ta) (gName i)) tz D σ H :=
  h H (Ex.refl _) _ fun xs H1 e1 hb hl => ⟨sz_of (by omega), fun p hp => k xs p _ (e1.trans (Ex.new hp)) upd_same (fresh_back e1 hp) (fun x hx => (hb x hx).mono (Ex.new hp)) hl⟩
theorem two_ok (x y : V) : 1 ≤ [x, y].length ∧ [x, y].length ≤ 12 := ⟨show 1 ≤ 2 by decide, show 2 ≤ 12 by decide⟩
theorem le1000 {vs : List V} (m : Nat) (h : vs.length = m) (h2 : m ≤ 1000) : vs.length ≤ 1000 := by
  rw [h]
  exact h2
theorem bad_odd {K : PySem.W.Frag} {ρ0 ρ1 ρ4 ρ5 : Option V} {n s : Int} {H : Hp} (h1 : 2 ≤ n) (h2 : n ≤ 60) (h3 : 1 ≤ s) (h4 : s < n) : BadA K 15 oddTA [ρ0, ρ1, some (.int n), some (.int s), ρ4, ρ5] H := by
  have vn : Ev (tVar 2) [ρ0, ρ1, some (.int n), some (.int s), ρ4, ρ5] H (.int n) := ev_var rfl
  have vs : Ev (tVar 3) [ρ0, ρ1, some (.int n), some (.int s), ρ4, ρ5] H (.int s) := ev_var rfl
  have big : ¬ (1 ≤ n ∧ n ≤ n - 1) := by omega
  have z0 : ¬ ((1 : Int) ≤ 0 ∧ 0 ≤ n - 1) := by omega
  have zm : ¬ ((1 : Int) ≤ -1 ∧ -1 ≤ n - 1) := by omega
  unfold oddTA
  refine bad_cons (bad_tup (ea_cons vn (ea_cons ev_c ea_nil)) (le1000 2 rfl (by decide)) fun a H' _ h => .both h h1 h2 (.out z0)) ?_
  refine bad_cons (bad_tup (ea_cons vn (ea_cons vn ea_nil)) (le1000 2 rfl (by decide)) fun a H' _ h => .both h h1 h2 (.out big)) ?_
  refine bad_cons (bad_tup (ea_cons ev_c (ea_cons ev_c ea_nil)) (le1000 2 rfl (by decide)) fun a H' _ h => .first h (.out (by decide))) ?_
  refine bad_cons (bad_tup (ea_cons ev_c (ea_cons ev_c ea_nil)) (le1000 2 rfl (by decide)) fun a H' _ h => .first h (.out (by decide))) ?_
  refine bad_cons (bad_tup (ea_cons vn (ea_cons (ev_un ev_c ru_neg) ea_nil)) (le1000 2 rfl (by decide)) fun a H' _ h => .both h h1 h2 (.out zm)) ?_
  refine bad_cons (bad_tup (ea_cons vn ea_nil) (le1000 1 rfl (by decide)) fun a H' _ h => .len h (by decide : (1 : Nat) ≠ 2)) ?_
  refine bad_cons (bad_tup (ea_cons vn (ea_cons vs (ea_cons vs ea_nil))) (le1000 3 rfl (by decide)) fun a H' _ h => .len h (by decide : (3 : Nat) ≠ 2)) ?_
  refine bad_cons (bad_lst (ea_cons vn (ea_cons vs ea_nil)) (le1000 2 rfl (by decide))) ?_
  refine bad_cons (bad_val ev_c fun _ => .non) ?_
  refine bad_cons (bad_tup (ea_cons vn (ea_cons ev_c ea_nil)) (le1000 2 rfl (by decide)) fun a H' _ h => .both h h1 h2 (.no (.bl true))) ?_
  refine bad_cons (bad_tup (ea_cons ev_c (ea_cons ev_c ea_nil)) (le1000 2 rfl (by decide)) fun a H' _ h => .first h (.no (.str _))) ?_
  refine bad_cons bad_dict ?_
  refine bad_cons (bad_val vn fun _ => .int _) ?_
  refine bad_cons (bad_tup (ea_cons ev_c (ea_cons ev_c ea_nil)) (le1000 2 rfl (by decide)) fun a H' _ h => .first h (.out (by decide))) ?_
  exact bad_cons (bad_tup (ea_cons vn (ea_cons ev_c ea_nil)) (le1000 2 rfl (by decide)) fun a H' _ h => .both h h1 h2 (.no .non)) bad_nil
theorem all_rep {K : PySem.W.Frag} {H : Hp} {x : V} {b : Bool} (h : RingB K H x b) (m : Nat) : Paired (RingB K H) ((List.replicate m [x]).flatten) (List.replicate m b) := by
  induction m with
  | zero => exact .nil
  | succ m ih => exact .cons h ih
theorem rep_len {x : V} (m : Nat) : ((List.replicate m [x]).flatten).length = m := by
  induction m with
  | zero => rfl
  | succ m ih =>
    show (x :: (List.replicate m [x]).flatten).length = m + 1
    rw [List.length_cons, ih]
section
variable {P : Program} {w : World} {K : PySem.W.Frag} {mg : Str → Option Value} {base : Heap}
theorem ok_rings_judged (T : Txt K mg) {f : Addr} {fd : FuncData} (D : DefAt K mg "_law_rings_judged" sLRingsJudged ["_law_dice_here", "_law_ring_here"] f fd) : FnOk P w K mg base CX0 5 f fd ["_law_dice_here", "_law_ring_here"] spRingRight := by
  refine D.F.ok scLRingsJudged (fun vs H Q E h => ?_) (fun cdv A outer s₀ H vs Q E hr h => ?_)
  · obtain ⟨d, x, n, s, rfl, _⟩ := h
    rfl
  · obtain ⟨d, x, n, s, rfl, hd, hx, q⟩ := h
    obtain ⟨f1, fd1, D1⟩ := T.d_l_one_of
    obtain ⟨f3, fd3, D3⟩ := T.d_is_ring
    obtain ⟨f4, fd4, D4⟩ := T.d_is_chain
    have hr2 : Room 2 _ := hr.mono (by decide)
    have hr3 : Room 3 _ := hr.mono (by decide)
    refine ⟨_, pss_cons (ps_asg (pv 1) (pg_tup (by rfl) (pgs_cons (pg_name (i := 2) scLRingsJudged.nd rfl (.inl rfl)) (pgs_cons (pg_name (i := 3) scLRingsJudged.nd rfl (.inl rfl)) pgs_nil))))
      (pss_cons (ps_set (i := 4) scLRingsJudged.nd rfl (.inl rfl) (pe_lst (pa_cons (pe_tup (pa_cons (pv 2) (pa_cons pe_int pa_nil)))
          (pa_cons (pe_tup (pa_cons (pv 2) (pa_cons (pv 2) pa_nil))) (pa_cons (pe_tup (pa_cons pe_int (pa_cons pe_int pa_nil))) (pa_cons (pe_tup (pa_cons pe_int (pa_cons pe_int pa_nil)))
          (pa_cons (pe_tup (pa_cons (pv 2) (pa_cons (pe_un un_neg pe_int) pa_nil))) (pa_cons (pe_tup (pa_cons (pv 2) pa_nil)) (pa_cons (pe_tup (pa_cons (pv 2) (pa_cons (pv 3) (pa_cons (pv 3) pa_nil))))
          (pa_cons (pe_lst (pa_cons (pv 2) (pa_cons (pv 3) pa_nil))) (pa_cons pe_non (pa_cons (pe_tup (pa_cons (pv 2) (pa_cons pe_bl pa_nil))) (pa_cons (pe_tup (pa_cons pe_str (pa_cons pe_int pa_nil)))
          (pa_cons pe_dnewK (pa_cons (pv 2) (pa_cons (pe_tup (pa_cons pe_int (pa_cons pe_int pa_nil))) (pa_cons (pe_tup (pa_cons (pv 2) (pa_cons pe_non pa_nil))) pa_nil)))))))))))))))))
      (pss_cons (ps_set (i := 5) scLRingsJudged.nd rfl (.inl rfl) (pe_call (ok_one_of T D1) hr2 (by rfl) D1.g D1.F.kp D1.b .nil pass0 (pa_cons (pv 0) (pa_cons (pv 4) pa_nil))))
      (pss_cons (ps_if (PW.pt (pw_or (pt_val (pe_call (ok_is_ring T D3) hr3 (by rfl) D3.g D3.F.kp D3.b .nil pass0 (pa_cons (pv 5) pa_nil)))
          (pw_or (pt_val (pe_call (ok_is_chain T D4) hr (by rfl) D4.g D4.F.kp D4.b .nil pass0 (pa_cons (pe_tup (pa_cons (pv 1) (pa_cons (pv 5) pa_nil))) pa_nil)))
          (pw_or (pt_val (pe_call (ok_is_chain T D4) hr (by rfl) D4.g D4.F.kp D4.b .nil pass0 (pa_cons (pv 1) pa_nil)))
          (pw_or (pt_val (pe_call (ok_is_chain T D4) hr (by rfl) D4.g D4.F.kp D4.b .nil pass0 (pa_cons (pe_tup pa_nil) pa_nil)))
          (pw_or1 (pt_val (pe_call (ok_is_chain T D4) hr (by rfl) D4.g D4.F.kp D4.b .nil pass0 (pa_cons (pe_lst (pa_cons (pv 1) pa_nil)) pa_nil))))))))) (pss_one (ps_ret pe_bl)) pss_nil)
      (pss_one (ps_ret (pe_and (pe_call (ok_is_chain T D4) hr (by rfl) D4.g D4.F.kp D4.b .nil pass0 (pa_cons (pe_op op_repT (pe_tup (pa_cons (pv 1) pa_nil)) pe_int) pa_nil))
        (pe_one (pe_not (pe_call (ok_is_chain T D4) hr (by rfl) D4.g D4.F.kp D4.b .nil pass0 (pa_cons (pe_op op_repT (pe_tup (pa_cons (pv 1) pa_nil)) pe_int) pa_nil)))))))))), ?_⟩
    have hx' := hx
    obtain ⟨t, rfl, ht, h1, h2, h3, h4⟩ := hx'
    refine ⟨_, rfl, t, _, rfl, SqT.of ht, rfl, _, _, rfl, _, _, rfl, rfl, ?_⟩
    refine q_asgBad (K := K) (ta := oddTA) (H := H) (σ := [some (.ref d), some (.ref t), some (.int n), some (.int s), none, none]) (bad_odd h1 h2 h3 h4) (by decide) (fun xs Dl H2 e2 hDl hD0 hb2 hl => ?_)
    have hd1 : Dice H2 d := hd.ex e2
    have nD : Dl ≠ d := (hd.ne_new hD0).symm
    refine ⟨.ref d, rfl, .ref Dl, rfl, d, Dl, xs, rfl, hd1, hDl, nD, by omega, by omega, fun wr H3 hw hd3 k3 => ?_⟩
    have hwr : RingB K H3 wr false := (hb2 wr hw).keep k3 hd1 hd3
    have k03 : Keep d H H3 := (Keep.ex e2).trans k3
    have hx3 := hx.keep k03 hd
    have hR3 : RingB K H3 (.ref t) true := hx3.ring (Int.le_refl _)
    have ht3 : H3 t = some (.tup [.int n, .int s]) := k03.tup hd ht
    refine ⟨wr, rfl, wr, false, rfl, hwr, fun H4 e4 => ⟨false, rfl, iteF ?_⟩⟩
    refine ⟨_, rfl, wr, rfl, by show 2 ≤ sizeLine; decide, fun p hp => ?_⟩
    have e5 := e4.trans (Ex.new (o := .tup [.ref t, wr]) hp)
    refine ⟨.ref p, false, rfl, .tup (bs := [true, false]) upd_same (two_ok _ _) (.cons (hR3.mono e5) (.cons (hwr.mono e5) .nil)), fun H5 e6 => ⟨false, rfl, iteF ?_⟩⟩
    have e35 := e5.trans e6
    refine ⟨_, rfl, .ref t, false, rfl, .tup (bs := [false, false]) (e35 _ _ ht3) (two_ok _ _) (.cons (.no (.int _)) (.cons (.no (.int _)) .nil)), fun H6 e7 => ⟨false, rfl, iteF ?_⟩⟩
    have e36 := e35.trans e7
    refine ⟨by show 0 ≤ sizeLine; decide, fun p2 hp2 => ⟨.ref p2, false, rfl, .len upd_same (by decide), fun H7 e8 => ⟨false, rfl, iteF ?_⟩⟩⟩
    have e37 := (e36.trans (Ex.new hp2)).trans e8
    refine ⟨_, rfl, by show 1 ≤ sizeLine; decide, fun p3 hp3 => ⟨.ref p3, false, rfl, .no (.lst upd_same), fun H8 e9 => ⟨false, rfl, iteF ?_⟩⟩⟩
    have e38 := (e37.trans (Ex.new hp3)).trans e9
    refine ⟨_, rfl, by show 1 ≤ sizeLine; decide, fun p4 hp4 => ?_⟩
    refine ⟨p4, 12, [.ref t], rfl, rfl, SqT.of upd_same, by simp, by decide, by decide, le1000 1 rfl (by decide), fun p5 hp5 => ?_⟩
    have e39 := (e38.trans (Ex.new (o := .tup [.ref t]) hp4)).trans (Ex.new (o := .tup (List.replicate (Int.toNat 12) [V.ref t]).flatten) hp5)
    refine ⟨.ref p5, true, rfl, .tup (bs := List.replicate 12 true) upd_same (by rw [rep_len]; decide) (all_rep (hR3.mono e39) _), fun H9 e10 => ⟨true, rfl, iteT ?_⟩⟩
    have e40 := e39.trans e10
    refine ⟨_, rfl, by show 1 ≤ sizeLine; decide, fun p6 hp6 => ?_⟩
    refine ⟨p6, 13, [.ref t], rfl, rfl, SqT.of upd_same, by simp, by decide, by decide, le1000 1 rfl (by decide), fun p7 hp7 => ?_⟩
    have e41 := (e40.trans (Ex.new (o := .tup [.ref t]) hp6)).trans (Ex.new (o := .tup (List.replicate (Int.toNat 13) [V.ref t]).flatten) hp7)
    refine ⟨.ref p7, false, rfl, .len upd_same (by rw [rep_len]; decide), fun H10 e11 => ⟨false, rfl, ?_⟩⟩
    have e42 := e41.trans e11
    exact q _ (hd3.ex e42) (k03.trans (Keep.ex e42))
end
end K1

/-! plain mathematics for the written names -/
namespace K1N
def nAt (rs : List (Int × Int)) (j : Nat) : Nat := (rs.getD j (0, 0)).1.toNat
def sAt (rs : List (Int × Int)) (j : Nat) : Int := (rs.getD j (0, 0)).2
def row (j n : Nat) : List (Int × Int) := (List.range n).map fun (q : Nat) => ((j : Int), (q : Int))
def pre (rs : List (Int × Int)) : Nat → List (Int × Int)
  | 0 => []
  | i + 1 => pre rs i ++ row i (nAt rs i)
/-- a place that is its own written name -/
def own (rs : List (Int × Int)) (p : Int × Int) : Bool := !(decide (0 < p.1) && decide (p.2 = sAt rs p.1.toNat))
def names (rs : List (Int × Int)) : List (Int × Int) := (pre rs rs.length).filter (own rs)
def sumTo (rs : List (Int × Int)) : Nat → Nat
  | 0 => 0
  | i + 1 => sumTo rs i + nAt rs i
theorem row_succ (j n : Nat) : row j (n + 1) = row j n ++ [((j : Int), (n : Int))] := by
  unfold row
  rw [List.range_succ, List.map_append]
  rfl
theorem row_len (j n : Nat) : (row j n).length = n := by
  unfold row
  rw [List.length_map, List.length_range]
theorem pre_len {rs : List (Int × Int)} (h : ∀ j, nAt rs j ≤ 60) : ∀ i, (pre rs i).length ≤ 60 * i
  | 0 => Nat.le_refl _
  | i + 1 => by
    show (pre rs i ++ row i (nAt rs i)).length ≤ 60 * (i + 1)
    rw [List.length_append, row_len]
    have := pre_len h i
    have := h i
    omega
theorem row0 (rs : List (Int × Int)) : ∀ n, ((row 0 n).filter (own rs)).length = n
  | 0 => rfl
  | n + 1 => by
    rw [row_succ, List.filter_append, List.length_append, row0 rs n]
    have : own rs (((0 : Nat) : Int), (n : Int)) = true := rfl
    rw [List.filter_cons, if_pos this]
    rfl
theorem rowS (rs : List (Int × Int)) (j : Nat) (s : Nat) (hs : sAt rs (j + 1) = (s : Int)) : ∀ n, ((row (j + 1) n).filter (own rs)).length = if s < n then n - 1 else n
  | 0 => rfl
  | n + 1 => by
    rw [row_succ, List.filter_append, List.length_append, rowS rs j s hs n]
    by_cases c : n = s
    · have e : own rs (((j + 1 : Nat) : Int), (n : Int)) = false := by
        unfold own
        rw [show (((j + 1 : Nat) : Int)).toNat = j + 1 by omega, hs, decide_eq_true (show (0 : Int) < ((j + 1 : Nat) : Int) by omega), decide_eq_true (show (n : Int) = (s : Int) by omega)]
        rfl
      have e2 : [(((j + 1 : Nat) : Int), (n : Int))].filter (own rs) = [] := by
        rw [List.filter_cons, if_neg (show ¬ own rs (((j + 1 : Nat) : Int), (n : Int)) = true by rw [e]; decide)]
        rfl
      rw [e2, if_neg (show ¬ s < n by omega), if_pos (show s < n + 1 by omega)]
      show n + 0 = n + 1 - 1
      omega
    · have e : own rs (((j + 1 : Nat) : Int), (n : Int)) = true := by
        unfold own
        rw [show (((j + 1 : Nat) : Int)).toNat = j + 1 by omega, hs, decide_eq_false (show ¬ (n : Int) = (s : Int) by omega), Bool.and_false]
        rfl
      rw [List.filter_cons, if_pos e]
      show (if s < n then n - 1 else n) + 1 = _
      by_cases c2 : s < n
      · rw [if_pos c2, if_pos (by omega)]
        omega
      · rw [if_neg c2, if_neg (by omega)]
/-- how many written names -/
theorem count_to {rs : List (Int × Int)} (h : ∀ j, j < rs.length → 1 ≤ sAt rs j ∧ sAt rs j < (nAt rs j : Int)) : ∀ i, 1 ≤ i → i ≤ rs.length → ((pre rs i).filter (own rs)).length + i = sumTo rs i + 1
  | 0, z, _ => absurd z (by decide)
  | 1, _, h1 => by
    show (([] ++ row 0 (nAt rs 0)).filter (own rs)).length + 1 = 0 + nAt rs 0 + 1
    rw [List.nil_append, row0]
    omega
  | i + 2, _, h1 => by
    have ih := count_to h (i + 1) (by omega) (by omega)
    have hs := h (i + 1) (by omega)
    have hr := rowS rs i (sAt rs (i + 1)).toNat (by omega) (nAt rs (i + 1))
    rw [if_pos (by omega)] at hr
    show ((pre rs (i + 1) ++ row (i + 1) (nAt rs (i + 1))).filter (own rs)).length + (i + 2) = sumTo rs (i + 1) + nAt rs (i + 1) + 1
    rw [List.filter_append, List.length_append, hr]
    omega
theorem nAt_left {a b : List (Int × Int)} {j : Nat} (h : j < a.length) : nAt (a ++ b) j = nAt a j := by
  unfold nAt
  rw [List.getD_eq_getElem?_getD, List.getD_eq_getElem?_getD, List.getElem?_append_left h]
theorem nAt_right {a b : List (Int × Int)} {j : Nat} : nAt (a ++ b) (a.length + j) = nAt b j := by
  unfold nAt
  rw [List.getD_eq_getElem?_getD, List.getD_eq_getElem?_getD, List.getElem?_append_right (by omega), Nat.add_sub_cancel_left]
theorem sum_left {a b : List (Int × Int)} : ∀ i, i ≤ a.length → sumTo (a ++ b) i = sumTo a i
  | 0, _ => rfl
  | i + 1, h => by
    show sumTo (a ++ b) i + nAt (a ++ b) i = sumTo a i + nAt a i
    rw [sum_left i (by omega), nAt_left (by omega)]
theorem sum_right {a b : List (Int × Int)} : ∀ i, sumTo (a ++ b) (a.length + i) = sumTo a a.length + sumTo b i
  | 0 => by
    rw [Nat.add_zero, sum_left _ (Nat.le_refl _)]
    rfl
  | i + 1 => by
    show sumTo (a ++ b) (a.length + i) + nAt (a ++ b) (a.length + i) = sumTo a a.length + (sumTo b i + nAt b i)
    rw [sum_right i, nAt_right, Nat.add_assoc]
theorem names_joined {a b : List (Int × Int)} (ha : 1 ≤ a.length) (hb : 1 ≤ b.length) (h1 : ∀ j, j < a.length → 1 ≤ sAt a j ∧ sAt a j < (nAt a j : Int)) (h2 : ∀ j, j < b.length → 1 ≤ sAt b j ∧ sAt b j < (nAt b j : Int))
    (h3 : ∀ j, j < (a ++ b).length → 1 ≤ sAt (a ++ b) j ∧ sAt (a ++ b) j < (nAt (a ++ b) j : Int)) : (names (a ++ b)).length + 1 = (names a).length + (names b).length := by
  unfold names
  have e1 := count_to h1 a.length ha (Nat.le_refl _)
  have e2 := count_to h2 b.length hb (Nat.le_refl _)
  have e3 := count_to h3 (a ++ b).length (by rw [List.length_append]; omega) (Nat.le_refl _)
  have e4 := sum_right (a := a) (b := b) b.length
  rw [List.length_append] at e3 ⊢
  omega
end K1N

/-! enumerate over a tuple, one argument -/
namespace EnT
open PySem PySem.Spec PyProof.Rows L2
theorem made {v : Value} {o : Obj} {Hy : Heap → Prop} (B : Begins v o Hy) : Meets (Builtin.«enumerate.__new__» ⟨[.type "enumerate", v], []⟩) (fun _ R s => Hy s.heap ∧
      R (.ok (.ret (.ref (s.heap.push o).objs.size))) { s with heap := (s.heap.push o).push { cls := .type "enumerate", data := .fields #[.none, .bool false, .ref s.heap.objs.size, rawInt 0, .none, .none] } }) :=
  .of_wp fun prog w A R s z => by
    obtain ⟨hp, gs, dr, tk, os⟩ := s
    obtain ⟨z1, z2⟩ := z
    have sb := sub_enumerate
    have it1 : ∀ {A2 : Around} {E2 : Value → Shared → Prop} {Q2 : Value → Shared → Prop}, Q2 (.ref hp.objs.size) ⟨hp.push o, gs, dr, tk, os⟩ → wpAny (model prog w) A2 (pyIter v) Q2 E2 ⟨hp, gs, dr, tk, os⟩ :=
      fun y => B.iter prog w _ _ ⟨hp, gs, dr, tk, os⟩ _ z1 y
    wp_walk using it1
    refine wpAny_stack_any fun _ => wpAny_pure ?_
    split
    · rename_i c _ _ _ _ _
      cases (c == Value.type "enumerate")
      · wp_walk using it1
        exact ⟨_, rfl, z2⟩
      · wp_walk using it1
        exact ⟨_, rfl, z2⟩
    · wp_walk using it1
      exact ⟨_, rfl, z2⟩
section
variable {prog : Program} {w : World} {A : Around} {E : Value → Shared → Prop} {s : Shared}
theorem call_made {v : Value} {o : Obj} {Hy : Heap → Prop} {Q : Value → Shared → Prop} (B : Begins v o Hy) (h1 : Hy s.heap)
    (k : ∀ h2, IsEnum h2 (s.heap.objs.size + 1) s.heap.objs.size 0 .none → h2.get? s.heap.objs.size = some o → (∀ b u, s.heap.get? b = some u → h2.get? b = some u) → Q (.ref (s.heap.objs.size + 1)) { s with heap := h2 }) :
    wpAny (model prog w) A (call (.type "enumerate") [v]) Q E s := by
  refine callType_new F.called_enumerate (by decide) (F.typeCall_enumerate_1 _) (F.newCall_enumerate_1 _) (fun obj => F.args_object_init_2 obj _) F.entry_enumerate_new (made B) ⟨h1, ?_⟩
  have sz : (s.heap.push o).objs.size = s.heap.objs.size + 1 := by rw [Heap.size_push]
  show _ ∧ _
  rw [sz]
  have en := Heap.get?_push_size (s.heap.push o) (o := { cls := .type "enumerate", data := .fields #[.none, .bool false, .ref s.heap.objs.size, rawInt 0, .none, .none] }) rfl
  rw [sz] at en
  exact ⟨⟨_, en, rfl⟩, k _ en (Heap.get?_push_of_some _ (Heap.get?_push_size _ B.free)) fun b u y => Heap.get?_push_of_some _ (Heap.get?_push_of_some _ y)⟩
end
/-- the tuple at a, each item in a new pair with its number -/
def IteT (K : PySem.W.Frag) (a : Addr) : It :=
  ⟨fun i H => ∃ (ts : List V) (x : V), SqT K H a ts ∧ ts[i]? = some x, fun i H v H' => ∃ T x, v = .ref T ∧ H T = none ∧ H' = upd H T (.tup [.int (i : Nat), x]) ∧ ∀ ts, SqT K H a ts → ts[i]? = some x, fun i H => ∃ ts : List V, SqT K H a ts ∧ ts.length = i⟩
theorem tup_inj {X : Cx} {pins : List (Addr × Obj)} {σ : L2.St} {H : Hp} {s : Shared} {a : Addr} {xs ys : List V} (I : Inv X pins σ H s) (h1 : SqT X.K H a xs) (h2 : SqT X.K H a ys) : xs = ys := by
  obtain ⟨i1, r1, ⟨o1, g1, c1, n1, d1⟩, _⟩ := I.tuple h1
  obtain ⟨i2, r2, ⟨o2, g2, c2, n2, d2⟩, _⟩ := I.tuple h2
  rw [g1] at g2
  have e := Option.some.inj g2
  subst e
  rw [d1] at d2
  injection d2 with e1 _
  have e3 : i1 = i2 := by simpa using e1
  subst e3
  exact Vals.inj r1 r2
theorem turn {P : Program} {w : World} {K : PySem.W.Frag} {elts : List Expr} {kk : Nat} {tpos : Pos} (a e it : Addr) :
    Turn P w K (.Tuple elts kk tpos) (IteT K a) [e, it] e (fun i h => (∃ old, IsEnum h e it ((i : Nat) : Int) old) ∧ h.IsTupleIter it a i ∧ e ≠ it ∧ a ≠ e ∧ a ≠ it) where
  mem := by simp
  obj := fun i h st b hb => by
    obtain ⟨⟨old, he⟩, ⟨o, ho, hc, hd⟩, _⟩ := st
    rcases (show b = e ∨ b = it by simpa using hb) with z | z
    · rw [z]
      exact ⟨_, he, fun v q => nomatch q⟩
    · rw [z]
      exact ⟨o, ho, fun v q => by rw [hd] at q; cases q⟩
  keep := fun i h h' st k => by
    obtain ⟨⟨old, he⟩, ⟨o, ho, hc, hd⟩, n1, n2, n3⟩ := st
    exact ⟨⟨old, k e (by simp) _ he⟩, ⟨o, k it (by simp) _ ho, hc, hd⟩, n1, n2, n3⟩
  item := by
    intro X hP hw hK hc i pins s σ H E I hf st hg
    subst hP hw hK
    obtain ⟨⟨old, he⟩, hit, n1, n2, n3⟩ := st
    obtain ⟨xs, x, hq, hx⟩ := hg
    obtain ⟨its, rv, p, _⟩ := I.tuple hq
    obtain ⟨u, hu, ru⟩ := rv.get hx
    have hel : e < s.heap.objs.size := Heap.lt_size he
    have hil : it < s.heap.objs.size := by
      obtain ⟨_, q, _⟩ := hit
      exact Heap.lt_size q
    have hlt : i < its.toArray.size := by
      have := (List.getElem?_eq_some_iff.mp hu).1
      simpa using this
    have hh : X.A.in1.handled = none := I.ok.hd hc
    have DT := Draws.tuple (prog := X.prog) (w := X.w) hh it a n3 its.toArray
    refine wpAny_pyNext_enum_itemD DT he ⟨hit, p⟩ hlt n1 (by simp [n1, Ne.symm n2]) fun y h1 tk hy ho hst hT hsz hk => ?_
    have ey : y = u := by
      have q : its.toArray[i]? = some u := by simpa using hu
      exact Option.some.inj (hy.symm.trans q)
    subst ey
    refine ⟨_, rfl, wpAny_letOwnedTupleGo_enum (s := { s with heap := h1, toks := tk + 1 }) ho fun h2 he2 sb => ?_⟩
    have hT2 : h2.get? s.heap.objs.size = some { cls := .type "tuple", data := .seq #[.int i tk, y] } := (sb.2 _ (Nat.ne_of_gt hel)).trans hT
    have new : ObjOk X.prog X.w (upd H s.heap.objs.size (.tup [.int (i : Nat), x])) h2 s.heap.objs.size (.tup [.int (i : Nat), x]) :=
      ⟨show 2 ≤ sizeLine by decide, [.int i tk, y], .cons ⟨_, rfl⟩ (.cons ru .nil), ⟨_, hT2, rfl, _, rfl⟩⟩
    have I1 : Inv X pins σ (upd H s.heap.objs.size (.tup [.int (i : Nat), x])) { s with heap := h2, toks := tk + 1 } :=
      I.turnedNew (ch := [e, it]) (fun b ob hb q => (sb.2 b (fun z => hb (by simp [z]))).trans (hk b ob (fun z => hb (by simp [z])) (fun z => hb (by simp [z])) q)) hf (Nat.le_refl _) new
    obtain ⟨oi, g1, g2, g3⟩ := hst.1
    refine ⟨.ref s.heap.objs.size, _, I1, rfl, ⟨_, x, rfl, I.hok.fresh (Nat.le_refl _), rfl, fun ys hys => by rw [tup_inj I hys hq]; exact hx⟩, ⟨⟨y, ?_⟩, ⟨oi, (sb.2 it (Ne.symm n1)).trans g1, g2, g3⟩, n1, n2, n3⟩, fun b hb => ?_⟩
    · rw [show ((i + 1 : Nat) : Int) = (i : Int) + 1 by omega]
      exact he2
    · have hb2 : b < s.heap.objs.size := by
        rcases (show b = e ∨ b = it by simpa using hb) with z | z
        · rw [z]
          exact hel
        · rw [z]
          exact hil
      rw [upd_ne (Nat.ne_of_lt hb2)]
      exact (hf b hb).1
  done := by
    intro X hP hw hK hc i pins s σ H E I hf st hg
    subst hP hw hK
    obtain ⟨⟨old, he⟩, hit, n1, n2, n3⟩ := st
    obtain ⟨xs, hq, hx⟩ := hg
    obtain ⟨its, rv, p, _⟩ := I.tuple hq
    obtain ⟨f0, f1, f2, f3, f4, f5⟩ := hf it (by simp)
    have hl := rv.length
    have hn : its.toArray.size = i := by
      rw [List.size_toArray]
      omega
    have hh : X.A.in1.handled = none := I.ok.hd hc
    have DT := Draws.tuple (prog := X.prog) (w := X.w) hh it a n3 its.toArray
    refine wpAny_pyNext_enum_endD DT he ⟨?_, p⟩ fun h1 eb => ⟨rfl, I.turned (t' := s.toks) (fun b o hb q => eb b o hb q) f0 f1 f3 f4 f5⟩
    rw [hn]
    exact hit
  self := fun A i s Q E st h => by
    obtain ⟨⟨_, he⟩, _⟩ := st
    exact wpAny_pyIter_enum he h
def iEnumT (K : PySem.W.Frag) (ta : TA) : TI := fun σ H R => ta σ H fun vs H1 => ∃ a xs, vs = [.ref a] ∧ SqT K H1 a xs ∧ R (IteT K a) H1
theorem pi_enumT {X : Cx} {e : Expr} {ta : TA} {p pos tpos : Pos} {elts : List Expr} {kk : Nat} (hg : Gl X "enumerate") (hm : X.mg "enumerate" = none) (ha : PA X [e] ta) (hs : starEach [e] X.env = [(false, eval e X.env)] := by rfl) :
    PI X (.Tuple elts kk tpos) (.Call (.Name "enumerate" p) [e] [] pos) (iEnumT X.K ta) := by
  refine ⟨fun pins s σ H R I h => ?_⟩
  refine Call_ (ld_blt I hg hm boot_enumerate (PyProof.Rows.callWith_type1 (thn (ha.run pos pins s σ H _ I h) fun us s1 ⟨vs, H1, I1, r1, y1⟩ => ?_) hs rfl))
  obtain ⟨a, xs, ex, hq, q⟩ := y1
  subst ex
  cases r1 with
  | cons r rr =>
    cases rr
    cases r
    obtain ⟨its, rv, p2, _⟩ := I1.tuple hq
    have hal : a < s1.heap.objs.size := by
      obtain ⟨o, g, _⟩ := p2
      exact Heap.lt_size g
    refine call_made (begins_tuple a its.toArray) p2 fun h2 he hit hk => wpAny_pyIter_enum he ?_
    have I2 : Inv X pins σ H1 { s1 with heap := h2 } := I1.kept (t' := s1.toks) hk
    refine ⟨s1.heap.objs.size + 1, [s1.heap.objs.size + 1, s1.heap.objs.size], _, _, H1, rfl, I2, turn a (s1.heap.objs.size + 1) s1.heap.objs.size, ⟨⟨.none, he⟩, ⟨_, hit, rfl, rfl⟩, Nat.succ_ne_self _, Nat.ne_of_lt (Nat.lt_succ_of_lt hal), Nat.ne_of_lt hal⟩, fun b hb => ?_, q⟩
    have hle : s1.heap.objs.size ≤ b := by
      rcases (show b = s1.heap.objs.size + 1 ∨ b = s1.heap.objs.size by simpa using hb) with z | z
      · rw [z]
        exact Nat.le_add_right _ _
      · rw [z]
        exact Nat.le_refl _
    exact I1.fpOk hle (I1.hok.fresh hle)
end EnT

namespace K1
open PySem PySem.Spec PyProof.Rows L2 Evl K1N
/-! ### written names -/
theorem eqv_pair (a b c d : Int) : PyData.eqv (.tuple [.int a, .int b]) (.tuple [.int c, .int d]) = (a == c && b == d) := by
  simp [PyData.eqv, PyData.eqvAll]
def PlaceAt (H : Hp) (x : V) (p : Int × Int) : Prop := ∃ t, x = .ref t ∧ H t = some (.tup [.int p.1, .int p.2])
theorem PlaceAt.ex {H H' : Hp} {x : V} {p : Int × Int} (e : Ex H H') (h : PlaceAt H x p) : PlaceAt H' x p := by
  obtain ⟨t, rfl, ht⟩ := h
  exact ⟨t, rfl, e _ _ ht⟩
theorem PlaceAt.updL {H : Hp} {x : V} {p : Int × Int} {D : Addr} {ys zs : List V} (hD : H D = some (.lst ys)) (h : PlaceAt H x p) : PlaceAt (upd H D (.lst zs)) x p := by
  obtain ⟨t, rfl, ht⟩ := h
  exact ⟨t, rfl, by rw [upd_ne (ne_of ht hD (by intro z; cases z))]; exact ht⟩
abbrev Places (H : Hp) (xs : List V) (ps : List (Int × Int)) : Prop := Paired (PlaceAt H) xs ps
theorem Places.ex {H H' : Hp} {xs : List V} {ps : List (Int × Int)} (e : Ex H H') (h : Places H xs ps) : Places H' xs ps := paired_imp (fun _ _ q => PlaceAt.ex e q) h
theorem Places.updL {H : Hp} {xs : List V} {ps : List (Int × Int)} {D : Addr} {ys zs : List V} (hD : H D = some (.lst ys)) (h : Places H xs ps) : Places (upd H D (.lst zs)) xs ps := paired_imp (fun _ _ q => PlaceAt.updL hD q) h
/-- what the rings of a chain are, by number -/
theorem rings_nth {H : Hp} {most : Int} {xs : List V} {rs : List (Int × Int)} (h : RingsAt H most xs rs) {j : Nat} (hj : j < rs.length) : ∃ x, xs[j]? = some x ∧ RingAt H most x (nAt rs j : Int) (sAt rs j) := by
  have hl := paired_len h
  have hx : xs[j]? = some (xs[j]'(by omega)) := List.getElem?_eq_getElem _
  obtain ⟨r, hr, q⟩ := paired_get h hx
  have e : rs.getD j (0, 0) = r := by rw [List.getD_eq_getElem?_getD, hr]; rfl
  obtain ⟨t, e1, e2, e3, e4, e5, e6⟩ := id q
  refine ⟨_, hx, ?_⟩
  unfold nAt sAt
  rw [e, show ((r.1.toNat : Nat) : Int) = r.1 by omega]
  exact q
theorem rings_ok {H : Hp} {most : Int} {xs : List V} {rs : List (Int × Int)} (h : RingsAt H most xs rs) (j : Nat) (hj : j < rs.length) : 1 ≤ sAt rs j ∧ sAt rs j < (nAt rs j : Int) := by
  obtain ⟨x, _, t, _, _, _, _, e5, e6⟩ := rings_nth h hj
  exact ⟨e5, e6⟩
theorem rings_n {H : Hp} {xs : List V} {rs : List (Int × Int)} (h : RingsAt H 60 xs rs) (j : Nat) : nAt rs j ≤ 60 := by
  by_cases hj : j < rs.length
  · obtain ⟨x, _, t, _, _, _, e4, _⟩ := rings_nth h hj
    omega
  · unfold nAt
    rw [List.getD_eq_getElem?_getD, List.getElem?_eq_none (by omega)]
    decide
theorem rings_chain {K : PySem.W.Frag} {H : Hp} {a : Addr} {xs : List V} {rs : List (Int × Int)} (h : RingsAt H 60 xs rs) (ha : H a = some (.tup xs)) (h1 : 1 ≤ xs.length) (h2 : xs.length ≤ 12) : ChainB K H (.ref a) true := by
  have p : ∀ {xs : List V} {rs : List (Int × Int)}, RingsAt H 60 xs rs → Paired (RingB K H) xs (List.replicate xs.length true) := by
    intro xs rs h
    induction h with
    | nil => exact .nil
    | cons r _ ih => exact .cons (RingAt.ring r (Int.le_refl _)) ih
  have q := ChainB.tup (K := K) ha ⟨h1, h2⟩ (p h)
  have e : (List.replicate xs.length true).all id = true := by simp
  rw [e] at q
  exact q
theorem pre_in (rs : List (Int × Int)) : ∀ (i : Nat) {p : Int × Int}, p ∈ pre rs i → 0 ≤ p.1 ∧ p.1 < (i : Int)
  | 0, p, h => by cases h
  | i + 1, p, h => by
    rcases List.mem_append.mp h with h | h
    · have := pre_in rs i h
      omega
    · unfold row at h
      obtain ⟨q, _, rfl⟩ := List.mem_map.mp h
      show 0 ≤ (i : Int) ∧ (i : Int) < ((i + 1 : Nat) : Int)
      omega
/-- the written name of a place -/
def wn (rs : List (Int × Int)) (p : Int × Int) : Int × Int := if own rs p then p else (p.1 - 1, 0)
section
variable {P : Program} {w : World} {K : PySem.W.Frag} {mg : Str → Option Value} {base : Heap}
def spWrittenName : Sp := fun vs H Q _ => ∃ (c : Addr) (xs : List V) (rs : List (Int × Int)) (x : V) (p : Int × Int), vs = [.ref c, x] ∧ H c = some (.tup xs) ∧ RingsAt H 60 xs rs ∧ PlaceAt H x p ∧ 0 ≤ p.1 ∧ p.1 < (rs.length : Int) ∧
  ∀ y H', Ex H H' → PlaceAt H' y (wn rs p) → Q y H'
theorem ok_written_name (T : Txt K mg) {f : Addr} {fd : FuncData} (D : DefAt K mg "written_name" sWrittenName ["chain", "place"] f fd) : FnOk P w K mg base CX0 1 f fd ["chain", "place"] spWrittenName := by
  refine D.F.ok scWrittenName (fun vs H Q E h => ?_) (fun cdv A outer s H vs Q E hr h => ?_)
  · obtain ⟨c, xs, rs, x, p, rfl, _⟩ := h
    rfl
  · obtain ⟨c, xs, rs, x, ⟨j, q⟩, rfl, hc, hR, hp, p0, p1, k⟩ := h
    obtain ⟨t, rfl, ht⟩ := id hp
    have hj : j.toNat < rs.length := by
      have : (0 : Int) ≤ j := p0
      have : j < (rs.length : Int) := p1
      omega
    obtain ⟨y, hy, t2, rfl, ht2, n1, n2, n3, n4⟩ := rings_nth hR hj
    refine ⟨_, pss_cons (ps_asg (pv 1) (pg_tup (by rfl) (pgs_cons (pg_name (i := 2) scWrittenName.nd rfl (.inl rfl)) (pgs_cons (pg_name (i := 3) scWrittenName.nd rfl (.inl rfl)) pgs_nil))))
      (pss_cons (ps_if (PW.pt (pw_and (pt_cmpR op_gt (pv 2) pe_int (nomark _)) (pw_and1 (pt_cmpR op_eq (pv 3) (pe_ix ix_tup (pe_ix ix_tup (pv 0) (pv 2) (fun _ _ => rfl)) pe_int (fun _ _ => rfl)) (nomark _)))))
        (pss_one (ps_ret (pe_tup (pa_cons (pe_op op_sub (pv 2) pe_int) (pa_cons pe_int pa_nil))))) pss_nil)
      (pss_one (ps_ret (pv 1)))), ?_⟩
    refine ⟨_, rfl, t, _, rfl, SqT.of ht, rfl, _, _, rfl, _, _, rfl, rfl, ?_⟩
    refine ⟨_, rfl, _, _, rfl, rfl, _, rfl, ite2 (fun c1 => ?_) (fun c1 => ?_)⟩
    · have c2 : 0 < j := of_decide_eq_true c1
      refine ⟨_, rfl, _, rfl, _, rfl, c, xs, j, .ref t2, rfl, rfl, SqT.of hc, at_of (show j = ((j.toNat : Nat) : Int) by omega) hy, t2, _, 1, _, rfl, rfl, SqT.of ht2, rfl, rfl, _, rfl, ite2 (fun c3 => ?_) (fun c3 => ?_)⟩
      · have c4 : q = sAt rs j.toNat := V.int.inj (of_decide_eq_true c3)
        have ow : own rs (j, q) = false := by
          unfold own
          rw [decide_eq_true (show 0 < (j, q).1 from c2), decide_eq_true (show (j, q).2 = sAt rs (j, q).1.toNat from c4)]
          rfl
        refine ⟨_, rfl, _, _, rfl, rfl, by show 2 ≤ sizeLine; decide, fun p hp => k _ _ (Ex.new hp) ⟨p, rfl, ?_⟩⟩
        unfold wn
        rw [ow, if_neg (by decide)]
        exact upd_same
      · have c4 : ¬ q = sAt rs j.toNat := fun z => c3 (decide_eq_true (by rw [z]))
        have ow : own rs (j, q) = true := by
          unfold own
          rw [decide_eq_false (show ¬ (j, q).2 = sAt rs (j, q).1.toNat from c4), Bool.and_false]
          rfl
        refine ⟨_, rfl, k _ _ (Ex.refl _) ?_⟩
        unfold wn
        rw [if_pos ow]
        exact hp
    · have c2 : ¬ 0 < j := fun z => c1 (decide_eq_true z)
      have ow : own rs (j, q) = true := by
        unfold own
        rw [decide_eq_false (show ¬ 0 < (j, q).1 from c2), Bool.false_and]
        rfl
      refine iteF ?_
      refine ⟨_, rfl, k _ _ (Ex.refl _) ?_⟩
      unfold wn
      rw [if_pos ow]
      exact hp
def spNamesOf : Sp := fun vs H Q _ => ∃ (c : Addr) (xs : List V) (rs : List (Int × Int)), vs = [.ref c] ∧ H c = some (.tup xs) ∧ RingsAt H 60 xs rs ∧ xs.length ≤ 12 ∧ ∀ p ys H', Ex H H' → H p = none → H' p = some (.lst ys) → Places H' ys (names rs) → Q (.ref p) H'
theorem ok_names_of (T : Txt K mg) {f : Addr} {fd : FuncData} (D : DefAt K mg "names_of" sNamesOf ["chain"] f fd) : FnOk P w K mg base CX0 2 f fd ["chain"] spNamesOf := by
  refine D.F.ok scNamesOf (fun vs H Q E h => ?_) (fun cdv A outer s₀ H vs Q E hr h => ?_)
  · obtain ⟨c, xs, rs, rfl, _⟩ := h
    rfl
  · obtain ⟨c, xs, rs, rfl, hc, hR, hl12, k⟩ := h
    obtain ⟨f1, fd1, D1⟩ := T.d_written_name
    refine ⟨_, pss_cons (ps_setLc2 (i := 1) (own := [("index", 2), ("ring", 3), ("spot", 4)]) (vs1 := [4]) (g := gTup K 2 (gCons (gName 2) (gCons (gName 3) gNil))) (g1 := gName 4) (tt := tYes) (tt1 := tYes) (wi1 := iRng1 (tCons (tOp (rIxT K) (tVar 3) (tC (.int 0))) tNil))
        (by rfl) scNamesOf.nd rfl rfl (sw_true rfl rfl rfl (by decide +kernel)) (EnT.pi_enumT (by rfl) T.z_enumerate (pa_cons (pv 0) pa_nil))
        (blkOk_by (N := nNamesOf) (sc := defScope sNamesOf) (by decide +kernel)) (by decide)
        (fun _ _ _ _ _ => pg_tup (by rfl) (pgs_cons (pg_name (i := 2) scNamesOf.nd rfl (.inl rfl)) (pgs_cons (pg_name (i := 3) scNamesOf.nd rfl (.inl rfl)) pgs_nil)))
        (fun _ _ _ _ _ => pts_nil)
        (fun _ _ _ _ _ => pi_range1 (by rfl) T.z_range (pa_cons (pe_ix (show IxR _ (rIxT K) from ix_tup) (pv 3) pe_int (fun _ _ => rfl)) pa_nil))
        (fun _ _ _ _ _ => pg_name (i := 4) scNamesOf.nd rfl (.inl rfl))
        (fun _ _ _ _ _ => pts_nil)
        (fun _ _ _ _ _ => pe_tup (pa_cons (pv 2) (pa_cons (pv 4) pa_nil))))
      (pss_one (ps_ret (pe_lc (own := [("place", 5)]) (g := gName 5) rfl scNamesOf.nd (pi_list (pv 1)) (blkOk_by (N := nNamesOf) (sc := defScope sNamesOf) (by decide +kernel)) (fun _ _ _ _ _ => pg_name (i := 5) scNamesOf.nd rfl (Or.inl rfl))
        (fun _ _ _ _ _ => pts_one (pt_cmpR (show OpR _ _ (rEqD K) from op_eqD hr.units) (pe_call (ok_written_name T D1) hr (by rfl) D1.g D1.F.kp D1.b .nil pass0 (pa_cons (pv 0) (pa_cons (pv 5) pa_nil))) (pv 5) (nomark _)))
        (fun _ _ _ _ _ => pv 5)))), ?_⟩
    have hlen : xs.length = rs.length := paired_len hR
    have hn60 := rings_n hR
    have pl : ∀ i, i ≤ rs.length → (pre rs i).length ≤ 720 := fun i hi => by
      have := pre_len hn60 i
      omega
    refine ⟨_, rfl, c, xs, rfl, SqT.of hc, fun Dl hD => ?_⟩
    refine ⟨fun i m H' => i ≤ rs.length ∧ m = rs.length - i ∧ ∃ acc, H' Dl = some (.lst acc) ∧ Places H' acc (pre rs i) ∧ Ex H H', ⟨rs.length, Nat.zero_le _, rfl, [], upd_same, .nil, Ex.new hD⟩, fun i m H' hW => ?_⟩
    obtain ⟨hi, rfl, acc, a1, a2, a3⟩ := hW
    by_cases hlt : i < rs.length
    · obtain ⟨x, hx, hRx⟩ := rings_nth hR hlt
      refine .inr ⟨⟨xs, x, SqT.of (a3 _ _ hc), hx⟩, fun H2 => ∃ acc, H2 Dl = some (.lst acc) ∧ Places H2 acc (pre rs (i + 1)) ∧ Ex H H2, fun H2 h => ⟨rs.length - (i + 1), by omega, by omega, rfl, h⟩, fun v H2 hy => ?_⟩
      obtain ⟨Tp, x', rfl, nT, rfl, fx⟩ := hy
      have ex : x' = x := Option.some.inj ((fx _ (SqT.of (a3 _ _ hc))).symm.trans hx)
      subst ex
      obtain ⟨t, rfl, ht, n1, n2, n3, n4⟩ := hRx
      refine ⟨Tp, _, rfl, SqT.of upd_same, rfl, .int (i : Nat), [.ref t], rfl, .ref t, [], rfl, rfl, rfl, ?_⟩
      dsimp only [tYes]
      rw [if_pos rfl]
      have e5 : Ex H' (upd H' Tp (.tup [.int (i : Nat), .ref t])) := Ex.new nT
      generalize upd H' Tp (.tup [.int (i : Nat), .ref t]) = H5 at *
      refine ⟨_, rfl, t, _, 0, .int (nAt rs i : Int), rfl, rfl, SqT.of (e5 _ _ (a3 _ _ ht)), rfl, (nAt rs i : Int), rfl, by omega, by omega, ?_⟩
      refine ⟨fun j k H6 => j ≤ nAt rs i ∧ k = nAt rs i - j ∧ ∃ acc, H6 Dl = some (.lst acc) ∧ Places H6 acc (pre rs i ++ row i j) ∧ Ex H H6, ⟨nAt rs i, Nat.zero_le _, rfl, acc, e5 _ _ a1, ?_, a3.trans e5⟩, fun j k H6 hW1 => ?_⟩
      · show Places H5 acc (pre rs i ++ [])
        rw [List.append_nil]
        exact Places.ex e5 a2
      · obtain ⟨hj, rfl, acc6, b1, b2, b3⟩ := hW1
        by_cases hjl : j < nAt rs i
        · refine .inr ⟨(show j < ((nAt rs i : Int)).toNat by omega), fun H7 => ∃ acc, H7 Dl = some (.lst acc) ∧ Places H7 acc (pre rs i ++ row i (j + 1)) ∧ Ex H H7, fun H7 h => ⟨nAt rs i - (j + 1), by omega, by omega, rfl, h⟩, fun v H7 hy => ?_⟩
          obtain ⟨rfl, rfl⟩ := hy
          refine ⟨rfl, ?_⟩
          dsimp only [tYes]
          rw [if_pos rfl]
          refine ⟨_, rfl, _, rfl, by show 2 ≤ sizeLine; decide, fun p hp => ?_⟩
          have e7 := Ex.new (o := .tup [.int (i : Nat), .int (0 + (j : Int))]) hp
          have c1 := e7 _ _ b1
          have c2 := Places.ex e7 b2
          have c3 : PlaceAt (upd H7 p (.tup [.int (i : Nat), .int (0 + (j : Int))])) (.ref p) ((i : Int), (j : Int)) := ⟨p, rfl, by rw [upd_same, Int.zero_add]⟩
          have c4 := b3.trans e7
          refine ⟨acc6, c1, ?_, acc6 ++ [.ref p], upd_same, ?_, Ex.mut c4 hD⟩
          · have l1 := paired_len b2
            rw [List.length_append, row_len] at l1
            have := pl i (by omega)
            have := hn60 i
            exact small1000 (by omega)
          · rw [row_succ, ← List.append_assoc]
            exact Places.updL c1 (paired_snoc c3 c2)
        · refine .inl ⟨(show ((nAt rs i : Int)).toNat ≤ j by omega), acc6, b1, ?_, b3⟩
          have : j = nAt rs i := by omega
          rw [this] at b2
          exact b2
    · have hie : i = rs.length := by omega
      refine .inl ⟨⟨xs, SqT.of (a3 _ _ hc), by rw [hie, hlen]⟩, ?_⟩
      subst hie
      refine ⟨_, rfl, Dl, rfl, ⟨_, SqL.of a1⟩, fun D2 hD2 => ?_⟩
      have hal := paired_len a2
      refine lc_list (K := K) (a := Dl) (xs := acc) (fun i H2 => ∃ ys, H2 D2 = some (.lst ys) ∧ Places H2 ys (((pre rs rs.length).take i).filter (own rs)) ∧ Ex H' H2) ⟨[], upd_same, .nil, Ex.new hD2⟩ (fun i H2 _ hp => SqL.of (hp.choose_spec.2.2 _ _ a1)) (fun i x H2 hx hp => ?_) (fun H2 hp => ?_)
      · obtain ⟨ys, d1, d2, d3⟩ := hp
        obtain ⟨⟨pj, pq⟩, hpp, hP⟩ := paired_get a2 hx
        obtain ⟨t, rfl, ht⟩ := id hP
        have hb : 0 ≤ pj ∧ pj < (rs.length : Int) := pre_in rs rs.length (List.mem_of_getElem? hpp)
        have hyl : ys.length ≤ 720 := by
          rw [paired_len d2]
          have := List.length_filter_le (own rs) ((pre rs rs.length).take i)
          have h2 : ((pre rs rs.length).take i).length ≤ (pre rs rs.length).length := by
            rw [List.length_take]
            exact Nat.min_le_right _ _
          have := pl rs.length (Nat.le_refl _)
          omega
        have tk : (pre rs rs.length).take (i + 1) = (pre rs rs.length).take i ++ [(pj, pq)] := by
          rw [List.take_add_one, hpp]
          rfl
        refine ⟨rfl, _, rfl, _, rfl, c, xs, rs, .ref t, (pj, pq), rfl, d3 _ _ (a3 _ _ hc), paired_imp (fun _ _ z => RingAt.ex (a3.trans d3) z) hR, PlaceAt.ex d3 hP, hb.1, hb.2, fun y H3 e3 hy => ?_⟩
        obtain ⟨t2, rfl, ht2⟩ := hy
        have ht3 := e3 _ _ (d3 _ _ ht)
        refine ⟨_, rfl, .tuple [.int _, .int _], .tuple [.int pj, .int pq], .tup (SqT.of ht2) (.cons (.int _) (.cons (.int _) .nil)), .tup (SqT.of ht3) (.cons (.int _) (.cons (.int _) .nil)), rfl, rfl, _, rfl, ?_⟩
        rw [eqv_pair]
        by_cases ow : own rs (pj, pq) = true
        · have e1 : wn rs (pj, pq) = (pj, pq) := by
            unfold wn
            rw [if_pos ow]
          rw [e1]
          show if ((pj == pj && pq == pq) : Bool) = true then _ else _
          rw [beq_self_eq_true, beq_self_eq_true, if_pos (by rfl)]
          refine ⟨_, rfl, ys, e3 _ _ d1, small1000 (by omega), ys ++ [.ref t], upd_same, ?_, Ex.mut (d3.trans e3) hD2⟩
          rw [tk, List.filter_append]
          have e2 : [(pj, pq)].filter (own rs) = [(pj, pq)] := by
            rw [List.filter_cons, if_pos ow]
            rfl
          rw [e2]
          exact Places.updL (e3 _ _ d1) (paired_snoc ⟨t, rfl, ht3⟩ (Places.ex e3 d2))
        · have e1 : wn rs (pj, pq) = (pj - 1, 0) := by
            unfold wn
            rw [if_neg ow]
          rw [e1]
          have e2 : ((pj - 1 == pj && (0 : Int) == pq) : Bool) = false := by
            have : (pj - 1 == pj) = false := by
              simp
              omega
            rw [this, Bool.false_and]
          show if ((pj - 1 == pj && (0 : Int) == pq) : Bool) = true then _ else _
          rw [e2, if_neg Bool.false_ne_true]
          refine ⟨ys, e3 _ _ d1, ?_, d3.trans e3⟩
          rw [tk, List.filter_append]
          have e4 : [(pj, pq)].filter (own rs) = [] := by
            rw [List.filter_cons, if_neg ow]
            rfl
          rw [e4, List.append_nil]
          exact Places.ex e3 d2
      · obtain ⟨ys, d1, d2, d3⟩ := hp
        rw [hal, List.take_length] at d2
        exact k D2 ys H2 (a3.trans d3) (fresh_back a3 hD2) d1 d2
def spPlacesOf : Sp := fun vs H Q _ => ∃ (c : Addr) (xs : List V) (rs : List (Int × Int)), vs = [.ref c] ∧ H c = some (.tup xs) ∧ RingsAt H 60 xs rs ∧ 1 ≤ xs.length ∧ xs.length ≤ 12 ∧ ∀ p ys H', Ex H H' → H' p = some (.tup ys) → Places H' ys (names rs) → Q (.ref p) H'
theorem ok_places_of (T : Txt K mg) {f : Addr} {fd : FuncData} (D : DefAt K mg "places_of" sPlacesOf ["chain"] f fd) : FnOk P w K mg base CX0 6 f fd ["chain"] spPlacesOf := by
  refine D.F.ok scPlacesOf (fun vs H Q E h => ?_) (fun cdv A outer s₀ H vs Q E hr h => ?_)
  · obtain ⟨c, xs, rs, rfl, _⟩ := h
    rfl
  · obtain ⟨c, xs, rs, rfl, hc, hR, hl1, hl12, k⟩ := h
    obtain ⟨f1, fd1, D1⟩ := T.d_check_chain
    obtain ⟨f2, fd2, D2⟩ := T.d_names_of
    have hr2 : Room 2 _ := hr.mono (by decide)
    refine ⟨_, pss_cons (ps_expr (pe_call (ok_check_chain T D1) hr (by rfl) D1.g D1.F.kp D1.b .nil pass0 (pa_cons (pv 0) pa_nil)))
      (pss_one (ps_ret (pe_callTy call_tuple_of (by rfl) T.z_tuple (by decide +kernel) (pa_cons (pe_call (ok_names_of T D2) hr2 (by rfl) D2.g D2.F.kp D2.b .nil pass0 (pa_cons (pv 0) pa_nil)) pa_nil)))), ?_⟩
    refine ⟨_, rfl, .ref c, rfl, rings_chain hR hc hl1 hl12, fun H1 e1 => ?_⟩
    refine ⟨_, rfl, c, xs, rs, rfl, e1 _ _ hc, paired_imp (fun _ _ z => RingAt.ex e1 z) hR, hl12, fun p ys H2 e2 hp0 hp hP => ?_⟩
    exact ⟨p, ys, rfl, .inl ⟨SqL.of hp, fun l hl => k l ys _ ((e1.trans e2).trans (Ex.new hl)) upd_same (Places.ex (Ex.new hl) hP)⟩⟩
end
end K1

namespace PySem
namespace TmX
open PySem.W PySem.Calls PyProof.Rows PySem.HandSPX
/-- OverflowError's own line of classes -/
abbrev oeT : List Value := [.type "OverflowError", .type "ArithmeticError", .type "Exception", .type "BaseException", .type "object"]
section
open Builtin Builtin.ObjectAttr
variable {prog : Program} {w : World} {A : Around} {R : Result → Shared → Prop} {hp : Heap} {g : Array GenState} {d : Drawn} {t : Nat} {os : OsState}
/-- the first field of an exception whose classes let it pass -/
theorem osa_first {K : W.Frag} {name : Str} {tk : Tok} {v : Value} {x C : Addr} {fv : Array Value} {cd : ClassData} (Y : K.In hp) (gx : hp.get? x = some { cls := .ref C, data := .fields fv }) (hcd : W.clsIn K C = some cd)
    (m1 : cd.mro.isEmpty = false) (m2 : cd.mro.contains (.type "object") = true) (m3 : ∀ self, refuseLoop self "__setattr__" cd.mro = pure ()) (hh : cd.hasDict = true) (na : W.findIn K (.ref C) name = some none)
    (k : ∀ h2 tk2 dx, (∀ b o, b ≠ x → hp.get? b = some o → h2.get? b = some o) → hp.objs.size ≤ dx → dx ≠ x → h2.get? x = some { cls := .ref C, dict := some dx, data := .fields fv } →
      h2.Ns1 dx (fun y => if y = name then some v else none) → R (.ok (.ret .none)) ⟨h2, g, d, tk2, os⟩) :
    codeAny (model prog w) A (.call (.builtin "object.__setattr__") ⟨[.ref x, .str name tk, v], []⟩) R ⟨hp, g, d, t, os⟩ := by
  have J : W.InstAt hp x { cls := .ref C, data := .fields fv } C none := ⟨gx, rfl, rfl, trivial⟩
  have S := F.store_object
  have xn : x ≠ hp.objs.size := Nat.ne_of_lt (Heap.lt_size gx)
  have isO : W.Looks (model prog w) hp (isInstance (.ref x) (.type "object")) true :=
    J.type.andThen (W.looks_mroIn Y (by unfold W.mroIn; rw [hcd, Option.bind_some, if_neg (by rw [m1]; decide), m2]))
  refine codeAny_call_builtin S.slot.plain S.entry
    (@W.check_slot (model prog w) _ _ ⟨hp, g, d, t, os⟩ "object.__setattr__" "object" "__setattr__" (.ref x) [.str name tk, v] [] _ S.kind S.split isO (S.args (.ref x) (.str name tk) v) ?_)
  have lm : W.Looks (model prog w) hp (mroOf (.ref C)) cd.mro := (W.looks_clsIn Y hcd).andThen .now
  have lt : W.Looks (model prog w) hp (storeTaker? none) none := .now
  have lc : W.Looks (model prog w) hp (classData C) cd := W.looks_clsIn Y hcd
  rw [W.osa_eq, refuse_eq]
  refine wpAny_bind (wpAny_bind (J.type.at (wpAny_bind (lm.at ?_))))
  rw [m3]
  refine wpAny_pure (wpAny_bind (J.type.at (wpAny_bind ((W.looks_findIn Y na).at (wpAny_bind (lt.at ?_))))))
  show wpAny _ _ (storeInOwnDict (.ref x) (.ref C) (.str name tk) name v false) _ _ _
  obtain ⟨nm, bs, mro, ns, qn, hd, sn, sb, ab, col, del⟩ := cd
  dsimp only at hh
  subst hh
  unfold storeInOwnDict ownDictForStores
  repeat (first
    | with_reducible refine store_in_new ?_ ?_
    | with_reducible refine wpAny_loadPart_at gx ?_
    | with_reducible refine lc.at ?_
    | wp_step)
  · exact ⟨_, #[], _, (Heap.get?_update_ne _ _ _ _ xn.symm).trans (Heap.get?_push_at rfl rfl), rfl, fun e he => absurd he (by simp), fun _ => rfl⟩
  · intro h2 tk2 n2 s2
    have g1 : (hp.push { cls := .type "dict", data := .dict #[] }).get? x = some { cls := .ref C, data := .fields fv } := Heap.get?_push_of_some _ gx
    refine k h2 tk2 hp.objs.size (fun b o hb ho => ?_) (Nat.le_refl _) xn.symm ?_ n2
    · exact (s2.2 b (Nat.ne_of_lt (Heap.lt_size ho))).trans ((Heap.get?_update_ne _ _ _ _ hb).trans (Heap.get?_push_of_some _ ho))
    · exact (s2.2 x xn).trans (Heap.get?_update_self _ g1 rfl)
theorem oe_obj (C : Addr) : (Value.ref C :: oeT).contains (.type "object") = true := by
  rw [List.contains_cons]
  rfl
theorem oe_pass (C : Addr) (self : Value) : refuseLoop self "__setattr__" (.ref C :: oeT) = pure () := by
  rw [refuseLoop_ref]
  exact F.store_OverflowError.passes self
end
/-! ### the text of __init__ -/
def iA (p1 p2 : Pos) : Arguments := { posonlyargs := [], args := [{ arg := "self", annotation := none, pos := p1 }, { arg := "limit", annotation := none, pos := p2 }], vararg := none, kwonlyargs := [], kw_defaults := [], kwarg := none, defaults := [] }
def iB (q1 q2 q3 q4 : Pos) : List Stmt := [.Assign [.Attribute (.Name "self" q1) "limit" q2] (.Name "limit" q3) q4]
def iS : Scope := { kind := .function, names := [(PySem.Str.ofString "self", .local), (PySem.Str.ofString "limit", .local)], isGenerator := false, isCoroutine := false, more := [] }
/-- what the written part says of Low, at C, and of its __init__, at fI -/
structure TmTxt (K : Frag) (mg : Str → Option Value) (C fI : Addr) : Prop where
  gC : mg "TooMany" = some (.ref C)
  cls : ∃ nm q N bs sn sub ab col dd k0 k1 k2 k3 k5, K.lookup C = some (excClassObj nm q C N bs oeT true sn sub ab col dd k0 k1 k2 k3 k5 "OverflowError.__new__")
  sa : findIn K (.ref C) "__setattr__" = some (some (.builtin "object.__setattr__"))
  ga : findIn K (.ref C) "__getattribute__" = some (some (.builtin "BaseException.__getattribute__"))
  gg : findIn K (.ref C) "__getattr__" = some none
  noN : findIn K (.ref C) "limit" = some none
  iC : findIn K (.ref C) "__init__" = some (some (.ref fI))
  tC : typeIn K (.ref fI) = some (.type "function")
  kC : keepIn K (.ref C) = true
  exC : subIn K (.ref C) (.type "BaseException") = some true
  tyC : typeIn K (.ref C) = some (.type "type")
  hdC : hasDictIn K C = true
  te : exmOne K (.ref C) (.ref C) = some true
  fn : ∃ (oc : Value) (od : Option Addr) (doc pm : Value) (an : Option Addr) (cdv ct : Value) (osl : Array (Option Value)) (p1 p2 q1 q2 q3 q4 : Pos),
    K.lookup fI = some ⟨oc, od, .func (fnOf "__init__" "TooMany.__init__" (iA p1 p2) (iB q1 q2 q3 q4) iS .none .none doc pm an cdv ct), osl⟩ ∧ codeIn K cdv "TooMany.__init__" = true
theorem one_size (v : Value) : [v].length ≤ sizeLine := by
  rw [sizeLine_eq]
  exact (by decide : 1 ≤ 16777216)
theorem kept_but {K : Frag} {h h' : Heap} {x : Addr} (X : K.In h) (hx : K.lookup x = none) (k : ∀ b o, b ≠ x → h.get? b = some o → h'.get? b = some o) : K.In h' := fun a o e =>
  k a o (fun z => by rw [z, hx] at e; cases e) (X a o e)
theorem ldC {M : Model} {s : Shared} {name : Str} {scope : Scope} {L a : Addr} {cd : Value} {m : Str → Option Value} {x : Str} {pos : Pos} {v : Value} {Q : Value → Shared → Prop} {A : Around} {E : Value → Shared → Prop} (hn : s.heap.Ns L m) (hv : m x = some v) (h : Q v s)
    (hk : scope.kind = .function := by rfl) (hl : (envOfC name scope L a cd).kindOf x = some .local := by rfl) (hd : (x == ("__debug__" : Str)) = false := by decide) :
    wpAny M A (eval (.Name x pos) (envOfC name scope L a cd)) Q E s := wpAny_Name (wpAny_loadName_local hk hl hn hv h) hd
/-- what __init__ leaves of a fresh exception at x -/
structure InitEnd (h h' : Heap) (x C dx t1 : Addr) (v : Value) : Prop where
  keep : ∀ b o, b ≠ x → h.get? b = some o → h'.get? b = some o
  obj : h'.get? x = some { cls := .ref C, dict := some dx, data := .fields #[.ref t1, .none, .none, .none, .bool false, .none] }
  dbig : h.objs.size ≤ dx
  dne : dx ≠ x
  ns : h'.Ns1 dx (fun y => if y = "limit" then some v else none)
/-- a made Low -/
structure OwnMade (h h' : Heap) (e C d : Addr) (v : Value) : Prop where
  keep : ∀ b o, h.get? b = some o → h'.get? b = some o
  new : h.objs.size ≤ e
  obj : ∃ oe vs, h'.get? e = some oe ∧ oe.cls = .ref C ∧ oe.dict = some d ∧ oe.data = .fields vs ∧ vs[1]? = some .none
  dbig : h.objs.size ≤ d
  dne : d ≠ e
  ns : h'.Ns1 d (fun y => if y = "limit" then some v else none)
section
variable {prog : Program} {w : World} {A : Around} {E : Value → Shared → Prop} {R : Result → Shared → Prop} {s : Shared} {K : Frag} {mg : Str → Option Value} {C fI : Addr}
theorem tm_init (T : TmTxt K mg C fI) {x t0 : Addr} {v : Value} (X : K.In s.heap) (hlim : s.heap.NoLimit) (hx : s.heap.get? x = some (excO C t0)) (hnx : K.lookup x = none) (hroom : A.depth < recursionLimit)
    (hq : ∀ h' tk dx, InitEnd s.heap h' x C dx t0 v → R (.ok (.ret .none)) { s with heap := h', toks := tk }) :
    codeAny (model prog w) A (.call (.ref fI) ⟨[.ref x, v], []⟩) R s := by
  obtain ⟨oc, od, doc, pm, an, cdv, ct, osl, p1, p2, q1, q2, q3, q4, ho, hcd⟩ := T.fn
  obtain ⟨nm, q, N, bs, sn, sub, ab, col, dd, k0, k1, k2, k3, k5, hC⟩ := T.cls
  have hcl : clsIn K C = some { name := nm, bases := bs, mro := .ref C :: oeT, ns := N, qualname := q, hasDict := true, slotNames := sn, subclasses := sub, abstract := ab, collection := col, hasDel := false } := by unfold clsIn; rw [hC] <;> rfl
  refine Att.call_fn (binds := [("self", .ref x), ("limit", v)]) X hlim ho hcd hroom (BindsTo.of_eq (by first | rfl | with_unfolding_all rfl)) (by first | rfl | decide | with_unfolding_all rfl) (fun s₁ IC => ?_) rfl rfl rfl
  obtain ⟨h₁, tk₁, rfl⟩ := IC.toInCall.same
  have k : ∀ b o, s.heap.get? b = some o → h₁.get? b = some o := IC.toInCall.keep
  have hn := IC.toInCall.ns
  have hxL : s.heap.objs.size ≠ x := Nat.ne_of_gt (Heap.lt_size hx)
  have X₁ : K.In h₁ := X.keeps k
  have hx₁ := k _ _ hx
  -- self.by = by
  show wpAny _ _ (execs _ _) _ _ _
  refine wpAny_execs_cons (plainObj_wpAny_Assign_Attribute ?_)
  refine ldC (v := v) hn (by first | rfl | with_unfolding_all rfl | kernel_rfl) (ldC (v := .ref x) hn (by first | rfl | with_unfolding_all rfl | kernel_rfl) ?_)
  refine set_plain X₁ (ox := excO C t0) (od := none) ⟨hx₁, rfl, rfl, trivial⟩ T.sa ?_
  refine osa_first X₁ hx₁ hcl rfl (oe_obj C) (oe_pass C) rfl T.noN (fun h₃ tk₃ dx k₃ dn dne hx₃ hn₃ => ?_)
  show wpAny _ _ (execs _ _) _ _ _
  have z : s.heap.objs.size < h₁.objs.size := hn.lt
  exact wpAny_execs_nil (hq h₃ tk₃ dx ⟨fun b o hb e => k₃ b o hb (k b o e), hx₃, Nat.le_of_lt (Nat.lt_of_lt_of_le z dn), dne, hn₃⟩)
theorem tm_made (T : TmTxt K mg C fI) {v : Value} (X : K.In s.heap) (hlim : s.heap.NoLimit) (hroom : A.depth + 1 < recursionLimit)
    (hq : ∀ h' tk e d, OwnMade s.heap h' e C d v → R (.ok (.ret (.ref e))) { s with heap := h', toks := tk }) :
    codeAny (model prog w) A (.call (.ref C) ⟨[v], []⟩) R s := by
  obtain ⟨nm, q, N, bs, sn, sub, ab, col, dd, k0, k1, k2, k3, k5, hC⟩ := T.cls
  obtain ⟨hp, g, dr, tk, os⟩ := s
  have k : ∀ b o, hp.get? b = some o → ((hp.push (kdv_tup [v])).push (excO C hp.objs.size)).get? b = some o := fun b o e => Heap.get?_push_of_some _ (Heap.get?_push_of_some _ e)
  have hget : ((hp.push (kdv_tup [v])).push (excO C hp.objs.size)).get? (hp.objs.size + 1) = some (excO C hp.objs.size) := by heap_get
  have hnx : K.lookup (hp.objs.size + 1) = none := by
    cases e : K.lookup (hp.objs.size + 1) with
    | none => rfl
    | some o =>
      have z : hp.get? (hp.objs.size + 1) = some o := X _ _ e
      exact absurd (Nat.lt_of_succ_lt (Heap.lt_size z)) (Nat.lt_irrefl _)
  refine call_own F.excBase_OverflowError (fun X => rfl) (X _ _ hC) (looks_findIn X T.iC) (fun self => bind_fn X self T.tC) (one_size v) ?_
  refine tm_init (s := ⟨(hp.push (kdv_tup [v])).push (excO C hp.objs.size), g, dr, tk, os⟩) T (X.keeps k) (hlim.keeps k) hget hnx ?_ fun h' tk' dx ⟨k', hx, dn, dne, hns⟩ => ?_
  · show A.depth + 1 < recursionLimit
    exact hroom
  · have old : ∀ b o, hp.get? b = some o → h'.get? b = some o := fun b o e => k' b o (Nat.ne_of_lt (Nat.lt_succ_of_lt (Heap.lt_size e))) (k b o e)
    have z : hp.objs.size + 1 + 1 ≤ dx := by
      first
        | (simpa only [Heap.size_push] using dn)
        | exact dn
        | (have q := dn; rw [Heap.size_push, Heap.size_push] at q; exact q)
    exact ⟨rfl, hq h' tk' (hp.objs.size + 1) dx ⟨old, Nat.le_succ _, ⟨_, _, hx, rfl, rfl, rfl, rfl⟩, Nat.le_trans (Nat.le_trans (Nat.le_succ _) (Nat.le_succ _)) z, dne, hns⟩⟩
end
end TmX
end PySem
namespace L2
open PySem PySem.Spec PyProof.Rows
theorem relO_tm {v : V} {v' : Value} (r : RelV v v') (f : Str) : RelO (List.lookup f [(("limit" : Str), v)]) (if f = "limit" then some v' else none) := by
  by_cases hw : f = "limit"
  · subst hw
    rw [if_pos rfl]
    have q : List.lookup ("limit" : Str) [(("limit" : Str), v)] = some v := by simp [List.lookup]
    rw [q]
    exact r
  · rw [if_neg hw]
    have qw : (f == ("limit" : Str)) = false := by simpa using hw
    have q2 : List.lookup f [(("limit" : Str), v)] = none := by simp [List.lookup, qw]
    rw [q2]
    trivial
section
variable {X : Cx} {C fI : Addr}
/-- Low(e) -/
def tMkTm (C : Addr) (ta : TA) : St → Hp → XK → Prop := fun σ H Q => ta σ H fun vs H1 => ∃ v, vs = [v] ∧ ∀ d, H1 d = none → Q (.ref C) (some d) (upd H1 d (.xd [(("limit" : Str), v)]))
theorem pmk_tm {a : Expr} {ta : TA} {p pos : Pos} {k : Nat} (T : PySem.TmX.TmTxt X.K X.mg C fI) (hr : Room k X.A) (ha : PA X [a] ta) (hg : Gl X "TooMany" := by rfl)
    (he : starEach (a :: []) X.env = (false, eval a X.env) :: starEach [] X.env := by rfl) (hpl : (backTo pos (starEach [] X.env)).any (·.1) = false := by rfl) :
    PMk X (.Call (.Name "TooMany" p) [a] [] pos) (tMkTm C ta) := by
  intro pins s σ H Q I h
  refine wpAny_Call_Name_kw (ld_glob I hg T.gC ?_)
  refine PySem.W.callWith_K (h₀ := X.base) I.ok.mod.kin T.kC (thn (ha.run pos pins s σ H _ I h) fun us s1 hh => ?_) he hpl
  obtain ⟨vs, H1, I1, r1, v, ev, q1⟩ := hh
  subst ev
  refine ⟨I1.kIn, ?_⟩
  cases r1 with
  | cons rv rn =>
    rename_i v' us'
    cases rn
    show wpAny _ _ (call (.ref C) [v']) _ _ _
    have hlim := I1.nolimit
    obtain ⟨hp, g, dr, tk, os⟩ := s1
    refine wpAny_call (PySem.TmX.tm_made T I1.kIn hlim (by have := hr.dp; omega) fun h' tk' e d M => ?_)
    show MkP X pins σ Q (.ref e) ⟨h', g, dr, tk', os⟩
    obtain ⟨oe, fv, hoe, hc, hd, hdat, h1⟩ := M.obj
    have hns := M.ns
    obtain ⟨G', g1, g2⟩ := restrict h' fun b => decide (b ≠ e)
    have gk : ∀ b, b ≠ e → G'.get? b = h'.get? b := fun b hb => g1 b (decide_eq_true hb)
    have ge : G'.get? e = none := g2 e (by simp)
    have old : ∀ b o, hp.get? b = some o → G'.get? b = some o := fun b o q => (gk b (Nat.ne_of_lt (Nat.lt_of_lt_of_le (Heap.lt_size q) M.new))).trans (M.keep b o q)
    have ob : ObjOk X.prog X.w (upd H1 d (.xd [(("limit" : Str), v)])) G' d (.xd [(("limit" : Str), v)]) :=
      ⟨_, hns.at (fun o q => (gk d M.dne).trans q), fun f => relO_tm rv f⟩
    have J : Inv X pins σ (upd H1 d (.xd [(("limit" : Str), v)])) ⟨G', g, dr, tk', os⟩ := I1.laid (t' := tk') old M.dbig ob
    refine ⟨e, oe, fv, ⟨G', g, dr, tk', os⟩, _, .ref C, some d, rfl, J, fun b o q => ?_, ge, hoe, ⟨hc, hd⟩, hdat, h1, ?_, rfl, I1.bare, raises_own T.exC T.tyC, q1 d (I1.hok.fresh M.dbig)⟩
    · by_cases hb : b = e
      · have q' : G'.get? b = some o := q
        rw [hb, ge] at q'; cases q'
      · exact (gk b hb).symm.trans q
    · rw [upd_ne (Ne.symm M.dne)]
      exact I1.hok.fresh M.new
/-- raise Low(e) -/
def tRaiseTm (C : Addr) (W : WX) (ta : TA) : TS := fun _ σ H => tMkTm C ta σ H fun cls d H' => W cls d σ H'
theorem ps_raiseTm {a : Expr} {ta : TA} {W : WX} {p pos pos2 : Pos} {k : Nat} (hc : X.calm = true) (T : PySem.TmX.TmTxt X.K X.mg C fI) (hr : Room k X.A) (tk : Takes X W) (ha : PA X [a] ta) (hg : Gl X "TooMany" := by rfl)
    (he : starEach (a :: []) X.env = (false, eval a X.env) :: starEach [] X.env := by rfl) (hpl : (backTo pos (starEach [] X.env)).any (·.1) = false := by rfl) :
    PS X (.Raise (some (.Call (.Name "TooMany" p) [a] [] pos)) none pos2) (tRaiseTm C W ta) := ps_raise hc tk (pmk_tm T hr ha hg he hpl)
/-- low.by, low the exception that the suite holds (at a; its class cls, its dict d) -/
def tByTm (C : Addr) (a : Addr) (cls : Value) (d : Option Addr) (te : TE) : TE := fun σ H Q => te σ H fun x H1 => x = .ref a ∧ cls = .ref C ∧ ∃ (dd : Addr) (v : V), d = some dd ∧ H1 dd = some (.xd [(("limit" : Str), v)]) ∧ Q v H1
theorem pe_byTm {a : Addr} {oe : Obj} {cls : Value} {d : Option Addr} {pn : List (Addr × Obj)} {e : Expr} {te : TE} {pos : Pos} (T : PySem.TmX.TmTxt X.K X.mg C fI) (hz : Zc cls d oe) (hf : ∃ vs, oe.data = .fields vs) (he : PE (X.suite a ((a, oe) :: pn)) e te)
    (hb : attributeBase e "limit" X.env (eval e X.env) = eval e X.env := by rfl) :
    PE (X.suite a ((a, oe) :: pn)) (.Attribute e "limit" pos) (tByTm C a cls d te) := by
  refine ⟨fun pins s σ H Q I h => ?_⟩
  refine attr_of hb (thn (he.run pins s σ H _ I h) fun u s1 hh => ?_)
  obtain ⟨x, H1, I1, rx, ex, ec, dd, v, ed, ea, q⟩ := hh
  subst ex
  obtain rfl : u = Value.ref a := rx
  subst ec
  subst ed
  obtain ⟨ha, _⟩ := I1.pin (a, oe) (List.mem_append_left _ List.mem_cons_self)
  obtain ⟨vs, hd⟩ := hf
  have hx : ObjOk X.prog X.w H1 s1.heap dd (.xd [(("limit" : Str), v)]) := I1.hok dd _ ea
  obtain ⟨mA, hns, hr⟩ := hx
  obtain ⟨od, ho, hl⟩ := lookIn_ns hns
  have l : List.lookup ("limit" : Str) [(("limit" : Str), v)] = some v := by simp [List.lookup]
  obtain ⟨u, hu, ru⟩ := RelO.some_of (v := v) (o := mA "limit") (by rw [← l]; exact hr "limit")
  have J : PySem.W.InstAt s1.heap a oe C (some od) := ⟨ha, hz.1, by unfold PySem.W.notCls; rw [hd] <;> rfl, by rw [hz.2]; exact ho⟩
  exact HandSPX.exc_get I1.kIn J T.ga T.gg T.exC (PySem.W.findObj_own T.hdC T.noN rfl (by rw [hl, hu])) (handed_of ru) ⟨v, H1, I1.tok _, ru, q⟩
end
end L2


namespace K1
open PySem PySem.Spec PyProof.Rows L2 Evl K1N
def ringD (r : Int × Int) : PyData := .tuple [.int r.1, .int r.2]
theorem dp_rings {K : PySem.W.Frag} {H : Hp} {most : Int} {xs : List V} {rs : List (Int × Int)} (h : RingsAt H most xs rs) : DpAll K H xs (rs.map ringD) := by
  induction h with
  | nil => exact .nil
  | cons r _ ih =>
    obtain ⟨t, rfl, ht, _⟩ := r
    exact .cons (.tup (SqT.of ht) (.cons (.int _) (.cons (.int _) .nil))) ih
theorem can_rings (rs : List (Int × Int)) : (PyData.tuple (rs.map ringD)).canLay0 = true := by
  have : ∀ l : List (Int × Int), PyData.canLayAll0 (l.map ringD) = true := fun l => by
    induction l with
    | nil => rfl
    | cons b r ih => simp [PyData.canLayAll0, PyData.canLay0, ringD, ih]
  simp [PyData.canLay0, this]
theorem depth_rings (rs : List (Int × Int)) : (PyData.tuple (rs.map ringD)).depth ≤ 64 := by
  have : ∀ l : List (Int × Int), PyData.depthAll (l.map ringD) ≤ 60 := fun l => by
    induction l with
    | nil => decide
    | cons b r ih =>
      simp only [List.map_cons, PyData.depthAll, ringD, PyData.depth]
      omega
  have := this rs
  simp only [PyData.depth]
  omega
theorem shaped_rings (rs : List (Int × Int)) : SeqAt.shaped (.tuple (rs.map ringD)) = true := by
  unfold SeqAt.shaped
  rw [can_rings, decide_eq_true (depth_rings rs)]
  rfl
theorem eqv_rings (rs : List (Int × Int)) : PyData.eqv (.tuple (rs.map ringD)) (.tuple (rs.map ringD)) = true := SeqAt.eqv_refl _ (can_rings rs)
section
variable {P : Program} {w : World} {K : PySem.W.Frag} {mg : Str → Option Value} {base : Heap} {C fI : Addr}
def spJoined (C : Addr) : Sp := fun vs H Q E => ∃ (a b : Addr) (xs ys : List V) (rs rt : List (Int × Int)), vs = [.ref a, .ref b] ∧ H a = some (.tup xs) ∧ H b = some (.tup ys) ∧ RingsAt H 60 xs rs ∧ RingsAt H 60 ys rt ∧
  (1 ≤ xs.length ∧ xs.length ≤ 12) ∧ (1 ≤ ys.length ∧ ys.length ≤ 12) ∧
  (12 < xs.length + ys.length → ∀ H1 d, Ex H H1 → H1 d = none → E (.ref C) (some d) (upd H1 d (.xd [(("limit" : Str), .int 12)]))) ∧
  (xs.length + ys.length ≤ 12 → ∀ p H', Ex H H' → H' p = some (.tup (xs ++ ys)) → Q (.ref p) H')
theorem ok_joined (T : Txt K mg) (TM : PySem.TmX.TmTxt K mg C fI) {f : Addr} {fd : FuncData} (D : DefAt K mg "joined_chains" sJoinedChains ["one", "other"] f fd) : FnOk P w K mg base (L2.CX P w) 6 f fd ["one", "other"] (spJoined C) := by
  refine D.F.okX scJoinedChains (fun vs H Q E h => ?_) (fun cdv A outer s H vs Q E hr h => ?_)
  · obtain ⟨a, b, xs, ys, rs, rt, rfl, _⟩ := h
    rfl
  · obtain ⟨a, b, xs, ys, rs, rt, rfl, ha, hb, hR, hS, hx, hy, kE, kQ⟩ := h
    obtain ⟨f1, fd1, D1⟩ := T.d_check_chain
    obtain ⟨tM, vM⟩ := T.v_RINGS
    refine ⟨_, pss_cons (ps_expr (pe_call (ok_check_chain T D1) hr (by rfl) D1.g D1.F.kp D1.b .nil pass0 (pa_cons (pv 0) pa_nil)))
      (pss_cons (ps_expr (pe_call (ok_check_chain T D1) hr (by rfl) D1.g D1.F.kp D1.b .nil pass0 (pa_cons (pv 1) pa_nil)))
      (pss_cons (ps_if (pt_cmpR op_gt (pe_op op_add (pe_callB call_len_seq (by rfl) ((by exact T.z_len)) PySem.boot_len (pa_cons (pv 0) pa_nil)) (pe_callB call_len_seq (by rfl) (by exact T.z_len) PySem.boot_len (pa_cons (pv 1) pa_nil))) (pe_glob (v := .int 12) rfl vM ⟨_, rfl⟩) (nomark _))
        (pss_one (ps_raiseTm rfl TM hr (takes_of rfl rfl rfl rfl) (by exact (pa_cons (pe_glob (v := .int 12) rfl vM ⟨_, rfl⟩) pa_nil)))) pss_nil)
      (pss_one (ps_ret (pe_op op_catT (pv 0) (pv 1)))))), ?_⟩
    refine ⟨_, rfl, .ref a, rfl, rings_chain hR ha hx.1 hx.2, fun H1 e1 => ?_⟩
    refine ⟨_, rfl, .ref b, rfl, rings_chain (paired_imp (fun _ _ z => RingAt.ex e1 z) hS) (e1 _ _ hb) hy.1 hy.2, fun H2 e2 => ?_⟩
    have e12 := e1.trans e2
    have ha2 := e12 _ _ ha
    have hb2 := e12 _ _ hb
    refine ⟨_, rfl, a, _, rfl, .inr (SqT.of ha2), _, rfl, b, _, rfl, .inr (SqT.of hb2), _, _, rfl, rfl, _, _, rfl, rfl, _, rfl, ite2 (fun c => ?_) (fun c => ?_)⟩
    · have c2 : (12 : Int) < (xs.length : Int) + (ys.length : Int) := of_decide_eq_true c
      exact ⟨_, rfl, fun d hd => kE (by omega) H2 d e12 hd⟩
    · have c2 : ¬ (12 : Int) < (xs.length : Int) + (ys.length : Int) := fun z => c (decide_eq_true z)
      refine ⟨_, rfl, _, rfl, a, b, xs, ys, rfl, rfl, SqT.of ha2, SqT.of hb2, ?_, sz_of (by omega), ?_, ?_⟩
      · intro z
        rw [z] at hx
        exact absurd hx.1 (by decide)
      · intro z
        rw [z] at hy
        exact absurd hy.1 (by decide)
      · intro _ p hp
        exact kQ (by omega) p _ (e12.trans (Ex.new hp)) upd_same
end
end K1

namespace K1
open PySem PySem.Spec PyProof.Rows L2 Evl K1N
section
variable {P : Program} {w : World} {K : PySem.W.Frag} {mg : Str → Option Value} {base : Heap} {C fI : Addr}
def spDiceTrue : Sp := fun vs H Q _ => ∃ d, vs = [.ref d] ∧ Dice H d ∧ ∀ H', Dice H' d → Keep d H H' → Q (.bl true) H'
theorem rings_ex {H H' : Hp} {most : Int} {xs : List V} {rs : List (Int × Int)} (e : Ex H H') (h : RingsAt H most xs rs) : RingsAt H' most xs rs := paired_imp (fun _ _ z => RingAt.ex e z) h
theorem rings_keep {H H' : Hp} {d : Addr} {most : Int} {xs : List V} {rs : List (Int × Int)} (e : Keep d H H') (hd : Dice H d) (h : RingsAt H most xs rs) : RingsAt H' most xs rs := paired_imp (fun _ _ z => RingAt.keep e hd z) h
theorem ok_joined_right (T : Txt K mg) (TM : PySem.TmX.TmTxt K mg C fI) {f : Addr} {fd : FuncData} (D : DefAt K mg "_law_joined_right" sLJoinedRight ["_law_dice_here"] f fd) : FnOk P w K mg base CX0 7 f fd ["_law_dice_here"] spDiceTrue := by
  refine D.F.ok scLJoinedRight (fun vs H Q E h => ?_) (fun cdv A outer s₀ H vs Q E hr h => ?_)
  · obtain ⟨d, rfl, _⟩ := h
    rfl
  · obtain ⟨d, rfl, hd, q⟩ := h
    obtain ⟨f1, fd1, D1⟩ := T.d_l_roll
    obtain ⟨f2, fd2, D2⟩ := T.d_l_chain
    obtain ⟨f3, fd3, D3⟩ := T.d_joined_chains
    obtain ⟨f4, fd4, D4⟩ := T.d_places_of
    have hr1 : Room 1 _ := hr.mono (by decide)
    have hr4 : Room 4 _ := hr.mono (by decide)
    refine ⟨_, pss_cons (ps_par (i := 1) (j := 2) (by rfl) scLJoinedRight.nd rfl rfl (by decide) rfl rfl
        (pa_cons (pe_call (ok_chain T D2) hr4 (by rfl) D2.g D2.F.kp D2.b .nil pass0 (pa_cons (pv 0) (pa_cons (pe_op op_add pe_int (pe_call (ok_roll T D1) hr1 (by rfl) D1.g D1.F.kp D1.b .nil pass0 (pa_cons (pv 0) (pa_cons pe_int pa_nil)))) (pa_cons pe_int pa_nil))))
        (pa_cons (pe_call (ok_chain T D2) hr4 (by rfl) D2.g D2.F.kp D2.b .nil pass0 (pa_cons (pv 0) (pa_cons (pe_op op_add pe_int (pe_call (ok_roll T D1) hr1 (by rfl) D1.g D1.F.kp D1.b .nil pass0 (pa_cons (pv 0) (pa_cons pe_int pa_nil)))) (pa_cons pe_int pa_nil)))) pa_nil)) (by rfl))
      (pss_cons (ps_if (pt_cmpR op_gt (pe_op op_add (pe_callB call_len_seq (by rfl) T.z_len PySem.boot_len (pa_cons (pv 1) pa_nil)) (pe_callB call_len_seq (by rfl) T.z_len PySem.boot_len (pa_cons (pv 2) pa_nil))) pe_int (nomark _))
        (pss_one (ps_try_as (i := 3) (tb := fun W => tSeq (tDrop (tCallS (spJoined C) (WE W) (tCons (tVar 1) (tCons (tVar 2) tNil)))) (tRet (tC (.bl false)))) (ts := fun a cls d => tRet (tOp rEq (L2.tByTm C a cls d (tVar 3)) (tC (.int 12)))) (Wout := fun _ _ _ _ => False) rfl rfl scLJoinedRight.nd rfl rfl ⟨rfl, by decide, Or.inl TM.gC⟩ takes0
          (fun W pn xe tk _ => pss_cons (ps_expr (by exact (pe_callS (ok_joined T TM D3) hr rfl D3.g D3.F.kp D3.b (fun σ => passAt tk σ) (by exact (pa_cons (pv 1) (pa_cons (pv 2) pa_nil)))))) (pss_one (ps_ret pe_bl)))
          (fun a oe cls d pn hz hf => pss_one (ps_ret (pe_cmpR op_eq (by exact (pe_byTm TM hz hf (pv 3))) pe_int (nomark _)))))) pss_nil)
      (pss_cons (ps_set (i := 4) scLJoinedRight.nd rfl (.inl rfl) (pe_call (ok_joined T TM D3) hr (by rfl) D3.g D3.F.kp D3.b .nil passL (pa_cons (pv 1) (pa_cons (pv 2) pa_nil))))
      (pss_one (ps_ret (pe_and (pe_cmpR (op_eqD hr.units) (pv 4) (pe_op op_catT (pv 1) (pv 2)) (nomark _))
        (pe_one (pe_cmpR op_eq (pe_callB call_len_seq (by rfl) T.z_len PySem.boot_len (pa_cons (pe_call (ok_places_of T D4) hr (by rfl) D4.g D4.F.kp D4.b .nil pass0 (pa_cons (pv 4) pa_nil)) pa_nil))
          (pe_op op_sub (pe_op op_add (pe_callB call_len_seq (by rfl) T.z_len PySem.boot_len (pa_cons (pe_call (ok_places_of T D4) hr (by rfl) D4.g D4.F.kp D4.b .nil pass0 (pa_cons (pv 1) pa_nil)) pa_nil)) (pe_callB call_len_seq (by rfl) T.z_len PySem.boot_len (pa_cons (pe_call (ok_places_of T D4) hr (by rfl) D4.g D4.F.kp D4.b .nil pass0 (pa_cons (pv 2) pa_nil)) pa_nil))) pe_int) (nomark _)))))))), ?_⟩
    refine ⟨.ref d, rfl, .ref d, rfl, d, 8, rfl, hd, by decide, by decide, fun r1 H1 r10 r11 hd1 k1 => ?_⟩
    refine ⟨1, r1, rfl, rfl, d, 1 + r1, 9, rfl, hd1, by omega, by omega, by decide, by decide, fun a xs rs H2 ha hR hl hd2 k2 => ?_⟩
    refine ⟨.ref d, rfl, .ref d, rfl, d, 8, rfl, hd2, by decide, by decide, fun r2 H3 r20 r21 hd3 k3 => ?_⟩
    refine ⟨1, r2, rfl, rfl, d, 1 + r2, 9, rfl, hd3, by omega, by omega, by decide, by decide, fun b ys rt H4 hb hS hm hd4 k4 => ?_⟩
    refine ⟨_, _, rfl, ?_⟩
    have k04 : Keep d H H4 := (k1.trans k2).trans (k3.trans k4)
    have ha4 : H4 a = some (.tup xs) := (k3.trans k4).tup hd2 ha
    have hR4 : RingsAt H4 60 xs rs := paired_imp (fun _ _ z => RingAt.most (by decide) z) (rings_keep (k3.trans k4) hd2 hR)
    have hS4 : RingsAt H4 60 ys rt := paired_imp (fun _ _ z => RingAt.most (by decide) z) hS
    have lx : 1 ≤ xs.length ∧ xs.length ≤ 12 := by omega
    have ly : 1 ≤ ys.length ∧ ys.length ≤ 12 := by omega
    have nx : xs ≠ [] := fun z => by
      rw [z] at lx
      exact absurd lx.1 (by decide)
    have ny : ys ≠ [] := fun z => by
      rw [z] at ly
      exact absurd ly.1 (by decide)
    refine ⟨_, rfl, a, _, rfl, .inr (SqT.of ha4), _, rfl, b, _, rfl, .inr (SqT.of hb), _, _, rfl, rfl, _, _, rfl, rfl, _, rfl, ite2 (fun c => ?_) (fun c => ?_)⟩
    · have c2 : (12 : Int) < (xs.length : Int) + (ys.length : Int) := of_decide_eq_true c
      refine ⟨_, rfl, _, rfl, a, b, xs, ys, rs, rt, rfl, ha4, hb, hR4, hS4, lx, ly, fun _ H5 d2 e5 hd5 => ?_, fun z => absurd z (by omega)⟩
      refine ⟨true, TM.te, fun _ a0 _ => ?_, fun y => Bool.noConfusion y⟩
      refine ⟨_, rfl, rfl, rfl, d2, _, rfl, upd_same, rfl, ?_⟩
      have hd5' := hd4.ex e5
      exact q _ (hd5'.upd (hd5'.ne_new hd5)) ((k04.trans (Keep.ex e5)).trans (Keep.new hd5))
    · have c2 : ¬ (12 : Int) < (xs.length : Int) + (ys.length : Int) := fun z => c (decide_eq_true z)
      have lxy : (xs ++ ys).length ≤ 12 := by
        rw [List.length_append]
        omega
      have lxy1 : 1 ≤ (xs ++ ys).length := by
        rw [List.length_append]
        omega
      refine ⟨_, rfl, _, rfl, a, b, xs, ys, rs, rt, rfl, ha4, hb, hR4, hS4, lx, ly, fun z => absurd z (by omega), fun _ p H5 e5 hp => ?_⟩
      have hRS : RingsAt H5 60 (xs ++ ys) (rs ++ rt) := paired_append (rings_ex e5 hR4) (rings_ex e5 hS4)
      refine ⟨_, rfl, _, rfl, _, rfl, a, b, xs, ys, rfl, rfl, SqT.of (e5 _ _ ha4), SqT.of (e5 _ _ hb), nx, sz_of (by omega), fun z => absurd z ny, fun _ p2 hp2 => ?_⟩
      have e6 : Ex H5 (upd H5 p2 (.tup (xs ++ ys))) := Ex.new hp2
      have hp6 := e6 _ _ hp
      have hRS6 := rings_ex e6 hRS
      have h26 : (upd H5 p2 (.tup (xs ++ ys))) p2 = some (.tup (xs ++ ys)) := upd_same
      generalize upd H5 p2 (.tup (xs ++ ys)) = H6 at *
      refine ⟨.tuple ((rs ++ rt).map ringD), .tuple ((rs ++ rt).map ringD), .tup (SqT.of hp6) (dp_rings hRS6), .tup (SqT.of h26) (dp_rings hRS6), shaped_rings _, shaped_rings _, ?_⟩
      rw [eqv_rings]
      refine ⟨true, rfl, iteT ?_⟩
      have e46 := e5.trans e6
      refine ⟨_, rfl, p, xs ++ ys, rs ++ rt, rfl, hp6, hRS6, lxy1, lxy, fun p3 zs H7 e7 hp3 hP3 => ?_⟩
      refine ⟨p3, zs, rfl, .inr (SqT.of hp3), _, rfl, a, xs, rs, rfl, (e46.trans e7) _ _ ha4, rings_ex (e46.trans e7) hR4, lx.1, lx.2, fun p4 zs4 H8 e8 hp4 hP4 => ?_⟩
      have e48 := (e46.trans e7).trans e8
      refine ⟨p4, zs4, rfl, .inr (SqT.of hp4), _, rfl, b, ys, rt, rfl, e48 _ _ hb, rings_ex e48 hS4, ly.1, ly.2, fun p5 zs5 H9 e9 hp5 hP5 => ?_⟩
      refine ⟨p5, zs5, rfl, .inr (SqT.of hp5), _, _, rfl, rfl, _, _, rfl, rfl, rfl, ?_⟩
      have n3 := paired_len hP3
      have n4 := paired_len hP4
      have n5 := paired_len hP5
      have nn := names_joined (a := rs) (b := rt) (by have := paired_len hR4; omega) (by have := paired_len hS4; omega) (fun j hj => rings_ok hR4 j hj) (fun j hj => rings_ok hS4 j hj) (fun j hj => rings_ok hRS j hj)
      have e : decide (V.int (zs.length : Int) = V.int ((zs4.length : Int) + (zs5.length : Int) - 1)) = true := decide_eq_true (by
        rw [show (zs.length : Int) = (zs4.length : Int) + (zs5.length : Int) - 1 by omega])
      show Q (V.bl (decide (V.int (zs.length : Int) = V.int ((zs4.length : Int) + (zs5.length : Int) - 1)))) H9
      rw [e]
      have e49 := e48.trans e9
      exact q _ (hd4.ex e49) (k04.trans (Keep.ex e49))
end
end K1

namespace K1
open PySem PySem.Spec PyProof.Rows L2 Evl K1N
section
variable {P : Program} {w : World} {K : PySem.W.Frag} {mg : Str → Option Value} {base : Heap} {C fI : Addr}
theorem ok_right (T : Txt K mg) (TM : PySem.TmX.TmTxt K mg C fI) {f : Addr} {fd : FuncData} (D : DefAt K mg "_law_right" sLRight ["_law_dice_here"] f fd) : FnOk P w K mg base CX0 8 f fd ["_law_dice_here"] spDiceTrue := by
  refine D.F.ok scLRight (fun vs H Q E h => ?_) (fun cdv A outer s₀ H vs Q E hr h => ?_)
  · obtain ⟨d, rfl, _⟩ := h
    rfl
  · obtain ⟨d, rfl, hd, q⟩ := h
    obtain ⟨f1, fd1, D1⟩ := T.d_l_ring
    obtain ⟨f2, fd2, D2⟩ := T.d_l_ring_right
    obtain ⟨f3, fd3, D3⟩ := T.d_l_rings_judged
    obtain ⟨f4, fd4, D4⟩ := T.d_l_joined_right
    have hr2 : Room 2 _ := hr.mono (by decide)
    have hr5 : Room 5 _ := hr.mono (by decide)
    have hr6 : Room 6 _ := hr.mono (by decide)
    refine ⟨_, pss_cons (ps_for PassesOwn.never rfl (pi_range1 (by rfl) T.z_range (pa_cons pe_int pa_nil)) (pg_name (i := 1) scLRight.nd rfl (.inl rfl))
        (pss_cons (ps_set (i := 2) scLRight.nd rfl (.inl rfl) (pe_call (ok_ring T D1) hr2 (by rfl) D1.g D1.F.kp D1.b .nil pass0 (pa_cons (pv 0) (pa_cons pe_int pa_nil))))
        (pss_one (ps_if (PW.pt (pw_or (pt_not (pt_val (pe_call (ok_ring_right T D2) hr6 (by rfl) D2.g D2.F.kp D2.b .nil pass0 (pa_cons (pv 0) (pa_cons (pv 2) pa_nil)))))
          (pw_or1 (pt_not (pt_val (pe_call (ok_rings_judged T D3) hr5 (by rfl) D3.g D3.F.kp D3.b .nil pass0 (pa_cons (pv 0) (pa_cons (pv 2) pa_nil)))))))) (pss_one (ps_ret pe_bl)) pss_nil))))
      (pss_one (ps_ret (pe_call (ok_joined_right T TM D4) hr (by rfl) D4.g D4.F.kp D4.b .nil pass0 (pa_cons (pv 0) pa_nil)))), ?_⟩
    refine ⟨3, rfl, by decide, by decide, for_range (lo := 0) (n := (3 : Int).toNat) (fun i σ' H' => ∃ y1 y2, σ' = [some (.ref d), y1, y2] ∧ Dice H' d ∧ Keep d H H') ⟨none, none, rfl, hd, Keep.refl _ _⟩ (fun i σ' H' _ hp => ?_) (fun σ' H' hp => ?_)⟩
    · obtain ⟨y1, y2, rfl, hd', k'⟩ := hp
      refine ⟨_, rfl, d, 60, rfl, hd', by decide, by decide, fun x n s H1 hx hd1 k1 => ?_⟩
      refine ⟨_, rfl, _, rfl, d, x, n, s, rfl, hd1, hx, fun H2 hd2 k2 => ⟨true, rfl, iteF ?_⟩⟩
      refine ⟨_, rfl, _, rfl, d, x, n, s, rfl, hd2, hx.keep k2 hd1, fun H3 hd3 k3 => ⟨true, rfl, iteF ?_⟩⟩
      exact ⟨_, _, rfl, hd3, (k'.trans k1).trans (k2.trans k3)⟩
    · obtain ⟨y1, y2, rfl, hd', k'⟩ := hp
      exact ⟨_, rfl, d, rfl, hd', fun H1 hd1 k1 => q H1 hd1 (k'.trans k1)⟩
theorem sql_keep {H H1 H2 : Hp} {p a : Addr} {xs : List V} (h0 : H p = none) (e : Ex H H1) (k : Keep p H1 H2) (h : SqL K H a xs) : SqL K H2 a xs := by
  rcases h with (h | ⟨o, h⟩) | h
  · exact .inl (.inl (k _ _ (ne_of_none h h0) (e _ _ h)))
  · exact .inl (.inr ⟨o, k _ _ (ne_of_none h h0) (e _ _ h)⟩)
  · exact .inr h
def spLaw (K : PySem.W.Frag) : Sp := fun vs H Q _ => ∃ (a : Addr) (ns : List Int), vs = [.ref a] ∧ SqL K H a (ns.map V.int) ∧ ns.length ≤ 63 ∧ ∀ H', Q (.bl true) H'
theorem ok_law (T : Txt K mg) (TM : PySem.TmX.TmTxt K mg C fI) {f : Addr} {fd : FuncData} (F : Fun K "law" "law" sLaw f fd) : FnOk P w K mg base CX0 9 f fd ["_law_script"] (spLaw K) := by
  refine F.ok scLaw (fun vs H Q E h => ?_) (fun cdv A outer s₀ H vs Q E hr h => ?_)
  · obtain ⟨a, ns, rfl, _⟩ := h
    rfl
  · obtain ⟨a, ns, rfl, hS, hlen, q⟩ := h
    obtain ⟨f1, fd1, D1⟩ := T.d_l_right
    obtain ⟨f2, fd2, D2⟩ := T.d_l_dice
    have hr1 : Room 1 _ := hr.mono (by decide)
    refine ⟨_, pss_cons (ps_for PassesOwn.never rfl (pi_range1 (by rfl) T.z_range (pa_cons (pe_callB (call_max2 rfl) (by rfl) T.z_max (by decide +kernel) (pa_cons pe_int (pa_cons
          (pe_callB (call_min2 rfl) (by rfl) T.z_min (by decide +kernel) (pa_cons pe_int (pa_cons (pe_callB call_len_seq (by rfl) T.z_len PySem.boot_len (pa_cons (pv 0) pa_nil)) pa_nil))) pa_nil))) pa_nil)) (pg_name (i := 1) scLaw.nd rfl (.inl rfl))
        (pss_one (ps_if (pt_not (pt_val (pe_call (ok_right T TM D1) hr (by rfl) D1.g D1.F.kp D1.b .nil pass0 (pa_cons (pe_call (ok_dice T D2) hr1 (by rfl) D2.g D2.F.kp D2.b .nil pass0 (pa_cons (pv 0) (pa_cons (pv 1) pa_nil))) pa_nil)))) (pss_one (ps_ret pe_bl)) pss_nil)))
      (pss_one (ps_ret pe_bl)), ?_⟩
    refine ⟨.ref a, rfl, a, _, rfl, .inl hS, 6, _, rfl, 1, _, rfl, _, rfl, ?_, ?_, for_range (lo := 0) (n := Int.toNat _) (fun i σ' H' => ∃ y1, σ' = [some (.ref a), y1] ∧ SqL K H' a (ns.map V.int)) ⟨none, rfl, hS⟩ (fun i σ' H' _ hp => ?_) (fun σ' H' hp => ?_)⟩
    · split <;> split <;> omega
    · rw [List.length_map]
      split <;> split <;> omega
    · obtain ⟨y1, rfl, hS'⟩ := hp
      refine ⟨.ref a, rfl, .int (0 + (i : Int)), rfl, a, ns, i, ?_, hS', fun p H1 hp0 e1 hd1 => ?_⟩
      · rw [Int.zero_add]
        rfl
      · refine ⟨p, rfl, hd1, fun H2 hd2 k2 => ⟨true, rfl, iteF ⟨_, rfl, ?_⟩⟩⟩
        exact sql_keep hp0 e1 k2 hS'
    · exact q _
end
end K1

namespace K1
open PySem PySem.Spec PyProof.Rows L2
/-- what a def of the text leaves -/
theorem mk_def {K : PySem.W.Frag} {h : Heap} {mg : Str → Option Value} {x : Str} {st : Stmt} {ps : List Str} {f : Addr} {oc : Value} {od an : Option Addr} {osl : Array (Option Value)} {kV doc pm cdv ct : Value} (X : K.In h) (G : h.Ns mainGlobals mg)
    (a : PySem.W.nsIn K mainGlobals x = some (some (.ref f))) (l : K.lookup f = some ⟨oc, od, .func (PySem.W.fnOf x x (defArgs st) (defBody st) (defScope st) .none kV doc pm an cdv ct), osl⟩) (c : PySem.W.codeIn K cdv x = true) (k : PySem.W.keepIn K (.ref f) = true)
    (b : ∀ (kV doc pm : Value) (an : Option Addr) (cdv ct : Value) (us : List Value), us.length = ps.length → bindArgs (PySem.W.fnOf x x (defArgs st) (defBody st) (defScope st) .none kV doc pm an cdv ct) ⟨us, []⟩ = pure (ps.zip us)) :
    ∃ f fd, DefAt K mg x st ps f fd := ⟨f, _, ⟨fun_mk (st := st) l c k, PySem.W.mg_of X G a, (fun_mk (st := st) l c k).binds b⟩⟩
/-- an error of the class at S is what «except S» names -/
theorem exm_self {K : PySem.W.Frag} {S : Addr} (h1 : PySem.W.subIn K (.ref S) (.type "BaseException") = some true) (h2 : PySem.W.isClsIn K S = true) (h3 : PySem.W.typeIn K (.ref S) = some (.type "type")) (h4 : PySem.W.subIn K (.ref S) (.ref S) = some true) :
    PySem.W.exmOne K (.ref S) (.ref S) = some true := by
  have e1 : (PySem.W.subIn K (.ref S) (.type "BaseException") == some true) = true := by rw [h1] <;> rfl
  have e2 : ((PySem.W.clsIn K S).isSome && PySem.W.typeIn K (.ref S) == some (.type "type")) = true := by
    have h2' : (PySem.W.clsIn K S).isSome = true := h2
    rw [h2', h3] <;> rfl
  show (if (PySem.W.subIn K (.ref S) (.type "BaseException") == some true) = true then (if ((PySem.W.clsIn K S).isSome && PySem.W.typeIn K (.ref S) == some (.type "type")) = true then PySem.W.subIn K (.ref S) (.ref S) else none) else none) = some true
  rw [if_pos e1, if_pos e2]
  exact h4
theorem all_mk {P : Program} {w : World} {K : PySem.W.Frag} {h : Heap} {mg : Str → Option Value} {fa : Addr} (X : K.In h) (G : h.Ns mainGlobals mg) (hfa : mg "law" = some (.ref fa)) (vB : ∃ t, mg "BOUND" = some (.int (10 ^ 60) t))
    {t12 t60 : Tok} (g12 : PySem.W.nsIn K mainGlobals "MOST_RINGS" = some (some (.int 12 t12))) (g60 : PySem.W.nsIn K mainGlobals "MOST_PLACES" = some (some (.int 60 t60))) (gg1 : PySem.W.nsIn K mainGlobals "gcd" = some (some (.builtin "math.gcd")))
    (z_isinstance : PySem.W.nsIn K mainGlobals "isinstance" = some none) (z_len : PySem.W.nsIn K mainGlobals "len" = some none) (z_int : PySem.W.nsIn K mainGlobals "int" = some none) (z_bool : PySem.W.nsIn K mainGlobals "bool" = some none) (z_tuple : PySem.W.nsIn K mainGlobals "tuple" = some none) (z_all : PySem.W.nsIn K mainGlobals "all" = some none) (z_range : PySem.W.nsIn K mainGlobals "range" = some none) (z_abs : PySem.W.nsIn K mainGlobals "abs" = some none) (z_min : PySem.W.nsIn K mainGlobals "min" = some none) (z_max : PySem.W.nsIn K mainGlobals "max" = some none) (z_enumerate : PySem.W.nsIn K mainGlobals "enumerate" = some none)
    {f0 : Addr} {oc0 : Value} {od0 an0 : Option Addr} {sl0 : Array (Option Value)} {kV0 dc0 pm0 cd0 ct0 : Value}
    (a0 : PySem.W.nsIn K mainGlobals "is_integer" = some (some (.ref f0))) (l0 : K.lookup f0 = some ⟨oc0, od0, .func (PySem.W.fnOf "is_integer" "is_integer" (defArgs sIsInteger) (defBody sIsInteger) (defScope sIsInteger) .none kV0 dc0 pm0 an0 cd0 ct0), sl0⟩) (c0 : PySem.W.codeIn K cd0 "is_integer" = true) (k0 : PySem.W.keepIn K (.ref f0) = true)
    {f1 : Addr} {oc1 : Value} {od1 an1 : Option Addr} {sl1 : Array (Option Value)} {kV1 dc1 pm1 cd1 ct1 : Value}
    (a1 : PySem.W.nsIn K mainGlobals "is_between" = some (some (.ref f1))) (l1 : K.lookup f1 = some ⟨oc1, od1, .func (PySem.W.fnOf "is_between" "is_between" (defArgs sIsBetween) (defBody sIsBetween) (defScope sIsBetween) .none kV1 dc1 pm1 an1 cd1 ct1), sl1⟩) (c1 : PySem.W.codeIn K cd1 "is_between" = true) (k1 : PySem.W.keepIn K (.ref f1) = true)
    {f2 : Addr} {oc2 : Value} {od2 an2 : Option Addr} {sl2 : Array (Option Value)} {kV2 dc2 pm2 cd2 ct2 : Value}
    (a2 : PySem.W.nsIn K mainGlobals "is_pair" = some (some (.ref f2))) (l2 : K.lookup f2 = some ⟨oc2, od2, .func (PySem.W.fnOf "is_pair" "is_pair" (defArgs sIsPair) (defBody sIsPair) (defScope sIsPair) .none kV2 dc2 pm2 an2 cd2 ct2), sl2⟩) (c2 : PySem.W.codeIn K cd2 "is_pair" = true) (k2 : PySem.W.keepIn K (.ref f2) = true)
    {f3 : Addr} {oc3 : Value} {od3 an3 : Option Addr} {sl3 : Array (Option Value)} {kV3 dc3 pm3 cd3 ct3 : Value}
    (a3 : PySem.W.nsIn K mainGlobals "check_integer" = some (some (.ref f3))) (l3 : K.lookup f3 = some ⟨oc3, od3, .func (PySem.W.fnOf "check_integer" "check_integer" (defArgs sCheckInteger) (defBody sCheckInteger) (defScope sCheckInteger) .none kV3 dc3 pm3 an3 cd3 ct3), sl3⟩) (c3 : PySem.W.codeIn K cd3 "check_integer" = true) (k3 : PySem.W.keepIn K (.ref f3) = true)
    {f4 : Addr} {oc4 : Value} {od4 an4 : Option Addr} {sl4 : Array (Option Value)} {kV4 dc4 pm4 cd4 ct4 : Value}
    (a4 : PySem.W.nsIn K mainGlobals "is_ring" = some (some (.ref f4))) (l4 : K.lookup f4 = some ⟨oc4, od4, .func (PySem.W.fnOf "is_ring" "is_ring" (defArgs sIsRing) (defBody sIsRing) (defScope sIsRing) .none kV4 dc4 pm4 an4 cd4 ct4), sl4⟩) (c4 : PySem.W.codeIn K cd4 "is_ring" = true) (k4 : PySem.W.keepIn K (.ref f4) = true)
    {f5 : Addr} {oc5 : Value} {od5 an5 : Option Addr} {sl5 : Array (Option Value)} {kV5 dc5 pm5 cd5 ct5 : Value}
    (a5 : PySem.W.nsIn K mainGlobals "is_chain" = some (some (.ref f5))) (l5 : K.lookup f5 = some ⟨oc5, od5, .func (PySem.W.fnOf "is_chain" "is_chain" (defArgs sIsChain) (defBody sIsChain) (defScope sIsChain) .none kV5 dc5 pm5 an5 cd5 ct5), sl5⟩) (c5 : PySem.W.codeIn K cd5 "is_chain" = true) (k5 : PySem.W.keepIn K (.ref f5) = true)
    {f6 : Addr} {oc6 : Value} {od6 an6 : Option Addr} {sl6 : Array (Option Value)} {kV6 dc6 pm6 cd6 ct6 : Value}
    (a6 : PySem.W.nsIn K mainGlobals "check_ring" = some (some (.ref f6))) (l6 : K.lookup f6 = some ⟨oc6, od6, .func (PySem.W.fnOf "check_ring" "check_ring" (defArgs sCheckRing) (defBody sCheckRing) (defScope sCheckRing) .none kV6 dc6 pm6 an6 cd6 ct6), sl6⟩) (c6 : PySem.W.codeIn K cd6 "check_ring" = true) (k6 : PySem.W.keepIn K (.ref f6) = true)
    {f7 : Addr} {oc7 : Value} {od7 an7 : Option Addr} {sl7 : Array (Option Value)} {kV7 dc7 pm7 cd7 ct7 : Value}
    (a7 : PySem.W.nsIn K mainGlobals "check_chain" = some (some (.ref f7))) (l7 : K.lookup f7 = some ⟨oc7, od7, .func (PySem.W.fnOf "check_chain" "check_chain" (defArgs sCheckChain) (defBody sCheckChain) (defScope sCheckChain) .none kV7 dc7 pm7 an7 cd7 ct7), sl7⟩) (c7 : PySem.W.codeIn K cd7 "check_chain" = true) (k7 : PySem.W.keepIn K (.ref f7) = true)
    {f8 : Addr} {oc8 : Value} {od8 an8 : Option Addr} {sl8 : Array (Option Value)} {kV8 dc8 pm8 cd8 ct8 : Value}
    (a8 : PySem.W.nsIn K mainGlobals "order_of" = some (some (.ref f8))) (l8 : K.lookup f8 = some ⟨oc8, od8, .func (PySem.W.fnOf "order_of" "order_of" (defArgs sOrderOf) (defBody sOrderOf) (defScope sOrderOf) .none kV8 dc8 pm8 an8 cd8 ct8), sl8⟩) (c8 : PySem.W.codeIn K cd8 "order_of" = true) (k8 : PySem.W.keepIn K (.ref f8) = true)
    {f9 : Addr} {oc9 : Value} {od9 an9 : Option Addr} {sl9 : Array (Option Value)} {kV9 dc9 pm9 cd9 ct9 : Value}
    (a9 : PySem.W.nsIn K mainGlobals "lets" = some (some (.ref f9))) (l9 : K.lookup f9 = some ⟨oc9, od9, .func (PySem.W.fnOf "lets" "lets" (defArgs sLets) (defBody sLets) (defScope sLets) .none kV9 dc9 pm9 an9 cd9 ct9), sl9⟩) (c9 : PySem.W.codeIn K cd9 "lets" = true) (k9 : PySem.W.keepIn K (.ref f9) = true)
    {f10 : Addr} {oc10 : Value} {od10 an10 : Option Addr} {sl10 : Array (Option Value)} {kV10 dc10 pm10 cd10 ct10 : Value}
    (a10 : PySem.W.nsIn K mainGlobals "does_let" = some (some (.ref f10))) (l10 : K.lookup f10 = some ⟨oc10, od10, .func (PySem.W.fnOf "does_let" "does_let" (defArgs sDoesLet) (defBody sDoesLet) (defScope sDoesLet) .none kV10 dc10 pm10 an10 cd10 ct10), sl10⟩) (c10 : PySem.W.codeIn K cd10 "does_let" = true) (k10 : PySem.W.keepIn K (.ref f10) = true)
    {f11 : Addr} {oc11 : Value} {od11 an11 : Option Addr} {sl11 : Array (Option Value)} {kV11 dc11 pm11 cd11 ct11 : Value}
    (a11 : PySem.W.nsIn K mainGlobals "written_name" = some (some (.ref f11))) (l11 : K.lookup f11 = some ⟨oc11, od11, .func (PySem.W.fnOf "written_name" "written_name" (defArgs sWrittenName) (defBody sWrittenName) (defScope sWrittenName) .none kV11 dc11 pm11 an11 cd11 ct11), sl11⟩) (c11 : PySem.W.codeIn K cd11 "written_name" = true) (k11 : PySem.W.keepIn K (.ref f11) = true)
    {f12 : Addr} {oc12 : Value} {od12 an12 : Option Addr} {sl12 : Array (Option Value)} {kV12 dc12 pm12 cd12 ct12 : Value}
    (a12 : PySem.W.nsIn K mainGlobals "names_of" = some (some (.ref f12))) (l12 : K.lookup f12 = some ⟨oc12, od12, .func (PySem.W.fnOf "names_of" "names_of" (defArgs sNamesOf) (defBody sNamesOf) (defScope sNamesOf) .none kV12 dc12 pm12 an12 cd12 ct12), sl12⟩) (c12 : PySem.W.codeIn K cd12 "names_of" = true) (k12 : PySem.W.keepIn K (.ref f12) = true)
    {f13 : Addr} {oc13 : Value} {od13 an13 : Option Addr} {sl13 : Array (Option Value)} {kV13 dc13 pm13 cd13 ct13 : Value}
    (a13 : PySem.W.nsIn K mainGlobals "places_of" = some (some (.ref f13))) (l13 : K.lookup f13 = some ⟨oc13, od13, .func (PySem.W.fnOf "places_of" "places_of" (defArgs sPlacesOf) (defBody sPlacesOf) (defScope sPlacesOf) .none kV13 dc13 pm13 an13 cd13 ct13), sl13⟩) (c13 : PySem.W.codeIn K cd13 "places_of" = true) (k13 : PySem.W.keepIn K (.ref f13) = true)
    {f14 : Addr} {oc14 : Value} {od14 an14 : Option Addr} {sl14 : Array (Option Value)} {kV14 dc14 pm14 cd14 ct14 : Value}
    (a14 : PySem.W.nsIn K mainGlobals "joined_chains" = some (some (.ref f14))) (l14 : K.lookup f14 = some ⟨oc14, od14, .func (PySem.W.fnOf "joined_chains" "joined_chains" (defArgs sJoinedChains) (defBody sJoinedChains) (defScope sJoinedChains) .none kV14 dc14 pm14 an14 cd14 ct14), sl14⟩) (c14 : PySem.W.codeIn K cd14 "joined_chains" = true) (k14 : PySem.W.keepIn K (.ref f14) = true)
    {f15 : Addr} {oc15 : Value} {od15 an15 : Option Addr} {sl15 : Array (Option Value)} {kV15 dc15 pm15 cd15 ct15 : Value}
    (a15 : PySem.W.nsIn K mainGlobals "_law_dice" = some (some (.ref f15))) (l15 : K.lookup f15 = some ⟨oc15, od15, .func (PySem.W.fnOf "_law_dice" "_law_dice" (defArgs sLDice) (defBody sLDice) (defScope sLDice) .none kV15 dc15 pm15 an15 cd15 ct15), sl15⟩) (c15 : PySem.W.codeIn K cd15 "_law_dice" = true) (k15 : PySem.W.keepIn K (.ref f15) = true)
    {f16 : Addr} {oc16 : Value} {od16 an16 : Option Addr} {sl16 : Array (Option Value)} {kV16 dc16 pm16 cd16 ct16 : Value}
    (a16 : PySem.W.nsIn K mainGlobals "_law_roll" = some (some (.ref f16))) (l16 : K.lookup f16 = some ⟨oc16, od16, .func (PySem.W.fnOf "_law_roll" "_law_roll" (defArgs sLRoll) (defBody sLRoll) (defScope sLRoll) .none kV16 dc16 pm16 an16 cd16 ct16), sl16⟩) (c16 : PySem.W.codeIn K cd16 "_law_roll" = true) (k16 : PySem.W.keepIn K (.ref f16) = true)
    {f17 : Addr} {oc17 : Value} {od17 an17 : Option Addr} {sl17 : Array (Option Value)} {kV17 dc17 pm17 cd17 ct17 : Value}
    (a17 : PySem.W.nsIn K mainGlobals "_law_one_of" = some (some (.ref f17))) (l17 : K.lookup f17 = some ⟨oc17, od17, .func (PySem.W.fnOf "_law_one_of" "_law_one_of" (defArgs sLOneOf) (defBody sLOneOf) (defScope sLOneOf) .none kV17 dc17 pm17 an17 cd17 ct17), sl17⟩) (c17 : PySem.W.codeIn K cd17 "_law_one_of" = true) (k17 : PySem.W.keepIn K (.ref f17) = true)
    {f18 : Addr} {oc18 : Value} {od18 an18 : Option Addr} {sl18 : Array (Option Value)} {kV18 dc18 pm18 cd18 ct18 : Value}
    (a18 : PySem.W.nsIn K mainGlobals "_law_common" = some (some (.ref f18))) (l18 : K.lookup f18 = some ⟨oc18, od18, .func (PySem.W.fnOf "_law_common" "_law_common" (defArgs sLCommon) (defBody sLCommon) (defScope sLCommon) .none kV18 dc18 pm18 an18 cd18 ct18), sl18⟩) (c18 : PySem.W.codeIn K cd18 "_law_common" = true) (k18 : PySem.W.keepIn K (.ref f18) = true)
    {f19 : Addr} {oc19 : Value} {od19 an19 : Option Addr} {sl19 : Array (Option Value)} {kV19 dc19 pm19 cd19 ct19 : Value}
    (a19 : PySem.W.nsIn K mainGlobals "_law_ring" = some (some (.ref f19))) (l19 : K.lookup f19 = some ⟨oc19, od19, .func (PySem.W.fnOf "_law_ring" "_law_ring" (defArgs sLRing) (defBody sLRing) (defScope sLRing) .none kV19 dc19 pm19 an19 cd19 ct19), sl19⟩) (c19 : PySem.W.codeIn K cd19 "_law_ring" = true) (k19 : PySem.W.keepIn K (.ref f19) = true)
    {f20 : Addr} {oc20 : Value} {od20 an20 : Option Addr} {sl20 : Array (Option Value)} {kV20 dc20 pm20 cd20 ct20 : Value}
    (a20 : PySem.W.nsIn K mainGlobals "_law_ring_of" = some (some (.ref f20))) (l20 : K.lookup f20 = some ⟨oc20, od20, .func (PySem.W.fnOf "_law_ring_of" "_law_ring_of" (defArgs sLRingOf) (defBody sLRingOf) (defScope sLRingOf) .none kV20 dc20 pm20 an20 cd20 ct20), sl20⟩) (c20 : PySem.W.codeIn K cd20 "_law_ring_of" = true) (k20 : PySem.W.keepIn K (.ref f20) = true)
    {f21 : Addr} {oc21 : Value} {od21 an21 : Option Addr} {sl21 : Array (Option Value)} {kV21 dc21 pm21 cd21 ct21 : Value}
    (a21 : PySem.W.nsIn K mainGlobals "_law_chain" = some (some (.ref f21))) (l21 : K.lookup f21 = some ⟨oc21, od21, .func (PySem.W.fnOf "_law_chain" "_law_chain" (defArgs sLChain) (defBody sLChain) (defScope sLChain) .none kV21 dc21 pm21 an21 cd21 ct21), sl21⟩) (c21 : PySem.W.codeIn K cd21 "_law_chain" = true) (k21 : PySem.W.keepIn K (.ref f21) = true)
    {f22 : Addr} {oc22 : Value} {od22 an22 : Option Addr} {sl22 : Array (Option Value)} {kV22 dc22 pm22 cd22 ct22 : Value}
    (a22 : PySem.W.nsIn K mainGlobals "_law_steps" = some (some (.ref f22))) (l22 : K.lookup f22 = some ⟨oc22, od22, .func (PySem.W.fnOf "_law_steps" "_law_steps" (defArgs sLSteps) (defBody sLSteps) (defScope sLSteps) .none kV22 dc22 pm22 an22 cd22 ct22), sl22⟩) (c22 : PySem.W.codeIn K cd22 "_law_steps" = true) (k22 : PySem.W.keepIn K (.ref f22) = true)
    {f23 : Addr} {oc23 : Value} {od23 an23 : Option Addr} {sl23 : Array (Option Value)} {kV23 dc23 pm23 cd23 ct23 : Value}
    (a23 : PySem.W.nsIn K mainGlobals "_law_ring_right" = some (some (.ref f23))) (l23 : K.lookup f23 = some ⟨oc23, od23, .func (PySem.W.fnOf "_law_ring_right" "_law_ring_right" (defArgs sLRingRight) (defBody sLRingRight) (defScope sLRingRight) .none kV23 dc23 pm23 an23 cd23 ct23), sl23⟩) (c23 : PySem.W.codeIn K cd23 "_law_ring_right" = true) (k23 : PySem.W.keepIn K (.ref f23) = true)
    {f24 : Addr} {oc24 : Value} {od24 an24 : Option Addr} {sl24 : Array (Option Value)} {kV24 dc24 pm24 cd24 ct24 : Value}
    (a24 : PySem.W.nsIn K mainGlobals "_law_rings_judged" = some (some (.ref f24))) (l24 : K.lookup f24 = some ⟨oc24, od24, .func (PySem.W.fnOf "_law_rings_judged" "_law_rings_judged" (defArgs sLRingsJudged) (defBody sLRingsJudged) (defScope sLRingsJudged) .none kV24 dc24 pm24 an24 cd24 ct24), sl24⟩) (c24 : PySem.W.codeIn K cd24 "_law_rings_judged" = true) (k24 : PySem.W.keepIn K (.ref f24) = true)
    {f25 : Addr} {oc25 : Value} {od25 an25 : Option Addr} {sl25 : Array (Option Value)} {kV25 dc25 pm25 cd25 ct25 : Value}
    (a25 : PySem.W.nsIn K mainGlobals "_law_joined_right" = some (some (.ref f25))) (l25 : K.lookup f25 = some ⟨oc25, od25, .func (PySem.W.fnOf "_law_joined_right" "_law_joined_right" (defArgs sLJoinedRight) (defBody sLJoinedRight) (defScope sLJoinedRight) .none kV25 dc25 pm25 an25 cd25 ct25), sl25⟩) (c25 : PySem.W.codeIn K cd25 "_law_joined_right" = true) (k25 : PySem.W.keepIn K (.ref f25) = true)
    {f26 : Addr} {oc26 : Value} {od26 an26 : Option Addr} {sl26 : Array (Option Value)} {kV26 dc26 pm26 cd26 ct26 : Value}
    (a26 : PySem.W.nsIn K mainGlobals "_law_right" = some (some (.ref f26))) (l26 : K.lookup f26 = some ⟨oc26, od26, .func (PySem.W.fnOf "_law_right" "_law_right" (defArgs sLRight) (defBody sLRight) (defScope sLRight) .none kV26 dc26 pm26 an26 cd26 ct26), sl26⟩) (c26 : PySem.W.codeIn K cd26 "_law_right" = true) (k26 : PySem.W.keepIn K (.ref f26) = true)
    {f27 : Addr} {oc27 : Value} {od27 an27 : Option Addr} {sl27 : Array (Option Value)} {kV27 dc27 pm27 cd27 ct27 : Value}
    (a27 : PySem.W.nsIn K mainGlobals "law" = some (some (.ref f27))) (l27 : K.lookup f27 = some ⟨oc27, od27, .func (PySem.W.fnOf "law" "law" (defArgs sLaw) (defBody sLaw) (defScope sLaw) .none kV27 dc27 pm27 an27 cd27 ct27), sl27⟩) (c27 : PySem.W.codeIn K cd27 "law" = true) (k27 : PySem.W.keepIn K (.ref f27) = true)
    {C fI N : Addr} {nm q : Str} {bs : List Value} {sn : List Str} {sub : List Value} {ab : Bool} {col : Option Bool} {dd : Option Addr} {m0 m1 m2 m3 m5 : Option Value} {odI anI : Option Addr} {slI : Array (Option Value)} {ocI dcI pmI cdI ctI : Value}
    (aC : PySem.W.nsIn K mainGlobals "TooMany" = some (some (.ref C)))
    (xL : K.lookup C = some (excClassObj nm q C N bs [.type "OverflowError", .type "ArithmeticError", .type "Exception", .type "BaseException", .type "object"] true sn sub ab col dd m0 m1 m2 m3 m5 "OverflowError.__new__"))
    (sa : PySem.W.findIn K (.ref C) "__setattr__" = some (some (.builtin "object.__setattr__"))) (ga : PySem.W.findIn K (.ref C) "__getattribute__" = some (some (.builtin "BaseException.__getattribute__"))) (gg : PySem.W.findIn K (.ref C) "__getattr__" = some none) (nb : PySem.W.findIn K (.ref C) "limit" = some none)
    (aI : PySem.W.findIn K (.ref C) "__init__" = some (some (.ref fI))) (tI : PySem.W.typeIn K (.ref fI) = some (.type "function"))
    (lI : K.lookup fI = some ⟨ocI, odI, .func (PySem.W.fnOf "__init__" "TooMany.__init__" (PySem.TmX.iA ⟨13, 17, 13, 21⟩ ⟨13, 23, 13, 28⟩) (PySem.TmX.iB ⟨14, 8, 14, 12⟩ ⟨14, 8, 14, 18⟩ ⟨14, 21, 14, 26⟩ ⟨14, 8, 14, 26⟩) PySem.TmX.iS .none .none dcI pmI anI cdI ctI), slI⟩) (cI : PySem.W.codeIn K cdI "TooMany.__init__" = true)
    (kC : PySem.W.keepIn K (.ref C) = true) (eC : PySem.W.subIn K (.ref C) (.type "BaseException") = some true) (tC : PySem.W.typeIn K (.ref C) = some (.type "type")) (hC : PySem.W.hasDictIn K C = true) (iC : PySem.W.isClsIn K C = true) (sC : PySem.W.subIn K (.ref C) (.ref C) = some true) :
    ∃ fd : FuncData, (∀ (s : Shared) (v : Value), BindsTo s fd ⟨[v], []⟩ [("_law_script", v)]) ∧ ∀ base : Heap, K.In base → base.Ns mainGlobals mg → FnOk P w K mg base CX0 9 fa fd ["_law_script"] (spLaw K) := by
  have e := hfa.symm.trans (PySem.W.mg_of X G a27)
  cases e
  have TM : PySem.TmX.TmTxt K mg C fI :=
    { gC := PySem.W.mg_of X G aC, cls := ⟨nm, q, N, bs, sn, sub, ab, col, dd, m0, m1, m2, m3, m5, xL⟩, sa := sa, ga := ga, gg := gg, noN := nb, iC := aI, tC := tI, kC := kC, exC := eC, tyC := tC, hdC := hC, te := exm_self eC iC tC sC,
      fn := ⟨_, _, _, _, _, _, _, _, _, _, _, _, _, _, lI, cI⟩ }
  have T : Txt K mg :=
    { z_isinstance := PySem.W.mg_none_of X G z_isinstance, z_len := PySem.W.mg_none_of X G z_len, z_int := PySem.W.mg_none_of X G z_int, z_bool := PySem.W.mg_none_of X G z_bool, z_tuple := PySem.W.mg_none_of X G z_tuple, z_all := PySem.W.mg_none_of X G z_all, z_range := PySem.W.mg_none_of X G z_range, z_abs := PySem.W.mg_none_of X G z_abs, z_min := PySem.W.mg_none_of X G z_min, z_max := PySem.W.mg_none_of X G z_max, z_enumerate := PySem.W.mg_none_of X G z_enumerate,
      v_gcd := PySem.W.mg_of X G gg1, v_BOUND := vB, v_RINGS := ⟨t12, PySem.W.mg_of X G g12⟩, v_PLACES := ⟨t60, PySem.W.mg_of X G g60⟩,
      d_is_integer := mk_def (ps := ["value"]) X G a0 l0 c0 k0 fun _ _ _ _ _ _ us hl => match us, hl with | [_], _ => rfl,
      d_is_between := mk_def (ps := ["value", "low", "high"]) X G a1 l1 c1 k1 fun _ _ _ _ _ _ us hl => match us, hl with | [_, _, _], _ => rfl,
      d_is_pair := mk_def (ps := ["value"]) X G a2 l2 c2 k2 fun _ _ _ _ _ _ us hl => match us, hl with | [_], _ => rfl,
      d_check_integer := mk_def (ps := ["value"]) X G a3 l3 c3 k3 fun _ _ _ _ _ _ us hl => match us, hl with | [_], _ => rfl,
      d_is_ring := mk_def (ps := ["value"]) X G a4 l4 c4 k4 fun _ _ _ _ _ _ us hl => match us, hl with | [_], _ => rfl,
      d_is_chain := mk_def (ps := ["value"]) X G a5 l5 c5 k5 fun _ _ _ _ _ _ us hl => match us, hl with | [_], _ => rfl,
      d_check_ring := mk_def (ps := ["ring"]) X G a6 l6 c6 k6 fun _ _ _ _ _ _ us hl => match us, hl with | [_], _ => rfl,
      d_check_chain := mk_def (ps := ["chain"]) X G a7 l7 c7 k7 fun _ _ _ _ _ _ us hl => match us, hl with | [_], _ => rfl,
      d_order_of := mk_def (ps := ["ring"]) X G a8 l8 c8 k8 fun _ _ _ _ _ _ us hl => match us, hl with | [_], _ => rfl,
      d_lets := mk_def (ps := ["ring", "place", "diagonal"]) X G a9 l9 c9 k9 fun _ _ _ _ _ _ us hl => match us, hl with | [_, _, _], _ => rfl,
      d_does_let := mk_def (ps := ["ring", "place", "diagonal"]) X G a10 l10 c10 k10 fun _ _ _ _ _ _ us hl => match us, hl with | [_, _, _], _ => rfl,
      d_written_name := mk_def (ps := ["chain", "place"]) X G a11 l11 c11 k11 fun _ _ _ _ _ _ us hl => match us, hl with | [_, _], _ => rfl,
      d_names_of := mk_def (ps := ["chain"]) X G a12 l12 c12 k12 fun _ _ _ _ _ _ us hl => match us, hl with | [_], _ => rfl,
      d_places_of := mk_def (ps := ["chain"]) X G a13 l13 c13 k13 fun _ _ _ _ _ _ us hl => match us, hl with | [_], _ => rfl,
      d_joined_chains := mk_def (ps := ["one", "other"]) X G a14 l14 c14 k14 fun _ _ _ _ _ _ us hl => match us, hl with | [_, _], _ => rfl,
      d_l_dice := mk_def (ps := ["_law_script", "_law_at"]) X G a15 l15 c15 k15 fun _ _ _ _ _ _ us hl => match us, hl with | [_, _], _ => rfl,
      d_l_roll := mk_def (ps := ["_law_dice_here", "_law_total"]) X G a16 l16 c16 k16 fun _ _ _ _ _ _ us hl => match us, hl with | [_, _], _ => rfl,
      d_l_one_of := mk_def (ps := ["_law_dice_here", "_law_items"]) X G a17 l17 c17 k17 fun _ _ _ _ _ _ us hl => match us, hl with | [_, _], _ => rfl,
      d_l_common := mk_def (ps := ["_law_one", "_law_other"]) X G a18 l18 c18 k18 fun _ _ _ _ _ _ us hl => match us, hl with | [_, _], _ => rfl,
      d_l_ring := mk_def (ps := ["_law_dice_here", "_law_most"]) X G a19 l19 c19 k19 fun _ _ _ _ _ _ us hl => match us, hl with | [_, _], _ => rfl,
      d_l_ring_of := mk_def (ps := ["_law_dice_here", "_law_k", "_law_times"]) X G a20 l20 c20 k20 fun _ _ _ _ _ _ us hl => match us, hl with | [_, _, _], _ => rfl,
      d_l_chain := mk_def (ps := ["_law_dice_here", "_law_rings", "_law_most"]) X G a21 l21 c21 k21 fun _ _ _ _ _ _ us hl => match us, hl with | [_, _, _], _ => rfl,
      d_l_steps := mk_def (ps := ["_law_ring_here"]) X G a22 l22 c22 k22 fun _ _ _ _ _ _ us hl => match us, hl with | [_], _ => rfl,
      d_l_ring_right := mk_def (ps := ["_law_dice_here", "_law_ring_here"]) X G a23 l23 c23 k23 fun _ _ _ _ _ _ us hl => match us, hl with | [_, _], _ => rfl,
      d_l_rings_judged := mk_def (ps := ["_law_dice_here", "_law_ring_here"]) X G a24 l24 c24 k24 fun _ _ _ _ _ _ us hl => match us, hl with | [_, _], _ => rfl,
      d_l_joined_right := mk_def (ps := ["_law_dice_here"]) X G a25 l25 c25 k25 fun _ _ _ _ _ _ us hl => match us, hl with | [_], _ => rfl,
      d_l_right := mk_def (ps := ["_law_dice_here"]) X G a26 l26 c26 k26 fun _ _ _ _ _ _ us hl => match us, hl with | [_], _ => rfl }
  have F := fun_mk (st := sLaw) l27 c27 k27
  exact ⟨PySem.W.fnOf "law" "law" (defArgs sLaw) (defBody sLaw) (defScope sLaw) .none kV27 dc27 pm27 an27 cd27 ct27, fun s v => .of_eq rfl, fun base _ _ => ok_law T TM F⟩
/-- the end of the law's row, what the loose names hold told -/
theorem walk_x {l : PySem.W.OpenLaw} {k : Nat} {q : Program} {loose : List Str} {lv : List (Str × PySem.W.WData)} {YP : World → Heap → Prop} {d : DefRec} {K : Params → PySem.W.Frag}
    (hn : l.most = some 63) (hdf : d.params.defaults = []) (hr : Room k callerA) (hY : ∀ (w : World) (h : Heap), YP w h → (K w.params).In h)
    (F : ∀ (w : World) (mg : Str → Option Value) (fa : Addr) (h : Heap), (K w.params).In h → h.Ns mainGlobals mg → PySem.W.XL q lv mg h → mg d.name = some (.ref fa) →
      ∃ fd : FuncData, (∀ (s : Shared) (u : Value), BindsTo s fd ⟨[u], []⟩ [("_law_script", u)]) ∧
        ∀ base : Heap, (K w.params).In base → base.Ns mainGlobals mg → FnOk l.prog w (K w.params) mg base CX0 k fa fd ["_law_script"] (spLaw (K w.params))) :
    PySem.W.WalkO q loose (PySem.W.XL q lv) YP l.row.toRowW d [] (fun f vs => PySem.call f vs) := by
  refine Att.attach_call hn hdf fun w s₀ s₁ mg mb fa o pm cd doc a vs ns G Y ho hd hcd hmg hobj hints hlen hg => ?_
  obtain ⟨fd, hb, hF⟩ := F w mg fa _ (hY w _ Y) G.T.g G.X hmg
  exact law_call (hY w _ Y) G.T.g G.T.b G.T.builtins G.T.nolimit hg hobj hints (Nat.le_trans hlen (by decide)) hr hF hb (fun H _ hS => ⟨a, ns, rfl, hS, hlen, fun _ => rfl⟩) fun H e s' z => z
end K1

open PySem PySem.W PyProof.Rows
set_option maxHeartbeats 0 in
theorem PySem.Challenge.cw_ringstairs_k01_orders_and_let_diagonals_holds : PySem.Challenge.rw_ringstairs_k01_orders_and_let_diagonals.Holds := by
  w_on; o_law; k_head; (case hw => w_witness2)
  k_fill
  refine K1.walk_x (k := 9) rfl rfl ⟨rfl, by decide, by decide⟩ (fun w h Y => PySem.W.kIn_of Y) ?F
  case F =>
    intro w mg fa h KX G XF hmg
    have vB : ∃ t, mg "BOUND" = some (.int (10 ^ 60) t) := by
      obtain ⟨v, e1, e2⟩ := XF.2.val _ (List.mem_cons_self ..)
      cases e2
      exact ⟨_, e1⟩
    refine' K1.all_mk KX G hmg vB ?g12 ?g60 ?gg1 ?z_isinstance ?z_len ?z_int ?z_bool ?z_tuple ?z_all ?z_range ?z_abs ?z_min ?z_max ?z_enumerate ?a0 ?l0 ?c0 ?k0 ?a1 ?l1 ?c1 ?k1 ?a2 ?l2 ?c2 ?k2 ?a3 ?l3 ?c3 ?k3 ?a4 ?l4 ?c4 ?k4 ?a5 ?l5 ?c5 ?k5 ?a6 ?l6 ?c6 ?k6 ?a7 ?l7 ?c7 ?k7 ?a8 ?l8 ?c8 ?k8 ?a9 ?l9 ?c9 ?k9 ?a10 ?l10 ?c10 ?k10 ?a11 ?l11 ?c11 ?k11 ?a12 ?l12 ?c12 ?k12 ?a13 ?l13 ?c13 ?k13 ?a14 ?l14 ?c14 ?k14 ?a15 ?l15 ?c15 ?k15 ?a16 ?l16 ?c16 ?k16 ?a17 ?l17 ?c17 ?k17 ?a18 ?l18 ?c18 ?k18 ?a19 ?l19 ?c19 ?k19 ?a20 ?l20 ?c20 ?k20 ?a21 ?l21 ?c21 ?k21 ?a22 ?l22 ?c22 ?k22 ?a23 ?l23 ?c23 ?k23 ?a24 ?l24 ?c24 ?k24 ?a25 ?l25 ?c25 ?k25 ?a26 ?l26 ?c26 ?k26 ?a27 ?l27 ?c27 ?k27 ?aC ?xL ?sa ?ga ?gg ?nb ?aI ?tI ?lI ?cI ?kC ?eC ?tC ?hC ?iC ?sC
    (case g12 => k_is); (case g60 => k_is); (case gg1 => k_is); (case z_isinstance => k_is); (case z_len => k_is); (case z_int => k_is); (case z_bool => k_is); (case z_tuple => k_is)
    (case z_all => k_is); (case z_range => k_is); (case z_abs => k_is); (case z_min => k_is); (case z_max => k_is); (case z_enumerate => k_is); (case a0 => k_is); (case l0 => k_is)
    (case c0 => k_is); (case k0 => k_is); (case a1 => k_is); (case l1 => k_is); (case c1 => k_is); (case k1 => k_is); (case a2 => k_is); (case l2 => k_is)
    (case c2 => k_is); (case k2 => k_is); (case a3 => k_is); (case l3 => k_is); (case c3 => k_is); (case k3 => k_is); (case a4 => k_is); (case l4 => k_is)
    (case c4 => k_is); (case k4 => k_is); (case a5 => k_is); (case l5 => k_is); (case c5 => k_is); (case k5 => k_is); (case a6 => k_is); (case l6 => k_is)
    (case c6 => k_is); (case k6 => k_is); (case a7 => k_is); (case l7 => k_is); (case c7 => k_is); (case k7 => k_is); (case a8 => k_is); (case l8 => k_is)
    (case c8 => k_is); (case k8 => k_is); (case a9 => k_is); (case l9 => k_is); (case c9 => k_is); (case k9 => k_is); (case a10 => k_is); (case l10 => k_is)
    (case c10 => k_is); (case k10 => k_is); (case a11 => k_is); (case l11 => k_is); (case c11 => k_is); (case k11 => k_is); (case a12 => k_is); (case l12 => k_is)
    (case c12 => k_is); (case k12 => k_is); (case a13 => k_is); (case l13 => k_is); (case c13 => k_is); (case k13 => k_is); (case a14 => k_is); (case l14 => k_is)
    (case c14 => k_is); (case k14 => k_is); (case a15 => k_is); (case l15 => k_is); (case c15 => k_is); (case k15 => k_is); (case a16 => k_is); (case l16 => k_is)
    (case c16 => k_is); (case k16 => k_is); (case a17 => k_is); (case l17 => k_is); (case c17 => k_is); (case k17 => k_is); (case a18 => k_is); (case l18 => k_is)
    (case c18 => k_is); (case k18 => k_is); (case a19 => k_is); (case l19 => k_is); (case c19 => k_is); (case k19 => k_is); (case a20 => k_is); (case l20 => k_is)
    (case c20 => k_is); (case k20 => k_is); (case a21 => k_is); (case l21 => k_is); (case c21 => k_is); (case k21 => k_is); (case a22 => k_is); (case l22 => k_is)
    (case c22 => k_is); (case k22 => k_is); (case a23 => k_is); (case l23 => k_is); (case c23 => k_is); (case k23 => k_is); (case a24 => k_is); (case l24 => k_is)
    (case c24 => k_is); (case k24 => k_is); (case a25 => k_is); (case l25 => k_is); (case c25 => k_is); (case k25 => k_is); (case a26 => k_is); (case l26 => k_is)
    (case c26 => k_is); (case k26 => k_is); (case a27 => k_is); (case l27 => k_is); (case c27 => k_is); (case k27 => k_is); (case aC => k_is); (case xL => k_is)
    (case sa => k_is); (case ga => k_is); (case gg => k_is); (case nb => k_is); (case aI => k_is); (case tI => k_is); (case lI => k_is); (case cI => k_is)
    (case kC => k_is); (case eC => k_is); (case tC => k_is); (case hC => k_is); (case iC => k_is); (case sC => first | rfl | k_is)

