import PyProof.Rows.All
import Wide.All
import OpenK.AllK
import Wide.FinOn
import HandS.ForMost
import HandS.Evl
import HandS.Iter
import PyProof.LongRange
import KE.GoesEnum
import PySem.Challenge.RW_ringstairs_k72_whole_levels_above_others
import HandS.ForExc
import HandS.Wide
import HandS.SortInts
import HandS.Zip
import HandS.Style
import HandS.Rev
import HandS.TupMul
import HandS.IsInst
import HandS.Gcd
import HandS.RevRange
import HandS.Small
import HandS.Conv
import HandS.TupAny
import PyProof.WalkInts
import HandS.Walk
set_option Elab.async false
set_option linter.all false
set_option maxRecDepth 100000
set_option maxHeartbeats 4000000
/-! plain mathematics of heaps: heights of columns that do not ascend -/
namespace HM
def hAt (h : List Nat) (c : Nat) : Nat := h.getD c 0
theorem hAt_lt {h : List Nat} {c : Nat} (hc : c < h.length) : h[c]? = some (hAt h c) := by
  unfold hAt
  rw [List.getD_eq_getElem?_getD, List.getElem?_eq_getElem hc]
  rfl
theorem hAt_ge {h : List Nat} {c : Nat} (hc : h.length ≤ c) : hAt h c = 0 := by
  unfold hAt
  rw [List.getD_eq_getElem?_getD, List.getElem?_eq_none hc]
  rfl
structure IsHeap (h : List Nat) : Prop where
  pos : ∀ c, c < h.length → 0 < hAt h c
  fall : ∀ c, hAt h (c + 1) ≤ hAt h c
theorem IsHeap.nil : IsHeap [] := ⟨fun c hc => absurd hc (Nat.not_lt_zero c), fun c => by rw [hAt_ge (Nat.zero_le _), hAt_ge (Nat.zero_le _)]; exact Nat.le_refl _⟩
theorem IsHeap.le {h : List Nat} (H : IsHeap h) {c : Nat} : ∀ {d : Nat}, c ≤ d → hAt h d ≤ hAt h c
  | 0, hd => by
    have : c = 0 := by omega
    rw [this]
    exact Nat.le_refl _
  | d + 1, hd => by
    by_cases e : c = d + 1
    · rw [e]
      exact Nat.le_refl _
    · exact Nat.le_trans (H.fall d) (H.le (by omega))
/-- two heaps with the same heights are one -/
theorem heap_ext {h h' : List Nat} (H : IsHeap h) (H' : IsHeap h') (e : ∀ c, hAt h c = hAt h' c) : h = h' := by
  have l : h.length = h'.length := by
    rcases Nat.lt_trichotomy h.length h'.length with q | q | q
    · have a := H'.pos _ q
      rw [← e, hAt_ge (Nat.le_refl _)] at a
      omega
    · exact q
    · have a := H.pos _ q
      rw [e, hAt_ge (Nat.le_refl _)] at a
      omega
  refine List.ext_getElem? fun c => ?_
  by_cases hc : c < h.length
  · rw [hAt_lt hc, hAt_lt (by omega), e]
  · rw [List.getElem?_eq_none (by omega), List.getElem?_eq_none (by omega)]
/-- a square can be added on top of the column -/
def opn (h : List Nat) (c : Nat) : Bool := decide (c = 0) || decide (hAt h c < hAt h (c - 1))
theorem opn_le {h : List Nat} {c : Nat} (o : opn h c = true) : c ≤ h.length := by
  unfold opn at o
  by_cases hc : c ≤ h.length
  · exact hc
  · rw [decide_eq_false (show ¬ c = 0 by omega), hAt_ge (show h.length ≤ c by omega), hAt_ge (show h.length ≤ c - 1 by omega)] at o
    exact absurd o (by decide)
theorem opn_lt {h : List Nat} {c : Nat} (o : opn h (c + 1) = true) : hAt h (c + 1) < hAt h c := by
  unfold opn at o
  rw [decide_eq_false (show ¬ c + 1 = 0 by omega), Bool.false_or] at o
  exact of_decide_eq_true o
def b2n (b : Bool) : Nat := if b = true then 1 else 0
theorem b2n_le (b : Bool) : b2n b ≤ 1 := by cases b <;> decide
def grow (h : List Nat) (g : Nat → Bool) : List Nat := (List.range h.length).map (fun c => hAt h c + b2n (g c)) ++ (if g h.length = true then [1] else [])
theorem grow_len (h : List Nat) (g : Nat → Bool) : (grow h g).length = h.length + b2n (g h.length) := by
  unfold grow b2n
  rw [List.length_append, List.length_map, List.length_range]
  split <;> rfl
theorem hAt_grow {h : List Nat} {g : Nat → Bool} (hg : ∀ c, g c = true → opn h c = true) (c : Nat) : hAt (grow h g) c = hAt h c + b2n (g c) := by
  unfold hAt
  rw [List.getD_eq_getElem?_getD, List.getD_eq_getElem?_getD]
  unfold grow
  by_cases hc : c < h.length
  · rw [List.getElem?_append_left (by rw [List.length_map, List.length_range]; exact hc), List.getElem?_map, List.getElem?_range hc, hAt_lt hc]
    rfl
  · rw [List.getElem?_append_right (by rw [List.length_map, List.length_range]; omega), List.length_map, List.length_range, List.getElem?_eq_none (show h.length ≤ c by omega)]
    by_cases e : c = h.length
    · subst e
      rw [Nat.sub_self]
      unfold b2n
      by_cases q : g h.length = true
      · rw [if_pos q, if_pos q]
        rfl
      · rw [if_neg q, if_neg q]
        rfl
    · have q : g c = false := by
        cases q : g c with
        | false => rfl
        | true => exact absurd (opn_le (hg c q)) (by omega)
      rw [q]
      have l : (if g h.length = true then [1] else []).length ≤ 1 := by split <;> decide
      rw [List.getElem?_eq_none (by omega)]
      rfl
theorem grow_heap {h : List Nat} {g : Nat → Bool} (H : IsHeap h) (hg : ∀ c, g c = true → opn h c = true) : IsHeap (grow h g) := by
  refine ⟨fun c hc => ?_, fun c => ?_⟩
  · rw [hAt_grow hg]
    rw [grow_len] at hc
    by_cases q : c < h.length
    · have := H.pos c q
      omega
    · have : c = h.length := by
        have := b2n_le (g h.length)
        omega
      subst this
      omega
  · rw [hAt_grow hg, hAt_grow hg]
    have := H.fall c
    cases q : g (c + 1) with
    | false =>
      show hAt h (c + 1) + 0 ≤ _
      omega
    | true =>
      have := opn_lt (hg _ q)
      show hAt h (c + 1) + 1 ≤ _
      omega
/-- heights and one more, 0, with some more -/
def hts (h : List Nat) (f : Nat → Nat) : List Nat := (List.range (h.length + 1)).map fun c => hAt h c + f c
theorem hts_len (h : List Nat) (f : Nat → Nat) : (hts h f).length = h.length + 1 := by
  unfold hts
  rw [List.length_map, List.length_range]
theorem hts_get {h : List Nat} {f : Nat → Nat} {c : Nat} (hc : c ≤ h.length) : (hts h f)[c]? = some (hAt h c + f c) := by
  unfold hts
  rw [List.getElem?_map, List.getElem?_range (by omega)]
  rfl
theorem hts_zero (h : List Nat) : h ++ [0] = hts h fun _ => 0 := by
  refine List.ext_getElem? fun c => ?_
  by_cases q : c < h.length
  · rw [List.getElem?_append_left q, hAt_lt q, hts_get (by omega)]
    rfl
  · by_cases e : c = h.length
    · subst e
      rw [List.getElem?_append_right (Nat.le_refl _), Nat.sub_self, hts_get (Nat.le_refl _), hAt_ge (Nat.le_refl _)]
      rfl
    · rw [List.getElem?_eq_none (by rw [List.length_append]; show h.length + 1 ≤ c; omega), List.getElem?_eq_none (by rw [hts_len]; omega)]
def cnt (cols : List Nat) (c : Nat) : Nat := (cols.filter fun d => d == c).length
theorem cnt_snoc (cols : List Nat) (d c : Nat) : cnt (cols ++ [d]) c = cnt cols c + b2n (d == c) := by
  unfold cnt
  rw [List.filter_append, List.length_append]
  cases q : (d == c) with
  | true =>
    rw [List.filter_cons, if_pos q]
    rfl
  | false =>
    rw [List.filter_cons, if_neg (by rw [q]; decide)]
    rfl
theorem hts_set {h : List Nat} {cols : List Nat} {d : Nat} (hd : d ≤ h.length) : (hts h (cnt cols)).set d (hAt h d + cnt cols d + 1) = hts h (cnt (cols ++ [d])) := by
  refine List.ext_getElem? fun c => ?_
  rw [List.getElem?_set]
  by_cases e : d = c
  · subst e
    rw [if_pos rfl, if_pos (by rw [hts_len]; omega), hts_get hd, cnt_snoc]
    show some _ = some (hAt h d + (cnt cols d + b2n (d == d)))
    rw [beq_self_eq_true]
    rfl
  · rw [if_neg e]
    by_cases q : c ≤ h.length
    · rw [hts_get q, hts_get q, cnt_snoc]
      have : (d == c) = false := by simpa using e
      rw [this]
      rfl
    · rw [List.getElem?_eq_none (by rw [hts_len]; omega), List.getElem?_eq_none (by rw [hts_len]; omega)]
theorem range_filter_cnt (n : Nat) (g : Nat → Bool) (c : Nat) : cnt ((List.range n).filter g) c = b2n (decide (c < n) && g c) := by
  induction n with
  | zero => rfl
  | succ n ih =>
    rw [List.range_succ, List.filter_append]
    have e : cnt ((List.range n).filter g ++ [n].filter g) c = cnt ((List.range n).filter g) c + cnt ([n].filter g) c := by
      unfold cnt
      rw [List.filter_append, List.length_append]
    rw [e, ih]
    by_cases q : g n = true
    · have : [n].filter g = [n] := by
        rw [List.filter_cons, if_pos q]
        rfl
      rw [this]
      unfold cnt
      by_cases z : n = c
      · subst z
        rw [List.filter_cons, if_pos (beq_self_eq_true n), decide_eq_false (Nat.lt_irrefl n), decide_eq_true (Nat.lt_succ_self n), q]
        rfl
      · rw [List.filter_cons, if_neg (show ¬ (n == c) = true by simpa using z)]
        have : decide (c < n) = decide (c < n + 1) := decide_eq_decide.mpr (by omega)
        rw [this]
        rfl
    · have : [n].filter g = [] := by
        rw [List.filter_cons, if_neg q]
        rfl
      rw [this]
      by_cases z : c = n
      · subst z
        have : g c = false := by simpa using q
        rw [this, Bool.and_false, Bool.and_false]
        rfl
      · have : decide (c < n) = decide (c < n + 1) := decide_eq_decide.mpr (by omega)
        rw [this]
        rfl
/-- what heaped makes of columns -/
theorem hts_filter {h : List Nat} (hp : ∀ c, c < h.length → 0 < hAt h c) {g : Nat → Bool} {f : Nat → Nat} (hf : ∀ c, c ≤ h.length → f c = b2n (g c)) : (hts h f).filter (fun x => decide (0 < x)) = grow h g := by
  unfold hts grow
  rw [List.range_succ, List.map_append, List.filter_append]
  have e1 : ((List.range h.length).map fun c => hAt h c + f c).filter (fun x => decide (0 < x)) = (List.range h.length).map fun c => hAt h c + b2n (g c) := by
    have e : ((List.range h.length).map fun c => hAt h c + f c) = (List.range h.length).map fun c => hAt h c + b2n (g c) := by
      refine List.map_congr_left fun c hc => ?_
      rw [hf c (Nat.le_of_lt (List.mem_range.mp hc))]
    rw [e]
    refine List.filter_eq_self.mpr fun x hx => ?_
    obtain ⟨c, hc, rfl⟩ := List.mem_map.mp hx
    have := hp c (List.mem_range.mp hc)
    exact decide_eq_true (by omega)
  rw [e1]
  congr 1
  show [hAt h h.length + f h.length].filter _ = _
  rw [hAt_ge (Nat.le_refl _), hf _ (Nat.le_refl _)]
  unfold b2n
  by_cases q : g h.length = true
  · rw [if_pos q, if_pos q]
    rfl
  · rw [if_neg q, if_neg q]
    rfl
/-- the diagonal of the square on top -/
def dg (h : List Nat) (c : Nat) : Int := (c : Int) - (hAt h c : Int)
theorem dg_lt {h : List Nat} (H : IsHeap h) {c d : Nat} (hcd : c < d) : dg h c < dg h d := by
  unfold dg
  have := H.le (Nat.le_of_lt hcd)
  omega
theorem dg_inj {h : List Nat} (H : IsHeap h) {c d : Nat} (e : dg h c = dg h d) : c = d := by
  rcases Nat.lt_trichotomy c d with q | q | q
  · have := dg_lt H q
    omega
  · exact q
  · have := dg_lt H q
    omega
theorem dg_two {h : List Nat} (H : IsHeap h) {c d : Nat} (hcd : c < d) (o : opn h d = true) : dg h c + 2 ≤ dg h d := by
  obtain ⟨e, rfl⟩ : ∃ e, d = e + 1 := ⟨d - 1, by omega⟩
  have a := opn_lt o
  have b := H.le (show c ≤ e by omega)
  unfold dg
  omega
def oc (h : List Nat) : List Nat := (List.range (h.length + 1)).filter (opn h)
theorem oc_mem {h : List Nat} {c : Nat} : c ∈ oc h ↔ opn h c = true := by
  unfold oc
  rw [List.mem_filter, List.mem_range]
  exact ⟨fun z => z.2, fun z => ⟨Nat.lt_succ_of_le (opn_le z), z⟩⟩
end HM

/-! own rules: xs[i] op= e of a list; range(n) as a value, walked later -/
namespace LX
open PySem PySem.Spec PyProof.Rows L2
section
variable {X : Cx}
/-- xs[i] by values, 0 ≤ i -/
def rGetL (K : PySem.W.Frag) : V → V → Hp → VK → Prop := fun o i H Q => ∃ (a : Addr) (ys : List V) (j : Nat) (v : V), o = .ref a ∧ i = .int (j : Int) ∧ SqL K H a ys ∧ ys[j]? = some v ∧ Q v H
theorem get_list : PGet X (rGetL X.K) := by
  intro pins s σ H o i ov iv Q I ro ri h
  obtain ⟨a, ys, j, v, rfl, rfl, hq, hv, q⟩ := h
  cases ro
  obtain ⟨t, rfl⟩ := ri
  obtain ⟨its, r, pl, hz⟩ := I.list hq
  obtain ⟨u, hu, ru⟩ := r.get hv
  have hn := line63
  have hj := (List.getElem?_eq_some_iff.mp hu).1
  have hl := r.length
  exact wpAny_getItem_list pl.isList (by omega) (by omega) (by simpa using hu) ⟨v, H, I, ru, q⟩
/-- range(n), a new range object -/
theorem cr_range1 : CallR X (.type "range") (fun vs H Q => ∃ j, vs = [V.int j] ∧ ∀ p, H p = none → Q (.ref p) (upd H p (.rng 0 j))) := by
  intro pins s σ H vs us Q I r h
  obtain ⟨j, rfl, q⟩ := h
  obtain ⟨u1, rfl, rj⟩ := vals1 r
  obtain ⟨t, rfl⟩ := rj
  have nw : ObjOk X.prog X.w (upd H s.heap.objs.size (.rng 0 j)) (s.heap.push { cls := .type "range", data := .fields #[.int 0 s.toks, .int j t, .int 1 (s.toks + 1)] }) s.heap.objs.size (.rng 0 j) := ⟨s.toks, t, s.toks + 1, Heap.get?_push_size _ rfl⟩
  exact call_range_1 ⟨.ref s.heap.objs.size, _, I.laid (t' := s.toks + 1 + 1) (fun b o e => Heap.get?_push_of_some _ e) (Nat.le_refl _) nw, rfl, q _ (I.hok.fresh (Nat.le_refl _))⟩
/-- a range object that stands, walked -/
def iRngV (te : TE) : TI := fun σ H R => te σ H fun x H1 => ∃ (p : Addr) (lo hi : Int), x = .ref p ∧ H1 p = some (.rng lo hi) ∧ (-(2 ^ 62) ≤ lo ∧ lo < 2 ^ 62 ∧ -(2 ^ 62) ≤ hi ∧ hi < 2 ^ 62) ∧ R (Itr lo (hi - lo).toNat) H1
theorem pi_rngV {tg e : Expr} {te : TE} (he : PE X e te) : PI X tg e (iRngV te) := by
  refine ⟨fun pins s σ H R I h => ?_⟩
  refine thn (he.run pins s σ H _ I h) fun u s1 ⟨x, H1, I1, r1, p, lo, hi, ex, hp, ⟨b1, b2, b3, b4⟩, q⟩ => ?_
  subst ex
  obtain rfl : u = Value.ref p := r1
  obtain ⟨t, u, v, g⟩ := (show ObjOk X.prog X.w H1 s1.heap p (.rng lo hi) from I1.hok p _ hp)
  refine wpAny_pyIter_range (s := s1) g (small_one b1 b2 b3 b4) ?_
  refine ⟨s1.heap.objs.size, [s1.heap.objs.size], _, _, H1, rfl, I1.kept (t' := s1.toks) fun b o e => Heap.get?_push_of_some _ e, turn_range _ lo (hi - lo).toNat, ?_, fun b hb => ?_, q⟩
  · have e1 : lo + ((0 : Nat) : Int) * 1 = lo := by simp
    have e2 : (((hi - lo).toNat : Nat) : Int) - ((0 : Nat) : Int) = Builtin.Range.rangeSize lo hi 1 := by
      rw [rangeSize_one]
      split <;> omega
    show IsRangeIter _ _ (lo + ((0 : Nat) : Int) * 1) ((((hi - lo).toNat : Nat) : Int) - ((0 : Nat) : Int)) 1
    rw [e1, e2]
    exact Heap.get?_push_size _ rfl
  · obtain rfl : b = s1.heap.objs.size := by simpa using hb
    exact I1.fpOk (Nat.le_refl _) (I1.hok.fresh (Nat.le_refl _))
end
end LX

set_option exponentiation.threshold 400
namespace K1
open PySem PySem.Spec PyProof.Rows L2 Evl HM LX
section
variable {P : Program} {w : World} {K : PySem.W.Frag} {mg : Str → Option Value} {base : Heap}
def tell (ls : List Int) (c : Int) : Int := (ls.map fun l => max 0 (l + c + 1)).sum
theorem sum_perm {a b : List Int} (p : a.Perm b) : a.sum = b.sum := by
  induction p with
  | nil => rfl
  | cons x _ ih => rw [List.sum_cons, List.sum_cons, ih]
  | swap x y l =>
    simp only [List.sum_cons]
    omega
  | trans _ _ h1 h2 => exact h1.trans h2
theorem tell_perm {a b : List Int} (p : a.Perm b) (c : Int) : tell a c = tell b c := sum_perm (p.map _)
def distL (ls : List Int) : Int := ((List.range ls.length).map fun late => ((List.range late).map fun early => max 0 (ls.getD late 0 - ls.getD early 0 - 1)).sum).sum
def Short (ls : List Int) : Prop := ∀ i : Nat, -(10 ^ 50) < ls.getD i 0 ∧ ls.getD i 0 < 10 ^ 50
theorem asc_next {ls : List Int} (h : ls.Pairwise (· ≤ ·)) {i : Nat} (hi : i + 1 < ls.length) : ls.getD i 0 ≤ ls.getD (i + 1) 0 := by
  rw [List.getD_eq_getElem?_getD, List.getD_eq_getElem?_getD, List.getElem?_eq_getElem (by omega), List.getElem?_eq_getElem hi]
  exact List.pairwise_iff_getElem.mp h i (i + 1) (by omega) hi (by omega)
theorem short_of {ls : List Int} (h : ∀ l ∈ ls, -(10 ^ 50) < l ∧ l < 10 ^ 50) : Short ls := fun i => by
  rw [List.getD_eq_getElem?_getD]
  by_cases z : i < ls.length
  · rw [List.getElem?_eq_getElem z]
    exact h _ (List.getElem_mem z)
  · rw [List.getElem?_eq_none (by omega)]
    show -(10 ^ 50) < (0 : Int) ∧ (0 : Int) < 10 ^ 50
    constructor <;> decide
theorem imax0 (x : Int) : (if x > 0 then x else 0) = max 0 x := by
  split <;> omega
theorem sum_snoc (l : List Int) (x : Int) : (l ++ [x]).sum = l.sum + x := by
  rw [List.sum_append, List.sum_cons, List.sum_nil, Int.add_zero]
end
end K1

/-! own rule: range(i, j) with ends of any size, walked -/
namespace LR
open PySem PySem.Spec PyProof.Rows L2
theorem turn_long {P : Program} {w : World} {K : PySem.W.Frag} {tg : Expr} (it : Addr) (lo : Int) (n : Nat) : Turn P w K tg (Itr lo n) [it] it (fun i h => IsLongIter h it (lo + (i : Nat) * 1) ((n : Int) - (i : Nat)) 1) where
  mem := by simp
  obj := fun i h st b hb => by
    have e : b = it := by simpa using hb
    subst e
    exact ⟨_, st, fun v z => nomatch z⟩
  keep := fun i h h' st k => k it (by simp) _ st
  item := by
    intro X hP hw hK hc i pins s σ H E I hf st hg
    subst hP hw hK
    obtain ⟨f0, f1, f2, f3, f4, f5⟩ := hf it (by simp)
    have W := Walks.longrange (prog := X.prog) (w := X.w) (I.ok.hd hc) it lo 1 n
    refine W.item i s _ _ hg st fun v h' tk hv st' kk => ?_
    obtain ⟨t, rfl⟩ := hv
    have I1 : Inv X pins σ H { s with heap := h', toks := tk } := I.turned (fun b o hb e => kk b o (by simpa using hb) e) f0 f1 f3 f4 f5
    exact ⟨_, rfl, go_of (s := { s with heap := h', toks := tk }) (n := "longrange_iterator") st' rfl rfl (by decide) ⟨.int (lo + (i : Nat) * 1), H, I1, ⟨t, rfl⟩, ⟨rfl, by simp⟩, st', fun b hb => (hf b hb).1⟩⟩
  done := by
    intro X hP hw hK hc i pins s σ H E I hf st hg
    subst hP hw hK
    obtain ⟨f0, f1, f2, f3, f4, f5⟩ := hf it (by simp)
    exact wpAny_pyNext_long_end (I.ok.hd hc) st (by have : n ≤ i := hg; omega) fun h' eb => ⟨rfl, I.turned (t' := s.toks) (fun b o hb e => eb b o hb e) f0 f1 f3 f4 f5⟩
  self := fun A i s Q E st h => wpAny_pyIter_longiter st h
theorem range_itL {X : Cx} {tg : Expr} {pins : List (Addr × Obj)} {σ : L2.St} {H : Hp} {s : Shared} {R : It → Hp → Prop} {E : Value → Shared → Prop} {lo hi : Int} {t u v : Tok} {tk : Nat} (I : Inv X pins σ H s) (hb : Builtin.Range.small lo hi 1 = false)
    (q : R (Itr lo (hi - lo).toNat) H) : wpAny (model X.prog X.w) X.A (pyIter (.ref s.heap.objs.size)) (PIE X pins σ tg R) E { s with heap := s.heap.push { cls := .type "range", data := .fields #[.int lo t, .int hi u, .int 1 v] }, toks := tk } := by
  refine wpAny_pyIter_longrange (IsRange.new ..) hb ?_
  have I1 : Inv X pins σ H { s with heap := s.heap.push { cls := .type "range", data := .fields #[.int lo t, .int hi u, .int 1 v] }, toks := tk } := I.kept fun b o e => Heap.get?_push_of_some _ e
  refine ⟨(s.heap.push { cls := .type "range", data := .fields #[.int lo t, .int hi u, .int 1 v] }).objs.size, [(s.heap.push { cls := .type "range", data := .fields #[.int lo t, .int hi u, .int 1 v] }).objs.size], _, _, H, rfl,
    I1.kept (t' := tk) fun b o e => Heap.get?_push_of_some _ e, turn_long _ lo (hi - lo).toNat, ?_, fun b hb => ?_, q⟩
  · have e1 : lo + ((0 : Nat) : Int) * 1 = lo := by simp
    have e2 : (((hi - lo).toNat : Nat) : Int) - ((0 : Nat) : Int) = Builtin.Range.rangeSize lo hi 1 := by rw [rangeSize_one]; split <;> omega
    show IsLongIter _ _ (lo + ((0 : Nat) : Int) * 1) ((((hi - lo).toNat : Nat) : Int) - ((0 : Nat) : Int)) 1
    rw [e1, e2]
    exact Heap.get?_push_size _ rfl
  · have e : b = (s.heap.push { cls := .type "range", data := .fields #[.int lo t, .int hi u, .int 1 v] }).objs.size := by simpa using hb
    subst e
    exact I1.fpOk (Nat.le_refl _) (I1.hok.fresh (Nat.le_refl _))
/-- small or not -/
theorem range_itS {X : Cx} {tg : Expr} {pins : List (Addr × Obj)} {σ : L2.St} {H : Hp} {s : Shared} {R : It → Hp → Prop} {E : Value → Shared → Prop} {lo hi : Int} {t u v : Tok} {tk : Nat} (I : Inv X pins σ H s) (hb : Builtin.Range.small lo hi 1 = true)
    (q : R (Itr lo (hi - lo).toNat) H) : wpAny (model X.prog X.w) X.A (pyIter (.ref s.heap.objs.size)) (PIE X pins σ tg R) E { s with heap := s.heap.push { cls := .type "range", data := .fields #[.int lo t, .int hi u, .int 1 v] }, toks := tk } := by
  refine wpAny_pyIter_range (IsRange.new ..) hb ?_
  have I1 : Inv X pins σ H { s with heap := s.heap.push { cls := .type "range", data := .fields #[.int lo t, .int hi u, .int 1 v] }, toks := tk } := I.kept fun b o e => Heap.get?_push_of_some _ e
  refine ⟨(s.heap.push { cls := .type "range", data := .fields #[.int lo t, .int hi u, .int 1 v] }).objs.size, [(s.heap.push { cls := .type "range", data := .fields #[.int lo t, .int hi u, .int 1 v] }).objs.size], _, _, H, rfl,
    I1.kept (t' := tk) fun b o e => Heap.get?_push_of_some _ e, turn_range _ lo (hi - lo).toNat, ?_, fun b hb => ?_, q⟩
  · have e1 : lo + ((0 : Nat) : Int) * 1 = lo := by simp
    have e2 : (((hi - lo).toNat : Nat) : Int) - ((0 : Nat) : Int) = Builtin.Range.rangeSize lo hi 1 := by rw [rangeSize_one]; split <;> omega
    show IsRangeIter _ _ (lo + ((0 : Nat) : Int) * 1) ((((hi - lo).toNat : Nat) : Int) - ((0 : Nat) : Int)) 1
    rw [e1, e2]
    exact Heap.get?_push_size _ rfl
  · have e : b = (s.heap.push { cls := .type "range", data := .fields #[.int lo t, .int hi u, .int 1 v] }).objs.size := by simpa using hb
    subst e
    exact I1.fpOk (Nat.le_refl _) (I1.hok.fresh (Nat.le_refl _))
def iRng2L (ta : TA) : TI := fun σ H R => ta σ H fun vs H1 => ∃ i j : Int, vs = [.int i, .int j] ∧ R (Itr i (j - i).toNat) H1
theorem pi_range2L {X : Cx} {tg : Expr} {a b : Expr} {ta : TA} {p pos : Pos} (hg : Gl X "range") (hm : X.mg "range" = none) (ha : PA X [a, b] ta) (hs : starEach [a, b] X.env = [(false, eval a X.env), (false, eval b X.env)] := by rfl) (hs2 : starEach [b] X.env = [(false, eval b X.env)] := by rfl) :
    PI X tg (.Call (.Name "range" p) [a, b] [] pos) (iRng2L ta) := by
  refine ⟨fun pins s σ H R I h => ?_⟩
  refine Call_ (ld_blt I hg hm boot_range (PyProof.Rows.callWith_type1 (thn (ha.run pos pins s σ H _ I h) fun us s1 ⟨vs, H1, I1, r1, q1⟩ => ?_) (by rw [hs, hs2]) (by rw [hs2]; rfl)))
  obtain ⟨i, j, e, q⟩ := q1
  subst e
  cases r1 with
  | cons r rr =>
    cases rr with
    | cons r' rr =>
      cases rr
      obtain ⟨t, rfl⟩ := r
      obtain ⟨t', rfl⟩ := r'
      cases hb : Builtin.Range.small i j 1 with
      | true => exact call_range_2 (range_itS I1 hb q)
      | false => exact call_range_2 (range_itL I1 hb q)
end LR

/-! plain mathematics for the orders and the diagonals -/
namespace K1M
/-- the step: the i-th place on the way from the right door by the left door -/
theorem dvd_iff {n s i : Nat} (hn : 0 < n) : (i * s) % n = 0 ↔ (n / Nat.gcd n s) ∣ i := by
  have hg : 0 < Nat.gcd n s := Nat.gcd_pos_of_pos_left _ hn
  have hc : Nat.Coprime (n / Nat.gcd n s) (s / Nat.gcd n s) := Nat.coprime_div_gcd_div_gcd hg
  have hn' : n = Nat.gcd n s * (n / Nat.gcd n s) := (Nat.mul_div_cancel' (Nat.gcd_dvd_left n s)).symm
  have hs' : s = Nat.gcd n s * (s / Nat.gcd n s) := (Nat.mul_div_cancel' (Nat.gcd_dvd_right n s)).symm
  constructor
  · intro h
    have d : n ∣ i * s := Nat.dvd_of_mod_eq_zero h
    have d2 : Nat.gcd n s * (n / Nat.gcd n s) ∣ Nat.gcd n s * (i * (s / Nat.gcd n s)) := by
      rw [← hn']
      have e : Nat.gcd n s * (i * (s / Nat.gcd n s)) = i * s := by
        rw [Nat.mul_left_comm, ← hs']
      rw [e]
      exact d
    have d3 := Nat.dvd_of_mul_dvd_mul_left hg d2
    exact hc.dvd_of_dvd_mul_right d3
  · rintro ⟨c, rfl⟩
    apply Nat.mod_eq_zero_of_dvd
    refine ⟨c * (s / Nat.gcd n s), ?_⟩
    have e : n / Nat.gcd n s * c * s = n / Nat.gcd n s * c * (Nat.gcd n s * (s / Nat.gcd n s)) := by rw [← hs']
    rw [e]
    have e2 : n * (c * (s / Nat.gcd n s)) = Nat.gcd n s * (n / Nat.gcd n s) * (c * (s / Nat.gcd n s)) := by rw [← hn']
    rw [e2]
    simp only [Nat.mul_assoc, Nat.mul_left_comm, Nat.mul_comm]
def ord (n s : Nat) : Nat := n / Nat.gcd n s
theorem ord_pos {n s : Nat} (hn : 0 < n) : 0 < ord n s := Nat.div_pos (Nat.gcd_le_left s hn) (Nat.gcd_pos_of_pos_left _ hn)
theorem ord_le {n s : Nat} : ord n s ≤ n := Nat.div_le_self _ _
theorem ord_ge2 {n s : Nat} (h1 : 1 ≤ s) (h2 : s < n) : 2 ≤ ord n s := by
  have hn : 0 < n := by omega
  have hg : 0 < Nat.gcd n s := Nat.gcd_pos_of_pos_left _ hn
  have hle : Nat.gcd n s ≤ s := Nat.le_of_dvd h1 (Nat.gcd_dvd_right n s)
  have hn' : n = Nat.gcd n s * ord n s := (Nat.mul_div_cancel' (Nat.gcd_dvd_left n s)).symm
  rcases Nat.lt_or_ge (ord n s) 2 with h | h
  · exfalso
    have hp := ord_pos (s := s) hn
    have e1 : ord n s = 1 := by omega
    rw [e1, Nat.mul_one] at hn'
    omega
  · exact h
/-- the way: while the next is not 0 and there are fewer than n -/
def stp (n s i : Nat) : Nat := (i * s) % n
theorem stp_zero_iff {n s i : Nat} (hn : 0 < n) : stp n s i = 0 ↔ ord n s ∣ i := dvd_iff hn
theorem stp_mod {n s i : Nat} (hn : 0 < n) : stp n s (i % ord n s) = stp n s i := by
  have h0 : (ord n s * s) % n = 0 := (stp_zero_iff (i := ord n s) hn).mpr (Nat.dvd_refl _)
  have e : i = ord n s * (i / ord n s) + i % ord n s := (Nat.div_add_mod i (ord n s)).symm
  have e2 : i * s = (i / ord n s) * (ord n s * s) + (i % ord n s) * s := by
    have : (ord n s * (i / ord n s) + i % ord n s) * s = (i / ord n s) * (ord n s * s) + (i % ord n s) * s := by
      rw [Nat.add_mul]
      congr 1
      simp only [Nat.mul_assoc, Nat.mul_left_comm, Nat.mul_comm]
    rw [← this, ← e]
  obtain ⟨q, hq⟩ := Nat.dvd_of_mod_eq_zero h0
  unfold stp
  rw [e2, hq, Nat.mul_left_comm, Nat.add_comm, Nat.add_mul_mod_self_left]
/-- the same for integers: the diagonal's place -/
theorem istp {n s : Nat} (hn : 0 < n) (c : Int) : (c * (s : Int)) % (n : Int) = ((stp n s (c % (ord n s : Int)).toNat : Nat) : Int) := by
  have hm : 0 < ord n s := ord_pos hn
  have hm' : (0 : Int) < (ord n s : Int) := by exact_mod_cast hm
  have hr0 : 0 ≤ c % (ord n s : Int) := Int.emod_nonneg _ (by omega)
  have h0 : ((ord n s : Int) * (s : Int)) % (n : Int) = 0 := by
    have h0 : (ord n s * s) % n = 0 := (stp_zero_iff (i := ord n s) hn).mpr (Nat.dvd_refl _)
    have := congrArg (fun x : Nat => (x : Int)) h0
    simpa using this
  have e : c = (ord n s : Int) * (c / (ord n s : Int)) + c % (ord n s : Int) := (Int.mul_ediv_add_emod c (ord n s : Int)).symm
  have e2 : c * (s : Int) = (c / (ord n s : Int)) * ((ord n s : Int) * (s : Int)) + (c % (ord n s : Int)) * (s : Int) := by
    have : ((ord n s : Int) * (c / (ord n s : Int)) + c % (ord n s : Int)) * (s : Int) = (c / (ord n s : Int)) * ((ord n s : Int) * (s : Int)) + (c % (ord n s : Int)) * (s : Int) := by
      rw [Int.add_mul]
      congr 1
      rw [Int.mul_assoc, Int.mul_left_comm]
    rw [← this, ← e]
  rw [e2, Int.add_emod, Int.mul_emod, h0, Int.mul_zero, Int.zero_emod, Int.zero_add, Int.emod_emod]
  unfold stp
  have e3 : c % (ord n s : Int) = (((c % (ord n s : Int)).toNat : Nat) : Int) := (Int.toNat_of_nonneg hr0).symm
  conv => lhs; rw [e3]
  simp
/-- does_let tells just the place -/
theorem lets_iff {n : Nat} {x p : Int} (hn : 0 < n) (h0 : 0 ≤ p) (h1 : p < n) : (x - p) % (n : Int) = 0 ↔ x % (n : Int) = p := by
  have hn' : (0 : Int) < n := by exact_mod_cast hn
  constructor
  · intro h
    have e := Int.emod_emod_of_dvd x (Int.dvd_refl (n : Int))
    have h2 : x = (n : Int) * ((x - p) / n) + p := by
      have := Int.mul_ediv_add_emod (x - p) n
      omega
    rw [h2, Int.add_comm, Int.add_mul_emod_self_left]
    exact Int.emod_eq_of_lt h0 h1
  · intro h
    have h2 := Int.mul_ediv_add_emod x n
    have h3 : x - p = (n : Int) * (x / n) := by omega
    rw [h3, Int.mul_emod_right]
/-- the stop of the loop is the order -/
theorem stop_is {n s k : Nat} (hn : 0 < n) (hk : 1 ≤ k) (hkn : k ≤ n) (hlow : ∀ i, 0 < i → i < k → stp n s i ≠ 0) (hstop : stp n s k = 0 ∨ k = n) : k = ord n s := by
  have hm := ord_pos (s := s) hn
  have hmn : ord n s ≤ n := ord_le
  have h1 : k ≤ ord n s := by
    rcases Nat.lt_or_ge (ord n s) k with h | h
    · exact absurd ((stp_zero_iff hn).mpr (Nat.dvd_refl _)) (hlow _ hm h)
    · exact h
  rcases hstop with h | h
  · have d := (stp_zero_iff hn).mp h
    have := Nat.le_of_dvd hk d
    omega
  · omega
end K1M

/-! plain mathematics for the written names -/
namespace K1N
def nAt (rs : List (Int × Int)) (j : Nat) : Nat := (rs.getD j (0, 0)).1.toNat
def sAt (rs : List (Int × Int)) (j : Nat) : Int := (rs.getD j (0, 0)).2
def row (j n : Nat) : List (Int × Int) := (List.range n).map fun (q : Nat) => ((j : Int), (q : Int))
def pre (rs : List (Int × Int)) : Nat → List (Int × Int)
  | 0 => []
  | i + 1 => pre rs i ++ row i (nAt rs i)
/-- a place that is its own written name -/
def own (rs : List (Int × Int)) (p : Int × Int) : Bool := !(decide (0 < p.1) && decide (p.2 = sAt rs p.1.toNat))
def names (rs : List (Int × Int)) : List (Int × Int) := (pre rs rs.length).filter (own rs)
def sumTo (rs : List (Int × Int)) : Nat → Nat
  | 0 => 0
  | i + 1 => sumTo rs i + nAt rs i
theorem row_succ (j n : Nat) : row j (n + 1) = row j n ++ [((j : Int), (n : Int))] := by
  unfold row
  rw [List.range_succ, List.map_append]
  rfl
theorem row_len (j n : Nat) : (row j n).length = n := by
  unfold row
  rw [List.length_map, List.length_range]
theorem pre_len {rs : List (Int × Int)} (h : ∀ j, nAt rs j ≤ 60) : ∀ i, (pre rs i).length ≤ 60 * i
  | 0 => Nat.le_refl _
  | i + 1 => by
    show (pre rs i ++ row i (nAt rs i)).length ≤ 60 * (i + 1)
    rw [List.length_append, row_len]
    have := pre_len h i
    have := h i
    omega
theorem row0 (rs : List (Int × Int)) : ∀ n, ((row 0 n).filter (own rs)).length = n
  | 0 => rfl
  | n + 1 => by
    rw [row_succ, List.filter_append, List.length_append, row0 rs n]
    have : own rs (((0 : Nat) : Int), (n : Int)) = true := rfl
    rw [List.filter_cons, if_pos this]
    rfl
theorem rowS (rs : List (Int × Int)) (j : Nat) (s : Nat) (hs : sAt rs (j + 1) = (s : Int)) : ∀ n, ((row (j + 1) n).filter (own rs)).length = if s < n then n - 1 else n
  | 0 => rfl
  | n + 1 => by
    rw [row_succ, List.filter_append, List.length_append, rowS rs j s hs n]
    by_cases c : n = s
    · have e : own rs (((j + 1 : Nat) : Int), (n : Int)) = false := by
        unfold own
        rw [show (((j + 1 : Nat) : Int)).toNat = j + 1 by omega, hs, decide_eq_true (show (0 : Int) < ((j + 1 : Nat) : Int) by omega), decide_eq_true (show (n : Int) = (s : Int) by omega)]
        rfl
      have e2 : [(((j + 1 : Nat) : Int), (n : Int))].filter (own rs) = [] := by
        rw [List.filter_cons, if_neg (show ¬ own rs (((j + 1 : Nat) : Int), (n : Int)) = true by rw [e]; decide)]
        rfl
      rw [e2, if_neg (show ¬ s < n by omega), if_pos (show s < n + 1 by omega)]
      show n + 0 = n + 1 - 1
      omega
    · have e : own rs (((j + 1 : Nat) : Int), (n : Int)) = true := by
        unfold own
        rw [show (((j + 1 : Nat) : Int)).toNat = j + 1 by omega, hs, decide_eq_false (show ¬ (n : Int) = (s : Int) by omega), Bool.and_false]
        rfl
      rw [List.filter_cons, if_pos e]
      show (if s < n then n - 1 else n) + 1 = _
      by_cases c2 : s < n
      · rw [if_pos c2, if_pos (by omega)]
        omega
      · rw [if_neg c2, if_neg (by omega)]
/-- how many written names -/
theorem count_to {rs : List (Int × Int)} (h : ∀ j, j < rs.length → 1 ≤ sAt rs j ∧ sAt rs j < (nAt rs j : Int)) : ∀ i, 1 ≤ i → i ≤ rs.length → ((pre rs i).filter (own rs)).length + i = sumTo rs i + 1
  | 0, z, _ => absurd z (by decide)
  | 1, _, h1 => by
    show (([] ++ row 0 (nAt rs 0)).filter (own rs)).length + 1 = 0 + nAt rs 0 + 1
    rw [List.nil_append, row0]
    omega
  | i + 2, _, h1 => by
    have ih := count_to h (i + 1) (by omega) (by omega)
    have hs := h (i + 1) (by omega)
    have hr := rowS rs i (sAt rs (i + 1)).toNat (by omega) (nAt rs (i + 1))
    rw [if_pos (by omega)] at hr
    show ((pre rs (i + 1) ++ row (i + 1) (nAt rs (i + 1))).filter (own rs)).length + (i + 2) = sumTo rs (i + 1) + nAt rs (i + 1) + 1
    rw [List.filter_append, List.length_append, hr]
    omega
theorem nAt_left {a b : List (Int × Int)} {j : Nat} (h : j < a.length) : nAt (a ++ b) j = nAt a j := by
  unfold nAt
  rw [List.getD_eq_getElem?_getD, List.getD_eq_getElem?_getD, List.getElem?_append_left h]
theorem nAt_right {a b : List (Int × Int)} {j : Nat} : nAt (a ++ b) (a.length + j) = nAt b j := by
  unfold nAt
  rw [List.getD_eq_getElem?_getD, List.getD_eq_getElem?_getD, List.getElem?_append_right (by omega), Nat.add_sub_cancel_left]
theorem sum_left {a b : List (Int × Int)} : ∀ i, i ≤ a.length → sumTo (a ++ b) i = sumTo a i
  | 0, _ => rfl
  | i + 1, h => by
    show sumTo (a ++ b) i + nAt (a ++ b) i = sumTo a i + nAt a i
    rw [sum_left i (by omega), nAt_left (by omega)]
theorem sum_right {a b : List (Int × Int)} : ∀ i, sumTo (a ++ b) (a.length + i) = sumTo a a.length + sumTo b i
  | 0 => by
    rw [Nat.add_zero, sum_left _ (Nat.le_refl _)]
    rfl
  | i + 1 => by
    show sumTo (a ++ b) (a.length + i) + nAt (a ++ b) (a.length + i) = sumTo a a.length + (sumTo b i + nAt b i)
    rw [sum_right i, nAt_right, Nat.add_assoc]
theorem names_joined {a b : List (Int × Int)} (ha : 1 ≤ a.length) (hb : 1 ≤ b.length) (h1 : ∀ j, j < a.length → 1 ≤ sAt a j ∧ sAt a j < (nAt a j : Int)) (h2 : ∀ j, j < b.length → 1 ≤ sAt b j ∧ sAt b j < (nAt b j : Int))
    (h3 : ∀ j, j < (a ++ b).length → 1 ≤ sAt (a ++ b) j ∧ sAt (a ++ b) j < (nAt (a ++ b) j : Int)) : (names (a ++ b)).length + 1 = (names a).length + (names b).length := by
  unfold names
  have e1 := count_to h1 a.length ha (Nat.le_refl _)
  have e2 := count_to h2 b.length hb (Nat.le_refl _)
  have e3 := count_to h3 (a ++ b).length (by rw [List.length_append]; omega) (Nat.le_refl _)
  have e4 := sum_right (a := a) (b := b) b.length
  rw [List.length_append] at e3 ⊢
  omega
end K1N

/-! enumerate over a tuple, one argument -/
namespace EnT
open PySem PySem.Spec PyProof.Rows L2
theorem made {v : Value} {o : Obj} {Hy : Heap → Prop} (B : Begins v o Hy) : Meets (Builtin.«enumerate.__new__» ⟨[.type "enumerate", v], []⟩) (fun _ R s => Hy s.heap ∧
      R (.ok (.ret (.ref (s.heap.push o).objs.size))) { s with heap := (s.heap.push o).push { cls := .type "enumerate", data := .fields #[.none, .bool false, .ref s.heap.objs.size, rawInt 0, .none, .none] } }) :=
  .of_wp fun prog w A R s z => by
    obtain ⟨hp, gs, dr, tk, os⟩ := s
    obtain ⟨z1, z2⟩ := z
    have sb := sub_enumerate
    have it1 : ∀ {A2 : Around} {E2 : Value → Shared → Prop} {Q2 : Value → Shared → Prop}, Q2 (.ref hp.objs.size) ⟨hp.push o, gs, dr, tk, os⟩ → wpAny (model prog w) A2 (pyIter v) Q2 E2 ⟨hp, gs, dr, tk, os⟩ :=
      fun y => B.iter prog w _ _ ⟨hp, gs, dr, tk, os⟩ _ z1 y
    wp_walk using it1
    refine wpAny_stack_any fun _ => wpAny_pure ?_
    split
    · rename_i c _ _ _ _ _
      cases (c == Value.type "enumerate")
      · wp_walk using it1
        exact ⟨_, rfl, z2⟩
      · wp_walk using it1
        exact ⟨_, rfl, z2⟩
    · wp_walk using it1
      exact ⟨_, rfl, z2⟩
section
variable {prog : Program} {w : World} {A : Around} {E : Value → Shared → Prop} {s : Shared}
theorem call_made {v : Value} {o : Obj} {Hy : Heap → Prop} {Q : Value → Shared → Prop} (B : Begins v o Hy) (h1 : Hy s.heap)
    (k : ∀ h2, IsEnum h2 (s.heap.objs.size + 1) s.heap.objs.size 0 .none → h2.get? s.heap.objs.size = some o → (∀ b u, s.heap.get? b = some u → h2.get? b = some u) → Q (.ref (s.heap.objs.size + 1)) { s with heap := h2 }) :
    wpAny (model prog w) A (call (.type "enumerate") [v]) Q E s := by
  refine callType_new F.called_enumerate (by decide) (F.typeCall_enumerate_1 _) (F.newCall_enumerate_1 _) (fun obj => F.args_object_init_2 obj _) F.entry_enumerate_new (made B) ⟨h1, ?_⟩
  have sz : (s.heap.push o).objs.size = s.heap.objs.size + 1 := by rw [Heap.size_push]
  show _ ∧ _
  rw [sz]
  have en := Heap.get?_push_size (s.heap.push o) (o := { cls := .type "enumerate", data := .fields #[.none, .bool false, .ref s.heap.objs.size, rawInt 0, .none, .none] }) rfl
  rw [sz] at en
  exact ⟨⟨_, en, rfl⟩, k _ en (Heap.get?_push_of_some _ (Heap.get?_push_size _ B.free)) fun b u y => Heap.get?_push_of_some _ (Heap.get?_push_of_some _ y)⟩
end
/-- the tuple at a, each item in a new pair with its number -/
def IteT (K : PySem.W.Frag) (a : Addr) : It :=
  ⟨fun i H => ∃ (ts : List V) (x : V), SqT K H a ts ∧ ts[i]? = some x, fun i H v H' => ∃ T x, v = .ref T ∧ H T = none ∧ H' = upd H T (.tup [.int (i : Nat), x]) ∧ ∀ ts, SqT K H a ts → ts[i]? = some x, fun i H => ∃ ts : List V, SqT K H a ts ∧ ts.length = i⟩
theorem tup_inj {X : Cx} {pins : List (Addr × Obj)} {σ : L2.St} {H : Hp} {s : Shared} {a : Addr} {xs ys : List V} (I : Inv X pins σ H s) (h1 : SqT X.K H a xs) (h2 : SqT X.K H a ys) : xs = ys := by
  obtain ⟨i1, r1, ⟨o1, g1, c1, n1, d1⟩, _⟩ := I.tuple h1
  obtain ⟨i2, r2, ⟨o2, g2, c2, n2, d2⟩, _⟩ := I.tuple h2
  rw [g1] at g2
  have e := Option.some.inj g2
  subst e
  rw [d1] at d2
  injection d2 with e1 _
  have e3 : i1 = i2 := by simpa using e1
  subst e3
  exact Vals.inj r1 r2
theorem turn {P : Program} {w : World} {K : PySem.W.Frag} {elts : List Expr} {kk : Nat} {tpos : Pos} (a e it : Addr) :
    Turn P w K (.Tuple elts kk tpos) (IteT K a) [e, it] e (fun i h => (∃ old, IsEnum h e it ((i : Nat) : Int) old) ∧ h.IsTupleIter it a i ∧ e ≠ it ∧ a ≠ e ∧ a ≠ it) where
  mem := by simp
  obj := fun i h st b hb => by
    obtain ⟨⟨old, he⟩, ⟨o, ho, hc, hd⟩, _⟩ := st
    rcases (show b = e ∨ b = it by simpa using hb) with z | z
    · rw [z]
      exact ⟨_, he, fun v q => nomatch q⟩
    · rw [z]
      exact ⟨o, ho, fun v q => by rw [hd] at q; cases q⟩
  keep := fun i h h' st k => by
    obtain ⟨⟨old, he⟩, ⟨o, ho, hc, hd⟩, n1, n2, n3⟩ := st
    exact ⟨⟨old, k e (by simp) _ he⟩, ⟨o, k it (by simp) _ ho, hc, hd⟩, n1, n2, n3⟩
  item := by
    intro X hP hw hK hc i pins s σ H E I hf st hg
    subst hP hw hK
    obtain ⟨⟨old, he⟩, hit, n1, n2, n3⟩ := st
    obtain ⟨xs, x, hq, hx⟩ := hg
    obtain ⟨its, rv, p, _⟩ := I.tuple hq
    obtain ⟨u, hu, ru⟩ := rv.get hx
    have hel : e < s.heap.objs.size := Heap.lt_size he
    have hil : it < s.heap.objs.size := by
      obtain ⟨_, q, _⟩ := hit
      exact Heap.lt_size q
    have hlt : i < its.toArray.size := by
      have := (List.getElem?_eq_some_iff.mp hu).1
      simpa using this
    have hh : X.A.in1.handled = none := I.ok.hd hc
    have DT := Draws.tuple (prog := X.prog) (w := X.w) hh it a n3 its.toArray
    refine wpAny_pyNext_enum_itemD DT he ⟨hit, p⟩ hlt n1 (by simp [n1, Ne.symm n2]) fun y h1 tk hy ho hst hT hsz hk => ?_
    have ey : y = u := by
      have q : its.toArray[i]? = some u := by simpa using hu
      exact Option.some.inj (hy.symm.trans q)
    subst ey
    refine ⟨_, rfl, wpAny_letOwnedTupleGo_enum (s := { s with heap := h1, toks := tk + 1 }) ho fun h2 he2 sb => ?_⟩
    have hT2 : h2.get? s.heap.objs.size = some { cls := .type "tuple", data := .seq #[.int i tk, y] } := (sb.2 _ (Nat.ne_of_gt hel)).trans hT
    have new : ObjOk X.prog X.w (upd H s.heap.objs.size (.tup [.int (i : Nat), x])) h2 s.heap.objs.size (.tup [.int (i : Nat), x]) :=
      ⟨show 2 ≤ sizeLine by decide, [.int i tk, y], .cons ⟨_, rfl⟩ (.cons ru .nil), ⟨_, hT2, rfl, _, rfl⟩⟩
    have I1 : Inv X pins σ (upd H s.heap.objs.size (.tup [.int (i : Nat), x])) { s with heap := h2, toks := tk + 1 } :=
      I.turnedNew (ch := [e, it]) (fun b ob hb q => (sb.2 b (fun z => hb (by simp [z]))).trans (hk b ob (fun z => hb (by simp [z])) (fun z => hb (by simp [z])) q)) hf (Nat.le_refl _) new
    obtain ⟨oi, g1, g2, g3⟩ := hst.1
    refine ⟨.ref s.heap.objs.size, _, I1, rfl, ⟨_, x, rfl, I.hok.fresh (Nat.le_refl _), rfl, fun ys hys => by rw [tup_inj I hys hq]; exact hx⟩, ⟨⟨y, ?_⟩, ⟨oi, (sb.2 it (Ne.symm n1)).trans g1, g2, g3⟩, n1, n2, n3⟩, fun b hb => ?_⟩
    · rw [show ((i + 1 : Nat) : Int) = (i : Int) + 1 by omega]
      exact he2
    · have hb2 : b < s.heap.objs.size := by
        rcases (show b = e ∨ b = it by simpa using hb) with z | z
        · rw [z]
          exact hel
        · rw [z]
          exact hil
      rw [upd_ne (Nat.ne_of_lt hb2)]
      exact (hf b hb).1
  done := by
    intro X hP hw hK hc i pins s σ H E I hf st hg
    subst hP hw hK
    obtain ⟨⟨old, he⟩, hit, n1, n2, n3⟩ := st
    obtain ⟨xs, hq, hx⟩ := hg
    obtain ⟨its, rv, p, _⟩ := I.tuple hq
    obtain ⟨f0, f1, f2, f3, f4, f5⟩ := hf it (by simp)
    have hl := rv.length
    have hn : its.toArray.size = i := by
      rw [List.size_toArray]
      omega
    have hh : X.A.in1.handled = none := I.ok.hd hc
    have DT := Draws.tuple (prog := X.prog) (w := X.w) hh it a n3 its.toArray
    refine wpAny_pyNext_enum_endD DT he ⟨?_, p⟩ fun h1 eb => ⟨rfl, I.turned (t' := s.toks) (fun b o hb q => eb b o hb q) f0 f1 f3 f4 f5⟩
    rw [hn]
    exact hit
  self := fun A i s Q E st h => by
    obtain ⟨⟨_, he⟩, _⟩ := st
    exact wpAny_pyIter_enum he h
def iEnumT (K : PySem.W.Frag) (ta : TA) : TI := fun σ H R => ta σ H fun vs H1 => ∃ a xs, vs = [.ref a] ∧ SqT K H1 a xs ∧ R (IteT K a) H1
theorem pi_enumT {X : Cx} {e : Expr} {ta : TA} {p pos tpos : Pos} {elts : List Expr} {kk : Nat} (hg : Gl X "enumerate") (hm : X.mg "enumerate" = none) (ha : PA X [e] ta) (hs : starEach [e] X.env = [(false, eval e X.env)] := by rfl) :
    PI X (.Tuple elts kk tpos) (.Call (.Name "enumerate" p) [e] [] pos) (iEnumT X.K ta) := by
  refine ⟨fun pins s σ H R I h => ?_⟩
  refine Call_ (ld_blt I hg hm boot_enumerate (PyProof.Rows.callWith_type1 (thn (ha.run pos pins s σ H _ I h) fun us s1 ⟨vs, H1, I1, r1, y1⟩ => ?_) hs rfl))
  obtain ⟨a, xs, ex, hq, q⟩ := y1
  subst ex
  cases r1 with
  | cons r rr =>
    cases rr
    cases r
    obtain ⟨its, rv, p2, _⟩ := I1.tuple hq
    have hal : a < s1.heap.objs.size := by
      obtain ⟨o, g, _⟩ := p2
      exact Heap.lt_size g
    refine call_made (begins_tuple a its.toArray) p2 fun h2 he hit hk => wpAny_pyIter_enum he ?_
    have I2 : Inv X pins σ H1 { s1 with heap := h2 } := I1.kept (t' := s1.toks) hk
    refine ⟨s1.heap.objs.size + 1, [s1.heap.objs.size + 1, s1.heap.objs.size], _, _, H1, rfl, I2, turn a (s1.heap.objs.size + 1) s1.heap.objs.size, ⟨⟨.none, he⟩, ⟨_, hit, rfl, rfl⟩, Nat.succ_ne_self _, Nat.ne_of_lt (Nat.lt_succ_of_lt hal), Nat.ne_of_lt hal⟩, fun b hb => ?_, q⟩
    have hle : s1.heap.objs.size ≤ b := by
      rcases (show b = s1.heap.objs.size + 1 ∨ b = s1.heap.objs.size by simpa using hb) with z | z
      · rw [z]
        exact Nat.le_add_right _ _
      · rw [z]
        exact Nat.le_refl _
    exact I1.fpOk hle (I1.hok.fresh hle)
end EnT

namespace K1
open PySem PySem.Spec PyProof.Rows L2 Evl
def topS (i : Nat) : Stmt := PySem.Challenge.pw_ringstairs_k72_whole_levels_above_others.main.body.getD i (.Pass ⟨0, 0, 0, 0⟩)
abbrev sIsInteger : Stmt := topS 9
abbrev nIsInteger : List Str := ["value"]
theorem scIsInteger : FnScope nIsInteger ["value"] (defScope sIsInteger) := ⟨rfl, rfl, rfl, by decide +kernel, rfl, by decide +kernel, by decide +kernel⟩
abbrev sIsBetween : Stmt := topS 10
abbrev nIsBetween : List Str := ["value", "low", "high"]
theorem scIsBetween : FnScope nIsBetween ["value", "low", "high"] (defScope sIsBetween) := ⟨rfl, rfl, rfl, by decide +kernel, rfl, by decide +kernel, by decide +kernel⟩
abbrev sIsShort : Stmt := topS 11
abbrev nIsShort : List Str := ["value"]
theorem scIsShort : FnScope nIsShort ["value"] (defScope sIsShort) := ⟨rfl, rfl, rfl, by decide +kernel, rfl, by decide +kernel, by decide +kernel⟩
abbrev sAreShort : Stmt := topS 12
abbrev nAreShort : List Str := ["numbers", "number"]
theorem scAreShort : FnScope nAreShort ["numbers"] (defScope sAreShort) := ⟨rfl, rfl, rfl, by decide +kernel, rfl, by decide +kernel, by decide +kernel⟩
abbrev sCheckBetween : Stmt := topS 13
abbrev nCheckBetween : List Str := ["value", "low", "high"]
theorem scCheckBetween : FnScope nCheckBetween ["value", "low", "high"] (defScope sCheckBetween) := ⟨rfl, rfl, rfl, by decide +kernel, rfl, by decide +kernel, by decide +kernel⟩
abbrev sCheckUpTo : Stmt := topS 14
abbrev nCheckUpTo : List Str := ["value", "high"]
theorem scCheckUpTo : FnScope nCheckUpTo ["value", "high"] (defScope sCheckUpTo) := ⟨rfl, rfl, rfl, by decide +kernel, rfl, by decide +kernel, by decide +kernel⟩
abbrev sIsHeap : Stmt := topS 17
abbrev nIsHeap : List Str := ["value", "ahead", "height"]
theorem scIsHeap : FnScope nIsHeap ["value"] (defScope sIsHeap) := ⟨rfl, rfl, rfl, by decide +kernel, rfl, by decide +kernel, by decide +kernel⟩
abbrev sCheckHeap : Stmt := topS 18
abbrev nCheckHeap : List Str := ["heap"]
theorem scCheckHeap : FnScope nCheckHeap ["heap"] (defScope sCheckHeap) := ⟨rfl, rfl, rfl, by decide +kernel, rfl, by decide +kernel, by decide +kernel⟩
abbrev sCheckHeaps : Stmt := topS 19
abbrev nCheckHeaps : List Str := ["one", "other"]
theorem scCheckHeaps : FnScope nCheckHeaps ["one", "other"] (defScope sCheckHeaps) := ⟨rfl, rfl, rfl, by decide +kernel, rfl, by decide +kernel, by decide +kernel⟩
abbrev sHeightAt : Stmt := topS 20
abbrev nHeightAt : List Str := ["heap", "column"]
theorem scHeightAt : FnScope nHeightAt ["heap", "column"] (defScope sHeightAt) := ⟨rfl, rfl, rfl, by decide +kernel, rfl, by decide +kernel, by decide +kernel⟩
abbrev sHolds : Stmt := topS 21
abbrev nHolds : List Str := ["heap", "other", "column", "height"]
theorem scHolds : FnScope nHolds ["heap", "other"] (defScope sHolds) := ⟨rfl, rfl, rfl, by decide +kernel, rfl, by decide +kernel, by decide +kernel⟩
abbrev sBox : Stmt := topS 22
abbrev nBox : List Str := ["columns", "rows"]
theorem scBox : FnScope nBox ["columns", "rows"] (defScope sBox) := ⟨rfl, rfl, rfl, by decide +kernel, rfl, by decide +kernel, by decide +kernel⟩
abbrev sIsHeld : Stmt := topS 23
abbrev nIsHeld : List Str := ["heap", "other"]
theorem scIsHeld : FnScope nIsHeld ["heap", "other"] (defScope sIsHeld) := ⟨rfl, rfl, rfl, by decide +kernel, rfl, by decide +kernel, by decide +kernel⟩
abbrev sUnionOf : Stmt := topS 24
abbrev nUnionOf : List Str := ["one", "other", "columns", "column"]
theorem scUnionOf : FnScope nUnionOf ["one", "other"] (defScope sUnionOf) := ⟨rfl, rfl, rfl, by decide +kernel, rfl, by decide +kernel, by decide +kernel⟩
abbrev sIsLevels : Stmt := topS 28
abbrev nIsLevels : List Str := ["value", "at"]
theorem scIsLevels : FnScope nIsLevels ["value"] (defScope sIsLevels) := ⟨rfl, rfl, rfl, by decide +kernel, rfl, by decide +kernel, by decide +kernel⟩
abbrev sCheckLevels : Stmt := topS 29
abbrev nCheckLevels : List Str := ["levels"]
theorem scCheckLevels : FnScope nCheckLevels ["levels"] (defScope sCheckLevels) := ⟨rfl, rfl, rfl, by decide +kernel, rfl, by decide +kernel, by decide +kernel⟩
abbrev sCheckLikeLevels : Stmt := topS 30
abbrev nCheckLikeLevels : List Str := ["levels", "many"]
theorem scCheckLikeLevels : FnScope nCheckLikeLevels ["levels", "many"] (defScope sCheckLikeLevels) := ⟨rfl, rfl, rfl, by decide +kernel, rfl, by decide +kernel, by decide +kernel⟩
abbrev sDistanceIn : Stmt := topS 31
abbrev nDistanceIn : List Str := ["levels", "many", "late", "early"]
theorem scDistanceIn : FnScope nDistanceIn ["levels"] (defScope sDistanceIn) := ⟨rfl, rfl, rfl, by decide +kernel, rfl, by decide +kernel, by decide +kernel⟩
abbrev sDistance : Stmt := topS 32
abbrev nDistance : List Str := ["levels"]
theorem scDistance : FnScope nDistance ["levels"] (defScope sDistance) := ⟨rfl, rfl, rfl, by decide +kernel, rfl, by decide +kernel, by decide +kernel⟩
abbrev sColumnsAt : Stmt := topS 33
abbrev nColumnsAt : List Str := ["levels", "c", "level"]
theorem scColumnsAt : FnScope nColumnsAt ["levels", "c"] (defScope sColumnsAt) := ⟨rfl, rfl, rfl, by decide +kernel, rfl, by decide +kernel, by decide +kernel⟩
abbrev sRowsAt : Stmt := topS 34
abbrev nRowsAt : List Str := ["levels", "c", "level"]
theorem scRowsAt : FnScope nRowsAt ["levels", "c"] (defScope sRowsAt) := ⟨rfl, rfl, rfl, by decide +kernel, rfl, by decide +kernel, by decide +kernel⟩
abbrev sLevelRichness : Stmt := topS 35
abbrev nLevelRichness : List Str := ["levels", "c"]
theorem scLevelRichness : FnScope nLevelRichness ["levels", "c"] (defScope sLevelRichness) := ⟨rfl, rfl, rfl, by decide +kernel, rfl, by decide +kernel, by decide +kernel⟩
abbrev sAreAbove : Stmt := topS 36
abbrev nAreAbove : List Str := ["one", "other", "first"]
theorem scAreAbove : FnScope nAreAbove ["one", "other"] (defScope sAreAbove) := ⟨rfl, rfl, rfl, by decide +kernel, rfl, by decide +kernel, by decide +kernel⟩
abbrev sCoreWithLevels : Stmt := topS 37
abbrev nCoreWithLevels : List Str := ["levels", "core", "c"]
theorem scCoreWithLevels : FnScope nCoreWithLevels ["levels"] (defScope sCoreWithLevels) := ⟨rfl, rfl, rfl, by decide +kernel, rfl, by decide +kernel, by decide +kernel⟩
abbrev sCoreOfLevels : Stmt := topS 38
abbrev nCoreOfLevels : List Str := ["levels"]
theorem scCoreOfLevels : FnScope nCoreOfLevels ["levels"] (defScope sCoreOfLevels) := ⟨rfl, rfl, rfl, by decide +kernel, rfl, by decide +kernel, by decide +kernel⟩
abbrev sLDice : Stmt := topS 40
abbrev nLDice : List Str := ["_law_script", "_law_at", "_law_cell", "_law_great", "_law_left", "_law_mixed_here"]
theorem scLDice : FnScope nLDice ["_law_script", "_law_at"] (defScope sLDice) := ⟨rfl, rfl, rfl, by decide +kernel, rfl, by decide +kernel, by decide +kernel⟩
abbrev sLRoll : Stmt := topS 41
abbrev nLRoll : List Str := ["_law_dice_here", "_law_total", "_law_size", "_law_drawn", "_law_one", "_law_two"]
theorem scLRoll : FnScope nLRoll ["_law_dice_here", "_law_total"] (defScope sLRoll) := ⟨rfl, rfl, rfl, by decide +kernel, rfl, by decide +kernel, by decide +kernel⟩
abbrev sLOneOf : Stmt := topS 42
abbrev nLOneOf : List Str := ["_law_dice_here", "_law_items"]
theorem scLOneOf : FnScope nLOneOf ["_law_dice_here", "_law_items"] (defScope sLOneOf) := ⟨rfl, rfl, rfl, by decide +kernel, rfl, by decide +kernel, by decide +kernel⟩
abbrev sLMixed : Stmt := topS 43
abbrev nLMixed : List Str := ["_law_dice_here", "_law_items", "_law_left", "_law_found"]
theorem scLMixed : FnScope nLMixed ["_law_dice_here", "_law_items"] (defScope sLMixed) := ⟨rfl, rfl, rfl, by decide +kernel, rfl, by decide +kernel, by decide +kernel⟩
abbrev sLDistance : Stmt := topS 44
abbrev nLDistance : List Str := ["_law_levels", "_law_found", "_law_at", "_law_one"]
theorem scLDistance : FnScope nLDistance ["_law_levels"] (defScope sLDistance) := ⟨rfl, rfl, rfl, by decide +kernel, rfl, by decide +kernel, by decide +kernel⟩
abbrev sLDrawnLevels : Stmt := topS 45
abbrev nLDrawnLevels : List Str := ["_law_dice_here", "_law_k", "_law_found", "_law_turn"]
theorem scLDrawnLevels : FnScope nLDrawnLevels ["_law_dice_here", "_law_k"] (defScope sLDrawnLevels) := ⟨rfl, rfl, rfl, by decide +kernel, rfl, by decide +kernel, by decide +kernel⟩
abbrev sLOfSum : Stmt := topS 46
abbrev nLOfSum : List Str := ["_law_dice_here", "_law_levels", "_law_total", "_law_found", "_law_at"]
theorem scLOfSum : FnScope nLOfSum ["_law_dice_here", "_law_levels", "_law_total"] (defScope sLOfSum) := ⟨rfl, rfl, rfl, by decide +kernel, rfl, by decide +kernel, by decide +kernel⟩
abbrev sLApart : Stmt := topS 47
abbrev nLApart : List Str := ["_law_dice_here", "_law_levels", "_law_one", "_law_other", "_law_found"]
theorem scLApart : FnScope nLApart ["_law_dice_here", "_law_levels"] (defScope sLApart) := ⟨rfl, rfl, rfl, by decide +kernel, rfl, by decide +kernel, by decide +kernel⟩
abbrev sLPairRight : Stmt := topS 48
abbrev nLPairRight : List Str := ["_law_one", "_law_other", "_law_above", "_law_c", "_law_mine", "_law_theirs", "_law_e"]
theorem scLPairRight : FnScope nLPairRight ["_law_one", "_law_other"] (defScope sLPairRight) := ⟨rfl, rfl, rfl, by decide +kernel, rfl, by decide +kernel, by decide +kernel⟩
abbrev sLaw : Stmt := topS 49
abbrev nLaw : List Str := ["_law_script", "_law_at", "_law_dice_here", "_law_k", "_law_one", "_law_other", "_law_far", "_law_left", "_law_right", "_law_great", "_law_moved_one", "_law_moved_other", "_law_e"]
theorem scLaw : FnScope nLaw ["_law_script"] (defScope sLaw) := ⟨rfl, rfl, rfl, by decide +kernel, rfl, by decide +kernel, by decide +kernel⟩
/-- a def of the text at its place, and how its arguments bind -/
structure DefAt (K : PySem.W.Frag) (mg : Str → Option Value) (x : Str) (st : Stmt) (ps : List Str) (f : Addr) (fd : FuncData) : Prop where
  F : Fun K x x st f fd
  g : mg x = some (.ref f)
  b : Binds K fd ps []
/-- what the top has written -/
structure Txt (K : PySem.W.Frag) (mg : Str → Option Value) : Prop where
  z_abs : mg "abs" = none
  z_all : mg "all" = none
  z_bool : mg "bool" = none
  z_enumerate : mg "enumerate" = none
  z_int : mg "int" = none
  z_isinstance : mg "isinstance" = none
  z_len : mg "len" = none
  z_list : mg "list" = none
  z_max : mg "max" = none
  z_min : mg "min" = none
  z_range : mg "range" = none
  z_sorted : mg "sorted" = none
  z_sum : mg "sum" = none
  z_tuple : mg "tuple" = none
  v_BOUND : ∃ t, mg "BOUND" = some (.int (10 ^ 60) t)
  v_SHORT_BOUND : ∃ t, mg "SHORT_BOUND" = some (.int (10 ^ 50) t)
  v_SIDE : ∃ t, mg "MOST_SIDE" = some (.int 60 t)
  v_MAX_ORDER : ∃ t, mg "MAX_ORDER" = some (.int 60 t)
  v_MOST_DISTANCE : ∃ t, mg "MOST_DISTANCE" = some (.int 12 t)
  d_is_integer : ∃ f fd, DefAt K mg "is_integer" sIsInteger ["value"] f fd
  d_is_between : ∃ f fd, DefAt K mg "is_between" sIsBetween ["value", "low", "high"] f fd
  d_is_short : ∃ f fd, DefAt K mg "is_short" sIsShort ["value"] f fd
  d_are_short : ∃ f fd, DefAt K mg "are_short" sAreShort ["numbers"] f fd
  d_check_between : ∃ f fd, DefAt K mg "check_between" sCheckBetween ["value", "low", "high"] f fd
  d_check_up_to : ∃ f fd, DefAt K mg "check_up_to" sCheckUpTo ["value", "high"] f fd
  d_is_heap : ∃ f fd, DefAt K mg "is_heap" sIsHeap ["value"] f fd
  d_check_heap : ∃ f fd, DefAt K mg "check_heap" sCheckHeap ["heap"] f fd
  d_check_heaps : ∃ f fd, DefAt K mg "check_heaps" sCheckHeaps ["one", "other"] f fd
  d_height_at : ∃ f fd, DefAt K mg "height_at" sHeightAt ["heap", "column"] f fd
  d_holds : ∃ f fd, DefAt K mg "holds" sHolds ["heap", "other"] f fd
  d_box : ∃ f fd, DefAt K mg "box" sBox ["columns", "rows"] f fd
  d_is_held : ∃ f fd, DefAt K mg "is_held" sIsHeld ["heap", "other"] f fd
  d_union_of : ∃ f fd, DefAt K mg "union_of" sUnionOf ["one", "other"] f fd
  d_is_levels : ∃ f fd, DefAt K mg "is_levels" sIsLevels ["value"] f fd
  d_check_levels : ∃ f fd, DefAt K mg "check_levels" sCheckLevels ["levels"] f fd
  d_check_like_levels : ∃ f fd, DefAt K mg "check_like_levels" sCheckLikeLevels ["levels", "many"] f fd
  d_distance_in : ∃ f fd, DefAt K mg "distance_in" sDistanceIn ["levels"] f fd
  d_distance : ∃ f fd, DefAt K mg "distance" sDistance ["levels"] f fd
  d_columns_at : ∃ f fd, DefAt K mg "columns_at" sColumnsAt ["levels", "c"] f fd
  d_rows_at : ∃ f fd, DefAt K mg "rows_at" sRowsAt ["levels", "c"] f fd
  d_level_richness : ∃ f fd, DefAt K mg "level_richness" sLevelRichness ["levels", "c"] f fd
  d_are_above : ∃ f fd, DefAt K mg "are_above" sAreAbove ["one", "other"] f fd
  d_core_with_levels : ∃ f fd, DefAt K mg "core_with_levels" sCoreWithLevels ["levels"] f fd
  d_core_of_levels : ∃ f fd, DefAt K mg "core_of_levels" sCoreOfLevels ["levels"] f fd
  d_l_dice : ∃ f fd, DefAt K mg "_law_dice" sLDice ["_law_script", "_law_at"] f fd
  d_l_roll : ∃ f fd, DefAt K mg "_law_roll" sLRoll ["_law_dice_here", "_law_total"] f fd
  d_l_one_of : ∃ f fd, DefAt K mg "_law_one_of" sLOneOf ["_law_dice_here", "_law_items"] f fd
  d_l_mixed : ∃ f fd, DefAt K mg "_law_mixed" sLMixed ["_law_dice_here", "_law_items"] f fd
  d_l_distance : ∃ f fd, DefAt K mg "_law_distance" sLDistance ["_law_levels"] f fd
  d_l_drawn_levels : ∃ f fd, DefAt K mg "_law_drawn_levels" sLDrawnLevels ["_law_dice_here", "_law_k"] f fd
  d_l_of_sum : ∃ f fd, DefAt K mg "_law_of_sum" sLOfSum ["_law_dice_here", "_law_levels", "_law_total"] f fd
  d_l_apart : ∃ f fd, DefAt K mg "_law_apart" sLApart ["_law_dice_here", "_law_levels"] f fd
  d_l_pair_right : ∃ f fd, DefAt K mg "_law_pair_right" sLPairRight ["_law_one", "_law_other"] f fd
end K1

namespace K1
open PySem PySem.Spec PyProof.Rows L2 Evl
/-! ### great powers -/
def CPowW (i j : Int) : Prop := 0 ≤ j ∧ (Builtin.Int.intBits i : Int) * j ≤ 2 ^ 27
theorem op_powW {X : Cx} : OpR X (binaryOp .Pow) (rI CPowW fun i j => .int (i ^ j.toNat)) := opI fun _ _ _ _ _ _ _ hc q => pow_int hc.1 hc.2 q
/-! ### values that are looked at -/
/-- no int -/
inductive NotInt (K : PySem.W.Frag) (H : Hp) : V → Prop where
  | bl (b : Bool) : NotInt K H (.bl b)
  | non : NotInt K H .non
  | str (x : Str) : NotInt K H (.str x)
  | lst {a : Addr} {xs : List V} (e : H a = some (.lst xs)) : NotInt K H (.ref a)
  | tup {a : Addr} {xs : List V} (e : H a = some (.tup xs)) : NotInt K H (.ref a)
  | dK {a : Addr} {kvs : List (Key × V)} (e : H a = some (.dK kvs)) : NotInt K H (.ref a)
inductive IntB (K : PySem.W.Frag) (H : Hp) : V → Bool → Prop where
  | int (i : Int) : IntB K H (.int i) (decide (-(10 ^ 60) < i) && decide (i < 10 ^ 60))
  | no {x : V} (h : NotInt K H x) : IntB K H x false
/-- between two ints -/
inductive BtwB (K : PySem.W.Frag) (H : Hp) (lo hi : Int) : V → Bool → Prop where
  | int (i : Int) : BtwB K H lo hi (.int i) ((decide (-(10 ^ 60) < i) && decide (i < 10 ^ 60)) && (decide (lo ≤ i) && decide (i ≤ hi)))
  | no {x : V} (h : NotInt K H x) : BtwB K H lo hi x false
theorem NotInt.ty {K : PySem.W.Frag} {H : Hp} {x : V} (h : NotInt K H x) : ∃ t : Value, TyX K H x t ∧ ((PySem.W.kitOne K t (.type "int") = some false) ∨ (t = .type "bool")) := by
  cases h with
  | bl b => exact ⟨_, .base (.bl b), .inr rfl⟩
  | non => exact ⟨_, .base .non, .inl (kit_ty (by decide +kernel))⟩
  | str x => exact ⟨_, .base (.str x), .inl (kit_ty (by decide +kernel))⟩
  | lst e => exact ⟨_, .base (.lst e), .inl (kit_ty (by decide +kernel))⟩
  | tup e => exact ⟨_, .base (.tup e), .inl (kit_ty (by decide +kernel))⟩
  | dK e => exact ⟨_, .base (.dK e), .inl (kit_ty (by decide +kernel))⟩
theorem NotInt.mono {K : PySem.W.Frag} {H H' : Hp} {x : V} (e : Ex H H') (h : NotInt K H x) : NotInt K H' x := by
  cases h with
  | bl b => exact .bl b
  | non => exact .non
  | str x => exact .str x
  | lst q => exact .lst (e _ _ q)
  | tup q => exact .tup (e _ _ q)
  | dK q => exact .dK (e _ _ q)
section
variable {P : Program} {w : World} {K : PySem.W.Frag} {mg : Str → Option Value} {base : Heap}
def spIsInteger (K : PySem.W.Frag) : Sp := fun vs H Q _ => ∃ x b, vs = [x] ∧ IntB K H x b ∧ ∀ H', Ex H H' → Q (.bl b) H'
theorem ok_is_integer (T : Txt K mg) {f : Addr} {fd : FuncData} (D : DefAt K mg "is_integer" sIsInteger ["value"] f fd) : FnOk P w K mg base CX0 1 f fd ["value"] (spIsInteger K) := by
  refine D.F.ok scIsInteger (fun vs H Q E h => ?_) (fun cdv A outer s H vs Q E hr h => ?_)
  · obtain ⟨x, b, rfl, _⟩ := h
    rfl
  · obtain ⟨x, b, rfl, hb, q⟩ := h
    obtain ⟨tB, vB⟩ := T.v_BOUND
    refine ⟨_, pss_one (ps_ret (pe_and (pe_callB call_isi (by rfl) T.z_isinstance (by decide +kernel) (pa_cons (pv 0) (pa_cons (pe_bltn (v := .ty "int") (by rfl) T.z_int (by decide +kernel) rfl) pa_nil)))
      (pe_and (pe_not (pe_callB call_isi (by rfl) T.z_isinstance (by decide +kernel) (pa_cons (pv 0) (pa_cons (pe_bltn (v := .ty "bool") (by rfl) T.z_bool (by decide +kernel) rfl) pa_nil))))
      (pe_one (pe_chain op_lt op_lt (pe_un un_neg (pe_glob (v := .int (10 ^ 60)) rfl vB ⟨_, rfl⟩)) (pv 0) (pe_glob (v := .int (10 ^ 60)) rfl vB ⟨_, rfl⟩)))))), ?_⟩
    cases hb with
    | int i =>
      refine ⟨.int i, rfl, .int i, .ty "int", .type "int", .type "int", true, rfl, .ty _, .base (.int i), kit_ty (by decide +kernel), true, rfl, iteT ?_⟩
      refine ⟨.int i, rfl, .int i, .ty "bool", .type "int", .type "bool", false, rfl, .ty _, .base (.int i), kit_ty (by decide +kernel), false, rfl, true, rfl, iteT ?_⟩
      refine ⟨_, rfl, .int i, rfl, _, _, rfl, rfl, _, rfl, ite2 (fun c => ?_) (fun c => ?_)⟩
      · refine ⟨_, _, rfl, rfl, ?_⟩
        have e : decide (-(10 ^ 60) < i) = true := c
        rw [e, Bool.true_and] at q
        exact q _ (Ex.refl _)
      · have e : decide (-(10 ^ 60) < i) = false := Bool.eq_false_iff.mpr c
        rw [e, Bool.false_and] at q
        exact q _ (Ex.refl _)
    | no hn =>
      obtain ⟨t, ty, h | rfl⟩ := hn.ty
      · exact ⟨x, rfl, x, .ty "int", t, .type "int", false, rfl, .ty _, ty, h, false, rfl, iteF (q _ (Ex.refl _))⟩
      · refine ⟨x, rfl, x, .ty "int", .type "bool", .type "int", true, rfl, .ty _, ty, kit_ty (by decide +kernel), true, rfl, iteT ?_⟩
        exact ⟨x, rfl, x, .ty "bool", .type "bool", .type "bool", true, rfl, .ty _, ty, kit_ty (by decide +kernel), true, rfl, false, rfl, iteF (q _ (Ex.refl _))⟩
def spIsBetween (K : PySem.W.Frag) : Sp := fun vs H Q _ => ∃ x lo hi b, vs = [x, .int lo, .int hi] ∧ BtwB K H lo hi x b ∧ ∀ H', Ex H H' → Q (.bl b) H'
theorem ok_is_between (T : Txt K mg) {f : Addr} {fd : FuncData} (D : DefAt K mg "is_between" sIsBetween ["value", "low", "high"] f fd) : FnOk P w K mg base CX0 2 f fd ["value", "low", "high"] (spIsBetween K) := by
  refine D.F.ok scIsBetween (fun vs H Q E h => ?_) (fun cdv A outer s H vs Q E hr h => ?_)
  · obtain ⟨x, lo, hi, b, rfl, _⟩ := h
    rfl
  · obtain ⟨x, lo, hi, b, rfl, hb, q⟩ := h
    obtain ⟨f1, fd1, D1⟩ := T.d_is_integer
    refine ⟨_, pss_one (ps_ret (pe_and (pe_call (ok_is_integer T D1) hr (by rfl) D1.g D1.F.kp D1.b .nil pass0 (pa_cons (pv 0) pa_nil)) (pe_one (pe_chain op_le op_le (pv 1) (pv 0) (pv 2))))), ?_⟩
    cases hb with
    | int i =>
      refine ⟨.int i, rfl, .int i, _, rfl, .int i, fun H1 e1 => ⟨_, rfl, ite2 (fun c => ?_) (fun c => ?_)⟩⟩
      · refine ⟨.int lo, rfl, .int i, rfl, _, _, rfl, rfl, _, rfl, ?_⟩
        rw [c, Bool.true_and] at q
        refine ite2 (fun c2 => ⟨.int hi, rfl, _, _, rfl, rfl, ?_⟩) (fun c2 => ?_)
        · have e : decide (lo ≤ i) = true := c2
          rw [e, Bool.true_and] at q
          exact q _ e1
        · have e : decide (lo ≤ i) = false := Bool.eq_false_iff.mpr c2
          rw [e, Bool.false_and] at q
          exact q _ e1
      · rw [Bool.eq_false_iff.mpr c, Bool.false_and] at q
        exact q _ e1
    | no hn => exact ⟨x, rfl, x, false, rfl, .no hn, fun H1 e1 => ⟨false, rfl, iteF (q _ e1)⟩⟩
end
end K1

namespace K1
open PySem PySem.Spec PyProof.Rows L2 Evl
/-! ### the dice -/
def Dice (H : Hp) (d : Addr) : Prop := ∃ l m c : Int, H d = some (.lst [.int l, .int m, .int c])
/-- all but the dice is as it was -/
def Keep (d : Addr) (H H' : Hp) : Prop := ∀ b o, b ≠ d → H b = some o → H' b = some o
theorem Keep.refl (d : Addr) (H : Hp) : Keep d H H := fun _ _ _ h => h
theorem Keep.trans {d : Addr} {H H1 H2 : Hp} (a : Keep d H H1) (b : Keep d H1 H2) : Keep d H H2 := fun x o n h => b x o n (a x o n h)
theorem Keep.ex {d : Addr} {H H' : Hp} (e : Ex H H') : Keep d H H' := fun b o _ h => e b o h
theorem Keep.dice {d : Addr} {H : Hp} {o : HO} : Keep d H (upd H d o) := fun b u n h => by
  rw [upd_ne n]
  exact h
theorem Keep.new {d p : Addr} {H : Hp} {o : HO} (h : H p = none) : Keep d H (upd H p o) := .ex (.new h)
/-- a thing that H did not know may change -/
theorem Keep.mut {d p : Addr} {H H' : Hp} {o : HO} (e : Keep d H H') (h : H p = none) : Keep d H (upd H' p o) := fun b u n q => by
  rw [upd_ne (ne_of_none q h)]
  exact e b u n q
theorem Keep.free {d p : Addr} {H H' : Hp} (e : Keep d H H') (n : p ≠ d) (h : H' p = none) : H p = none := by
  cases q : H p with
  | none => rfl
  | some o =>
    rw [e p o n q] at h
    cases h
theorem Dice.ex {d : Addr} {H H' : Hp} (e : Ex H H') (h : Dice H d) : Dice H' d := by
  obtain ⟨l, m, c, q⟩ := h
  exact ⟨l, m, c, e _ _ q⟩
theorem Dice.upd {d p : Addr} {H : Hp} {o : HO} (n : d ≠ p) (h : Dice H d) : Dice (L2.upd H p o) d := by
  obtain ⟨l, m, c, q⟩ := h
  exact ⟨l, m, c, by rw [upd_ne n]; exact q⟩
theorem Dice.ne_new {d p : Addr} {H : Hp} (h : Dice H d) (n : H p = none) : d ≠ p := by
  obtain ⟨l, m, c, q⟩ := h
  exact ne_of_none q n
theorem Dice.ne_tup {d p : Addr} {H : Hp} {xs : List V} (h : Dice H d) (n : H p = some (.tup xs)) : p ≠ d := by
  obtain ⟨l, m, c, q⟩ := h
  exact ne_of n q (by intro z; cases z)
theorem Keep.tup {d p : Addr} {H H' : Hp} {xs : List V} (e : Keep d H H') (h : Dice H d) (n : H p = some (.tup xs)) : H' p = some (.tup xs) := e _ _ (h.ne_tup n) n
theorem wide_n {n : Int} (h : 1 ≤ n) (h2 : n ≤ 10 ^ 50) {i : Int} : CDivW i n := wide_div (b := 200) (by omega) (by omega) (by decide) (by decide)
section
variable {P : Program} {w : World} {K : PySem.W.Frag} {mg : Str → Option Value} {base : Heap}
def spRoll : Sp := fun vs H Q _ => ∃ (d : Addr) (n : Int), vs = [.ref d, .int n] ∧ Dice H d ∧ 1 ≤ n ∧ n ≤ 10 ^ 50 ∧ ∀ (r : Int) H', 0 ≤ r → r < n → Dice H' d → Keep d H H' → Q (.int r) H'
theorem ok_roll (T : Txt K mg) {f : Addr} {fd : FuncData} (D : DefAt K mg "_law_roll" sLRoll ["_law_dice_here", "_law_total"] f fd) : FnOk P w K mg base CX0 1 f fd ["_law_dice_here", "_law_total"] spRoll := by
  refine D.F.ok scLRoll (fun vs H Q E h => ?_) (fun cdv A outer s H vs Q E hr h => ?_)
  · obtain ⟨d, n, rfl, _⟩ := h
    rfl
  · obtain ⟨d, n, rfl, ⟨l, m, c, hd⟩, h1, h2, q⟩ := h
    refine ⟨_, pss_cons (ps_set (i := 2) scLRoll.nd rfl (.inl rfl) (pe_callTy call_int1 (by rfl) T.z_int (by decide +kernel) (pa_cons (pv 1) pa_nil)))
      (pss_cons (ps_if (pt_cmpR op_gt (pe_ix ix_list (pv 0) pe_int (fun _ _ => rfl)) pe_int (nomark _))
        (pss_cons (ps_set (i := 3) scLRoll.nd rfl (.inl rfl) (pe_op op_mod (pe_ix ix_list (pv 0) pe_int (fun _ _ => rfl)) (pv 2)))
        (pss_cons (ps_asg (pe_op op_fdivW (pe_ix ix_list (pv 0) pe_int (fun _ _ => rfl)) (pv 2)) (pg_sub (pv 0) pe_int set_list))
        (pss_one (ps_ret (pe_callTy call_int1 (by rfl) T.z_int (by decide +kernel) (pa_cons (pv 3) pa_nil)))))) pss_nil)
      (pss_cons (ps_asg (pe_op op_add (pe_ix ix_list (pv 0) pe_int (fun _ _ => rfl)) pe_int) (pg_sub (pv 0) pe_int set_list))
      (pss_cons (ps_set (i := 4) scLRoll.nd rfl (.inl rfl) (pe_op op_mod (pe_op op_add (pe_ix ix_list (pv 0) pe_int (fun _ _ => rfl)) (pe_op op_mul pe_int (pe_ix ix_list (pv 0) pe_int (fun _ _ => rfl)))) pe_int))
      (pss_cons (ps_set (i := 5) scLRoll.nd rfl (.inl rfl) (pe_op op_add (pe_op op_mul (pe_op op_mod (pe_op op_mul (pv 4) (pv 4)) pe_int) (pv 4)) (pe_op op_mul pe_int (pe_ix ix_list (pv 0) pe_int (fun _ _ => rfl)))))
      (pss_cons (ps_set (i := 5) scLRoll.nd rfl (.inl rfl) (pe_op op_mod (pv 5) pe_int))
      (pss_one (ps_ret (pe_callTy call_int1 (by rfl) T.z_int (by decide +kernel) (pa_cons (pe_op op_mod (pe_op op_fdiv (pv 5) pe_int) (pv 2)) pa_nil))))))))), ?_⟩
    refine ⟨.int n, rfl, .inl ⟨n, rfl, ?_⟩⟩
    have S0 : SqL K H d [.int l, .int m, .int c] := SqL.of hd
    refine ⟨.ref d, rfl, d, _, 0, .int l, rfl, rfl, S0, rfl, l, 0, rfl, rfl, _, rfl, ite2 (fun cc => ?_) (fun cc => ?_)⟩
    · refine ⟨.ref d, rfl, d, _, 0, .int l, rfl, rfl, S0, rfl, .int n, rfl, l, n, rfl, rfl, by omega, ?_⟩
      refine ⟨.ref d, rfl, d, _, 0, .int l, rfl, rfl, S0, rfl, .int n, rfl, l, n, rfl, rfl, wide_n h1 h2, .ref d, rfl, d, _, 0, 0, rfl, rfl, hd, rfl, ?_⟩
      refine ⟨_, rfl, .inl ⟨l % n, rfl, ?_⟩⟩
      exact q _ _ (Int.emod_nonneg _ (by omega)) (Int.emod_lt_of_pos _ (by omega)) ⟨_, _, _, upd_same⟩ Keep.dice
    · refine ⟨.ref d, rfl, d, _, 2, .int c, rfl, rfl, S0, rfl, c, 1, rfl, rfl, .ref d, rfl, d, _, 2, 2, rfl, rfl, hd, rfl, ?_⟩
      generalize hH1 : upd H d _ = H1
      have hd1 : H1 d = some (.lst [.int l, .int m, .int (c + 1)]) := by
        rw [← hH1]
        exact upd_same
      have k1 : Keep d H H1 := by
        rw [← hH1]
        exact Keep.dice
      have S1 : SqL K H1 d [.int l, .int m, .int (c + 1)] := SqL.of hd1
      refine ⟨.ref d, rfl, d, _, 1, .int m, rfl, rfl, S1, rfl, .ref d, rfl, d, _, 2, .int (c + 1), rfl, rfl, S1, rfl, _, _, rfl, rfl, .inl (by decide), _, _, rfl, rfl, _, _, rfl, rfl, by show (0 : Int) < _; decide, ?_⟩
      refine ⟨_, rfl, _, rfl, (m + 1000409 * (c + 1)) % 2305843009213693951, (m + 1000409 * (c + 1)) % 2305843009213693951, rfl, rfl, .inl (by constructor <;> omega), _, _, rfl, rfl, by show (0 : Int) < _; decide, _, rfl, _, (m + 1000409 * (c + 1)) % 2305843009213693951, rfl, rfl, .inr (by constructor <;> omega), ?_⟩
      refine ⟨.ref d, rfl, d, _, 2, .int (c + 1), rfl, rfl, S1, rfl, _, _, rfl, rfl, .inl (by decide), _, _, rfl, rfl, ?_⟩
      refine ⟨_, rfl, _, _, rfl, rfl, by show (0 : Int) < _; decide, ?_⟩
      refine ⟨_, rfl, _, _, rfl, rfl, ⟨by decide, by decide⟩, .int n, rfl, _, n, rfl, rfl, by omega, .inl ⟨_, rfl, ?_⟩⟩
      exact q _ _ (Int.emod_nonneg _ (by omega)) (Int.emod_lt_of_pos _ (by omega)) ⟨_, _, _, hd1⟩ k1
def spOneOf (K : PySem.W.Frag) : Sp := fun vs H Q _ => ∃ (d a : Addr) (xs : List V), vs = [.ref d, .ref a] ∧ Dice H d ∧ H a = some (.lst xs) ∧ a ≠ d ∧ 1 ≤ xs.length ∧ xs.length ≤ 1000 ∧ ∀ x H', x ∈ xs → Dice H' d → Keep d H H' → Q x H'
theorem ok_one_of (T : Txt K mg) {f : Addr} {fd : FuncData} (D : DefAt K mg "_law_one_of" sLOneOf ["_law_dice_here", "_law_items"] f fd) : FnOk P w K mg base CX0 2 f fd ["_law_dice_here", "_law_items"] (spOneOf K) := by
  refine D.F.ok scLOneOf (fun vs H Q E h => ?_) (fun cdv A outer s H vs Q E hr h => ?_)
  · obtain ⟨d, a, xs, rfl, _⟩ := h
    rfl
  · obtain ⟨d, a, xs, rfl, hd, ha, nad, h1, h2, q⟩ := h
    obtain ⟨f1, fd1, D1⟩ := T.d_l_roll
    refine ⟨_, pss_one (ps_ret (pe_ix ix_list (pv 1) (pe_call (ok_roll T D1) hr (by rfl) D1.g D1.F.kp D1.b .nil pass0 (pa_cons (pv 0) (pa_cons (pe_callB call_len_seq (by rfl) T.z_len PySem.boot_len (pa_cons (pv 1) pa_nil)) pa_nil))) (fun _ _ => rfl))), ?_⟩
    refine ⟨.ref a, rfl, .ref d, rfl, .ref a, rfl, a, xs, rfl, .inl (SqL.of ha), d, _, rfl, hd, by omega, by omega, fun r H1 r0 r1 hd1 k1 => ?_⟩
    have hx : xs[r.toNat]? = some (xs[r.toNat]'(by omega)) := List.getElem?_eq_getElem _
    refine ⟨a, xs, r, _, rfl, rfl, SqL.of (k1 _ _ nad ha), ?_, q (xs[r.toNat]'(by omega)) H1 (List.getElem_mem _) hd1 k1⟩
    exact at_of (show r = ((r.toNat : Nat) : Int) by omega) hx
/-- a drawn ring -/
def RingAt (H : Hp) (most : Int) (x : V) (n s : Int) : Prop := ∃ t, x = .ref t ∧ H t = some (.tup [.int n, .int s]) ∧ 2 ≤ n ∧ n ≤ most ∧ 1 ≤ s ∧ s < n
def spRing : Sp := fun vs H Q _ => ∃ (d : Addr) (most : Int), vs = [.ref d, .int most] ∧ Dice H d ∧ 2 ≤ most ∧ most ≤ 1000 ∧ ∀ x n s H', RingAt H' most x n s → Dice H' d → Keep d H H' → Q x H'
end
end K1

namespace K1
open PySem PySem.Spec PyProof.Rows L2 Evl
section
variable {P : Program} {w : World} {K : PySem.W.Frag} {mg : Str → Option Value} {base : Heap}
def spDice (K : PySem.W.Frag) : Sp := fun vs H Q _ => ∃ (a : Addr) (ns : List Int) (i : Nat), vs = [.ref a, .int i] ∧ SqL K H a (ns.map V.int) ∧ ∀ p H', H p = none → Ex H H' → Dice H' p → Q (.ref p) H'
theorem ok_dice (T : Txt K mg) {f : Addr} {fd : FuncData} (D : DefAt K mg "_law_dice" sLDice ["_law_script", "_law_at"] f fd) : FnOk P w K mg base CX0 1 f fd ["_law_script", "_law_at"] (spDice K) := by
  refine D.F.ok scLDice (fun vs H Q E h => ?_) (fun cdv A outer s H vs Q E hr h => ?_)
  · obtain ⟨d, n, i, rfl, _⟩ := h
    rfl
  · obtain ⟨a, ns, i, rfl, hS, q⟩ := h
    refine ⟨_, pss_cons (ps_set (i := 2) scLDice.nd rfl (.inl rfl) (pe_op op_add (pe_op op_mul pe_int (pv 1)) pe_int))
      (pss_cut (ps_if (pt_cmpR op_lt (pv 1) (pe_callB call_len_seq (by rfl) T.z_len PySem.boot_len (pa_cons (pv 0) pa_nil)) (nomark _))
        (pss_one (ps_set (i := 2) scLDice.nd rfl (.inl rfl) (pe_ix ix_list (pv 0) (pv 1) (fun _ _ => rfl)))) pss_nil)
      (pss_cons (ps_set (i := 3) scLDice.nd rfl (.inl rfl) (pe_op op_mod (pe_callTy call_int1 (by rfl) T.z_int (by decide +kernel) (pa_cons (pe_callB call_abs (by rfl) T.z_abs (by decide +kernel) (pa_cons (pv 2) pa_nil)) pa_nil)) (pe_op op_powW (pe_op op_pow pe_int pe_int) pe_int)))
      (pss_cons (ps_set (i := 4) scLDice.nd rfl (.inl rfl) (pe_op op_fdivW (pv 3) (pe_op op_pow pe_int pe_int)))
      (pss_cons (ps_set (i := 5) scLDice.nd rfl (.inl rfl) (pe_op op_add (pe_op op_add (pe_op op_add (pe_op op_mul (pe_op op_mod (pv 3) pe_int) pe_int) (pe_op op_mul pe_int (pv 1))) (pe_op op_mul pe_int (pe_callTy call_int1 (by rfl) T.z_int (by decide +kernel) (pa_cons (pe_cmpR op_lt (pv 2) pe_int (nomark _)) pa_nil)))) pe_int))
      (pss_one (ps_ret (pe_lst (pa_cons (pv 4) (pa_cons (pe_op op_mod (pv 5) pe_int) (pa_cons pe_int pa_nil))))))))) ), ?_⟩
    refine ⟨_, rfl, _, _, rfl, rfl, .inl (by decide), _, _, rfl, rfl, ?_⟩
    refine ⟨fun σ' H' => ∃ cell : Int, σ' = [some (.ref a), some (.int i), some (.int cell), none, none, none] ∧ H' = H, ?_, ?_⟩
    · refine ⟨_, rfl, .ref a, rfl, a, _, rfl, .inl hS, _, _, rfl, rfl, _, rfl, ite2 (fun c => ?_) (fun c => ⟨_, rfl, rfl⟩)⟩
      have c' : (i : Int) < ((ns.map V.int).length : Int) := of_decide_eq_true c
      rw [List.length_map] at c'
      have hx : (ns.map V.int)[i]? = some (.int (ns[i]'(by omega))) := by
        rw [List.getElem?_map, List.getElem?_eq_getElem (by omega)]
        rfl
      exact ⟨.ref a, rfl, _, rfl, a, _, _, _, rfl, rfl, hS, atI_nat hx, _, rfl, rfl⟩
    · rintro σ' H' ⟨cell, rfl, rfl⟩
      refine ⟨_, rfl, _, rfl, .inl ⟨_, rfl, _, _, rfl, rfl, ⟨by decide, by decide, by decide⟩, _, _, rfl, rfl, ⟨by decide, by decide +kernel⟩, _, _, rfl, rfl, by show (0 : Int) < (10 ^ Int.toNat 60) ^ Int.toNat 10; decide +kernel, ?_⟩⟩
      refine ⟨_, rfl, _, _, rfl, rfl, ⟨by decide, by decide, by decide⟩, _, _, rfl, rfl, wide_div (b := 60) (by decide +kernel) (by decide +kernel) (by decide) (by decide), ?_⟩
      refine ⟨_, rfl, _, _, rfl, rfl, by show (0 : Int) < _; decide, _, _, rfl, rfl, .inr (by decide), _, rfl, _, _, rfl, rfl, .inl (by decide), _, _, rfl, rfl, _, rfl, _, _, rfl, rfl, .inr ⟨_, rfl, _, _, rfl, rfl, .inl (by decide), _, _, rfl, rfl, _, _, rfl, rfl, ?_⟩⟩
      refine ⟨_, rfl, _, rfl, _, _, rfl, rfl, by show (0 : Int) < _; decide, by show 3 ≤ sizeLine; decide, fun p hp => ?_⟩
      exact q p _ hp (Ex.new hp) ⟨_, _, _, upd_same⟩
/-- the greatest common divisor -/
def spCommon : Sp := fun vs H Q _ => ∃ (a b : Nat), vs = [.int a, .int b] ∧ ∀ H', Ex H H' → Q (.int (Nat.gcd a b : Nat)) H'
/-- a drawn ring of one order -/
def spRingOf : Sp := fun vs H Q _ => ∃ (d : Addr) (k t : Int), vs = [.ref d, .int k, .int t] ∧ Dice H d ∧ 2 ≤ k ∧ k ≤ 100 ∧ 1 ≤ t ∧ t ≤ 1000 ∧ ∀ x n s H', RingAt H' (k * t) x n s → Dice H' d → Keep d H H' → Q x H'
end
end K1

namespace K1
open PySem PySem.Spec PyProof.Rows L2 Evl
/-! own words: comprehensions that map, without a test; nothing is changed -/
section
variable {K : PySem.W.Frag} {g : TG} {te : TE} {vs : List Nat} {σ : L2.St} {H1 : Hp} {D : Addr} {Qd : Hp → Prop}
theorem lc_tupM {a : Addr} {xs : List V} (f : Nat → V) (hD : H1 D = none) (ha : H1 a = some (.tup xs)) (hl : xs.length ≤ 1000)
    (hs : ∀ i x H (Qk : VK), xs[i]? = some x → Ex H1 H → (∀ H4, Ex H H4 → Qk (f i) H4) → g x (wipe σ vs) H fun σ2 H2 => wipe σ2 vs = wipe σ vs ∧ te σ2 H2 Qk)
    (hd : ∀ H, Ex H1 H → H D = some (.lst ((List.range xs.length).map f)) → Qd H) :
    ∃ W : Nat → Nat → Hp → Prop, (∃ m, W 0 m (upd H1 D (.lst []))) ∧ ∀ i m H, W i m H →
      ((Itt K a).stop i H ∧ Qd H) ∨ ((Itt K a).go i H ∧ ∃ Nx : Hp → Prop, (∀ H', Nx H' → ∃ m', m' < m ∧ W (i + 1) m' H') ∧ ∀ x H', (Itt K a).yld i H x H' → g x (wipe σ vs) H' fun σ2 H2 => wipe σ2 vs = wipe σ vs ∧ tYes σ2 H2 fun b H3 =>
        if b = true then te σ2 H3 fun y H4 => ∃ acc, H4 D = some (.lst acc) ∧ acc.length < sizeLine ∧ Nx (upd H4 D (.lst (acc ++ [y]))) else Nx H3) := by
  refine lc_tup (K := K) (a := a) (xs := xs) (fun i H' => H' D = some (.lst ((List.range i).map f)) ∧ Ex H1 H') ⟨upd_same, Ex.new hD⟩ (fun i H' _ hp => SqT.of (hp.2 _ _ ha)) (fun i x H' hx hp => ?_) (fun H hp => hd H hp.2 hp.1)
  have hi := (List.getElem?_eq_some_iff.mp hx).1
  refine hs i x H' _ hx hp.2 fun H4 e4 => ⟨_, e4 _ _ hp.1, ?_, ?_, Ex.mut (hp.2.trans e4) hD⟩
  · rw [List.length_map, List.length_range]
    exact small1000 (by omega)
  · rw [upd_same, List.range_succ, List.map_append]
    rfl
theorem lc_listM {a : Addr} {xs : List V} (f : Nat → V) (hD : H1 D = none) (ha : H1 a = some (.lst xs)) (hl : xs.length ≤ 1000)
    (hs : ∀ i x H (Qk : VK), xs[i]? = some x → Ex H1 H → (∀ H4, Ex H H4 → Qk (f i) H4) → g x (wipe σ vs) H fun σ2 H2 => wipe σ2 vs = wipe σ vs ∧ te σ2 H2 Qk)
    (hd : ∀ H, Ex H1 H → H D = some (.lst ((List.range xs.length).map f)) → Qd H) :
    ∃ W : Nat → Nat → Hp → Prop, (∃ m, W 0 m (upd H1 D (.lst []))) ∧ ∀ i m H, W i m H →
      ((Itl K a).stop i H ∧ Qd H) ∨ ((Itl K a).go i H ∧ ∃ Nx : Hp → Prop, (∀ H', Nx H' → ∃ m', m' < m ∧ W (i + 1) m' H') ∧ ∀ x H', (Itl K a).yld i H x H' → g x (wipe σ vs) H' fun σ2 H2 => wipe σ2 vs = wipe σ vs ∧ tYes σ2 H2 fun b H3 =>
        if b = true then te σ2 H3 fun y H4 => ∃ acc, H4 D = some (.lst acc) ∧ acc.length < sizeLine ∧ Nx (upd H4 D (.lst (acc ++ [y]))) else Nx H3) := by
  refine lc_list (K := K) (a := a) (xs := xs) (fun i H' => H' D = some (.lst ((List.range i).map f)) ∧ Ex H1 H') ⟨upd_same, Ex.new hD⟩ (fun i H' _ hp => SqL.of (hp.2 _ _ ha)) (fun i x H' hx hp => ?_) (fun H hp => hd H hp.2 hp.1)
  have hi := (List.getElem?_eq_some_iff.mp hx).1
  refine hs i x H' _ hx hp.2 fun H4 e4 => ⟨_, e4 _ _ hp.1, ?_, ?_, Ex.mut (hp.2.trans e4) hD⟩
  · rw [List.length_map, List.length_range]
    exact small1000 (by omega)
  · rw [upd_same, List.range_succ, List.map_append]
    rfl
theorem lc_rangeM {lo : Int} {n : Nat} (f : Nat → V) (hD : H1 D = none) (hl : n ≤ 1000)
    (hs : ∀ i H (Qk : VK), i < n → Ex H1 H → (∀ H4, Ex H H4 → Qk (f i) H4) → g (.int (lo + i)) (wipe σ vs) H fun σ2 H2 => wipe σ2 vs = wipe σ vs ∧ te σ2 H2 Qk)
    (hd : ∀ H, Ex H1 H → H D = some (.lst ((List.range n).map f)) → Qd H) :
    ∃ W : Nat → Nat → Hp → Prop, (∃ m, W 0 m (upd H1 D (.lst []))) ∧ ∀ i m H, W i m H →
      ((Itr lo n).stop i H ∧ Qd H) ∨ ((Itr lo n).go i H ∧ ∃ Nx : Hp → Prop, (∀ H', Nx H' → ∃ m', m' < m ∧ W (i + 1) m' H') ∧ ∀ x H', (Itr lo n).yld i H x H' → g x (wipe σ vs) H' fun σ2 H2 => wipe σ2 vs = wipe σ vs ∧ tYes σ2 H2 fun b H3 =>
        if b = true then te σ2 H3 fun y H4 => ∃ acc, H4 D = some (.lst acc) ∧ acc.length < sizeLine ∧ Nx (upd H4 D (.lst (acc ++ [y]))) else Nx H3) := by
  refine lc_range (lo := lo) (n := n) (fun i H' => H' D = some (.lst ((List.range i).map f)) ∧ Ex H1 H') ⟨upd_same, Ex.new hD⟩ (fun i H' hi hp => ?_) (fun H hp => hd H hp.2 hp.1)
  refine hs i H' _ hi hp.2 fun H4 e4 => ⟨_, e4 _ _ hp.1, ?_, ?_, Ex.mut (hp.2.trans e4) hD⟩
  · rw [List.length_map, List.length_range]
    exact small1000 (by omega)
  · rw [upd_same, List.range_succ, List.map_append]
    rfl
end
theorem mapI (n : Nat) (f : Nat → Int) : (List.range n).map (fun i => V.int (f i)) = ((List.range n).map f).map V.int := by
  rw [List.map_map]
  rfl
theorem mapB (n : Nat) (b : Bool) : (List.range n).map (fun _ => V.bl b) = (List.replicate n b).map V.bl := by
  rw [List.map_replicate, List.map_const', List.length_range]
theorem all_rep (n : Nat) : (List.replicate n true).all id = true := by simp
theorem any_rep (n : Nat) : (List.replicate n false).any id = false := by simp
theorem range_getD (ns : List Int) (f : Int → Int) : (List.range ns.length).map (fun i => f (ns.getD i 0)) = ns.map f := by
  refine List.ext_getElem (by rw [List.length_map, List.length_map, List.length_range]) fun i h1 h2 => ?_
  rw [List.length_map] at h2
  rw [List.getElem_map, List.getElem_map, List.getElem_range, List.getD_eq_getElem?_getD, List.getElem?_eq_getElem h2]
  rfl
end K1

set_option exponentiation.threshold 400
namespace K1
open PySem PySem.Spec PyProof.Rows L2 Evl HM LX
section
variable {P : Program} {w : World} {K : PySem.W.Frag} {mg : Str → Option Value} {base : Heap}
theorem BtwB.mono {K : PySem.W.Frag} {H H' : Hp} {lo hi : Int} {x : V} {b : Bool} (e : Ex H H') (h : BtwB K H lo hi x b) : BtwB K H' lo hi x b := by
  cases h with
  | int i => exact .int i
  | no h => exact .no (h.mono e)
theorem BtwB.yes {K : PySem.W.Frag} {H : Hp} {lo hi i : Int} (h1 : lo ≤ i) (h2 : i ≤ hi) (h3 : -(10 ^ 60) < i) (h4 : i < 10 ^ 60) : BtwB K H lo hi (.int i) true := by
  have := BtwB.int (K := K) (H := H) (lo := lo) (hi := hi) i
  rw [decide_eq_true h1, decide_eq_true h2, decide_eq_true h3, decide_eq_true h4] at this
  exact this
def hv (h : List Nat) : List V := h.map fun (n : Nat) => V.int (n : Int)
theorem hv_len (h : List Nat) : (hv h).length = h.length := List.length_map ..
theorem hv_get {h : List Nat} {c : Nat} (hc : c < h.length) : (hv h)[c]? = some (V.int (hAt h c : Int)) := by
  unfold hv
  rw [List.getElem?_map, hAt_lt hc]
  rfl
def HeapAt (H : Hp) (p : Addr) (h : List Nat) : Prop := H p = some (.tup (hv h))
structure Good (h : List Nat) : Prop where
  heap : IsHeap h
  len : h.length ≤ 60
  top : hAt h 0 ≤ 60
theorem Good.all {h : List Nat} (G : Good h) (c : Nat) : hAt h c ≤ 60 := Nat.le_trans (G.heap.le (Nat.zero_le c)) G.top
def spCheckBetween (K : PySem.W.Frag) : Sp := fun vs H Q _ => ∃ i lo hi : Int, vs = [.int i, .int lo, .int hi] ∧ lo ≤ i ∧ i ≤ hi ∧ -(10 ^ 60) < i ∧ i < 10 ^ 60 ∧ ∀ H', Ex H H' → Q .non H'
theorem ok_check_between (T : Txt K mg) {f : Addr} {fd : FuncData} (D : DefAt K mg "check_between" sCheckBetween ["value", "low", "high"] f fd) : FnOk P w K mg base CX0 3 f fd ["value", "low", "high"] (spCheckBetween K) := by
  refine D.F.ok scCheckBetween (fun vs H Q E h => ?_) (fun cdv A outer s H vs Q E hr h => ?_)
  · obtain ⟨i, lo, hi, rfl, _⟩ := h
    rfl
  · obtain ⟨i, lo, hi, rfl, h1, h2, h3, h4, q⟩ := h
    obtain ⟨f1, fd1, D1⟩ := T.d_is_between
    refine ⟨_, pss_one (ps_if (pt_not (pt_val (pe_call (ok_is_between T D1) hr (by rfl) D1.g D1.F.kp D1.b .nil pass0 (pa_cons (pv 0) (pa_cons (pv 1) (pa_cons (pv 2) pa_nil)))))) pss_never pss_nil), ?_⟩
    exact ⟨_, rfl, _, rfl, _, rfl, _, lo, hi, true, rfl, .yes h1 h2 h3 h4, fun H1 e1 => ⟨true, rfl, iteF (q _ e1)⟩⟩
def spIsHeap (K : PySem.W.Frag) : Sp := fun vs H Q _ => ∃ p h, vs = [.ref p] ∧ HeapAt H p h ∧ Good h ∧ ∀ H', Ex H H' → Q (.bl true) H'
theorem ok_is_heap (T : Txt K mg) {f : Addr} {fd : FuncData} (D : DefAt K mg "is_heap" sIsHeap ["value"] f fd) : FnOk P w K mg base CX0 3 f fd ["value"] (spIsHeap K) := by
  refine D.F.ok scIsHeap (fun vs H Q E h => ?_) (fun cdv A outer s H vs Q E hr h => ?_)
  · obtain ⟨p, h, rfl, _⟩ := h
    rfl
  · obtain ⟨p, h, rfl, hp, G, q⟩ := h
    obtain ⟨f1, fd1, D1⟩ := T.d_is_between
    obtain ⟨tM, vM⟩ := T.v_SIDE
    refine ⟨_, pss_cons (ps_if (PW.pt (pw_or (pt_not (pt_val (pe_callB call_isi (by rfl) T.z_isinstance (by decide +kernel) (pa_cons (pv 0) (pa_cons (pe_bltn (v := .ty "tuple") (by rfl) T.z_tuple (by decide +kernel) rfl) pa_nil)))))
        (pw_or1 (pt_cmpR op_gt (pe_callB call_len (by rfl) T.z_len PySem.boot_len (pa_cons (pv 0) pa_nil)) (pe_glob (v := .int 60) rfl vM ⟨_, rfl⟩) (nomark _))))) (pss_one (ps_ret pe_bl)) pss_nil)
      (pss_cons (ps_set (i := 1) scIsHeap.nd rfl (.inl rfl) (pe_glob (v := .int 60) rfl vM ⟨_, rfl⟩))
      (pss_cons (ps_for PassesOwn.never rfl (pi_tup (pv 0)) (pg_name (i := 2) scIsHeap.nd rfl (.inl rfl))
        (pss_cons (ps_if (pt_not (pt_val (pe_call (ok_is_between T D1) hr (by rfl) D1.g D1.F.kp D1.b .nil pass0 (pa_cons (pv 2) (pa_cons pe_int (pa_cons (pv 1) pa_nil)))))) (pss_one (ps_ret pe_bl)) pss_nil)
        (pss_one (ps_set (i := 1) scIsHeap.nd rfl (.inl rfl) (pv 2)))))
      (pss_one (ps_ret pe_bl)))), ?_⟩
    refine ⟨_, rfl, .ref p, .ty "tuple", .type "tuple", .type "tuple", true, rfl, .ty _, .base (.tup hp), kit_ty (by decide +kernel), true, rfl, iteF ?_⟩
    refine ⟨_, rfl, _, (hv h).length, rfl, .inr ⟨_, SqT.of hp, rfl⟩, _, _, rfl, rfl, _, rfl, ?_⟩
    rw [hv_len, decide_eq_false (show ¬ (60 : Int) < (h.length : Int) by have := G.len; omega)]
    refine iteF ?_
    refine ⟨_, rfl, p, rfl, ⟨_, SqT.of hp⟩, for_tup (K := K) (a := p) (xs := hv h) (fun i σ' H' => ∃ (a : Nat) (y : Option V), σ' = [some (.ref p), some (.int (a : Int)), y] ∧ hAt h i ≤ a ∧ a ≤ 60 ∧ Ex H H') ⟨60, none, rfl, G.all 0, Nat.le_refl _, Ex.refl _⟩ (fun i σ' H' _ hW => ?_) (fun i x σ' H' hx hW => ?_) (fun σ' H' hW => ?_)⟩
    · obtain ⟨_, _, _, _, _, e⟩ := hW
      exact SqT.of (e _ _ hp)
    · obtain ⟨a, y, rfl, h1, h2, e⟩ := hW
      have hi : i < h.length := by
        have := (List.getElem?_eq_some_iff.mp hx).1
        rw [hv_len] at this
        exact this
      rw [hv_get hi] at hx
      obtain rfl := Option.some.inj hx
      have hp0 := G.heap.pos i hi
      refine ⟨_, rfl, _, rfl, _, 1, a, true, rfl, .yes (by omega) (by omega) (by omega) (by omega), fun H1 e1 => ⟨true, rfl, iteF ?_⟩⟩
      exact ⟨_, rfl, hAt h i, _, rfl, G.heap.fall i, by omega, e.trans e1⟩
    · obtain ⟨a, y, rfl, h1, h2, e⟩ := hW
      exact q _ e
def spCheckHeap (K : PySem.W.Frag) : Sp := fun vs H Q _ => ∃ p h, vs = [.ref p] ∧ HeapAt H p h ∧ Good h ∧ ∀ H', Ex H H' → Q .non H'
theorem ok_check_heap (T : Txt K mg) {f : Addr} {fd : FuncData} (D : DefAt K mg "check_heap" sCheckHeap ["heap"] f fd) : FnOk P w K mg base CX0 4 f fd ["heap"] (spCheckHeap K) := by
  refine D.F.ok scCheckHeap (fun vs H Q E h => ?_) (fun cdv A outer s H vs Q E hr h => ?_)
  · obtain ⟨p, h, rfl, _⟩ := h
    rfl
  · obtain ⟨p, h, rfl, hp, G, q⟩ := h
    obtain ⟨f1, fd1, D1⟩ := T.d_is_heap
    refine ⟨_, pss_one (ps_if (pt_not (pt_val (pe_call (ok_is_heap T D1) hr (by rfl) D1.g D1.F.kp D1.b .nil pass0 (pa_cons (pv 0) pa_nil)))) pss_never pss_nil), ?_⟩
    exact ⟨_, rfl, p, h, rfl, hp, G, fun H1 e1 => ⟨true, rfl, iteF (q _ e1)⟩⟩
def spHeightAt : Sp := fun vs H Q _ => ∃ p h, ∃ c : Nat, vs = [.ref p, .int (c : Int)] ∧ HeapAt H p h ∧ ∀ H', Ex H H' → Q (.int (hAt h c : Int)) H'
theorem ok_height_at (T : Txt K mg) {f : Addr} {fd : FuncData} (D : DefAt K mg "height_at" sHeightAt ["heap", "column"] f fd) : FnOk P w K mg base CX0 1 f fd ["heap", "column"] spHeightAt := by
  refine D.F.ok scHeightAt (fun vs H Q E h => ?_) (fun cdv A outer s H vs Q E hr h => ?_)
  · obtain ⟨p, h, c, rfl, _⟩ := h
    rfl
  · obtain ⟨p, h, c, rfl, hp, q⟩ := h
    refine ⟨_, pss_one (ps_ret (pe_ifExp (pt_cmpR op_lt (pv 1) (pe_callB call_len_seq (by rfl) T.z_len PySem.boot_len (pa_cons (pv 0) pa_nil)) (nomark _)) (pe_ix ix_tup (pv 0) (pv 1) (fun _ _ => rfl)) pe_int)), ?_⟩
    refine ⟨_, rfl, _, rfl, p, _, rfl, .inr (SqT.of hp), _, _, rfl, rfl, _, rfl, ite2 (fun cc => ?_) (fun cc => ?_)⟩
    · have hc : c < h.length := by
        have : (c : Int) < ((hv h).length : Int) := of_decide_eq_true cc
        rw [hv_len] at this
        omega
      exact ⟨_, rfl, _, rfl, p, _, _, _, rfl, rfl, SqT.of hp, atI_nat (hv_get hc), q _ (Ex.refl _)⟩
    · have hc : h.length ≤ c := by
        have : ¬ (c : Int) < ((hv h).length : Int) := fun z => cc (decide_eq_true z)
        rw [hv_len] at this
        omega
      have := hAt_ge hc
      have q2 := q _ (Ex.refl _)
      rw [this] at q2
      exact q2
theorem int_get5 {ns : List Int} {i : Nat} (h : i < ns.length) : (ns.map V.int)[i]? = some (V.int (ns.getD i 0)) := by
  rw [List.getElem?_map, List.getD_eq_getElem?_getD, List.getElem?_eq_getElem h]
  rfl
def spCheckHeaps (K : PySem.W.Frag) : Sp := fun vs H Q _ => ∃ p q h f, vs = [.ref p, .ref q] ∧ HeapAt H p h ∧ HeapAt H q f ∧ Good h ∧ Good f ∧ ∀ H', Ex H H' → Q .non H'
theorem ok_check_heaps (T : Txt K mg) {f : Addr} {fd : FuncData} (D : DefAt K mg "check_heaps" sCheckHeaps ["one", "other"] f fd) : FnOk P w K mg base CX0 5 f fd ["one", "other"] (spCheckHeaps K) := by
  refine D.F.ok scCheckHeaps (fun vs H Q E h => ?_) (fun cdv A outer s H vs Q E hr h => ?_)
  · obtain ⟨p, q, h, f', rfl, _⟩ := h
    rfl
  · obtain ⟨p, q, h, f', rfl, hp, hq, G, F, k⟩ := h
    obtain ⟨f1, fd1, D1⟩ := T.d_check_heap
    refine ⟨_, pss_cons (ps_expr (pe_call (ok_check_heap T D1) hr (by rfl) D1.g D1.F.kp D1.b .nil pass0 (pa_cons (pv 0) pa_nil)))
      (pss_one (ps_expr (pe_call (ok_check_heap T D1) hr (by rfl) D1.g D1.F.kp D1.b .nil pass0 (pa_cons (pv 1) pa_nil)))), ?_⟩
    refine ⟨_, rfl, p, h, rfl, hp, G, fun H1 e1 => ?_⟩
    exact ⟨_, rfl, q, f', rfl, e1 _ _ hq, F, fun H2 e2 => k _ (e1.trans e2)⟩
theorem int_at {vs : List Int} {j : Nat} (h : j < vs.length) : (vs.map V.int)[j]? = some (V.int (vs.getD j 0)) := int_get5 h
theorem int_inv {ns : List Int} {i : Nat} {x : V} (h : (ns.map V.int)[i]? = some x) : i < ns.length ∧ x = V.int (ns.getD i 0) := by
  have hi := (List.getElem?_eq_some_iff.mp h).1
  rw [List.length_map] at hi
  rw [int_at hi] at h
  exact ⟨hi, (Option.some.inj h).symm⟩
end
end K1

set_option exponentiation.threshold 400
namespace K1
open PySem PySem.Spec PyProof.Rows L2 Evl HM LX
section
variable {P : Program} {w : World} {K : PySem.W.Frag} {mg : Str → Option Value} {base : Heap}
theorem iteT' {b : Bool} {A B : Prop} (h : b = true) (a : A) : if b = true then A else B := by
  rw [if_pos h]
  exact a
theorem iteF' {b : Bool} {A B : Prop} (h : b = false) (a : B) : if b = true then A else B := by
  rw [if_neg (by rw [h]; decide)]
  exact a
def spIsShort : Sp := fun vs H Q _ => ∃ i : Int, vs = [.int i] ∧ -(10 ^ 50) < i ∧ i < 10 ^ 50 ∧ ∀ H', Ex H H' → Q (.bl true) H'
theorem ok_is_short (T : Txt K mg) {f : Addr} {fd : FuncData} (D : DefAt K mg "is_short" sIsShort ["value"] f fd) : FnOk P w K mg base CX0 3 f fd ["value"] spIsShort := by
  refine D.F.ok scIsShort (fun vs H Q E h => ?_) (fun cdv A outer s₀ H vs Q E hr h => ?_)
  · obtain ⟨i, rfl, _⟩ := h
    rfl
  · obtain ⟨i, rfl, h1, h2, q⟩ := h
    obtain ⟨f1, fd1, D1⟩ := T.d_is_between
    obtain ⟨tSHORT_BOUND, vSHORT_BOUND⟩ := T.v_SHORT_BOUND
    have hr2 : Room 2 _ := hr.mono (by decide)
    refine ⟨_, pss_one (ps_ret (pe_call (ok_is_between T D1) hr2 (by rfl) D1.g D1.F.kp D1.b .nil pass0 (pa_cons (pv 0) (pa_cons (pe_op op_sub pe_int (pe_glob (v := .int (10 ^ 50)) rfl vSHORT_BOUND ⟨_, rfl⟩)) (pa_cons (pe_op op_sub (pe_glob (v := .int (10 ^ 50)) rfl vSHORT_BOUND ⟨_, rfl⟩) pe_int) pa_nil))))), ?_⟩
    refine ⟨_, rfl, _, _, rfl, rfl, _, _, rfl, rfl, _, _, _, true, rfl, .yes (by omega) (by omega) (by omega) (by omega), fun H1 e1 => q _ e1⟩
def spAreShort : Sp := fun vs H Q _ => ∃ (a : Addr) (ls : List Int), vs = [.ref a] ∧ H a = some (.tup (ls.map V.int)) ∧ ls.length ≤ 100 ∧ Short ls ∧ ∀ H', Ex H H' → Q (.bl true) H'
theorem ok_are_short (T : Txt K mg) {f : Addr} {fd : FuncData} (D : DefAt K mg "are_short" sAreShort ["numbers"] f fd) : FnOk P w K mg base CX0 4 f fd ["numbers"] spAreShort := by
  refine D.F.ok scAreShort (fun vs H Q E h => ?_) (fun cdv A outer s₀ H vs Q E hr h => ?_)
  · obtain ⟨a, ls, rfl, _⟩ := h
    rfl
  · obtain ⟨a, ls, rfl, ha, hl, hs, q⟩ := h
    obtain ⟨f1, fd1, D1⟩ := T.d_is_short
    have hr3 : Room 3 _ := hr.mono (by decide)
    refine ⟨_, pss_one (ps_ret (pe_callB (cr_all rfl) (by rfl) T.z_all (by decide +kernel) (pa_cons (pe_lc (own := [("number", 1)]) (g := gName 1) (tt := tYes) rfl scAreShort.nd (pi_tup (pv 0))
        (blkOk_by (N := nAreShort) (sc := defScope sAreShort) (by decide +kernel)) (fun _ _ _ _ _ => (pg_name (i := 1) scAreShort.nd rfl (.inl rfl))) (fun _ _ _ _ _ => pts_nil)
        (fun _ _ _ _ _ => (pe_call (ok_is_short T D1) hr3 (by rfl) D1.g D1.F.kp D1.b .nil pass0 (pa_cons (pv 1) pa_nil)))) pa_nil))), ?_⟩
    refine ⟨_, rfl, a, rfl, ⟨_, SqT.of ha⟩, fun D hD => ?_⟩
    refine lc_tupM (K := K) (fun _ => V.bl true) hD ha (by rw [List.length_map]; omega) (fun i x H' Qk hx e' qk => ?_) (fun H' e' h' => ?_)
    · obtain ⟨hi, rfl⟩ := int_inv hx
      exact ⟨rfl, _, rfl, _, rfl, (hs i).1, (hs i).2, fun H2 e2 => qk _ e2⟩
    · rw [mapB] at h'
      refine ⟨D, _, rfl, SqL.of h', ?_⟩
      rw [all_rep]
      exact q _ e'
def spLevels : Sp := fun vs H Q _ => ∃ (a : Addr) (ls : List Int), vs = [.ref a] ∧ H a = some (.tup (ls.map V.int)) ∧ 2 ≤ ls.length ∧ ls.length ≤ 60 ∧ Short ls ∧ ls.Pairwise (· ≤ ·) ∧ ∀ H', Ex H H' → Q (.bl true) H'
theorem ok_is_levels (T : Txt K mg) {f : Addr} {fd : FuncData} (D : DefAt K mg "is_levels" sIsLevels ["value"] f fd) : FnOk P w K mg base CX0 5 f fd ["value"] spLevels := by
  refine D.F.ok scIsLevels (fun vs H Q E h => ?_) (fun cdv A outer s₀ H vs Q E hr h => ?_)
  · obtain ⟨a, ls, rfl, _⟩ := h
    rfl
  · obtain ⟨a, ls, rfl, ha, hl2, hl, hs, hasc, q⟩ := h
    obtain ⟨f1, fd1, D1⟩ := T.d_are_short
    obtain ⟨tMAX_ORDER, vMAX_ORDER⟩ := T.v_MAX_ORDER
    have hr4 : Room 4 _ := hr.mono (by decide)
    refine ⟨_, pss_cons (ps_if (PW.pt (pw_or (pt_not (pt_val (pe_callB call_isi (by rfl) T.z_isinstance (by decide +kernel) (pa_cons (pv 0) (pa_cons (pe_bltn (v := .ty "tuple") (by rfl) T.z_tuple (by decide +kernel) rfl) pa_nil)))))
          (pw_or1 (pt_not (pt_chain op_le op_le pe_int (pe_callB call_len_seq (by rfl) T.z_len PySem.boot_len (pa_cons (pv 0) pa_nil)) (pe_glob (v := .int 60) rfl vMAX_ORDER ⟨_, rfl⟩)))))) (pss_one (ps_ret pe_bl)) pss_nil)
      (pss_cons (ps_if (pt_not (pt_val (pe_call (ok_are_short T D1) hr4 (by rfl) D1.g D1.F.kp D1.b .nil pass0 (pa_cons (pv 0) pa_nil)))) (pss_one (ps_ret pe_bl)) pss_nil)
      (pss_one (ps_ret (pe_callB (cr_all rfl) (by rfl) T.z_all (by decide +kernel) (pa_cons (pe_lc (own := [("at", 1)]) (g := gName 1) (tt := tYes) rfl scIsLevels.nd (pi_range1 (by rfl) T.z_range (pa_cons (pe_op op_sub (pe_callB call_len_seq (by rfl) T.z_len PySem.boot_len (pa_cons (pv 0) pa_nil)) pe_int) pa_nil))
        (blkOk_by (N := nIsLevels) (sc := defScope sIsLevels) (by decide +kernel)) (fun _ _ _ _ _ => (pg_name (i := 1) scIsLevels.nd rfl (.inl rfl))) (fun _ _ _ _ _ => pts_nil)
        (fun _ _ _ _ _ => (pe_cmpR op_le (pe_ix (show IxR _ (rIxT K) from ix_tup) (pv 0) (pv 1) (fun _ _ => rfl)) (pe_ix (show IxR _ (rIxT K) from ix_tup) (pv 0) (pe_op op_add (pv 1) pe_int) (fun _ _ => rfl)) (nomark _)))) pa_nil))))), ?_⟩
    refine ⟨_, rfl, .ref a, .ty "tuple", .type "tuple", .type "tuple", true, rfl, .ty _, .base (.tup ha), kit_ty (by decide +kernel), true, rfl, iteF ?_⟩
    refine ⟨_, rfl, a, _, rfl, .inr (SqT.of ha), _, _, rfl, rfl, _, rfl, iteT' (by rw [List.length_map]; exact decide_eq_true (by omega)) ⟨_, _, rfl, rfl, _, rfl, iteF' (by rw [List.length_map, decide_eq_true (show (ls.length : Int) ≤ 60 by omega)]; rfl) ?_⟩⟩
    refine ⟨_, rfl, a, ls, rfl, ha, by omega, hs, fun H1 e1 => ⟨true, rfl, iteF ?_⟩⟩
    have ha1 := e1 _ _ ha
    refine ⟨_, rfl, a, _, rfl, .inr (SqT.of ha1), _, _, rfl, rfl, _, rfl, by omega, by rw [List.length_map]; omega, fun D hD => ?_⟩
    rw [List.length_map]
    refine lc_rangeM (fun _ => V.bl true) hD (by omega) (fun i H' Qk hi e' qk => ?_) (fun H' e' h' => ?_)
    · have hi' : i + 1 < ls.length := by omega
      rw [show (0 : Int) + (i : Int) = ((i : Nat) : Int) by omega]
      refine ⟨rfl, _, rfl, _, rfl, a, _, _, _, rfl, rfl, SqT.of (e' _ _ ha1), atI_nat (int_at (by omega)), _, rfl, _, rfl, _, _, rfl, rfl, a, _, _, .int (ls.getD (i + 1) 0), rfl, rfl, SqT.of (e' _ _ ha1), ?_, _, _, rfl, rfl, ?_⟩
      · rw [show ((i : Nat) : Int) + 1 = ((i + 1 : Nat) : Int) by omega]
        exact atI_nat (int_at hi')
      · show Qk (V.bl (decide (ls.getD i 0 ≤ ls.getD (i + 1) 0))) H'
        rw [decide_eq_true (asc_next hasc hi')]
        exact qk _ (Ex.refl _)
    · rw [mapB] at h'
      refine ⟨D, _, rfl, SqL.of h', ?_⟩
      rw [all_rep]
      exact q _ (e1.trans e')
def spCheckLevels : Sp := fun vs H Q _ => ∃ (a : Addr) (ls : List Int), vs = [.ref a] ∧ H a = some (.tup (ls.map V.int)) ∧ 2 ≤ ls.length ∧ ls.length ≤ 60 ∧ Short ls ∧ ls.Pairwise (· ≤ ·) ∧ ∀ H', Ex H H' → Q .non H'
theorem ok_check_levels (T : Txt K mg) {f : Addr} {fd : FuncData} (D : DefAt K mg "check_levels" sCheckLevels ["levels"] f fd) : FnOk P w K mg base CX0 6 f fd ["levels"] spCheckLevels := by
  refine D.F.ok scCheckLevels (fun vs H Q E h => ?_) (fun cdv A outer s₀ H vs Q E hr h => ?_)
  · obtain ⟨a, ls, rfl, _⟩ := h
    rfl
  · obtain ⟨a, ls, rfl, ha, hl2, hl, hs, hasc, q⟩ := h
    obtain ⟨f1, fd1, D1⟩ := T.d_is_levels
    have hr5 : Room 5 _ := hr.mono (by decide)
    refine ⟨_, pss_one (ps_if (pt_not (pt_val (pe_call (ok_is_levels T D1) hr5 (by rfl) D1.g D1.F.kp D1.b .nil pass0 (pa_cons (pv 0) pa_nil)))) pss_never pss_nil), ?_⟩
    exact ⟨_, rfl, a, ls, rfl, ha, hl2, hl, hs, hasc, fun H1 e1 => ⟨true, rfl, iteF (q _ e1)⟩⟩
theorem tellR (ls : List Int) (c : Int) : ((List.range ls.length).map fun i => max 0 (ls.getD i 0 + c + 1)).sum = tell ls c := by
  rw [range_getD ls fun l => max 0 (l + c + 1)]
  rfl
theorem tri_le (m : Nat) (h : m ≤ 60) (i : Nat) (hi : i ≤ m) : ((List.range i).map fun l => l).sum ≤ 60 * i := by
  induction i with
  | zero => exact Nat.le_refl _
  | succ i ih =>
    rw [List.range_succ, List.map_append, List.sum_append]
    have := ih (by omega)
    show _ + (i + 0) ≤ _
    omega
def drow (ls : List Int) (late : Nat) : List Int := (List.range late).map fun early => max 0 (ls.getD late 0 - ls.getD early 0 - 1)
def dacc (ls : List Int) (i j : Nat) : List Int := ((List.range i).map (drow ls)).flatten ++ ((List.range j).map fun early => max 0 (ls.getD i 0 - ls.getD early 0 - 1))
theorem acc0 (ls : List Int) (i : Nat) : dacc ls i 0 = ((List.range i).map (drow ls)).flatten := List.append_nil _
theorem drow_len (ls : List Int) (i : Nat) : (drow ls i).length = i := by
  unfold drow
  rw [List.length_map, List.length_range]
theorem accS (ls : List Int) (i : Nat) : dacc ls i i = dacc ls (i + 1) 0 := by
  rw [acc0, List.range_succ, List.map_append, List.flatten_append]
  show _ = _ ++ (drow ls i ++ [])
  rw [List.append_nil]
  rfl
theorem accN (ls : List Int) (i j : Nat) : dacc ls i (j + 1) = dacc ls i j ++ [max 0 (ls.getD i 0 - ls.getD j 0 - 1)] := by
  unfold dacc
  rw [List.range_succ, List.map_append, ← List.append_assoc]
  rfl
theorem accL (ls : List Int) : ∀ i, i ≤ 60 → (dacc ls i 0).length ≤ 60 * i
  | 0, _ => Nat.le_refl _
  | i + 1, hi => by
    have h1 := accL ls i (by omega)
    rw [acc0] at h1
    rw [acc0, List.range_succ, List.map_append, List.flatten_append, List.length_append]
    have : ((List.map (drow ls) [i]).flatten).length = i := by
      show (drow ls i ++ []).length = i
      rw [List.append_nil, drow_len]
    omega
theorem accLj (ls : List Int) (i j : Nat) (hi : i ≤ 60) (hj : j ≤ 60) : (dacc ls i j).length ≤ 60 * i + j := by
  have h1 := accL ls i hi
  rw [acc0] at h1
  unfold dacc
  rw [List.length_append, List.length_map, List.length_range]
  omega
theorem acc_sum (ls : List Int) : ∀ n : Nat, (dacc ls n 0).sum = ((List.range n).map fun late => (drow ls late).sum).sum
  | 0 => rfl
  | n + 1 => by
    have ih := acc_sum ls n
    rw [acc0] at ih
    rw [acc0, List.range_succ, List.map_append, List.flatten_append, List.sum_append, ih, List.map_append, List.sum_append]
    show _ + (drow ls n ++ []).sum = _ + ((drow ls n).sum + 0)
    rw [List.append_nil, Int.add_zero]
def spDistance : Sp := fun vs H Q _ => ∃ (a : Addr) (ls : List Int), vs = [.ref a] ∧ H a = some (.tup (ls.map V.int)) ∧ 2 ≤ ls.length ∧ ls.length ≤ 60 ∧ Short ls ∧ ls.Pairwise (· ≤ ·) ∧ ∀ H', Ex H H' → Q (.int (distL ls)) H'
theorem ok_distance_in (T : Txt K mg) {f : Addr} {fd : FuncData} (D : DefAt K mg "distance_in" sDistanceIn ["levels"] f fd) : FnOk P w K mg base CX0 1 f fd ["levels"] spDistance := by
  refine D.F.ok scDistanceIn (fun vs H Q E h => ?_) (fun cdv A outer s₀ H vs Q E hr h => ?_)
  · obtain ⟨a, ls, rfl, _⟩ := h
    rfl
  · obtain ⟨a, ls, rfl, ha, hl2, hl, hs, hasc, q⟩ := h
    refine ⟨_, pss_cons (ps_set (i := 1) scDistanceIn.nd rfl (.inl rfl) (pe_callB call_len_seq (by rfl) T.z_len PySem.boot_len (pa_cons (pv 0) pa_nil)))
      (pss_one (ps_ret (pe_callB (cr_sum rfl) (by rfl) T.z_sum (by decide +kernel) (pa_cons (pe_lc2 (own := [("late", 2), ("early", 3)]) (vs1 := [3]) (g := gName 2) (g1 := gName 3) (tt := tYes) (tt1 := tYes) (wi1 := iRng1 (tCons (tVar 2) tNil)) rfl scDistanceIn.nd (pi_range1 (by rfl) T.z_range (pa_cons (pv 1) pa_nil))
        (blkOk_by (N := nDistanceIn) (sc := defScope sDistanceIn) (by decide +kernel)) (by decide) (fun _ _ _ _ _ => (pg_name (i := 2) scDistanceIn.nd rfl (.inl rfl))) (fun _ _ _ _ _ => pts_nil) (fun _ _ _ _ _ => (pi_range1 (by rfl) T.z_range (pa_cons (pv 2) pa_nil))) (fun _ _ _ _ _ => (pg_name (i := 3) scDistanceIn.nd rfl (.inl rfl))) (fun _ _ _ _ _ => pts_nil) (fun _ _ _ _ _ => (pe_callB (call_max2 rfl) (by rfl) T.z_max (by decide +kernel) (pa_cons pe_int (pa_cons (pe_op op_sub (pe_op op_sub (pe_ix (show IxR _ (rIxT K) from ix_tup) (pv 0) (pv 2) (fun _ _ => rfl)) (pe_ix (show IxR _ (rIxT K) from ix_tup) (pv 0) (pv 3) (fun _ _ => rfl))) pe_int) pa_nil))))) pa_nil)))), ?_⟩
    refine ⟨_, rfl, a, _, rfl, .inr (SqT.of ha), ?_⟩
    rw [List.length_map]
    refine ⟨_, rfl, _, rfl, by omega, by omega, fun D hD => ?_⟩
    refine ⟨fun i m H' => i ≤ ls.length ∧ m = ls.length - i ∧ H' D = some (.lst ((dacc ls i 0).map V.int)) ∧ Ex H H', ⟨ls.length, Nat.zero_le _, rfl, upd_same, Ex.new hD⟩, fun i m H' hW => ?_⟩
    obtain ⟨hi, rfl, a1, a2⟩ := hW
    by_cases hlt : i < ls.length
    · refine .inr ⟨(show i < ((ls.length : Int)).toNat by omega), fun H2 => H2 D = some (.lst ((dacc ls (i + 1) 0).map V.int)) ∧ Ex H H2, fun H2 z => ⟨ls.length - (i + 1), by omega, by omega, rfl, z.1, z.2⟩, fun v H2 hy => ?_⟩
      obtain ⟨rfl, rfl⟩ := hy
      rw [show (0 : Int) + (i : Int) = ((i : Nat) : Int) by omega]
      refine ⟨rfl, ?_⟩
      dsimp only [tYes]
      rw [if_pos rfl]
      refine ⟨_, rfl, _, rfl, by omega, by omega, ?_⟩
      refine ⟨fun j k H6 => j ≤ i ∧ k = i - j ∧ H6 D = some (.lst ((dacc ls i j).map V.int)) ∧ Ex H H6, ⟨i, Nat.zero_le _, rfl, a1, a2⟩, fun j k H6 hW1 => ?_⟩
      obtain ⟨hj, rfl, b1, b2⟩ := hW1
      by_cases hjl : j < i
      · refine .inr ⟨(show j < ((i : Int)).toNat by omega), fun H7 => H7 D = some (.lst ((dacc ls i (j + 1)).map V.int)) ∧ Ex H H7, fun H7 z => ⟨i - (j + 1), by omega, by omega, rfl, z.1, z.2⟩, fun v H7 hy => ?_⟩
        obtain ⟨rfl, rfl⟩ := hy
        rw [show (0 : Int) + (j : Int) = ((j : Nat) : Int) by omega]
        refine ⟨rfl, ?_⟩
        dsimp only [tYes]
        rw [if_pos rfl]
        have ha6 := b2 _ _ ha
        refine ⟨_, rfl, _, rfl, a, _, _, .int (ls.getD i 0), rfl, rfl, SqT.of ha6, atI_nat (int_at hlt), _, rfl, _, rfl, a, _, _, .int (ls.getD j 0), rfl, rfl, SqT.of ha6, atI_nat (int_at (by omega)), _, _, rfl, rfl, _, _, rfl, rfl, _, _, rfl, _, b1, ?_, ?_, Ex.mut b2 hD⟩
        · rw [List.length_map]
          have := accLj ls i j (by omega) (by omega)
          exact Nat.lt_of_le_of_lt (show _ ≤ 3700 by omega) (by decide)
        · rw [upd_same, accN, List.map_append, imax0]
          rfl
      · refine .inl ⟨(show ((i : Int)).toNat ≤ j by omega), ?_, b2⟩
        have : j = i := by omega
        subst this
        rw [← accS]
        exact b1
    · have hie : i = ls.length := by omega
      subst hie
      refine .inl ⟨(show ((ls.length : Int)).toNat ≤ ls.length by omega), D, dacc ls ls.length 0, rfl, SqL.of a1, ?_⟩
      rw [show (dacc ls ls.length 0).sum = distL ls from acc_sum ls _]
      exact q _ a2
theorem ok_distance (T : Txt K mg) {f : Addr} {fd : FuncData} (D : DefAt K mg "distance" sDistance ["levels"] f fd) : FnOk P w K mg base CX0 7 f fd ["levels"] spDistance := by
  refine D.F.ok scDistance (fun vs H Q E h => ?_) (fun cdv A outer s₀ H vs Q E hr h => ?_)
  · obtain ⟨a, ls, rfl, _⟩ := h
    rfl
  · obtain ⟨a, ls, rfl, ha, hl2, hl, hs, hasc, q⟩ := h
    obtain ⟨f1, fd1, D1⟩ := T.d_distance_in
    obtain ⟨f2, fd2, D2⟩ := T.d_check_levels
    have hr1 : Room 1 _ := hr.mono (by decide)
    have hr6 : Room 6 _ := hr.mono (by decide)
    refine ⟨_, pss_cons (ps_expr (pe_call (ok_check_levels T D2) hr6 (by rfl) D2.g D2.F.kp D2.b .nil pass0 (pa_cons (pv 0) pa_nil)))
      (pss_one (ps_ret (pe_call (ok_distance_in T D1) hr1 (by rfl) D1.g D1.F.kp D1.b .nil pass0 (pa_cons (pv 0) pa_nil)))), ?_⟩
    refine ⟨_, rfl, a, ls, rfl, ha, hl2, hl, hs, hasc, fun H1 e1 => ?_⟩
    exact ⟨_, rfl, a, ls, rfl, e1 _ _ ha, hl2, hl, hs, hasc, fun H2 e2 => q _ (e1.trans e2)⟩
def spColumnsAt : Sp := fun vs H Q _ => ∃ (a : Addr) (ls : List Int) (c : Int), vs = [.ref a, .int c] ∧ H a = some (.tup (ls.map V.int)) ∧ ls.length ≤ 60 ∧ ∀ H', Ex H H' → Q (.int (tell ls c)) H'
theorem ok_columns_at (T : Txt K mg) {f : Addr} {fd : FuncData} (D : DefAt K mg "columns_at" sColumnsAt ["levels", "c"] f fd) : FnOk P w K mg base CX0 1 f fd ["levels", "c"] spColumnsAt := by
  refine D.F.ok scColumnsAt (fun vs H Q E h => ?_) (fun cdv A outer s₀ H vs Q E hr h => ?_)
  · obtain ⟨a, ls, c, rfl, _⟩ := h
    rfl
  · obtain ⟨a, ls, c, rfl, ha, hl, q⟩ := h
    refine ⟨_, pss_one (ps_ret (pe_callB (cr_sum rfl) (by rfl) T.z_sum (by decide +kernel) (pa_cons (pe_lc (own := [("level", 2)]) (g := gName 2) (tt := tYes) rfl scColumnsAt.nd (pi_tup (pv 0))
        (blkOk_by (N := nColumnsAt) (sc := defScope sColumnsAt) (by decide +kernel)) (fun _ _ _ _ _ => (pg_name (i := 2) scColumnsAt.nd rfl (.inl rfl))) (fun _ _ _ _ _ => pts_nil)
        (fun _ _ _ _ _ => (pe_callB (call_max2 rfl) (by rfl) T.z_max (by decide +kernel) (pa_cons pe_int (pa_cons (pe_op op_add (pe_op op_add (pv 2) (pv 1)) pe_int) pa_nil))))) pa_nil))), ?_⟩
    refine ⟨_, rfl, a, rfl, ⟨_, SqT.of ha⟩, fun D hD => ?_⟩
    refine lc_tupM (K := K) (fun i => V.int (max 0 (ls.getD i 0 + c + 1))) hD ha (by rw [List.length_map]; omega) (fun i x H' Qk hx e' qk => ?_) (fun H' e' h' => ?_)
    · obtain ⟨hi, rfl⟩ := int_inv hx
      refine ⟨rfl, _, rfl, _, rfl, _, _, rfl, rfl, _, _, rfl, rfl, _, _, rfl, ?_⟩
      rw [imax0]
      exact qk _ (Ex.refl _)
    · rw [List.length_map, mapI] at h'
      refine ⟨D, _, rfl, SqL.of h', ?_⟩
      rw [tellR]
      exact q _ e'
def spLevelRichness : Sp := fun vs H Q _ => ∃ (a : Addr) (ls : List Int) (c : Int), vs = [.ref a, .int c] ∧ H a = some (.tup (ls.map V.int)) ∧ 2 ≤ ls.length ∧ ls.length ≤ 60 ∧ Short ls ∧ ls.Pairwise (· ≤ ·) ∧ -(10 ^ 50) < c ∧ c < 10 ^ 50 ∧ ∀ H', Ex H H' → Q (.int (tell ls c - 1)) H'
theorem ok_level_richness (T : Txt K mg) {f : Addr} {fd : FuncData} (D : DefAt K mg "level_richness" sLevelRichness ["levels", "c"] f fd) : FnOk P w K mg base CX0 7 f fd ["levels", "c"] spLevelRichness := by
  refine D.F.ok scLevelRichness (fun vs H Q E h => ?_) (fun cdv A outer s₀ H vs Q E hr h => ?_)
  · obtain ⟨a, ls, c, rfl, _⟩ := h
    rfl
  · obtain ⟨a, ls, c, rfl, ha, hl2, hl, hs, hasc, c1, c2, q⟩ := h
    obtain ⟨f1, fd1, D1⟩ := T.d_columns_at
    obtain ⟨f2, fd2, D2⟩ := T.d_is_short
    obtain ⟨f3, fd3, D3⟩ := T.d_check_levels
    have hr1 : Room 1 _ := hr.mono (by decide)
    have hr3 : Room 3 _ := hr.mono (by decide)
    have hr6 : Room 6 _ := hr.mono (by decide)
    refine ⟨_, pss_cons (ps_expr (pe_call (ok_check_levels T D3) hr6 (by rfl) D3.g D3.F.kp D3.b .nil pass0 (pa_cons (pv 0) pa_nil)))
      (pss_cons (ps_if (pt_not (pt_val (pe_call (ok_is_short T D2) hr3 (by rfl) D2.g D2.F.kp D2.b .nil pass0 (pa_cons (pv 1) pa_nil)))) pss_never pss_nil)
      (pss_one (ps_ret (pe_op op_sub (pe_call (ok_columns_at T D1) hr1 (by rfl) D1.g D1.F.kp D1.b .nil pass0 (pa_cons (pv 0) (pa_cons (pv 1) pa_nil))) pe_int)))), ?_⟩
    refine ⟨_, rfl, a, ls, rfl, ha, hl2, hl, hs, hasc, fun H1 e1 => ?_⟩
    refine ⟨_, rfl, c, rfl, c1, c2, fun H2 e2 => ⟨true, rfl, iteF ?_⟩⟩
    refine ⟨_, rfl, _, rfl, a, ls, c, rfl, e2 _ _ (e1 _ _ ha), hl, fun H3 e3 => ⟨_, _, rfl, rfl, q _ ((e1.trans e2).trans e3)⟩⟩
end
end K1

namespace K1
open HM
def rowsL (ls : List Int) (c : Int) : Int := (ls.map fun l => max 0 (-l - c - 1)).sum
theorem tell_cons (x : Int) (r : List Int) (c : Int) : tell (x :: r) c = max 0 (x + c + 1) + tell r c := by
  unfold tell
  rw [List.map_cons, List.sum_cons]
theorem rows_cons (x : Int) (r : List Int) (c : Int) : rowsL (x :: r) c = max 0 (-x - c - 1) + rowsL r c := by
  unfold rowsL
  rw [List.map_cons, List.sum_cons]
theorem tell_app (a b : List Int) (c : Int) : tell (a ++ b) c = tell a c + tell b c := by
  unfold tell
  rw [List.map_append, List.sum_append]
theorem lin_cons (x : Int) (r : List Int) (c : Int) : (x :: r).sum + ((x :: r).length : Int) * (c + 1) = x + (c + 1) + (r.sum + (r.length : Int) * (c + 1)) := by
  rw [List.sum_cons, List.length_cons, show ((r.length + 1 : Nat) : Int) = (r.length : Int) + 1 by omega, Int.add_mul, Int.one_mul]
  omega
theorem rows_tell : ∀ (ls : List Int) (c : Int), rowsL ls c = tell ls c - (ls.sum + (ls.length : Int) * (c + 1))
  | [], c => by
    show (0 : Int) = 0 - (0 + ((0 : Nat) : Int) * (c + 1))
    rw [show ((0 : Nat) : Int) = 0 from rfl, Int.zero_mul]
    omega
  | x :: r, c => by
    rw [rows_cons, tell_cons, lin_cons, rows_tell r c]
    omega
theorem tell_nn : ∀ (ls : List Int) (c : Int), 0 ≤ tell ls c
  | [], c => Int.le_refl _
  | x :: r, c => by
    have := tell_nn r c
    rw [tell_cons]
    omega
theorem rows_nn : ∀ (ls : List Int) (c : Int), 0 ≤ rowsL ls c
  | [], c => Int.le_refl _
  | x :: r, c => by
    have := rows_nn r c
    rw [rows_cons]
    omega
theorem tell_mono {c d : Int} (h : c ≤ d) : ∀ ls : List Int, tell ls c ≤ tell ls d
  | [] => Int.le_refl _
  | x :: r => by
    have := tell_mono h r
    rw [tell_cons, tell_cons]
    omega
theorem rows_anti {c d : Int} (h : c ≤ d) : ∀ ls : List Int, rowsL ls d ≤ rowsL ls c
  | [] => Int.le_refl _
  | x :: r => by
    have := rows_anti h r
    rw [rows_cons, rows_cons]
    omega
theorem tell_lo : ∀ (ls : List Int) (c : Int), (∀ l ∈ ls, l + c + 1 ≤ 0) → tell ls c = 0
  | [], c, _ => rfl
  | x :: r, c, h => by
    have h1 := h x (List.mem_cons_self ..)
    have := tell_lo r c fun l hl => h l (List.mem_cons_of_mem _ hl)
    rw [tell_cons]
    omega
theorem tell_hi : ∀ (ls : List Int) (c : Int), (∀ l ∈ ls, 0 ≤ l + c + 1) → tell ls c = ls.sum + (ls.length : Int) * (c + 1)
  | [], c, _ => by
    show (0 : Int) = 0 + ((0 : Nat) : Int) * (c + 1)
    rw [show ((0 : Nat) : Int) = 0 from rfl, Int.zero_mul]
    omega
  | x :: r, c, h => by
    have h1 := h x (List.mem_cons_self ..)
    have := tell_hi r c fun l hl => h l (List.mem_cons_of_mem _ hl)
    rw [tell_cons, lin_cons]
    omega
theorem tell_lin : ∀ (ls : List Int) (c : Int), ls.sum + (ls.length : Int) * (c + 1) ≤ tell ls c
  | [], c => by
    show 0 + ((0 : Nat) : Int) * (c + 1) ≤ 0
    rw [show ((0 : Nat) : Int) = 0 from rfl, Int.zero_mul]
    omega
  | x :: r, c => by
    have := tell_lin r c
    rw [tell_cons, lin_cons]
    omega
theorem tell_pos : ∀ {ls : List Int} {c : Int}, 0 < tell ls c → ∃ l ∈ ls, 0 ≤ l + c
  | [], c, h => absurd h (by show ¬ (0 : Int) < 0; omega)
  | x :: r, c, h => by
    by_cases q : 0 ≤ x + c
    · exact ⟨x, List.mem_cons_self .., q⟩
    · rw [tell_cons] at h
      obtain ⟨l, hl, h2⟩ := tell_pos (ls := r) (c := c) (by omega)
      exact ⟨l, List.mem_cons_of_mem _ hl, h2⟩
theorem rows_pos : ∀ {ls : List Int} {c : Int}, 0 < rowsL ls c → ∃ l ∈ ls, l + c + 2 ≤ 0
  | [], c, h => absurd h (by show ¬ (0 : Int) < 0; omega)
  | x :: r, c, h => by
    by_cases q : x + c + 2 ≤ 0
    · exact ⟨x, List.mem_cons_self .., q⟩
    · rw [rows_cons] at h
      obtain ⟨l, hl, h2⟩ := rows_pos (ls := r) (c := c) (by omega)
      exact ⟨l, List.mem_cons_of_mem _ hl, h2⟩
theorem tell_ge : ∀ {ls : List Int} {c l : Int}, l ∈ ls → l + c + 1 ≤ tell ls c
  | x :: r, c, l, h => by
    rw [tell_cons]
    have := tell_nn r c
    rcases List.mem_cons.mp h with rfl | h2
    · omega
    · have := tell_ge (c := c) h2
      omega
theorem rows_ge : ∀ {ls : List Int} {c l : Int}, l ∈ ls → -l - c - 1 ≤ rowsL ls c
  | x :: r, c, l, h => by
    rw [rows_cons]
    have := rows_nn r c
    rcases List.mem_cons.mp h with rfl | h2
    · omega
    · have := rows_ge (c := c) h2
      omega
theorem split_at {c : Int} : ∀ {ls : List Int}, ls.Pairwise (· ≤ ·) → ∃ i, i ≤ ls.length ∧ (∀ l ∈ ls.take i, l + c + 1 ≤ 0) ∧ ∀ l ∈ ls.drop i, 0 ≤ l + c + 1
  | [], _ => ⟨0, Nat.le_refl _, fun l h => absurd h (by simp), fun l h => absurd h (by simp)⟩
  | x :: r, h => by
    obtain ⟨h1, h2⟩ := List.pairwise_cons.mp h
    by_cases q : x + c + 1 ≤ 0
    · obtain ⟨i, a, b, d⟩ := split_at (c := c) h2
      refine ⟨i + 1, by rw [List.length_cons]; omega, fun l hl => ?_, fun l hl => d l hl⟩
      rw [List.take_succ_cons] at hl
      rcases List.mem_cons.mp hl with rfl | hl
      · exact q
      · exact b l hl
    · refine ⟨0, Nat.zero_le _, fun l hl => absurd hl (by simp), fun l hl => ?_⟩
      rcases List.mem_cons.mp hl with rfl | hl
      · omega
      · have := h1 l hl
        omega
theorem tell_split (ls : List Int) (i : Nat) (c : Int) : tell ls c = tell (ls.take i) c + tell (ls.drop i) c := by
  rw [← tell_app, List.take_append_drop]
/-- sums of last members against what is told -/
theorem above_tell {one other : List Int} (hl : one.length = other.length) (so : other.Pairwise (· ≤ ·)) (h : ∀ i, i < one.length → (other.drop i).sum ≤ (one.drop i).sum) (c : Int) : tell other c ≤ tell one c := by
  obtain ⟨i, hi, h1, h2⟩ := split_at (c := c) so
  rw [tell_split other i, tell_lo _ _ h1, tell_hi _ _ h2, tell_split one i]
  have a1 := tell_nn (one.take i) c
  have a2 := tell_lin (one.drop i) c
  have a3 : (other.drop i).sum ≤ (one.drop i).sum := by
    by_cases q : i < one.length
    · exact h i q
    · rw [List.drop_of_length_le (by omega), List.drop_of_length_le (by omega)]
      exact Int.le_refl _
  rw [List.length_drop] at a2 ⊢
  rw [hl] at a2
  omega
theorem pw_get {ls : List Int} (h : ls.Pairwise (· ≤ ·)) {i j : Nat} (hij : i ≤ j) (hj : j < ls.length) : ls.getD i 0 ≤ ls.getD j 0 := by
  rw [List.getD_eq_getElem?_getD, List.getD_eq_getElem?_getD, List.getElem?_eq_getElem hj, List.getElem?_eq_getElem (show i < ls.length by omega)]
  show ls[i] ≤ ls[j]
  by_cases q : i = j
  · subst q
    exact Int.le_refl _
  · exact List.pairwise_iff_getElem.mp h i j (by omega) hj (by omega)
theorem mem_get {ls : List Int} {l : Int} (h : l ∈ ls) : ∃ j, j < ls.length ∧ l = ls.getD j 0 := by
  obtain ⟨j, hj, e⟩ := List.getElem_of_mem h
  exact ⟨j, hj, by rw [List.getD_eq_getElem?_getD, List.getElem?_eq_getElem hj, ← e]; rfl⟩
theorem get_mem {ls : List Int} {j : Nat} (hj : j < ls.length) : ls.getD j 0 ∈ ls := by
  rw [List.getD_eq_getElem?_getD, List.getElem?_eq_getElem hj]
  exact List.getElem_mem hj
theorem tell_above {one other : List Int} (hl : one.length = other.length) (s1 : one.Pairwise (· ≤ ·)) {i : Nat} (hi : i < one.length) (h : tell other (-(one.getD i 0) - 1) ≤ tell one (-(one.getD i 0) - 1)) : (other.drop i).sum ≤ (one.drop i).sum := by
  have t1 : ∀ l ∈ one.take i, l + (-(one.getD i 0) - 1) + 1 ≤ 0 := fun l hl1 => by
    obtain ⟨j, hj, rfl⟩ := mem_get hl1
    rw [List.length_take] at hj
    have e : (one.take i).getD j 0 = one.getD j 0 := by
      rw [List.getD_eq_getElem?_getD, List.getD_eq_getElem?_getD, List.getElem?_take, if_pos (by omega)]
    rw [e]
    have := pw_get s1 (show j ≤ i by omega) hi
    omega
  have t2 : ∀ l ∈ one.drop i, 0 ≤ l + (-(one.getD i 0) - 1) + 1 := fun l hl1 => by
    obtain ⟨j, hj, rfl⟩ := mem_get hl1
    rw [List.length_drop] at hj
    have e : (one.drop i).getD j 0 = one.getD (i + j) 0 := by
      rw [List.getD_eq_getElem?_getD, List.getD_eq_getElem?_getD, List.getElem?_drop]
    rw [e]
    have := pw_get s1 (show i ≤ i + j by omega) (by omega)
    omega
  rw [tell_split one i, tell_lo _ _ t1, tell_hi _ _ t2, tell_split other i] at h
  have a1 := tell_nn (other.take i) (-(one.getD i 0) - 1)
  have a2 := tell_lin (other.drop i) (-(one.getD i 0) - 1)
  rw [List.length_drop] at a2 h
  rw [hl] at h
  omega
/-- which c must be looked at -/
theorem tell_range {one other : List Int} {lo hi : Int} (hl : one.length = other.length) (hs : one.sum = other.sum) (h1 : ∀ l ∈ one ++ other, l + lo ≤ 0) (h2 : ∀ l ∈ one ++ other, 0 ≤ l + hi) (h : ∀ c, lo ≤ c → c < hi → tell other c ≤ tell one c) (c : Int) : tell other c ≤ tell one c := by
  by_cases q : lo ≤ c
  · by_cases r : c < hi
    · exact h c q r
    · rw [tell_hi other c fun l hl => by have := h2 l (List.mem_append_right _ hl); omega, tell_hi one c fun l hl => by have := h2 l (List.mem_append_left _ hl); omega, hl, hs]
      exact Int.le_refl _
  · rw [tell_lo other c fun l hl => by have := h1 l (List.mem_append_right _ hl); omega, tell_lo one c fun l hl => by have := h1 l (List.mem_append_left _ hl); omega]
    exact Int.le_refl _
/-! cores -/
def uni (a b : List Nat) : List Nat := (List.range (max a.length b.length)).map fun c => max (hAt a c) (hAt b c)
theorem hAt_uni (a b : List Nat) (c : Nat) : hAt (uni a b) c = max (hAt a c) (hAt b c) := by
  by_cases q : c < max a.length b.length
  · unfold uni
    show (((List.range (max a.length b.length)).map fun c => max (hAt a c) (hAt b c)).getD c 0) = _
    rw [List.getD_eq_getElem?_getD, List.getElem?_map, List.getElem?_range q]
    rfl
  · rw [hAt_ge (show (uni a b).length ≤ c by unfold uni; rw [List.length_map, List.length_range]; omega), hAt_ge (show a.length ≤ c by omega), hAt_ge (show b.length ≤ c by omega)]
    rfl
def bxh (n r : Nat) : List Nat := List.replicate n r
theorem hAt_bxh (n r c : Nat) : hAt (bxh n r) c = if c < n then r else 0 := by
  unfold hAt bxh
  rw [List.getD_eq_getElem?_getD, List.getElem?_replicate]
  split <;> rfl
theorem good_bxh {n r : Nat} (h1 : 1 ≤ r) (h2 : r ≤ 60) (h3 : n ≤ 60) : Good (bxh n r) := by
  refine ⟨⟨fun c hc => ?_, fun c => ?_⟩, ?_, ?_⟩
  · unfold bxh at hc
    rw [List.length_replicate] at hc
    rw [hAt_bxh, if_pos hc]
    omega
  · rw [hAt_bxh, hAt_bxh]
    split <;> split <;> omega
  · unfold bxh
    rw [List.length_replicate]
    exact h3
  · rw [hAt_bxh]
    split <;> omega
theorem good_uni {a b : List Nat} (A : Good a) (B : Good b) : Good (uni a b) := by
  have l : (uni a b).length = max a.length b.length := by unfold uni; rw [List.length_map, List.length_range]
  refine ⟨⟨fun c hc => ?_, fun c => ?_⟩, ?_, ?_⟩
  · rw [hAt_uni]
    rw [l] at hc
    by_cases q : c < a.length
    · have := A.heap.pos c q
      omega
    · have := B.heap.pos c (by omega)
      omega
  · rw [hAt_uni, hAt_uni]
    have := A.heap.fall c
    have := B.heap.fall c
    omega
  · have := A.len
    have := B.len
    omega
  · rw [hAt_uni]
    have := A.top
    have := B.top
    omega
def coreH (ls : List Int) (lo : Int) : Nat → List Nat
  | 0 => []
  | m + 1 => uni (coreH ls lo m) (bxh (tell ls (lo + m)).toNat (rowsL ls (lo + m)).toNat)
theorem coreH_at (ls : List Int) (lo : Int) (col r : Nat) : ∀ m : Nat, r + 1 ≤ hAt (coreH ls lo m) col ↔ ∃ j : Nat, j < m ∧ (col : Int) < tell ls (lo + j) ∧ (r : Int) + 1 ≤ rowsL ls (lo + j)
  | 0 => by
    constructor
    · intro h
      rw [show coreH ls lo 0 = [] from rfl, hAt_ge (Nat.zero_le _)] at h
      omega
    · rintro ⟨j, h, _⟩
      omega
  | m + 1 => by
    have ih := coreH_at ls lo col r m
    show r + 1 ≤ hAt (uni (coreH ls lo m) (bxh (tell ls (lo + m)).toNat (rowsL ls (lo + m)).toNat)) col ↔ _
    rw [hAt_uni, hAt_bxh]
    constructor
    · intro h
      by_cases q : r + 1 ≤ hAt (coreH ls lo m) col
      · obtain ⟨j, a, b⟩ := ih.mp q
        exact ⟨j, by omega, b⟩
      · refine ⟨m, by omega, ?_⟩
        split at h
        · constructor <;> omega
        · omega
    · rintro ⟨j, a, b, d⟩
      by_cases q : j = m
      · subst q
        rw [if_pos (by omega)]
        omega
      · have := ih.mpr ⟨j, by omega, b, d⟩
        omega
def coreL (ls : List Int) : List Nat := coreH ls (-(ls.getD (ls.length - 1) 0)) (-(ls.getD 0 0) - 1 + ls.getD (ls.length - 1) 0).toNat
theorem core_at {ls : List Int} (s : ls.Pairwise (· ≤ ·)) (hl : 1 ≤ ls.length) (col r : Nat) : r + 1 ≤ hAt (coreL ls) col ↔ ∃ c : Int, (col : Int) < tell ls c ∧ (r : Int) + 1 ≤ rowsL ls c := by
  unfold coreL
  rw [coreH_at]
  constructor
  · rintro ⟨j, _, a, b⟩
    exact ⟨_, a, b⟩
  · rintro ⟨c, a, b⟩
    obtain ⟨l, h1, h2⟩ := tell_pos (ls := ls) (c := c) (by omega)
    obtain ⟨l', h3, h4⟩ := rows_pos (ls := ls) (c := c) (by omega)
    obtain ⟨i, hi, rfl⟩ := mem_get h1
    obtain ⟨i', hi', rfl⟩ := mem_get h3
    have p1 := pw_get s (show i ≤ ls.length - 1 by omega) (by omega)
    have p2 := pw_get s (Nat.zero_le i') hi'
    refine ⟨(c + ls.getD (ls.length - 1) 0).toNat, by omega, ?_⟩
    rw [show -(ls.getD (ls.length - 1) 0) + ((c + ls.getD (ls.length - 1) 0).toNat : Int) = c by omega]
    exact ⟨a, b⟩
theorem core_held {one other : List Int} (hl : one.length = other.length) (hs : one.sum = other.sum) (h1 : 1 ≤ one.length) (s1 : one.Pairwise (· ≤ ·)) (s2 : other.Pairwise (· ≤ ·)) : (∀ col, hAt (coreL other) col ≤ hAt (coreL one) col) ↔ ∀ c, tell other c ≤ tell one c := by
  constructor
  · intro h c
    by_cases q : tell other c ≤ tell one c
    · exact q
    · exfalso
      have r1 := rows_tell one c
      have r2 := rows_tell other c
      rw [hl, hs] at r1
      have n1 := tell_nn one c
      have n2 := rows_nn one c
      have k := (core_at s2 (by omega) (tell other c - 1).toNat (rowsL other c - 1).toNat).mpr ⟨c, by omega, by omega⟩
      obtain ⟨c', a, b⟩ := (core_at s1 h1 _ _).mp (Nat.le_trans k (h _))
      by_cases q2 : c' ≤ c
      · have := tell_mono q2 one
        omega
      · have := rows_anti (show c ≤ c' by omega) one
        omega
  · intro h col
    by_cases q : hAt (coreL other) col = 0
    · omega
    · obtain ⟨c, a, b⟩ := (core_at s2 (by omega) col (hAt (coreL other) col - 1)).mp (by omega)
      have r1 := rows_tell one c
      have r2 := rows_tell other c
      rw [hl, hs] at r1
      have := h c
      have := (core_at s1 h1 col (hAt (coreL other) col - 1)).mpr ⟨c, by omega, by omega⟩
      omega
/-! sides -/
theorem sum_le {α : Type} {f g : α → Int} : ∀ {l : List α}, (∀ x ∈ l, f x ≤ g x) → (l.map f).sum ≤ (l.map g).sum
  | [], _ => Int.le_refl _
  | x :: r, h => by
    rw [List.map_cons, List.map_cons, List.sum_cons, List.sum_cons]
    have := h x (List.mem_cons_self ..)
    have := sum_le fun y hy => h y (List.mem_cons_of_mem (a := y) x hy)
    omega
theorem sum_zero {α : Type} : ∀ l : List α, (l.map fun _ => (0 : Int)).sum = 0
  | [] => rfl
  | x :: r => by
    rw [List.map_cons, List.sum_cons, sum_zero r]
    rfl
theorem sum_one {α : Type} {f : α → Int} : ∀ {l : List α}, (∀ x ∈ l, 0 ≤ f x) → ∀ x ∈ l, f x ≤ (l.map f).sum
  | y :: r, h, x, hx => by
    rw [List.map_cons, List.sum_cons]
    have h0 := h y (List.mem_cons_self ..)
    have hr : ∀ z ∈ r, 0 ≤ f z := fun z hz => h z (List.mem_cons_of_mem _ hz)
    have hs : 0 ≤ (r.map f).sum := by
      have := sum_le (f := fun _ => (0 : Int)) (g := f) (l := r) hr
      rw [sum_zero] at this
      exact this
    rcases List.mem_cons.mp hx with rfl | hx
    · omega
    · have := sum_one hr x hx
      omega
theorem rowsR (ls : List Int) (c : Int) : ((List.range ls.length).map fun i => max 0 (-(ls.getD i 0) - c - 1)).sum = rowsL ls c := by
  unfold rowsL
  congr 1
  refine List.ext_getElem (by rw [List.length_map, List.length_map, List.length_range]) fun i h1 h2 => ?_
  rw [List.length_map] at h2
  rw [List.getElem_map, List.getElem_map, List.getElem_range, List.getD_eq_getElem?_getD, List.getElem?_eq_getElem h2]
  rfl
theorem drow_nn (ls : List Int) (i : Nat) : ∀ x ∈ List.range i, 0 ≤ max 0 (ls.getD i 0 - ls.getD x 0 - 1) := fun x _ => by omega
theorem sides {ls : List Int} (hl : 1 ≤ ls.length) {c : Int} (h1 : -(ls.getD (ls.length - 1) 0) ≤ c) (h2 : c ≤ -(ls.getD 0 0) - 2) : tell ls c ≤ distL ls ∧ rowsL ls c ≤ distL ls := by
  constructor
  · rw [← tellR]
    unfold distL
    refine sum_le fun i hi => ?_
    by_cases q : i = 0
    · subst q
      show max 0 (ls.getD 0 0 + c + 1) ≤ 0
      omega
    · have := sum_one (f := fun x => max 0 (ls.getD i 0 - ls.getD x 0 - 1)) (drow_nn ls i) 0 (List.mem_range.mpr (by omega))
      show max 0 (ls.getD i 0 + c + 1) ≤ _
      have t : max 0 (ls.getD i 0 - ls.getD 0 0 - 1) ≤ ((List.range i).map fun x => max 0 (ls.getD i 0 - ls.getD x 0 - 1)).sum := this
      omega
  · rw [← rowsR]
    have k := sum_one (f := fun i => ((List.range i).map fun x => max 0 (ls.getD i 0 - ls.getD x 0 - 1)).sum) (l := List.range ls.length) (fun i _ => by
      have := sum_le (f := fun _ => (0 : Int)) (g := fun x => max 0 (ls.getD i 0 - ls.getD x 0 - 1)) (l := List.range i) (drow_nn ls i)
      rw [sum_zero] at this
      exact this) (ls.length - 1) (List.mem_range.mpr (by omega))
    refine Int.le_trans ?_ k
    obtain ⟨n, hn⟩ : ∃ n, ls.length = n + 1 := ⟨ls.length - 1, by omega⟩
    rw [hn, Nat.add_sub_cancel] at h1 ⊢
    rw [List.range_succ, List.map_append, List.sum_append]
    show _ + (max 0 (-(ls.getD n 0) - c - 1) + 0) ≤ _
    have := sum_le (f := fun i => max 0 (-(ls.getD i 0) - c - 1)) (g := fun x => max 0 (ls.getD n 0 - ls.getD x 0 - 1)) (l := List.range n) fun x _ => by
      show max 0 (-(ls.getD x 0) - c - 1) ≤ max 0 (ls.getD n 0 - ls.getD x 0 - 1)
      omega
    omega
theorem good_core {ls : List Int} (hl : 1 ≤ ls.length) (s : ls.Pairwise (· ≤ ·)) (hd : distL ls ≤ 12) : ∀ m : Nat, (m : Int) ≤ -(ls.getD 0 0) - 1 + ls.getD (ls.length - 1) 0 → Good (coreH ls (-(ls.getD (ls.length - 1) 0)) m)
  | 0, _ => ⟨IsHeap.nil, Nat.zero_le _, Nat.zero_le _⟩
  | m + 1, hm => by
    have sd := sides hl (c := -(ls.getD (ls.length - 1) 0) + m) (by omega) (by omega)
    have p := rows_ge (c := -(ls.getD (ls.length - 1) 0) + m) (get_mem (show 0 < ls.length by omega))
    have ih := good_core hl s hd m (by omega)
    exact good_uni ih (good_bxh (by omega) (by omega) (by omega))
end K1

/-! own rule: a tuple times an int from 1 on, by what stands afterwards -/
namespace RT
open PySem PySem.Spec PyProof.Rows L2 Evl
theorem tuple_mul1 (l : Addr) (items : Array Value) (n : Nat) (dd : Option Addr) (sl : Array (Option Value)) (u : Tok) :
    Meets (Builtin.«tuple.__mul__» ⟨[.ref l, .int 1 u], []⟩) (fun _ R s => s.heap.get? l = some { cls := .type "tuple", dict := dd, data := .seq items n, slots := sl } ∧ R (.ok (.ret (Value.ref l))) s) :=
  .of_wp fun prog w A R s h => by
    obtain ⟨hp, g, d, tk, os⟩ := s
    obtain ⟨hl, h⟩ := h
    have f1 := AutoSeq1.idx_int
    have c0 : (decide ((1 : Int) < -(2 ^ 63)) || decide ((1 : Int) ≥ 2 ^ 63)) = false := by decide
    have c1 : (items.isEmpty || (1 : Int) == 1) = true := by simp
    wp_walk using wpAny_loadPart' hl
    repeat (first
      | (refine wpAny_ite_false (decide_eq_false (by rw [c0]; exact Bool.false_ne_true)) ?_; wp_walk using wpAny_loadPart' hl)
      | (refine wpAny_ite_true (decide_eq_true (by rw [c1])) ?_; wp_walk using wpAny_loadPart' hl))
    exact ⟨_, rfl, h⟩
section
variable {X : Cx}
def rRepE : R2 := fun x y H Q => ∃ l k xs, x = .ref l ∧ y = .int k ∧ H l = some (.tup xs) ∧ xs ≠ [] ∧ 1 ≤ k ∧ k ≤ 1000 ∧ xs.length ≤ 1000 ∧ ∀ p H', Ex H H' → H' p = some (.tup (List.replicate k.toNat xs).flatten) → Q (.ref p) H'
theorem op_repE : OpR X (binaryOp .Mult) rRepE := by
  intro pins s σ H x y v u Q I rx ry h
  obtain ⟨l, k, xs, rfl, rfl, hT, hne, h1, h2, hz, q⟩ := h
  by_cases hk : k = 1
  · subst hk
    cases rx
    obtain ⟨t, rfl⟩ := ry
    obtain ⟨its, r, ⟨⟨cls, dd, data, sl⟩, ho, hc, n, hd⟩, hs⟩ := I.tuple (SqT.of hT)
    simp only at hc hd
    subst hc hd
    refine wpAny_binaryOp_repeat_ref (T := "tuple") (U := "int") (by decide) ⟨_, ho, rfl⟩ (fun s' => typeIs_int s' 1 t) noFill_tuple_mul F.fills_int_mul F.slot_int_rmul repeat_tuple F.slot_int_index.lookup
      (call_meets F.slot_int_rmul (typeIs_int s 1 t) F.entry_int_rmul (F.args_int_rmul_2 _ _) (int_rmul_tuple 1 t l its.toArray n dd sl)
        ⟨ho, rfl, ⟨_, ho, rfl⟩, call_meets F.slot_tuple_mul ⟨_, ho, rfl⟩ F.entry_tuple_mul (F.args_tuple_mul_2 _ _) (tuple_mul1 l its.toArray n dd sl t) ⟨ho, ?_⟩⟩)
    refine ⟨.ref l, H, I, rfl, q l H (Ex.refl _) ?_⟩
    rw [hT]
    simp
  · exact op_repT pins s σ H _ _ v u Q I rx ry ⟨l, k, xs, rfl, rfl, SqT.of hT, hne, by omega, h2, hz, fun p hp => q p _ (Ex.new hp) upd_same⟩
end
end RT

/-! own rule: sum of a tuple of ints -/
namespace ST
open PySem PySem.Spec PyProof.Rows L2
section
variable {prog : Program} {w : World} {A : Around} {E : Value → Shared → Prop} {s : Shared} {l : Addr}
theorem sum_tup {xs : Array (Int × Tok)} {Q : Value → Shared → Prop} (hh : A.handled = none) (hl : s.heap.IsTuple l (intItems xs))
    (h : ∀ h' tk t', (∀ b o, s.heap.get? b = some o → h'.get? b = some o) → Q (.int (preSum (numAt xs) xs.size) t') { s with heap := h', toks := tk }) :
    wpAny (model prog w) A (call (.builtin "sum") [.ref l]) Q E s := by
  have hlt : l < s.heap.objs.size := by
    obtain ⟨_, e, _⟩ := hl
    exact Heap.lt_size e
  refine call_sum_walkG (wpAny_pyIter_tuple hl ?_)
  refine ⟨_, _, _, _, _, _, numAt xs, rfl, Walks.tuple (A := A.in1) hh s.heap.objs.size l (Nat.ne_of_lt hlt) (intItems xs), ⟨⟨_, Heap.get?_push_size _ rfl, rfl, rfl⟩, hl.push _⟩, fun b hb => ?_, (fun _ _ => intItems_at), fun h' tk t' hk => ?_⟩
  · show b < (s.heap.push _).objs.size
    rw [Heap.size_push]
    rcases List.mem_cons.mp hb with rfl | hb
    · exact Nat.lt_succ_self _
    · rcases List.mem_cons.mp hb with rfl | hb
      · exact Nat.lt_succ_of_lt hlt
      · cases hb
  · have := h h' tk t' fun b o e => by
      refine hk b o (fun hm => ?_) (Heap.get?_push_of_some _ e)
      rcases List.mem_cons.mp hm with e1 | hm
      · exact absurd (e1 ▸ Heap.lt_size e) (Nat.lt_irrefl _)
      · cases hm
    simpa [intItems] using this
theorem sum_tupR {its : List Value} {ns : List Int} {Q : Value → Shared → Prop} (hh : A.handled = none) (hl : s.heap.IsTuple l its.toArray) (hi : IntsAre its ns)
    (h : ∀ h' tk t', (∀ b o, s.heap.get? b = some o → h'.get? b = some o) → Q (.int ns.sum t') { s with heap := h', toks := tk }) : wpAny (model prog w) A (call (.builtin "sum") [.ref l]) Q E s := by
  obtain ⟨xs, e⟩ := hi.allInts.items
  have hn : numsOf (intItems xs).toList = ns := by rw [← e]; exact hi.numsOf
  rw [nums_intItems] at hn
  rw [e] at hl
  refine sum_tup hh hl fun h' tk t' hk => ?_
  have := h h' tk t' hk
  rw [preSum_eq, List.take_of_length_le (by simp), hn]
  exact this
end
section
variable {X : Cx}
def rSumT (K : PySem.W.Frag) : List V → Hp → VK → Prop := fun vs H Q => ∃ (a : Addr) (ns : List Int), vs = [V.ref a] ∧ SqT K H a (ns.map V.int) ∧ Q (.int ns.sum) H
theorem cr_sumT (hc : X.calm = true) : CallR X (.builtin "sum") (rSumT X.K) := by
  intro pins s σ H vs us Q I r h
  obtain ⟨a, ns, rfl, hs, q⟩ := h
  obtain ⟨its, rv, hl, _⟩ := I.tuple hs
  rw [Vals.ref1 r]
  exact sum_tupR (I.ok.hd hc) hl rv.ints fun h' tk t' hk => ⟨.int _, H, I.kept hk, ⟨_, rfl⟩, q⟩
end
end ST

/-! own rules: slices of a tuple and sums of tuples, whole or empty ones too, by what stands afterwards -/
namespace TE
open PySem PySem.Spec PyProof.Rows L2 Evl
section
variable {X : Cx}
def rSlE : V → Option Int → Option Int → Hp → VK → Prop := fun x lo hi H Q => ∃ a xs, x = .ref a ∧ H a = some (.tup xs) ∧ ∀ p H', Ex H H' → H' p = some (.tup (cutV xs lo hi)) → Q (.ref p) H'
theorem sl_tupE : SlR X rSlE := by
  intro pins s σ H x v vl vu lo hi sl Q I rx hs pl pu h
  obtain ⟨a, xs, rfl, hx, q⟩ := h
  refine sl_tupA pins s σ H _ v vl vu lo hi sl Q I rx hs pl pu ⟨a, xs, rfl, SqT.of hx, fun w => q a H (Ex.refl _) ?_, fun _ p hp => q p _ (Ex.new hp) upd_same⟩
  obtain ⟨w1, w2⟩ := w
  have e : cutV xs lo hi = xs := by
    unfold cutV
    rw [w1, w2, List.drop_zero, Nat.sub_zero, List.take_length]
  rw [e]
  exact hx
def rCatE : R2 := fun x y H Q => ∃ a b xs ys, x = .ref a ∧ y = .ref b ∧ H a = some (.tup xs) ∧ H b = some (.tup ys) ∧ xs.length + ys.length ≤ sizeLine ∧ ∀ p H', Ex H H' → H' p = some (.tup (xs ++ ys)) → Q (.ref p) H'
theorem op_catE : OpR X (binaryOp .Add) rCatE := by
  intro pins s σ H x y v u Q I rx ry h
  obtain ⟨a, b, xs, ys, rfl, rfl, ha, hb, hz, q⟩ := h
  refine op_catA pins s σ H _ _ v u Q I rx ry ⟨a, b, xs, ys, rfl, rfl, SqT.of ha, SqT.of hb, hz, fun e => q b H (Ex.refl _) ?_, fun _ e => q a H (Ex.refl _) ?_, fun _ _ p hp => q p _ (Ex.new hp) upd_same⟩
  · rw [e, List.nil_append]
    exact hb
  · rw [e, List.append_nil]
    exact ha
end
end TE

/-! own walk: zip of a list and a tuple -/
namespace ZM
open PySem PySem.Spec PyProof.Rows L2
/-- a list and a tuple, their items in new pairs -/
def ItM (K : PySem.W.Frag) (a b : Addr) : It :=
  ⟨fun i H => ∃ (xs ys : List V) (x y : V), SqL K H a xs ∧ SqT K H b ys ∧ xs[i]? = some x ∧ ys[i]? = some y,
    fun i H v H' => ∃ T x y, v = .ref T ∧ H T = none ∧ H' = upd H T (.tup [x, y]) ∧ (∀ xs, SqL K H a xs → xs[i]? = some x) ∧ ∀ ys, SqT K H b ys → ys[i]? = some y,
    fun i H => ∃ xs ys : List V, SqL K H a xs ∧ SqT K H b ys ∧ xs.length = i ∧ ys.length = i⟩
theorem turnM {P : Program} {w : World} {K : PySem.W.Frag} {elts : List Expr} {kk : Nat} {tpos : Pos} {a b z TI TO i1 i2 : Addr} (S : ZipSep2 z TI TO i1 i2 [i1, a] [i2, b]) (na : a ≠ i1) (nb : b ≠ i2) (w1 : z ≠ i1 ∧ z ≠ i2) :
    Turn P w K (.Tuple elts kk tpos) (ItM K a b) [z, TI, TO, i1, i2] z (fun i h => IsZip h z TI TO .none ∧ IsTupOf2 h TI (.ref i1) (.ref i2) ∧ (∃ x y, IsTupOf2 h TO x y) ∧ h.IsListIter i1 a i ∧ h.IsTupleIter i2 b i) where
  mem := by simp
  obj := fun i h st t ht => by
    obtain ⟨hz, hTI, ⟨x, y, hTO⟩, ⟨o1, e1, _, d1⟩, ⟨o2, e2, _, d2⟩⟩ := st
    rcases (show t = z ∨ t = TI ∨ t = TO ∨ t = i1 ∨ t = i2 by simpa using ht) with q | q | q | q | q
    · rw [q]
      exact ⟨_, hz, fun v q => nomatch q⟩
    · rw [q]
      exact ⟨_, hTI, fun v q => nomatch q⟩
    · rw [q]
      exact ⟨_, hTO, fun v q => nomatch q⟩
    · exact ⟨o1, q ▸ e1, fun v q => by rw [d1] at q; cases q⟩
    · exact ⟨o2, q ▸ e2, fun v q => by rw [d2] at q; cases q⟩
  keep := fun i h h' st k => by
    obtain ⟨hz, hTI, ⟨x, y, hTO⟩, h1, h2⟩ := st
    exact ⟨k z (by simp) _ hz, k TI (by simp) _ hTI, ⟨x, y, k TO (by simp) _ hTO⟩, h1.at fun o q => k i1 (by simp) o q, h2.at fun o q => k i2 (by simp) o q⟩
  item := by
    intro X eP eW eK hc i pins s σ H E I hf st hg
    subst eP eW eK
    obtain ⟨hz, hTI, ⟨x0, y0, hTO⟩, h1, h2⟩ := st
    obtain ⟨xs, ys, x, y, qx, qy, gx, gy⟩ := hg
    obtain ⟨t1, r1, p1, _⟩ := I.list qx
    obtain ⟨t2, r2, p2, _⟩ := I.tuple qy
    obtain ⟨v1, m1, rv1⟩ := r1.get gx
    obtain ⟨v2, m2, rv2⟩ := r2.get gy
    have l1 : i < t1.toArray.size := by simpa using (List.getElem?_eq_some_iff.mp m1).1
    have l2 : i < t2.toArray.size := by simpa using (List.getElem?_eq_some_iff.mp m2).1
    have hzl : z < s.heap.objs.size := Heap.lt_size hz
    have hh : X.A.in1.handled = none := I.ok.hd hc
    refine wpAny_pyNext_zipD2_item S (Draws.list hh i1 a na t1.toArray) (Draws.tuple hh i2 b nb t2.toArray) hz hTI hTO ⟨h1, p1.isList⟩ ⟨h2, p2⟩ l1 l2 fun w1' w2' h' tk g1 g2 zz tt s1 s2 hT hsz hk => ?_
    have a1 : w1' = v1 := Option.some.inj (g1.symm.trans (by simpa using m1))
    have a2 : w2' = v2 := Option.some.inj (g2.symm.trans (by simpa using m2))
    subst a1 a2
    refine ⟨_, rfl, wpAny_letOwnedTupleGo_zip (s := { s with heap := h', toks := tk }) zz fun h2' z2 sb => ?_⟩
    have hT2 : h2'.get? s.heap.objs.size = some { cls := .type "tuple", data := .seq #[w1', w2'] } := (sb.2 _ (Nat.ne_of_gt hzl)).trans hT
    have made : ObjOk X.prog X.w (upd H s.heap.objs.size (.tup [x, y])) h2' s.heap.objs.size (.tup [x, y]) :=
      ⟨by show 2 ≤ sizeLine; decide, [w1', w2'], .cons rv1 (.cons rv2 .nil), ⟨_, hT2, rfl, _, rfl⟩⟩
    have I2 : Inv X pins σ (upd H s.heap.objs.size (.tup [x, y])) { s with heap := h2', toks := tk } :=
      I.turnedNew (ch := [z, TI, TO, i1, i2]) (fun t o ht q => (sb.2 t (fun e => ht (by simp [e]))).trans (hk t o (fun e => ht (by simp [e])) (fun e => ht (by simp [e])) (fun e => ht (by simp [e])) (fun e => ht (by simp [e])) q)) hf (Nat.le_refl _) made
    refine ⟨.ref s.heap.objs.size, _, I2, rfl, ⟨_, x, y, rfl, I.hok.fresh (Nat.le_refl _), rfl, fun l hl => by rw [I.list_inj hl qx]; exact gx, fun l hl => by rw [I.tuple_inj hl qy]; exact gy⟩,
      ⟨z2, (sb.2 _ S.TIz).trans (hk _ _ S.TIz S.TITO S.TIi1 S.TIi2 hTI), ⟨w1', w2', (sb.2 _ S.TOz).trans tt⟩, s1.1.at fun o q => (sb.2 _ w1.1.symm).trans q, s2.1.at fun o q => (sb.2 _ w1.2.symm).trans q⟩, fun t ht => ?_⟩
    have lt : t < s.heap.objs.size := by
      rcases (show t = z ∨ t = TI ∨ t = TO ∨ t = i1 ∨ t = i2 by simpa using ht) with q | q | q | q | q
      · exact q ▸ hzl
      · exact q ▸ Heap.lt_size hTI
      · exact q ▸ Heap.lt_size hTO
      · obtain ⟨_, e, _⟩ := h1
        exact q ▸ Heap.lt_size e
      · obtain ⟨_, e, _⟩ := h2
        exact q ▸ Heap.lt_size e
    rw [upd_ne (Nat.ne_of_lt lt)]
    exact (hf t ht).1
  done := by
    intro X eP eW eK hc i pins s σ H E I hf st hg
    subst eP eW eK
    obtain ⟨hz, hTI, ⟨x0, y0, hTO⟩, h1, h2⟩ := st
    obtain ⟨xs, ys, qx, qy, gx, gy⟩ := hg
    obtain ⟨t1, r1, p1, _⟩ := I.list qx
    obtain ⟨t2, r2, p2, _⟩ := I.tuple qy
    have k1 := r1.length
    have k2 := r2.length
    have hh : X.A.in1.handled = none := I.ok.hd hc
    exact wpAny_pyNext_zipD2_end S (Draws.list hh i1 a na t1.toArray) (Draws.tuple hh i2 b nb t2.toArray) hz hTI hTO ⟨h1, p1.isList⟩ ⟨h2, p2⟩ (by rw [List.size_toArray]; omega) (by rw [List.size_toArray]; omega) (.inl (by rw [List.size_toArray]; omega))
      fun h' tk hk => ⟨rfl, I.turnedL (ch := [z, TI, TO, i1, i2]) (fun t o ht q => hk t o (fun e => ht (by simp [e])) (fun e => ht (by simp [e])) (fun e => ht (by simp [e])) (fun e => ht (by simp [e])) q) hf⟩
  self := fun A i s Q E st h => wpAny_pyIter_zip st.1 h
def iZipM (K : PySem.W.Frag) (ta : TA) : TI := fun σ H R => ta σ H fun vs H1 => ∃ a b xs ys, vs = [.ref a, .ref b] ∧ SqL K H1 a xs ∧ SqT K H1 b ys ∧ R (ItM K a b) H1
theorem pi_zipM {X : Cx} {e e2 : Expr} {ta : TA} {p pos tpos : Pos} {elts : List Expr} {kk : Nat} (hg : Gl X "zip") (hm : X.mg "zip" = none) (ha : PA X [e, e2] ta)
    (hs : starEach [e, e2] X.env = (false, eval e X.env) :: starEach [e2] X.env := by rfl) (hpl : (backTo pos (starEach [e2] X.env)).any (·.1) = false := by rfl) :
    PI X (.Tuple elts kk tpos) (.Call (.Name "zip" p) [e, e2] [] pos) (iZipM X.K ta) := by
  refine ⟨fun pins s σ H R I h => ?_⟩
  refine Call_ (ld_blt I hg hm PyProof.Rows.boot_zip (PyProof.Rows.callWith_type1 (thn (ha.run pos pins s σ H _ I h) fun vs' s1 ⟨vs, H1, I1, r1, q1⟩ => ?_) hs hpl))
  obtain ⟨a, b, xs, ys, ex, qx, qy, q⟩ := q1
  subst ex
  obtain ⟨t1, r1', p1, _⟩ := I1.list qx
  obtain ⟨t2, r2', p2, _⟩ := I1.tuple qy
  cases r1 with
  | cons ra rr =>
    cases rr with
    | cons rb rr =>
      cases rr
      cases ra
      cases rb
      have la : a < s1.heap.objs.size := by
        obtain ⟨_, e, _⟩ := p1.isList
        exact Heap.lt_size e
      have lb : b < s1.heap.objs.size := by
        obtain ⟨_, e, _⟩ := p2
        exact Heap.lt_size e
      refine zip_begins2 (begins_list a t1.toArray) (begins_tuple b t2.toArray) p1.isList p2 fun h' hz hTI hTO g1 g2 _ hk => wpAny_pyIter_zip hz ?_
      have I2 : Inv X pins σ H1 { s1 with heap := h' } := I1.kept (t' := s1.toks) hk
      have S : ZipSep2 (s1.heap.objs.size + 4) (s1.heap.objs.size + 2) (s1.heap.objs.size + 3) s1.heap.objs.size (s1.heap.objs.size + 1) [s1.heap.objs.size, a] [s1.heap.objs.size + 1, b] :=
        zip_sep2 (fun t ht => by rw [List.mem_singleton.mp ht]; exact la) (fun t ht => by rw [List.mem_singleton.mp ht]; exact lb)
      have add : ∀ {m k : Nat}, m ≠ k → s1.heap.objs.size + m ≠ s1.heap.objs.size + k := fun n e => n (Nat.add_left_cancel e)
      refine ⟨s1.heap.objs.size + 4, [s1.heap.objs.size + 4, s1.heap.objs.size + 2, s1.heap.objs.size + 3, s1.heap.objs.size, s1.heap.objs.size + 1], _, _, H1, rfl, I2,
        turnM S (Nat.ne_of_lt la) (Nat.ne_of_lt (Nat.lt_succ_of_lt lb)) ⟨add (m := 4) (k := 0) (by decide), add (by decide)⟩,
        ⟨hz, hTI, ⟨_, _, hTO⟩, ⟨_, g1, rfl, rfl⟩, ⟨_, g2, rfl, rfl⟩⟩, fun t ht => ?_, q⟩
      have le : s1.heap.objs.size ≤ t := by
        rcases (show t = s1.heap.objs.size + 4 ∨ t = s1.heap.objs.size + 2 ∨ t = s1.heap.objs.size + 3 ∨ t = s1.heap.objs.size ∨ t = s1.heap.objs.size + 1 by simpa using ht) with q | q | q | q | q
        · exact q ▸ Nat.le_add_right _ _
        · exact q ▸ Nat.le_add_right _ _
        · exact q ▸ Nat.le_add_right _ _
        · exact q ▸ Nat.le_refl _
        · exact q ▸ Nat.le_add_right _ _
      exact I1.fpOk le (I1.hok.fresh le)
theorem lc_zipM {K : PySem.W.Frag} {a b : Addr} {xs ys : List V} {n : Nat} {g : TG} {tt : TT} {te : TE} {vs : List Nat} {σ : L2.St} {H1 : Hp} {D : Addr} {Qd : Hp → Prop} (hx : xs.length = n) (hy : ys.length = n)
    (Pv : Nat → Hp → Prop) (h0 : Pv 0 (upd H1 D (.lst []))) (hq : ∀ i H, Pv i H → SqL K H a xs ∧ SqT K H b ys)
    (hs : ∀ i x y T H, i < n → xs[i]? = some x → ys[i]? = some y → Pv i H → H T = none → g (.ref T) (wipe σ vs) (upd H T (.tup [x, y])) fun σ2 H2 => wipe σ2 vs = wipe σ vs ∧ tt σ2 H2 fun c H3 =>
      if c = true then te σ2 H3 fun z H4 => ∃ acc, H4 D = some (.lst acc) ∧ acc.length < sizeLine ∧ Pv (i + 1) (upd H4 D (.lst (acc ++ [z]))) else Pv (i + 1) H3) (hd : ∀ H, Pv n H → Qd H) :
    ∃ W : Nat → Nat → Hp → Prop, (∃ m, W 0 m (upd H1 D (.lst []))) ∧ ∀ i m H, W i m H →
      ((ItM K a b).stop i H ∧ Qd H) ∨ ((ItM K a b).go i H ∧ ∃ Nx : Hp → Prop, (∀ H', Nx H' → ∃ m', m' < m ∧ W (i + 1) m' H') ∧ ∀ v H', (ItM K a b).yld i H v H' → g v (wipe σ vs) H' fun σ2 H2 => wipe σ2 vs = wipe σ vs ∧ tt σ2 H2 fun c H3 =>
        if c = true then te σ2 H3 fun z H4 => ∃ acc, H4 D = some (.lst acc) ∧ acc.length < sizeLine ∧ Nx (upd H4 D (.lst (acc ++ [z]))) else Nx H3) := by
  refine ⟨fun i m H => m = n - i ∧ i ≤ n ∧ Pv i H, ⟨n, (Nat.sub_zero n).symm, Nat.zero_le _, h0⟩, ?_⟩
  rintro i m H ⟨rfl, hi, p⟩
  obtain ⟨qa, qb⟩ := hq i H p
  by_cases hlt : i < n
  · have e1 : xs[i]? = some (xs[i]'(by omega)) := List.getElem?_eq_getElem _
    have e2 : ys[i]? = some (ys[i]'(by omega)) := List.getElem?_eq_getElem _
    refine .inr ⟨⟨xs, ys, _, _, qa, qb, e1, e2⟩, Pv (i + 1), fun H' p' => ⟨n - (i + 1), by omega, rfl, hlt, p'⟩, fun v H' hy' => ?_⟩
    obtain ⟨T, x, y, rfl, nT, rfl, fx, fy⟩ := hy'
    exact hs i x y T H hlt (fx _ qa) (fy _ qb) p nT
  · have e : i = n := by omega
    subst e
    exact .inl ⟨⟨xs, ys, qa, qb, hx, hy⟩, hd H p⟩
end ZM

/-! own walks: comprehensions and loops over zip and enumerate of tuples, zip of lists of any lengths -/
namespace ZW
open PySem PySem.Spec PyProof.Rows L2
theorem lc_zipT {K : PySem.W.Frag} {a b : Addr} {xs ys : List V} {n : Nat} {g : TG} {tt : TT} {te : TE} {vs : List Nat} {σ : L2.St} {H1 : Hp} {D : Addr} {Qd : Hp → Prop} (hx : n ≤ xs.length) (hy : n ≤ ys.length) (hn : xs.length ≤ n ∨ ys.length ≤ n)
    (Pv : Nat → Hp → Prop) (h0 : Pv 0 (upd H1 D (.lst []))) (hq : ∀ i H, Pv i H → SqT K H a xs ∧ SqT K H b ys)
    (hs : ∀ i x y T H, i < n → xs[i]? = some x → ys[i]? = some y → Pv i H → H T = none → g (.ref T) (wipe σ vs) (upd H T (.tup [x, y])) fun σ2 H2 => wipe σ2 vs = wipe σ vs ∧ tt σ2 H2 fun c H3 =>
      if c = true then te σ2 H3 fun z H4 => ∃ acc, H4 D = some (.lst acc) ∧ acc.length < sizeLine ∧ Pv (i + 1) (upd H4 D (.lst (acc ++ [z]))) else Pv (i + 1) H3) (hd : ∀ H, Pv n H → Qd H) :
    ∃ W : Nat → Nat → Hp → Prop, (∃ m, W 0 m (upd H1 D (.lst []))) ∧ ∀ i m H, W i m H →
      ((RZ.ItzT K a b).stop i H ∧ Qd H) ∨ ((RZ.ItzT K a b).go i H ∧ ∃ Nx : Hp → Prop, (∀ H', Nx H' → ∃ m', m' < m ∧ W (i + 1) m' H') ∧ ∀ v H', (RZ.ItzT K a b).yld i H v H' → g v (wipe σ vs) H' fun σ2 H2 => wipe σ2 vs = wipe σ vs ∧ tt σ2 H2 fun c H3 =>
        if c = true then te σ2 H3 fun z H4 => ∃ acc, H4 D = some (.lst acc) ∧ acc.length < sizeLine ∧ Nx (upd H4 D (.lst (acc ++ [z]))) else Nx H3) := by
  refine ⟨fun i m H => m = n - i ∧ i ≤ n ∧ Pv i H, ⟨n, (Nat.sub_zero n).symm, Nat.zero_le _, h0⟩, ?_⟩
  rintro i m H ⟨rfl, hi, p⟩
  obtain ⟨qa, qb⟩ := hq i H p
  by_cases hlt : i < n
  · have e1 : xs[i]? = some (xs[i]'(by omega)) := List.getElem?_eq_getElem _
    have e2 : ys[i]? = some (ys[i]'(by omega)) := List.getElem?_eq_getElem _
    refine .inr ⟨⟨xs, ys, _, _, qa, qb, e1, e2⟩, Pv (i + 1), fun H' p' => ⟨n - (i + 1), by omega, rfl, hlt, p'⟩, fun v H' hy' => ?_⟩
    obtain ⟨T, x, y, rfl, nT, rfl, fx, fy⟩ := hy'
    exact hs i x y T H hlt (fx _ qa) (fy _ qb) p nT
  · have e : i = n := by omega
    subst e
    exact .inl ⟨⟨xs, ys, qa, qb, by omega⟩, hd H p⟩
theorem for_zipT {K : PySem.W.Frag} {a b : Addr} {xs ys : List V} {n : Nat} {g : TG} {tb : TS} {D : Ends} {σ : L2.St} {H : Hp} (hx : n ≤ xs.length) (hy : n ≤ ys.length) (hn : xs.length ≤ n ∨ ys.length ≤ n)
    (Pv : Nat → L2.St → Hp → Prop) (h0 : Pv 0 σ H) (hq : ∀ i σ H, Pv i σ H → SqT K H a xs ∧ SqT K H b ys)
    (hs : ∀ i x y T σ H, i < n → xs[i]? = some x → ys[i]? = some y → Pv i σ H → H T = none → g (.ref T) σ (upd H T (.tup [x, y])) fun σ2 H2 => tb { D with nx := Pv (i + 1), ct := Pv (i + 1), bk := D.nx } σ2 H2) (hd : ∀ σ H, Pv n σ H → D.nx σ H) :
    ∃ W : Nat → Nat → L2.St → Hp → Prop, (∃ m, W 0 m σ H) ∧ ∀ i m σ H, W i m σ H →
      ((RZ.ItzT K a b).stop i H ∧ D.nx σ H) ∨ ((RZ.ItzT K a b).go i H ∧ ∃ N : L2.St → Hp → Prop, (∀ σ' H', N σ' H' → ∃ m', m' < m ∧ W (i + 1) m' σ' H') ∧ ∀ v H', (RZ.ItzT K a b).yld i H v H' → g v σ H' fun σ2 H2 => tb { D with nx := N, ct := N, bk := D.nx } σ2 H2) := by
  refine ⟨fun i m σ H => m = n - i ∧ i ≤ n ∧ Pv i σ H, ⟨n, (Nat.sub_zero n).symm, Nat.zero_le _, h0⟩, ?_⟩
  rintro i m σ H ⟨rfl, hi, p⟩
  obtain ⟨qa, qb⟩ := hq i σ H p
  by_cases hlt : i < n
  · have e1 : xs[i]? = some (xs[i]'(by omega)) := List.getElem?_eq_getElem _
    have e2 : ys[i]? = some (ys[i]'(by omega)) := List.getElem?_eq_getElem _
    refine .inr ⟨⟨xs, ys, _, _, qa, qb, e1, e2⟩, Pv (i + 1), fun σ' H' p' => ⟨n - (i + 1), by omega, rfl, hlt, p'⟩, fun v H' hy' => ?_⟩
    obtain ⟨T, x, y, rfl, nT, rfl, fx, fy⟩ := hy'
    exact hs i x y T σ H hlt (fx _ qa) (fy _ qb) p nT
  · have e : i = n := by omega
    subst e
    exact .inl ⟨⟨xs, ys, qa, qb, by omega⟩, hd σ H p⟩
theorem lc_zipL {K : PySem.W.Frag} {a b : Addr} {xs ys : List V} {n : Nat} {g : TG} {tt : TT} {te : TE} {vs : List Nat} {σ : L2.St} {H1 : Hp} {D : Addr} {Qd : Hp → Prop} (hx : n ≤ xs.length) (hy : n ≤ ys.length) (hn : xs.length ≤ n ∨ ys.length ≤ n)
    (Pv : Nat → Hp → Prop) (h0 : Pv 0 (upd H1 D (.lst []))) (hq : ∀ i H, Pv i H → SqL K H a xs ∧ SqL K H b ys)
    (hs : ∀ i x y T H, i < n → xs[i]? = some x → ys[i]? = some y → Pv i H → H T = none → g (.ref T) (wipe σ vs) (upd H T (.tup [x, y])) fun σ2 H2 => wipe σ2 vs = wipe σ vs ∧ tt σ2 H2 fun c H3 =>
      if c = true then te σ2 H3 fun z H4 => ∃ acc, H4 D = some (.lst acc) ∧ acc.length < sizeLine ∧ Pv (i + 1) (upd H4 D (.lst (acc ++ [z]))) else Pv (i + 1) H3) (hd : ∀ H, Pv n H → Qd H) :
    ∃ W : Nat → Nat → Hp → Prop, (∃ m, W 0 m (upd H1 D (.lst []))) ∧ ∀ i m H, W i m H →
      ((Itz K a b).stop i H ∧ Qd H) ∨ ((Itz K a b).go i H ∧ ∃ Nx : Hp → Prop, (∀ H', Nx H' → ∃ m', m' < m ∧ W (i + 1) m' H') ∧ ∀ v H', (Itz K a b).yld i H v H' → g v (wipe σ vs) H' fun σ2 H2 => wipe σ2 vs = wipe σ vs ∧ tt σ2 H2 fun c H3 =>
        if c = true then te σ2 H3 fun z H4 => ∃ acc, H4 D = some (.lst acc) ∧ acc.length < sizeLine ∧ Nx (upd H4 D (.lst (acc ++ [z]))) else Nx H3) := by
  refine ⟨fun i m H => m = n - i ∧ i ≤ n ∧ Pv i H, ⟨n, (Nat.sub_zero n).symm, Nat.zero_le _, h0⟩, ?_⟩
  rintro i m H ⟨rfl, hi, p⟩
  obtain ⟨qa, qb⟩ := hq i H p
  by_cases hlt : i < n
  · have e1 : xs[i]? = some (xs[i]'(by omega)) := List.getElem?_eq_getElem _
    have e2 : ys[i]? = some (ys[i]'(by omega)) := List.getElem?_eq_getElem _
    refine .inr ⟨⟨xs, ys, _, _, qa, qb, e1, e2⟩, Pv (i + 1), fun H' p' => ⟨n - (i + 1), by omega, rfl, hlt, p'⟩, fun v H' hy' => ?_⟩
    obtain ⟨T, x, y, rfl, nT, rfl, fx, fy⟩ := hy'
    exact hs i x y T H hlt (fx _ qa) (fy _ qb) p nT
  · have e : i = n := by omega
    subst e
    exact .inl ⟨⟨xs, ys, qa, qb, by omega⟩, hd H p⟩
theorem for_zipL {K : PySem.W.Frag} {a b : Addr} {xs ys : List V} {n : Nat} {g : TG} {tb : TS} {D : Ends} {σ : L2.St} {H : Hp} (hx : n ≤ xs.length) (hy : n ≤ ys.length) (hn : xs.length ≤ n ∨ ys.length ≤ n)
    (Pv : Nat → L2.St → Hp → Prop) (h0 : Pv 0 σ H) (hq : ∀ i σ H, Pv i σ H → SqL K H a xs ∧ SqL K H b ys)
    (hs : ∀ i x y T σ H, i < n → xs[i]? = some x → ys[i]? = some y → Pv i σ H → H T = none → g (.ref T) σ (upd H T (.tup [x, y])) fun σ2 H2 => tb { D with nx := Pv (i + 1), ct := Pv (i + 1), bk := D.nx } σ2 H2) (hd : ∀ σ H, Pv n σ H → D.nx σ H) :
    ∃ W : Nat → Nat → L2.St → Hp → Prop, (∃ m, W 0 m σ H) ∧ ∀ i m σ H, W i m σ H →
      ((Itz K a b).stop i H ∧ D.nx σ H) ∨ ((Itz K a b).go i H ∧ ∃ N : L2.St → Hp → Prop, (∀ σ' H', N σ' H' → ∃ m', m' < m ∧ W (i + 1) m' σ' H') ∧ ∀ v H', (Itz K a b).yld i H v H' → g v σ H' fun σ2 H2 => tb { D with nx := N, ct := N, bk := D.nx } σ2 H2) := by
  refine ⟨fun i m σ H => m = n - i ∧ i ≤ n ∧ Pv i σ H, ⟨n, (Nat.sub_zero n).symm, Nat.zero_le _, h0⟩, ?_⟩
  rintro i m σ H ⟨rfl, hi, p⟩
  obtain ⟨qa, qb⟩ := hq i σ H p
  by_cases hlt : i < n
  · have e1 : xs[i]? = some (xs[i]'(by omega)) := List.getElem?_eq_getElem _
    have e2 : ys[i]? = some (ys[i]'(by omega)) := List.getElem?_eq_getElem _
    refine .inr ⟨⟨xs, ys, _, _, qa, qb, e1, e2⟩, Pv (i + 1), fun σ' H' p' => ⟨n - (i + 1), by omega, rfl, hlt, p'⟩, fun v H' hy' => ?_⟩
    obtain ⟨T, x, y, rfl, nT, rfl, fx, fy⟩ := hy'
    exact hs i x y T σ H hlt (fx _ qa) (fy _ qb) p nT
  · have e : i = n := by omega
    subst e
    exact .inl ⟨⟨xs, ys, qa, qb, by omega⟩, hd σ H p⟩
theorem for_enumT {K : PySem.W.Frag} {a : Addr} {xs : List V} {g : TG} {tb : TS} {D : Ends} {σ : L2.St} {H : Hp} (Pv : Nat → L2.St → Hp → Prop) (h0 : Pv 0 σ H) (hq : ∀ i σ H, Pv i σ H → SqT K H a xs)
    (hs : ∀ i x T σ H, xs[i]? = some x → Pv i σ H → H T = none → g (.ref T) σ (upd H T (.tup [.int (i : Nat), x])) fun σ2 H2 => tb { D with nx := Pv (i + 1), ct := Pv (i + 1), bk := D.nx } σ2 H2) (hd : ∀ σ H, Pv xs.length σ H → D.nx σ H) :
    ∃ W : Nat → Nat → L2.St → Hp → Prop, (∃ m, W 0 m σ H) ∧ ∀ i m σ H, W i m σ H →
      ((EnT.IteT K a).stop i H ∧ D.nx σ H) ∨ ((EnT.IteT K a).go i H ∧ ∃ N : L2.St → Hp → Prop, (∀ σ' H', N σ' H' → ∃ m', m' < m ∧ W (i + 1) m' σ' H') ∧ ∀ v H', (EnT.IteT K a).yld i H v H' → g v σ H' fun σ2 H2 => tb { D with nx := N, ct := N, bk := D.nx } σ2 H2) := by
  refine ⟨fun i m σ H => m = xs.length - i ∧ i ≤ xs.length ∧ Pv i σ H, ⟨xs.length, (Nat.sub_zero _).symm, Nat.zero_le _, h0⟩, ?_⟩
  rintro i m σ H ⟨rfl, hi, p⟩
  have qa := hq i σ H p
  by_cases hlt : i < xs.length
  · have e1 : xs[i]? = some (xs[i]'hlt) := List.getElem?_eq_getElem _
    refine .inr ⟨⟨xs, _, qa, e1⟩, Pv (i + 1), fun σ' H' p' => ⟨xs.length - (i + 1), by omega, rfl, hlt, p'⟩, fun v H' hy' => ?_⟩
    obtain ⟨T, x, rfl, nT, rfl, fx⟩ := hy'
    exact hs i x T σ H (fx _ qa) p nT
  · have e : i = xs.length := by omega
    subst e
    exact .inl ⟨⟨xs, qa, rfl⟩, hd σ H p⟩
theorem lc_enumT {K : PySem.W.Frag} {a : Addr} {xs : List V} {g : TG} {tt : TT} {te : TE} {vs : List Nat} {σ : L2.St} {H1 : Hp} {D : Addr} {Qd : Hp → Prop} (Pv : Nat → Hp → Prop) (h0 : Pv 0 (upd H1 D (.lst []))) (hq : ∀ i H, Pv i H → SqT K H a xs)
    (hs : ∀ i x T H, xs[i]? = some x → Pv i H → H T = none → g (.ref T) (wipe σ vs) (upd H T (.tup [.int (i : Nat), x])) fun σ2 H2 => wipe σ2 vs = wipe σ vs ∧ tt σ2 H2 fun c H3 =>
      if c = true then te σ2 H3 fun z H4 => ∃ acc, H4 D = some (.lst acc) ∧ acc.length < sizeLine ∧ Pv (i + 1) (upd H4 D (.lst (acc ++ [z]))) else Pv (i + 1) H3) (hd : ∀ H, Pv xs.length H → Qd H) :
    ∃ W : Nat → Nat → Hp → Prop, (∃ m, W 0 m (upd H1 D (.lst []))) ∧ ∀ i m H, W i m H →
      ((EnT.IteT K a).stop i H ∧ Qd H) ∨ ((EnT.IteT K a).go i H ∧ ∃ Nx : Hp → Prop, (∀ H', Nx H' → ∃ m', m' < m ∧ W (i + 1) m' H') ∧ ∀ v H', (EnT.IteT K a).yld i H v H' → g v (wipe σ vs) H' fun σ2 H2 => wipe σ2 vs = wipe σ vs ∧ tt σ2 H2 fun c H3 =>
        if c = true then te σ2 H3 fun z H4 => ∃ acc, H4 D = some (.lst acc) ∧ acc.length < sizeLine ∧ Nx (upd H4 D (.lst (acc ++ [z]))) else Nx H3) := by
  refine ⟨fun i m H => m = xs.length - i ∧ i ≤ xs.length ∧ Pv i H, ⟨xs.length, (Nat.sub_zero _).symm, Nat.zero_le _, h0⟩, ?_⟩
  rintro i m H ⟨rfl, hi, p⟩
  have qa := hq i H p
  by_cases hlt : i < xs.length
  · have e1 : xs[i]? = some (xs[i]'hlt) := List.getElem?_eq_getElem _
    refine .inr ⟨⟨xs, _, qa, e1⟩, Pv (i + 1), fun H' p' => ⟨xs.length - (i + 1), by omega, rfl, hlt, p'⟩, fun v H' hy' => ?_⟩
    obtain ⟨T, x, rfl, nT, rfl, fx⟩ := hy'
    exact hs i x T H (fx _ qa) p nT
  · have e : i = xs.length := by omega
    subst e
    exact .inl ⟨⟨xs, qa, rfl⟩, hd H p⟩
end ZW

set_option exponentiation.threshold 400
namespace K1
open PySem PySem.Spec PyProof.Rows L2 Evl HM LX TE ZM ZW
theorem at_neg1 {ls : List Int} (h : 1 ≤ ls.length) : atI (ls.map V.int) (-1) = some (V.int (ls.getD (ls.length - 1) 0)) := by
  have hn : ls ≠ [] := fun z => by
    subst z
    exact absurd h (by decide)
  obtain ⟨a, b, rfl⟩ : ∃ a b, ls = a ++ [b] := ⟨ls.dropLast, ls.getLast hn, (List.dropLast_concat_getLast hn).symm⟩
  rw [List.map_append]
  have e : (a ++ [b]).getD ((a ++ [b]).length - 1) 0 = b := by
    rw [List.length_append, List.length_singleton, Nat.add_sub_cancel, List.getD_eq_getElem?_getD, List.getElem?_append_right (Nat.le_refl _), Nat.sub_self]
    rfl
  rw [e]
  exact atI_last _ _
theorem cut_fromI {ns : List Int} {i : Nat} (h : i ≤ ns.length) : cutV (ns.map V.int) (some (i : Int)) none = (ns.drop i).map V.int := by
  unfold cutV
  rw [HT.sIx_nat, HT.sIx_none, List.length_map, Nat.min_eq_left h, List.take_of_length_le (by rw [List.length_drop, List.length_map]; exact Nat.le_refl _), List.map_drop]
theorem flat_rep {α : Type} : ∀ (n : Nat) (x : α), (List.replicate n [x]).flatten = List.replicate n x
  | 0, _ => rfl
  | n + 1, x => by
    rw [List.replicate_succ, List.flatten_cons, flat_rep n x]
    rfl
theorem hv_uni (a b : List Nat) : hv (uni a b) = (List.range (max a.length b.length)).map fun c => V.int (max (hAt a c : Int) (hAt b c : Int)) := by
  unfold hv uni
  rw [List.map_map]
  refine List.map_congr_left fun c _ => ?_
  show V.int ((max (hAt a c) (hAt b c) : Nat) : Int) = _
  congr 1
  omega
theorem all_dec {n : Nat} {p : Nat → Prop} [DecidablePred p] : ((List.range n).map fun i => decide (p i)).all id = decide (∀ i, i < n → p i) := by
  rw [Bool.eq_iff_iff, List.all_eq_true, decide_eq_true_eq]
  constructor
  · intro h i hi
    have := h (decide (p i)) (List.mem_map.mpr ⟨i, List.mem_range.mpr hi, rfl⟩)
    exact of_decide_eq_true this
  · intro h x hx
    obtain ⟨i, hi, rfl⟩ := List.mem_map.mp hx
    exact decide_eq_true (h i (List.mem_range.mp hi))
theorem mapBl (n : Nat) (f : Nat → Bool) : (List.range n).map (fun i => V.bl (f i)) = ((List.range n).map f).map V.bl := by
  rw [List.map_map]
  rfl
section
variable {P : Program} {w : World} {K : PySem.W.Frag} {mg : Str → Option Value} {base : Heap}
def spCheckUpTo (K : PySem.W.Frag) : Sp := fun vs H Q _ => ∃ i hi : Int, vs = [.int i, .int hi] ∧ i ≤ hi ∧ -(10 ^ 60) < i ∧ i < 10 ^ 60 ∧ ∀ H', Ex H H' → Q .non H'
theorem ok_check_up_to (T : Txt K mg) {f : Addr} {fd : FuncData} (D : DefAt K mg "check_up_to" sCheckUpTo ["value", "high"] f fd) : FnOk P w K mg base CX0 4 f fd ["value", "high"] (spCheckUpTo K) := by
  refine D.F.ok scCheckUpTo (fun vs H Q E h => ?_) (fun cdv A outer s₀ H vs Q E hr h => ?_)
  · obtain ⟨i, hi, rfl, _⟩ := h
    rfl
  · obtain ⟨i, hi, rfl, h1, h2, h3, q⟩ := h
    obtain ⟨f1, fd1, D1⟩ := T.d_check_between
    obtain ⟨tBOUND, vBOUND⟩ := T.v_BOUND
    have hr3 : Room 3 _ := hr.mono (by decide)
    refine ⟨_, pss_one (ps_expr (pe_call (ok_check_between T D1) hr3 (by rfl) D1.g D1.F.kp D1.b .nil pass0 (pa_cons (pv 0) (pa_cons (pe_op op_sub pe_int (pe_glob (v := .int (10 ^ 60)) rfl vBOUND ⟨_, rfl⟩)) (pa_cons (pv 1) pa_nil))))), ?_⟩
    exact ⟨_, rfl, _, _, rfl, rfl, _, rfl, i, _, hi, rfl, by omega, h1, h2, h3, q⟩
def spBox : Sp := fun vs H Q _ => ∃ n r : Nat, vs = [.int (n : Int), .int (r : Int)] ∧ 1 ≤ n ∧ n ≤ 60 ∧ 1 ≤ r ∧ r ≤ 60 ∧ ∀ p H', Ex H H' → HeapAt H' p (bxh n r) → Q (.ref p) H'
theorem ok_box (T : Txt K mg) {f : Addr} {fd : FuncData} (D : DefAt K mg "box" sBox ["columns", "rows"] f fd) : FnOk P w K mg base CX0 5 f fd ["columns", "rows"] spBox := by
  refine D.F.ok scBox (fun vs H Q E h => ?_) (fun cdv A outer s₀ H vs Q E hr h => ?_)
  · obtain ⟨n, r, rfl, _⟩ := h
    rfl
  · obtain ⟨n, r, rfl, n1, n2, r1, r2, q⟩ := h
    obtain ⟨f1, fd1, D1⟩ := T.d_check_up_to
    obtain ⟨tMOST_SIDE, vMOST_SIDE⟩ := T.v_SIDE
    have hr4 : Room 4 _ := hr.mono (by decide)
    refine ⟨_, pss_cons (ps_expr (pe_call (ok_check_up_to T D1) hr4 (by rfl) D1.g D1.F.kp D1.b .nil pass0 (pa_cons (pv 0) (pa_cons (pe_glob (v := .int 60) rfl vMOST_SIDE ⟨_, rfl⟩) pa_nil))))
      (pss_cons (ps_expr (pe_call (ok_check_up_to T D1) hr4 (by rfl) D1.g D1.F.kp D1.b .nil pass0 (pa_cons (pv 1) (pa_cons (pe_glob (v := .int 60) rfl vMOST_SIDE ⟨_, rfl⟩) pa_nil))))
      (pss_cons (ps_if (PW.pt (pw_or (pt_cmpR op_lt (pv 0) pe_int (nomark _))
          (pw_or1 (pt_cmpR op_lt (pv 1) pe_int (nomark _))))) (pss_one (ps_ret (pe_tup pa_nil))) pss_nil)
      (pss_one (ps_ret (pe_op RT.op_repE (pe_tup (pa_cons (pv 1) pa_nil)) (pv 0)))))), ?_⟩
    refine ⟨_, rfl, _, _, rfl, by omega, by omega, by omega, fun H1 e1 => ⟨_, rfl, _, _, rfl, by omega, by omega, by omega, fun H2 e2 => ?_⟩⟩
    refine ⟨_, rfl, _, _, rfl, rfl, _, rfl, iteF' (decide_eq_false (by omega)) ⟨_, rfl, _, _, rfl, rfl, _, rfl, iteF' (decide_eq_false (by omega)) ?_⟩⟩
    refine ⟨_, rfl, by show 1 ≤ sizeLine; decide, fun p0 hp0 => ⟨_, rfl, p0, (n : Int), [.int (r : Int)], rfl, rfl, upd_same, (fun z => by cases z), by omega, by omega, by show 1 ≤ 1000; decide, fun p H3 e3 h3 => ?_⟩⟩
    refine q p H3 (((e1.trans e2).trans (Ex.new hp0)).trans e3) ?_
    unfold HeapAt hv bxh
    rw [h3, List.map_replicate, Int.toNat_natCast]
    congr 2
    exact flat_rep n _
def spUnionOf (K : PySem.W.Frag) : Sp := fun vs H Q _ => ∃ p q h f, vs = [.ref p, .ref q] ∧ HeapAt H p h ∧ HeapAt H q f ∧ Good h ∧ Good f ∧ ∀ r H', Ex H H' → HeapAt H' r (uni h f) → Q (.ref r) H'
theorem ok_union_of (T : Txt K mg) {f : Addr} {fd : FuncData} (D : DefAt K mg "union_of" sUnionOf ["one", "other"] f fd) : FnOk P w K mg base CX0 6 f fd ["one", "other"] (spUnionOf K) := by
  refine D.F.ok scUnionOf (fun vs H Q E h => ?_) (fun cdv A outer s₀ H vs Q E hr h => ?_)
  · obtain ⟨p, q, h, f', rfl, _⟩ := h
    rfl
  · obtain ⟨p, q, h, f', rfl, hp1, hq1, G, F, k⟩ := h
    obtain ⟨f1, fd1, D1⟩ := T.d_height_at
    obtain ⟨f2, fd2, D2⟩ := T.d_check_heaps
    have hr1 : Room 1 _ := hr.mono (by decide)
    have hr5 : Room 5 _ := hr.mono (by decide)
    refine ⟨_, pss_cons (ps_expr (pe_call (ok_check_heaps T D2) hr5 (by rfl) D2.g D2.F.kp D2.b .nil pass0 (pa_cons (pv 0) (pa_cons (pv 1) pa_nil))))
      (pss_cons (ps_set (i := 2) scUnionOf.nd rfl (.inl rfl) (pe_callTy cr_range1 (by rfl) T.z_range (by decide +kernel) (pa_cons (pe_callB (call_max2 rfl) (by rfl) T.z_max (by decide +kernel) (pa_cons (pe_callB call_len_seq (by rfl) T.z_len PySem.boot_len (pa_cons (pv 0) pa_nil)) (pa_cons (pe_callB call_len_seq (by rfl) T.z_len PySem.boot_len (pa_cons (pv 1) pa_nil)) pa_nil))) pa_nil)))
      (pss_one (ps_ret (pe_callTy call_tuple_of (by rfl) T.z_tuple (by decide +kernel) (pa_cons (pe_lc (own := [("column", 3)]) (g := gName 3) (tt := tYes) rfl scUnionOf.nd (pi_rngV (pv 2))
        (blkOk_by (N := nUnionOf) (sc := defScope sUnionOf) (by decide +kernel)) (fun _ _ _ _ _ => (pg_name (i := 3) scUnionOf.nd rfl (.inl rfl))) (fun _ _ _ _ _ => pts_nil)
        (fun _ _ _ _ _ => (pe_callB (call_max2 rfl) (by rfl) T.z_max (by decide +kernel) (pa_cons (pe_call (ok_height_at T D1) hr1 (by rfl) D1.g D1.F.kp D1.b .nil pass0 (pa_cons (pv 0) (pa_cons (pv 3) pa_nil))) (pa_cons (pe_call (ok_height_at T D1) hr1 (by rfl) D1.g D1.F.kp D1.b .nil pass0 (pa_cons (pv 1) (pa_cons (pv 3) pa_nil))) pa_nil))))) pa_nil))))), ?_⟩
    refine ⟨_, rfl, _, rfl, p, q, h, f', rfl, hp1, hq1, G, F, fun H1 e1 => ?_⟩
    have hp2 := e1 _ _ hp1
    have hq2 := e1 _ _ hq1
    refine ⟨_, rfl, p, _, rfl, .inr (SqT.of hp2), _, rfl, q, _, rfl, .inr (SqT.of hq2), ?_⟩
    have Gl := G.len
    have Fl := F.len
    refine ⟨_, _, rfl, _, rfl, fun r hr0 => ?_⟩
    rw [hv_len, hv_len, show (if (f'.length : Int) > (h.length : Int) then (f'.length : Int) else (h.length : Int)) = ((max h.length f'.length : Nat) : Int) by split <;> omega]
    have x1 := Ex.new (o := .rng 0 ((max h.length f'.length : Nat) : Int)) hr0
    have hr1 : (upd H1 r (.rng 0 ((max h.length f'.length : Nat) : Int))) r = some (.rng 0 ((max h.length f'.length : Nat) : Int)) := upd_same
    generalize upd H1 r (.rng 0 ((max h.length f'.length : Nat) : Int)) = H2 at x1 hr1 ⊢
    refine ⟨_, rfl, r, 0, _, rfl, hr1, ⟨by decide, by decide, by omega, by omega⟩, fun Dl hD => ?_⟩
    refine lc_rangeM (fun c => V.int (max (hAt h c : Int) (hAt f' c : Int))) hD (by omega) (fun i H' Qk hi e' qk => ?_) (fun H' e' h' => ?_)
    · refine ⟨rfl, _, rfl, _, rfl, p, h, i, by rw [Int.zero_add]; rfl, (x1.trans e') _ _ hp2, fun H3 e3 => ⟨_, rfl, _, rfl, q, f', i, by rw [Int.zero_add]; rfl, ((x1.trans e').trans e3) _ _ hq2, fun H4 e4 => ⟨_, _, rfl, ?_⟩⟩⟩
      rw [show (if (hAt f' i : Int) > (hAt h i : Int) then (hAt f' i : Int) else (hAt h i : Int)) = max (hAt h i : Int) (hAt f' i : Int) by split <;> omega]
      exact qk _ (e3.trans e4)
    · refine ⟨Dl, _, rfl, .inl ⟨SqL.of h', fun y hy => ?_⟩⟩
      refine k y _ (((e1.trans x1).trans e').trans (Ex.new hy)) ?_
      unfold HeapAt
      rw [upd_same, hv_uni]
      congr 3
def spHoldsB (K : PySem.W.Frag) : Sp := fun vs H Q _ => ∃ p q h f, vs = [.ref p, .ref q] ∧ HeapAt H p h ∧ HeapAt H q f ∧ Good h ∧ Good f ∧ ∀ b H', (b = true ↔ ∀ c, hAt f c ≤ hAt h c) → Ex H H' → Q (.bl b) H'
theorem ok_holds (T : Txt K mg) {f : Addr} {fd : FuncData} (D : DefAt K mg "holds" sHolds ["heap", "other"] f fd) : FnOk P w K mg base CX0 2 f fd ["heap", "other"] (spHoldsB K) := by
  refine D.F.ok scHolds (fun vs H Q E h => ?_) (fun cdv A outer s H vs Q E hr h => ?_)
  · obtain ⟨p, q, h, f', rfl, _⟩ := h
    rfl
  · obtain ⟨p, q, h, f', rfl, hp1, hq1, G, F, k⟩ := h
    obtain ⟨f1, fd1, D1⟩ := T.d_height_at
    have hr1 : Room 1 _ := hr.mono (by decide)
    refine ⟨_, pss_one (ps_ret (pe_callB (cr_all rfl) (by rfl) T.z_all (by decide +kernel) (pa_cons (pe_lc (own := [("column", 2), ("height", 3)]) (g := gTup K 2 (gCons (gName 2) (gCons (gName 3) gNil))) (tt := tYes) rfl scHolds.nd (EnT.pi_enumT (by rfl) T.z_enumerate (pa_cons (pv 1) pa_nil))
        (blkOk_by (N := nHolds) (sc := defScope sHolds) (by decide +kernel)) (fun _ _ _ _ _ => (pg_tup (by rfl) (pgs_cons (pg_name (i := 2) scHolds.nd rfl (.inl rfl)) (pgs_cons (pg_name (i := 3) scHolds.nd rfl (.inl rfl)) pgs_nil)))) (fun _ _ _ _ _ => pts_nil)
        (fun _ _ _ _ _ => (pe_cmpR op_ge (pe_call (ok_height_at T D1) hr1 (by rfl) D1.g D1.F.kp D1.b .nil pass0 (pa_cons (pv 0) (pa_cons (pv 2) pa_nil))) (pv 3) (nomark _)))) pa_nil))), ?_⟩
    refine ⟨_, rfl, q, _, rfl, SqT.of hq1, fun Dl hD => ?_⟩
    refine lc_enumT (K := K) (a := q) (xs := hv f') (fun i H' => H' Dl = some (.lst (((List.range i).map fun c => decide (hAt f' c ≤ hAt h c)).map V.bl)) ∧ Ex H H') ⟨upd_same, Ex.new hD⟩ (fun i H' hp2 => SqT.of (hp2.2 _ _ hq1)) (fun i x Tp H' hx hp2 nT => ?_) (fun H' hp2 => ?_)
    · obtain ⟨w1, w2⟩ := hp2
      have hi : i < f'.length := by
        have := (List.getElem?_eq_some_iff.mp hx).1
        rw [hv_len] at this
        exact this
      rw [hv_get hi] at hx
      obtain rfl := Option.some.inj hx
      have eT := Ex.new (o := .tup [.int (i : Nat), .int (hAt f' i : Int)]) nT
      refine ⟨Tp, _, rfl, SqT.of upd_same, rfl, .int (i : Nat), [_], rfl, _, [], rfl, rfl, rfl, ?_⟩
      dsimp only [tYes]
      rw [if_pos rfl]
      refine ⟨_, rfl, _, rfl, p, h, i, rfl, (w2.trans eT) _ _ hp1, fun H3 e3 => ⟨_, rfl, _, _, rfl, rfl, ?_⟩⟩
      have F60 := F.len
      refine ⟨_, e3 _ _ (eT _ _ w1), ?_, ?_, Ex.mut ((w2.trans eT).trans e3) hD⟩
      · rw [List.length_map, List.length_map, List.length_range]
        exact small1000 (by omega)
      · rw [upd_same, List.range_succ, List.map_append, List.map_append]
        show some (HO.lst (_ ++ [V.bl (decide ((hAt h i : Int) ≥ (hAt f' i : Int)))])) = _
        rw [show decide ((hAt h i : Int) ≥ (hAt f' i : Int)) = decide (hAt f' i ≤ hAt h i) from decide_eq_decide.mpr (by omega)]
        rfl
    · refine ⟨Dl, _, rfl, SqL.of hp2.1, ?_⟩
      rw [hv_len, all_dec]
      refine k _ _ ?_ hp2.2
      rw [decide_eq_true_eq]
      constructor
      · intro a c
        by_cases z : c < f'.length
        · exact a c z
        · rw [hAt_ge (by omega)]
          omega
      · exact fun a c _ => a c
theorem ok_is_held (T : Txt K mg) {f : Addr} {fd : FuncData} (D : DefAt K mg "is_held" sIsHeld ["heap", "other"] f fd) : FnOk P w K mg base CX0 6 f fd ["heap", "other"] (spHoldsB K) := by
  refine D.F.ok scIsHeld (fun vs H Q E h => ?_) (fun cdv A outer s H vs Q E hr h => ?_)
  · obtain ⟨p, q, h, f', rfl, _⟩ := h
    rfl
  · obtain ⟨p, q, h, f', rfl, hp1, hq1, G, F, k⟩ := h
    obtain ⟨f1, fd1, D1⟩ := T.d_holds
    obtain ⟨f2, fd2, D2⟩ := T.d_check_heaps
    have hr2 : Room 2 _ := hr.mono (by decide)
    have hr5 : Room 5 _ := hr.mono (by decide)
    refine ⟨_, pss_cons (ps_expr (pe_call (ok_check_heaps T D2) hr5 (by rfl) D2.g D2.F.kp D2.b .nil pass0 (pa_cons (pv 0) (pa_cons (pv 1) pa_nil))))
      (pss_one (ps_ret (pe_call (ok_holds T D1) hr2 (by rfl) D1.g D1.F.kp D1.b .nil pass0 (pa_cons (pv 0) (pa_cons (pv 1) pa_nil))))), ?_⟩
    refine ⟨_, rfl, _, rfl, p, q, h, f', rfl, hp1, hq1, G, F, fun H1 e1 => ⟨_, rfl, _, rfl, p, q, h, f', rfl, e1 _ _ hp1, e1 _ _ hq1, G, F, fun b H2 hb e2 => k b H2 hb (e1.trans e2)⟩⟩
def spRowsAt : Sp := fun vs H Q _ => ∃ (a : Addr) (ls : List Int) (c : Int), vs = [.ref a, .int c] ∧ H a = some (.tup (ls.map V.int)) ∧ ls.length ≤ 60 ∧ ∀ H', Ex H H' → Q (.int (rowsL ls c)) H'
theorem ok_rows_at (T : Txt K mg) {f : Addr} {fd : FuncData} (D : DefAt K mg "rows_at" sRowsAt ["levels", "c"] f fd) : FnOk P w K mg base CX0 1 f fd ["levels", "c"] spRowsAt := by
  refine D.F.ok scRowsAt (fun vs H Q E h => ?_) (fun cdv A outer s₀ H vs Q E hr h => ?_)
  · obtain ⟨a, ls, c, rfl, _⟩ := h
    rfl
  · obtain ⟨a, ls, c, rfl, ha, hl, q⟩ := h
    refine ⟨_, pss_one (ps_ret (pe_callB (cr_sum rfl) (by rfl) T.z_sum (by decide +kernel) (pa_cons (pe_lc (own := [("level", 2)]) (g := gName 2) (tt := tYes) rfl scRowsAt.nd (pi_tup (pv 0))
        (blkOk_by (N := nRowsAt) (sc := defScope sRowsAt) (by decide +kernel)) (fun _ _ _ _ _ => (pg_name (i := 2) scRowsAt.nd rfl (.inl rfl))) (fun _ _ _ _ _ => pts_nil)
        (fun _ _ _ _ _ => (pe_callB (call_max2 rfl) (by rfl) T.z_max (by decide +kernel) (pa_cons pe_int (pa_cons (pe_op op_sub (pe_op op_sub (pe_un un_neg (pv 2)) (pv 1)) pe_int) pa_nil))))) pa_nil))), ?_⟩
    refine ⟨_, rfl, a, rfl, ⟨_, SqT.of ha⟩, fun D hD => ?_⟩
    refine lc_tupM (K := K) (fun i => V.int (max 0 (-(ls.getD i 0) - c - 1))) hD ha (by rw [List.length_map]; omega) (fun i x H' Qk hx e' qk => ?_) (fun H' e' h' => ?_)
    · obtain ⟨hi, rfl⟩ := int_inv hx
      refine ⟨rfl, _, rfl, _, rfl, _, rfl, _, _, rfl, rfl, _, _, rfl, rfl, _, _, rfl, ?_⟩
      rw [imax0]
      exact qk _ (Ex.refl _)
    · rw [List.length_map, mapI] at h'
      refine ⟨D, _, rfl, SqL.of h', ?_⟩
      rw [rowsR]
      exact q _ e'
def spCheckLike : Sp := fun vs H Q _ => ∃ (a : Addr) (ls : List Int), vs = [.ref a, .int (ls.length : Int)] ∧ H a = some (.tup (ls.map V.int)) ∧ 2 ≤ ls.length ∧ ls.length ≤ 60 ∧ Short ls ∧ ls.Pairwise (· ≤ ·) ∧ ∀ H', Ex H H' → Q .non H'
theorem ok_check_like_levels (T : Txt K mg) {f : Addr} {fd : FuncData} (D : DefAt K mg "check_like_levels" sCheckLikeLevels ["levels", "many"] f fd) : FnOk P w K mg base CX0 7 f fd ["levels", "many"] spCheckLike := by
  refine D.F.ok scCheckLikeLevels (fun vs H Q E h => ?_) (fun cdv A outer s₀ H vs Q E hr h => ?_)
  · obtain ⟨a, ls, rfl, _⟩ := h
    rfl
  · obtain ⟨a, ls, rfl, ha, hl2, hl, hs, hasc, q⟩ := h
    obtain ⟨f1, fd1, D1⟩ := T.d_check_levels
    have hr6 : Room 6 _ := hr.mono (by decide)
    refine ⟨_, pss_cons (ps_expr (pe_call (ok_check_levels T D1) hr6 (by rfl) D1.g D1.F.kp D1.b .nil pass0 (pa_cons (pv 0) pa_nil)))
      (pss_one (ps_if (pt_cmpR op_ne (pe_callB call_len_seq (by rfl) T.z_len PySem.boot_len (pa_cons (pv 0) pa_nil)) (pv 1) (nomark _)) pss_never pss_nil)), ?_⟩
    refine ⟨_, rfl, a, ls, rfl, ha, hl2, hl, hs, hasc, fun H1 e1 => ?_⟩
    refine ⟨_, rfl, a, _, rfl, .inr (SqT.of (e1 _ _ ha)), _, rfl, rfl, _, rfl, iteF' (by rw [List.length_map, decide_eq_true rfl]; rfl) ?_⟩
    exact q _ e1
def spAreAbove : Sp := fun vs H Q _ => ∃ (a b : Addr) (one other : List Int), vs = [.ref a, .ref b] ∧ H a = some (.tup (one.map V.int)) ∧ H b = some (.tup (other.map V.int)) ∧ one.length = other.length ∧ one.sum = other.sum ∧ 2 ≤ one.length ∧ one.length ≤ 60 ∧ Short one ∧ Short other ∧ one.Pairwise (· ≤ ·) ∧ other.Pairwise (· ≤ ·) ∧
  ∀ r H', (r = true ↔ ∀ c, tell other c ≤ tell one c) → Ex H H' → Q (.bl r) H'
theorem ok_are_above (T : Txt K mg) {f : Addr} {fd : FuncData} (D : DefAt K mg "are_above" sAreAbove ["one", "other"] f fd) : FnOk P w K mg base CX0 8 f fd ["one", "other"] spAreAbove := by
  refine D.F.ok scAreAbove (fun vs H Q E h => ?_) (fun cdv A outer s₀ H vs Q E hr h => ?_)
  · obtain ⟨a, b, one, other, rfl, _⟩ := h
    rfl
  · obtain ⟨a, b, one, other, rfl, ha, hb, hl, hs, h2, h60, s1, s2, p1, p2, q⟩ := h
    obtain ⟨f1, fd1, D1⟩ := T.d_check_like_levels
    obtain ⟨f2, fd2, D2⟩ := T.d_check_levels
    have hr6 : Room 6 _ := hr.mono (by decide)
    have hr7 : Room 7 _ := hr.mono (by decide)
    refine ⟨_, pss_cons (ps_expr (pe_call (ok_check_levels T D2) hr6 (by rfl) D2.g D2.F.kp D2.b .nil pass0 (pa_cons (pv 0) pa_nil)))
      (pss_cons (ps_expr (pe_call (ok_check_like_levels T D1) hr7 (by rfl) D1.g D1.F.kp D1.b .nil pass0 (pa_cons (pv 1) (pa_cons (pe_callB call_len_seq (by rfl) T.z_len PySem.boot_len (pa_cons (pv 0) pa_nil)) pa_nil))))
      (pss_cons (ps_if (pt_cmpR op_ne (pe_callB (ST.cr_sumT rfl) (by rfl) T.z_sum (by decide +kernel) (pa_cons (pv 0) pa_nil)) (pe_callB (ST.cr_sumT rfl) (by rfl) T.z_sum (by decide +kernel) (pa_cons (pv 1) pa_nil)) (nomark _)) pss_never pss_nil)
      (pss_one (ps_ret (pe_callB (cr_all rfl) (by rfl) T.z_all (by decide +kernel) (pa_cons (pe_lc (own := [("first", 2)]) (g := gName 2) (tt := tYes) rfl scAreAbove.nd (pi_range1 (by rfl) T.z_range (pa_cons (pe_callB call_len_seq (by rfl) T.z_len PySem.boot_len (pa_cons (pv 0) pa_nil)) pa_nil))
        (blkOk_by (N := nAreAbove) (sc := defScope sAreAbove) (by decide +kernel)) (fun _ _ _ _ _ => (pg_name (i := 2) scAreAbove.nd rfl (.inl rfl))) (fun _ _ _ _ _ => pts_nil)
        (fun _ _ _ _ _ => (pe_cmpR op_ge (pe_callB (show CallR _ (.builtin "sum") (ST.rSumT K) from ST.cr_sumT rfl) (by rfl) T.z_sum (by decide +kernel) (pa_cons (pe_slice sl_tupE (pv 0) (po_some (pv 2)) po_none) pa_nil)) (pe_callB (show CallR _ (.builtin "sum") (ST.rSumT K) from ST.cr_sumT rfl) (by rfl) T.z_sum (by decide +kernel) (pa_cons (pe_slice sl_tupE (pv 1) (po_some (pv 2)) po_none) pa_nil)) (nomark _)))) pa_nil)))))), ?_⟩
    refine ⟨_, rfl, a, one, rfl, ha, h2, h60, s1, p1, fun H1 e1 => ?_⟩
    refine ⟨_, rfl, _, rfl, a, _, rfl, .inr (SqT.of (e1 _ _ ha)), b, other, by rw [List.length_map, hl]; rfl, e1 _ _ hb, by omega, by omega, s2, p2, fun H2 e2 => ?_⟩
    have e12 := e1.trans e2
    refine ⟨_, rfl, a, one, rfl, SqT.of (e12 _ _ ha), _, rfl, b, other, rfl, SqT.of (e12 _ _ hb), rfl, _, rfl, iteF' (by rw [hs, decide_eq_true rfl]; rfl) ?_⟩
    refine ⟨_, rfl, a, _, rfl, .inr (SqT.of (e12 _ _ ha)), _, rfl, by omega, by rw [List.length_map]; omega, fun Dl hD => ?_⟩
    refine lc_rangeM (fun i => V.bl (decide ((other.drop i).sum ≤ (one.drop i).sum))) hD (by rw [List.length_map]; omega) (fun i H' Qk hi e' qk => ?_) (fun H' e' h' => ?_)
    · rw [List.length_map] at hi
      rw [show (0 : Int) + (i : Int) = ((i : Nat) : Int) by omega]
      refine ⟨rfl, _, rfl, _, rfl, (i : Int), rfl, a, _, rfl, (e12.trans e') _ _ ha, fun t1 H3 e3 h3 => ?_⟩
      rw [cut_fromI (by omega)] at h3
      refine ⟨t1, one.drop i, rfl, SqT.of h3, _, rfl, _, rfl, (i : Int), rfl, b, _, rfl, ((e12.trans e').trans e3) _ _ hb, fun t2 H4 e4 h4 => ?_⟩
      rw [cut_fromI (by omega)] at h4
      exact ⟨t2, other.drop i, rfl, SqT.of h4, _, _, rfl, rfl, qk _ (e3.trans e4)⟩
    · rw [List.length_map, Int.toNat_natCast, mapBl] at h'
      refine ⟨Dl, _, rfl, SqL.of h', ?_⟩
      rw [all_dec]
      refine q _ _ ?_ (e12.trans e')
      rw [decide_eq_true_eq]
      exact ⟨fun h c => above_tell hl p2 h c, fun h i hi => tell_above hl p1 hi (h _)⟩
def spCoreWith : Sp := fun vs H Q _ => ∃ (a : Addr) (ls : List Int), vs = [.ref a] ∧ H a = some (.tup (ls.map V.int)) ∧ 2 ≤ ls.length ∧ ls.length ≤ 60 ∧ (∀ i, -(10 ^ 9) < ls.getD i 0 ∧ ls.getD i 0 < 10 ^ 9) ∧ ls.Pairwise (· ≤ ·) ∧ distL ls ≤ 12 ∧ ∀ p H', Ex H H' → HeapAt H' p (coreL ls) → Good (coreL ls) → Q (.ref p) H'
theorem ok_core_with_levels (T : Txt K mg) {f : Addr} {fd : FuncData} (D : DefAt K mg "core_with_levels" sCoreWithLevels ["levels"] f fd) : FnOk P w K mg base CX0 7 f fd ["levels"] spCoreWith := by
  refine D.F.ok scCoreWithLevels (fun vs H Q E h => ?_) (fun cdv A outer s₀ H vs Q E hr h => ?_)
  · obtain ⟨a, ls, rfl, _⟩ := h
    rfl
  · obtain ⟨a, ls, rfl, ha, h2, h60, hb, hp, hd, q⟩ := h
    obtain ⟨f1, fd1, D1⟩ := T.d_union_of
    obtain ⟨f2, fd2, D2⟩ := T.d_box
    obtain ⟨f3, fd3, D3⟩ := T.d_rows_at
    obtain ⟨f4, fd4, D4⟩ := T.d_columns_at
    have hr1 : Room 1 _ := hr.mono (by decide)
    have hr5 : Room 5 _ := hr.mono (by decide)
    have hr6 : Room 6 _ := hr.mono (by decide)
    refine ⟨_, pss_cons (ps_set (i := 1) scCoreWithLevels.nd rfl (.inl rfl) (pe_tup pa_nil))
      (pss_cons (ps_for PassesOwn.never rfl (pi_range2 (by rfl) T.z_range (pa_cons (pe_un un_neg (pe_ix ix_tup (pv 0) (pe_un un_neg pe_int) (fun _ _ => rfl))) (pa_cons (pe_op op_sub (pe_un un_neg (pe_ix ix_tup (pv 0) pe_int (fun _ _ => rfl))) pe_int) pa_nil))) (pg_name (i := 2) scCoreWithLevels.nd rfl (.inl rfl))
        (pss_one (ps_set (i := 1) scCoreWithLevels.nd rfl (.inl rfl) (pe_call (ok_union_of T D1) hr6 (by rfl) D1.g D1.F.kp D1.b .nil pass0 (pa_cons (pv 1) (pa_cons (pe_call (ok_box T D2) hr5 (by rfl) D2.g D2.F.kp D2.b .nil pass0 (pa_cons (pe_call (ok_columns_at T D4) hr1 (by rfl) D4.g D4.F.kp D4.b .nil pass0 (pa_cons (pv 0) (pa_cons (pv 2) pa_nil))) (pa_cons (pe_call (ok_rows_at T D3) hr1 (by rfl) D3.g D3.F.kp D3.b .nil pass0 (pa_cons (pv 0) (pa_cons (pv 2) pa_nil))) pa_nil))) pa_nil))))))
      (pss_one (ps_ret (pv 1)))), ?_⟩
    have b0 := hb 0
    have b1 := hb (ls.length - 1)
    have m01 := pw_get hp (Nat.zero_le (ls.length - 1)) (by omega)
    refine ⟨by show 0 ≤ sizeLine; decide, fun t0 ht0 => ?_⟩
    have x0 := Ex.new (o := .tup []) ht0
    have g0 : HeapAt (upd H t0 (.tup [])) t0 [] := upd_same
    refine ⟨_, rfl, _, rfl, a, _, -1, .int (ls.getD (ls.length - 1) 0), rfl, rfl, SqT.of (x0 _ _ ha), at_neg1 (by omega), _, rfl, ?_⟩
    refine ⟨_, rfl, a, _, 0, .int (ls.getD 0 0), rfl, rfl, SqT.of (x0 _ _ ha), atI_nat (j := 0) (int_at (by omega)), _, rfl, _, _, rfl, rfl, _, _, rfl, ⟨by omega, by omega, by omega, by omega⟩, ?_⟩
    refine for_range (lo := -(ls.getD (ls.length - 1) 0)) (n := Int.toNat _) (fun i σ' H' => ∃ (p : Addr) (y2 : Option V), σ' = [some (.ref a), some (.ref p), y2] ∧ HeapAt H' p (coreH ls (-(ls.getD (ls.length - 1) 0)) i) ∧ Ex H H') ⟨t0, none, rfl, g0, x0⟩ (fun i σ' H' hi hW => ?_) (fun σ' H' hW => ?_)
    · obtain ⟨p, y2, rfl, w1, w2⟩ := hW
      have sd := sides (ls := ls) (by omega) (c := -(ls.getD (ls.length - 1) 0) + i) (by omega) (by omega)
      have ra := rows_ge (c := -(ls.getD (ls.length - 1) 0) + i) (get_mem (show 0 < ls.length by omega))
      have ta := tell_ge (c := -(ls.getD (ls.length - 1) 0) + i) (get_mem (show ls.length - 1 < ls.length by omega))
      have gi := good_core (by omega) hp hd i (by omega)
      refine ⟨_, rfl, _, rfl, _, rfl, a, ls, _, rfl, w2 _ _ ha, h60, fun H3 e3 => ⟨_, rfl, _, rfl, a, ls, _, rfl, (w2.trans e3) _ _ ha, h60, fun H4 e4 => ?_⟩⟩
      refine ⟨(tell ls (-(ls.getD (ls.length - 1) 0) + i)).toNat, (rowsL ls (-(ls.getD (ls.length - 1) 0) + i)).toNat, ?_, by omega, by omega, by omega, by omega, fun p2 H5 e5 h5 => ?_⟩
      · rw [Int.toNat_of_nonneg (by omega), Int.toNat_of_nonneg (by omega)]
        rfl
      · have e35 := (e3.trans e4).trans e5
        exact ⟨p, p2, _, _, rfl, e35 _ _ w1, h5, gi, good_bxh (by omega) (by omega) (by omega), fun r H6 e6 h6 => ⟨r, _, rfl, h6, (w2.trans e35).trans e6⟩⟩
    · obtain ⟨p, y2, rfl, w1, w2⟩ := hW
      have e : (-(ls.getD 0 0) - 1 - -(ls.getD (ls.length - 1) 0)).toNat = (-(ls.getD 0 0) - 1 + ls.getD (ls.length - 1) 0).toNat := by congr 1; omega
      rw [e] at w1
      refine ⟨_, rfl, q p _ w2 w1 ?_⟩
      unfold coreL
      by_cases z : 0 ≤ -(ls.getD 0 0) - 1 + ls.getD (ls.length - 1) 0
      · exact good_core (by omega) hp hd _ (by omega)
      · rw [show (-(ls.getD 0 0) - 1 + ls.getD (ls.length - 1) 0).toNat = 0 by omega]
        exact ⟨IsHeap.nil, Nat.zero_le _, Nat.zero_le _⟩
theorem ok_core_of_levels (T : Txt K mg) {f : Addr} {fd : FuncData} (D : DefAt K mg "core_of_levels" sCoreOfLevels ["levels"] f fd) : FnOk P w K mg base CX0 8 f fd ["levels"] spCoreWith := by
  refine D.F.ok scCoreOfLevels (fun vs H Q E h => ?_) (fun cdv A outer s₀ H vs Q E hr h => ?_)
  · obtain ⟨a, ls, rfl, _⟩ := h
    rfl
  · obtain ⟨a, ls, rfl, ha, h2, h60, hb, hp, hd, q⟩ := h
    obtain ⟨f1, fd1, D1⟩ := T.d_core_with_levels
    obtain ⟨f2, fd2, D2⟩ := T.d_distance_in
    obtain ⟨f3, fd3, D3⟩ := T.d_check_levels
    obtain ⟨tMOST_DISTANCE, vMOST_DISTANCE⟩ := T.v_MOST_DISTANCE
    have hr1 : Room 1 _ := hr.mono (by decide)
    have hr6 : Room 6 _ := hr.mono (by decide)
    have hr7 : Room 7 _ := hr.mono (by decide)
    refine ⟨_, pss_cons (ps_expr (pe_call (ok_check_levels T D3) hr6 (by rfl) D3.g D3.F.kp D3.b .nil pass0 (pa_cons (pv 0) pa_nil)))
      (pss_cons (ps_if (pt_cmpR op_gt (pe_call (ok_distance_in T D2) hr1 (by rfl) D2.g D2.F.kp D2.b .nil pass0 (pa_cons (pv 0) pa_nil)) (pe_glob (v := .int 12) rfl vMOST_DISTANCE ⟨_, rfl⟩) (nomark _)) pss_never pss_nil)
      (pss_one (ps_ret (pe_call (ok_core_with_levels T D1) hr7 (by rfl) D1.g D1.F.kp D1.b .nil pass0 (pa_cons (pv 0) pa_nil))))), ?_⟩
    have hs : Short ls := fun i => by have := hb i; constructor <;> omega
    refine ⟨_, rfl, a, ls, rfl, ha, h2, h60, hs, hp, fun H1 e1 => ?_⟩
    refine ⟨_, rfl, a, ls, rfl, e1 _ _ ha, h2, h60, hs, hp, fun H2 e2 => ⟨_, _, rfl, rfl, _, rfl, iteF' (decide_eq_false (by omega)) ?_⟩⟩
    exact ⟨_, rfl, a, ls, rfl, (e1.trans e2) _ _ ha, h2, h60, hb, hp, hd, fun p H3 e3 h3 g3 => q p H3 ((e1.trans e2).trans e3) h3 g3⟩
end
end K1

set_option exponentiation.threshold 400
namespace K1
open PySem PySem.Spec PyProof.Rows L2 Evl HM LX ZW
section
variable {P : Program} {w : World} {K : PySem.W.Frag} {mg : Str → Option Value} {base : Heap}
theorem dp_ints {K : PySem.W.Frag} {H : Hp} : ∀ ns : List Int, DpAll K H (ns.map V.int) (ns.map PyData.int)
  | [] => .nil
  | n :: r => .cons (.int n) (dp_ints r)
theorem can_ints : ∀ l : List Int, PyData.canLayAll0 (l.map PyData.int) = true
  | [] => rfl
  | b :: r => by simp [PyData.canLayAll0, PyData.canLay0, can_ints r]
theorem shaped_intsL (ns : List Int) : SeqAt.shaped (.list (ns.map PyData.int)) = true := by
  induction ns with
  | nil => rfl
  | cons b r ih => exact ih
theorem eqv_intsL (ns : List Int) : PyData.eqv (.list (ns.map PyData.int)) (.list (ns.map PyData.int)) = true := SeqAt.eqv_refl _ (by simp [PyData.canLay0, can_ints ns])
theorem eqv_nil : PyData.eqv (.list []) (.list []) = true := eqv_intsL []
theorem eqv_consnil (d : PyData) (ds : List PyData) : PyData.eqv (.list (d :: ds)) (.list []) = false := by simp [PyData.eqv, PyData.eqvAll]
theorem erase_perm {ls : List Int} {i : Nat} {y : Int} (h : ls[i]? = some y) : ls.Perm (y :: ls.eraseIdx i) := by
  induction ls generalizing i with
  | nil => simp at h
  | cons x r ih =>
    cases i with
    | zero =>
      obtain rfl := Option.some.inj h
      exact .refl _
    | succ i =>
      have := ih (i := i) h
      exact (List.Perm.cons x this).trans (List.Perm.swap y x _)
theorem map_erase {α β : Type} (g : α → β) : ∀ (ls : List α) (i : Nat), (ls.eraseIdx i).map g = (ls.map g).eraseIdx i
  | [], _ => rfl
  | _ :: _, 0 => rfl
  | x :: r, i + 1 => congrArg (g x :: ·) (map_erase g r i)
def spMixed : Sp := fun vs H Q _ => ∃ (d a : Addr) (ns : List Int), vs = [.ref d, .ref a] ∧ Dice H d ∧ H a = some (.lst (ns.map V.int)) ∧ ns.length ≤ 1000 ∧
  ∀ (p : Addr) (ms : List Int) H', ms.Perm ns → H' p = some (.lst (ms.map V.int)) → Dice H' d → Keep d H H' → Q (.ref p) H'
theorem ok_mixed (T : Txt K mg) {f : Addr} {fd : FuncData} (D : DefAt K mg "_law_mixed" sLMixed ["_law_dice_here", "_law_items"] f fd) : FnOk P w K mg base CX0 2 f fd ["_law_dice_here", "_law_items"] spMixed := by
  refine D.F.ok scLMixed (fun vs H Q E h => ?_) (fun cdv A outer s₀ H vs Q E hr h => ?_)
  · obtain ⟨d, a, ns, rfl, _⟩ := h
    rfl
  · obtain ⟨d, a, ns, rfl, hd, ha, hl, q⟩ := h
    obtain ⟨f1, fd1, D1⟩ := T.d_l_roll
    refine ⟨_, pss_cons (ps_par (i := 2) (j := 3) (by rfl) scLMixed.nd rfl rfl (by decide) rfl rfl (pa_cons (pe_callTy call_list_of (by rfl) T.z_list (by decide +kernel) (pa_cons (pv 1) pa_nil)) (pa_cons (pe_lst pa_nil) pa_nil)) (by rfl))
      (pss_cons (ps_while PassesOwn.never (pt_cmpR (op_neD hr.units) (pv 2) (pe_lst pa_nil) (nomark _))
        (pss_one (ps_expr (pe_bm PySem.F.plainAttrs_list PySem.F.slot_list_append PySem.F.type_list_append mt_append (pv 3) (pa_cons
          (pe_bm PySem.F.plainAttrs_list PySem.F.slot_list_pop PySem.F.type_list_pop mt_popAt (pv 2) (pa_cons (pe_call (ok_roll T D1) hr (by rfl) D1.g D1.F.kp D1.b .nil pass0 (pa_cons (pv 0) (pa_cons (pe_callB call_len_seq (by rfl) T.z_len PySem.boot_len (pa_cons (pv 2) pa_nil)) pa_nil))) pa_nil)) pa_nil)))))
      (pss_one (ps_ret (pv 3)))), ?_⟩
    refine ⟨_, rfl, a, _, rfl, .inl (SqL.of ha), fun l hl0 => ⟨by show 0 ≤ sizeLine; decide, fun g hg0 => ⟨_, _, rfl, ?_⟩⟩⟩
    have ndl : d ≠ l := hd.ne_new hl0
    have hd1 : Dice (upd H l (.lst (ns.map V.int))) d := hd.upd ndl
    have ndg : d ≠ g := hd1.ne_new hg0
    have nlg : l ≠ g := fun z => by
      subst z
      rw [upd_same] at hg0
      cases hg0
    have ng0 : H g = none := by
      rw [upd_ne nlg.symm] at hg0
      exact hg0
    refine ⟨fun m σ' H' => ∃ ls ms : List Int, m = ls.length ∧ σ' = [some (.ref d), some (.ref a), some (.ref l), some (.ref g)] ∧ H' l = some (.lst (ls.map V.int)) ∧ H' g = some (.lst (ms.map V.int)) ∧ (ms ++ ls).Perm ns ∧ Dice H' d ∧ Keep d H H',
      ⟨ns.length, ns, [], rfl, rfl, ?_, upd_same, .refl _, (hd.upd ndl).upd ndg, (Keep.new hl0).mut ng0⟩, fun m σ' H' hW => ?_⟩
    · rw [upd_ne nlg]
      exact upd_same
    · obtain ⟨ls, ms, rfl, rfl, w1, w2, w3, w4, w5⟩ := hW
      refine ⟨_, rfl, by show 0 ≤ sizeLine; decide, fun e he => ⟨.list _, .list [], .lst (SqL.of (Ex.new he _ _ w1)) (dp_ints ls), .lst (SqL.of upd_same) .nil, shaped_intsL _, rfl, _, rfl, ?_⟩⟩
      have v1 := Ex.new (o := .lst []) he _ _ w1
      have v2 := Ex.new (o := .lst []) he _ _ w2
      have v4 := w4.upd (o := .lst []) (w4.ne_new he)
      have v5 := w5.trans (Keep.new (o := .lst []) he)
      generalize upd H' e (.lst []) = H2 at *
      cases ls with
      | nil =>
        rw [show PyData.eqv (.list (([] : List Int).map PyData.int)) (.list []) = true from eqv_nil]
        refine iteF ?_
        refine ⟨_, rfl, ?_⟩
        rw [List.append_nil] at w3
        exact q g ms H2 w3 v2 v4 v5
      | cons y0 ls0 =>
        rw [show PyData.eqv (.list ((y0 :: ls0).map PyData.int)) (.list []) = false from eqv_consnil _ _]
        refine iteT ?_
        generalize hls : y0 :: ls0 = ls at *
        have hpos : 1 ≤ ls.length := by
          rw [← hls, List.length_cons]
          omega
        have hlen := w3.length_eq
        rw [List.length_append] at hlen
        refine ⟨fun σ2 H3 => ∃ ls' ms' : List Int, ls'.length < ls.length ∧ σ2 = [some (.ref d), some (.ref a), some (.ref l), some (.ref g)] ∧ H3 l = some (.lst (ls'.map V.int)) ∧ H3 g = some (.lst (ms'.map V.int)) ∧ (ms' ++ ls').Perm ns ∧ Dice H3 d ∧ Keep d H H3, fun σ2 H3 hN => ?_, ?_⟩
        · obtain ⟨ls', ms', h1, h2⟩ := hN
          exact ⟨ls'.length, h1, ls', ms', rfl, h2⟩
        · refine ⟨_, rfl, .inl ⟨rfl, _, SqL.of v2⟩, _, rfl, .inl ⟨rfl, _, SqL.of v1⟩, _, rfl, _, rfl, l, _, rfl, .inl (SqL.of v1), d, _, rfl, v4, ?_, ?_, fun r H3 r0 r1 hd3 k3 => ?_⟩
          · rw [List.length_map]
            omega
          · rw [List.length_map]
            omega
          · rw [List.length_map] at r1
            have hy : ls[r.toNat]? = some (ls[r.toNat]'(by omega)) := List.getElem?_eq_getElem _
            have u1 := k3 _ _ ndl.symm v1
            have u2 := k3 _ _ ndg.symm v2
            refine ⟨l, _, r, r.toNat, .int (ls[r.toNat]'(by omega)), rfl, rfl, u1, by omega, by omega, ?_, ?_, ?_⟩
            · rw [List.length_map]
              exact seqIndex_of r0 r1
            · rw [List.getElem?_map, hy]
              rfl
            · refine ⟨g, ms.map V.int, _, rfl, rfl, ?_, ?_, ls.eraseIdx r.toNat, ms ++ [ls[r.toNat]'(by omega)], ?_, rfl, ?_, ?_, ?_, ?_, ?_⟩
              · rw [upd_ne nlg.symm]
                exact u2
              · rw [List.length_map]
                exact small1000 (by omega)
              · rw [List.length_eraseIdx_of_lt (by omega)]
                omega
              · rw [upd_ne nlg, upd_same, map_erase]
              · rw [upd_same, List.map_append]
                rfl
              · refine List.Perm.trans ?_ w3
                rw [List.append_assoc]
                exact List.Perm.append_left ms (erase_perm hy).symm
              · exact (hd3.upd ndl).upd ndg
              · exact ((v5.trans k3).mut hl0).mut ng0
end
end K1

/-! own rules: max and min of a tuple of ints -/
namespace MT
open PySem PySem.Spec PyProof.Rows L2
section
variable {prog : Program} {w : World} {A : Around} {E : Value → Shared → Prop} {s : Shared} {l : Addr}
theorem max_tup {xs : Array (Int × Tok)} {Q : Value → Shared → Prop} (hh : A.handled = none) (hl : s.heap.IsTuple l (intItems xs)) (hne : 0 < xs.size)
    (h : ∀ v h' tk, (intItems xs)[argBest (fun i j => decide (numAt xs i > numAt xs j)) (xs.size - 1)]? = some v → (∀ b o, s.heap.get? b = some o → h'.get? b = some o) → Q v { s with heap := h', toks := tk }) :
    wpAny (model prog w) A (call (.builtin "max") [.ref l]) Q E s := by
  have hlt : l < s.heap.objs.size := by
    obtain ⟨_, e, _⟩ := hl
    exact Heap.lt_size e
  refine call_max_walk (wpAny_pyIter_tuple hl ?_)
  refine ⟨_, _, _, _, _, _, _, rfl, Walks.tuple (A := A.in1) hh s.heap.objs.size l (Nat.ne_of_lt hlt) (intItems xs), ⟨⟨_, Heap.get?_push_size _ rfl, rfl, rfl⟩, hl.push _⟩, fun b hb => ?_, by simpa [intItems] using hne, CmpOf.ints_gt (numAt xs) (fun _ _ => intItems_at), fun v h' tk hP hk => ?_⟩
  · show b < (s.heap.push _).objs.size
    rw [Heap.size_push]
    rcases List.mem_cons.mp hb with rfl | hb
    · exact Nat.lt_succ_self _
    · rcases List.mem_cons.mp hb with rfl | hb
      · exact Nat.lt_succ_of_lt hlt
      · cases hb
  · exact h v h' tk (by simpa [intItems] using hP) fun b o e => by
      refine hk b o (fun hm => ?_) (Heap.get?_push_of_some _ e)
      rcases List.mem_cons.mp hm with e1 | hm
      · exact absurd (e1 ▸ Heap.lt_size e) (Nat.lt_irrefl _)
      · cases hm
theorem min_tup {xs : Array (Int × Tok)} {Q : Value → Shared → Prop} (hh : A.handled = none) (hl : s.heap.IsTuple l (intItems xs)) (hne : 0 < xs.size)
    (h : ∀ v h' tk, (intItems xs)[argBest (fun i j => decide (numAt xs i < numAt xs j)) (xs.size - 1)]? = some v → (∀ b o, s.heap.get? b = some o → h'.get? b = some o) → Q v { s with heap := h', toks := tk }) :
    wpAny (model prog w) A (call (.builtin "min") [.ref l]) Q E s := by
  have hlt : l < s.heap.objs.size := by
    obtain ⟨_, e, _⟩ := hl
    exact Heap.lt_size e
  refine call_min_walk (wpAny_pyIter_tuple hl ?_)
  refine ⟨_, _, _, _, _, _, _, rfl, Walks.tuple (A := A.in1) hh s.heap.objs.size l (Nat.ne_of_lt hlt) (intItems xs), ⟨⟨_, Heap.get?_push_size _ rfl, rfl, rfl⟩, hl.push _⟩, fun b hb => ?_, by simpa [intItems] using hne, CmpOf.ints_lt (numAt xs) (fun _ _ => intItems_at), fun v h' tk hP hk => ?_⟩
  · show b < (s.heap.push _).objs.size
    rw [Heap.size_push]
    rcases List.mem_cons.mp hb with rfl | hb
    · exact Nat.lt_succ_self _
    · rcases List.mem_cons.mp hb with rfl | hb
      · exact Nat.lt_succ_of_lt hlt
      · cases hb
  · exact h v h' tk (by simpa [intItems] using hP) fun b o e => by
      refine hk b o (fun hm => ?_) (Heap.get?_push_of_some _ e)
      rcases List.mem_cons.mp hm with e1 | hm
      · exact absurd (e1 ▸ Heap.lt_size e) (Nat.lt_irrefl _)
      · cases hm
theorem max_tupR {its : List Value} {ns : List Int} {Q : Value → Shared → Prop} (hh : A.handled = none) (hl : s.heap.IsTuple l its.toArray) (hi : IntsAre its ns) (hne : 0 < ns.length)
    (h : ∀ h' tk M t', (∀ b o, s.heap.get? b = some o → h'.get? b = some o) → M ∈ ns → (∀ a, a ∈ ns → a ≤ M) → Q (.int M t') { s with heap := h', toks := tk }) : wpAny (model prog w) A (call (.builtin "max") [.ref l]) Q E s := by
  obtain ⟨xs, e⟩ := hi.allInts.items
  have hn : numsOf (intItems xs).toList = ns := by rw [← e]; exact hi.numsOf
  rw [nums_intItems] at hn
  subst hn
  rw [e] at hl
  have hsz : 0 < xs.size := by simpa using hne
  refine max_tup hh hl hsz fun v h' tk hv hk => ?_
  obtain ⟨t, rfl⟩ := intItems_at hv
  obtain ⟨h1, h2⟩ := argBest_gt (numAt xs) (xs.size - 1)
  refine h h' tk _ t hk ?_ fun a ha => ?_
  · rw [numAt_eq]; exact PySem.getD_mem (by rw [List.length_map, Array.length_toList]; omega)
  · obtain ⟨j, hj, rfl⟩ := mem_getD ha
    rw [List.length_map, Array.length_toList] at hj
    rw [← numAt_eq]; exact h2 j (by omega)
theorem min_tupR {its : List Value} {ns : List Int} {Q : Value → Shared → Prop} (hh : A.handled = none) (hl : s.heap.IsTuple l its.toArray) (hi : IntsAre its ns) (hne : 0 < ns.length)
    (h : ∀ h' tk M t', (∀ b o, s.heap.get? b = some o → h'.get? b = some o) → M ∈ ns → (∀ a, a ∈ ns → M ≤ a) → Q (.int M t') { s with heap := h', toks := tk }) : wpAny (model prog w) A (call (.builtin "min") [.ref l]) Q E s := by
  obtain ⟨xs, e⟩ := hi.allInts.items
  have hn : numsOf (intItems xs).toList = ns := by rw [← e]; exact hi.numsOf
  rw [nums_intItems] at hn
  subst hn
  rw [e] at hl
  have hsz : 0 < xs.size := by simpa using hne
  refine min_tup hh hl hsz fun v h' tk hv hk => ?_
  obtain ⟨t, rfl⟩ := intItems_at hv
  obtain ⟨h1, h2⟩ := argBest_lt (numAt xs) (xs.size - 1)
  refine h h' tk _ t hk ?_ fun a ha => ?_
  · rw [numAt_eq]; exact PySem.getD_mem (by rw [List.length_map, Array.length_toList]; omega)
  · obtain ⟨j, hj, rfl⟩ := mem_getD ha
    rw [List.length_map, Array.length_toList] at hj
    rw [← numAt_eq]; exact h2 j (by omega)
end
section
variable {X : Cx}
def rMaxT (K : PySem.W.Frag) : List V → Hp → VK → Prop := fun vs H Q => ∃ (a : Addr) (ns : List Int), vs = [V.ref a] ∧ SqT K H a (ns.map V.int) ∧ 0 < ns.length ∧ ∀ m, m ∈ ns → (∀ y, y ∈ ns → y ≤ m) → Q (.int m) H
def rMinT (K : PySem.W.Frag) : List V → Hp → VK → Prop := fun vs H Q => ∃ (a : Addr) (ns : List Int), vs = [V.ref a] ∧ SqT K H a (ns.map V.int) ∧ 0 < ns.length ∧ ∀ m, m ∈ ns → (∀ y, y ∈ ns → m ≤ y) → Q (.int m) H
theorem cr_maxT (hc : X.calm = true) : CallR X (.builtin "max") (rMaxT X.K) := by
  intro pins s σ H vs us Q I r h
  obtain ⟨a, ns, rfl, hs, hne, q⟩ := h
  obtain ⟨its, rv, hl, _⟩ := I.tuple hs
  rw [Vals.ref1 r]
  exact max_tupR (I.ok.hd hc) hl rv.ints hne fun h' tk m t' hk h1 h2 => ⟨.int _, H, I.kept hk, ⟨_, rfl⟩, q m h1 h2⟩
theorem cr_minT (hc : X.calm = true) : CallR X (.builtin "min") (rMinT X.K) := by
  intro pins s σ H vs us Q I r h
  obtain ⟨a, ns, rfl, hs, hne, q⟩ := h
  obtain ⟨its, rv, hl, _⟩ := I.tuple hs
  rw [Vals.ref1 r]
  exact min_tupR (I.ok.hd hc) hl rv.ints hne fun h' tk m t' hk h1 h2 => ⟨.int _, H, I.kept hk, ⟨_, rfl⟩, q m h1 h2⟩
end
end MT

set_option exponentiation.threshold 400
namespace K1
open PySem PySem.Spec PyProof.Rows L2 Evl HM LX TE ZW
theorem dist_small {ls : List Int} (s : ls.Pairwise (· ≤ ·)) (h : ls.getD (ls.length - 1) 0 ≤ ls.getD 0 0 + 1) : distL ls ≤ 0 := by
  unfold distL
  have := sum_le (f := fun late => ((List.range late).map fun early => max 0 (ls.getD late 0 - ls.getD early 0 - 1)).sum) (g := fun _ => (0 : Int)) (l := List.range ls.length) fun late hl => by
    have hl' := List.mem_range.mp hl
    have := sum_le (f := fun early => max 0 (ls.getD late 0 - ls.getD early 0 - 1)) (g := fun _ => (0 : Int)) (l := List.range late) fun early he => by
      have he' := List.mem_range.mp he
      have p1 := pw_get s (show late ≤ ls.length - 1 by omega) (by omega)
      have p2 := pw_get s (Nat.zero_le early) (by omega)
      show max 0 (ls.getD late 0 - ls.getD early 0 - 1) ≤ 0
      omega
    rw [sum_zero] at this
    exact this
  rw [sum_zero] at this
  exact this
def sqs (ls : List Int) : Int := (ls.map fun e => e * e).sum
theorem sqs_app (a b : List Int) : sqs (a ++ b) = sqs a + sqs b := by
  unfold sqs
  rw [List.map_append, List.sum_append]
theorem sqs_one (x : Int) : sqs [x] = x * x := by
  show x * x + 0 = _
  omega
theorem sqs_nn (ls : List Int) : 0 ≤ sqs ls := by
  have := sum_le (f := fun _ => (0 : Int)) (g := fun e : Int => e * e) (l := ls) fun x _ => by
    show 0 ≤ x * x
    rcases Int.le_total 0 x with h | h
    · exact Int.mul_nonneg h h
    · exact Int.mul_nonneg_of_nonpos_of_nonpos h h
  rw [sum_zero] at this
  exact this
theorem sqs_perm {a b : List Int} (p : a.Perm b) : sqs a = sqs b := sum_perm (p.map _)
theorem sq_dec {x y : Int} (h0 : 0 ≤ x) (h : x + 2 ≤ y) (h3 : y ≤ 3) : (x + 1) * (x + 1) + (y - 1) * (y - 1) < x * x + y * y := by
  have hx : x = 0 ∨ x = 1 := by omega
  have hy : y = 2 ∨ y = 3 := by omega
  rcases hx with rfl | rfl <;> rcases hy with rfl | rfl <;> first | decide | omega
theorem ends_list {ls : List Int} (h : 2 ≤ ls.length) : ∃ x m y, ls = x :: (m ++ [y]) := by
  match ls, h with
  | x :: y :: r, _ => exact ⟨x, (y :: r).dropLast, (y :: r).getLast (by simp), by rw [List.dropLast_concat_getLast]⟩
theorem cut_mid1 (x y : V) (m : List V) : cutV (x :: (m ++ [y])) (some 1) (some (-1)) = m := by
  unfold cutV
  have e1 : HT.sIx (x :: (m ++ [y])).length 0 (some 1) = 1 := by
    rw [show (1 : Int) = ((1 : Nat) : Int) from rfl, HT.sIx_nat, List.length_cons, List.length_append]
    show min 1 (m.length + 1 + 1) = 1
    omega
  have e2 : HT.sIx (x :: (m ++ [y])).length (x :: (m ++ [y])).length (some (-1)) = m.length + 1 := by
    show (if (-1 : Int) < 0 then ((-1 : Int) + ((x :: (m ++ [y])).length : Int)).toNat else min (-1 : Int).toNat (x :: (m ++ [y])).length) = _
    rw [if_pos (by decide), List.length_cons, List.length_append]
    show ((-1 : Int) + ((m.length + 1 + 1 : Nat) : Int)).toNat = _
    omega
  rw [e1, e2]
  show ((m ++ [y]).take (m.length + 1 - 1)) = m
  rw [Nat.add_sub_cancel, List.take_left']
  rfl
theorem cut_takeI {ns : List Int} {i : Nat} (h : i ≤ ns.length) : cutV (ns.map V.int) none (some (i : Int)) = (ns.take i).map V.int := by
  unfold cutV
  rw [HT.sIx_nat, HT.sIx_none, List.length_map, Nat.min_eq_left h, List.drop_zero, Nat.sub_zero, List.map_take]
theorem take_getD1 {ls : List Int} {i j : Nat} (h : j < i) : (ls.take i).getD j 0 = ls.getD j 0 := by
  rw [List.getD_eq_getElem?_getD, List.getD_eq_getElem?_getD, List.getElem?_take, if_pos h]
theorem sum_set {ls : List Int} {f : Int → Int} {x : Int} : ∀ {i : Nat}, i < ls.length → ((ls.set i x).map f).sum = (ls.map f).sum - f (ls.getD i 0) + f x := by
  induction ls with
  | nil =>
    intro i h
    exact absurd h (Nat.not_lt_zero _)
  | cons a r ih =>
    intro i h
    cases i with
    | zero =>
      show f x + (r.map f).sum = f a + (r.map f).sum - f a + f x
      omega
    | succ i =>
      have := ih (i := i) (by simpa using h)
      show f a + ((r.set i x).map f).sum = f a + (r.map f).sum - f (r.getD i 0) + f x
      omega
theorem sum_set0 {ls : List Int} {x : Int} {i : Nat} (h : i < ls.length) : (ls.set i x).sum = ls.sum - ls.getD i 0 + x := by
  have := sum_set (f := fun e => e) (x := x) h
  rw [List.map_id', List.map_id'] at this
  exact this
theorem getD_set1 {ls : List Int} {i j : Nat} {x : Int} (hi : i < ls.length) : (ls.set i x).getD j 0 = if j = i then x else ls.getD j 0 := by
  rw [List.getD_eq_getElem?_getD, List.getD_eq_getElem?_getD, List.getElem?_set]
  by_cases c : i = j
  · subst c
    rw [if_pos rfl, if_pos hi, if_pos rfl]
    rfl
  · rw [if_neg c, if_neg (fun z => c z.symm)]
section
variable {P : Program} {w : World} {K : PySem.W.Frag} {mg : Str → Option Value} {base : Heap}
def spLDist : Sp := fun vs H Q _ => ∃ (a : Addr) (ls : List Int), vs = [.ref a] ∧ H a = some (.lst (ls.map V.int)) ∧ ls.length ≤ 60 ∧ ∀ H', Ex H H' → Q (.int (distL ls)) H'
theorem ok_ldistance (T : Txt K mg) {f : Addr} {fd : FuncData} (D : DefAt K mg "_law_distance" sLDistance ["_law_levels"] f fd) : FnOk P w K mg base CX0 1 f fd ["_law_levels"] spLDist := by
  refine D.F.ok scLDistance (fun vs H Q E h => ?_) (fun cdv A outer s₀ H vs Q E hr h => ?_)
  · obtain ⟨a, ls, rfl, _⟩ := h
    rfl
  · obtain ⟨a, ls, rfl, ha, hl, q⟩ := h
    refine ⟨_, pss_cons (ps_set (i := 1) scLDistance.nd rfl (.inl rfl) pe_int)
      (pss_cons (ps_for PassesOwn.never rfl (pi_range1 (by rfl) T.z_range (pa_cons (pe_callB call_len_seq (by rfl) T.z_len PySem.boot_len (pa_cons (pv 0) pa_nil)) pa_nil)) (pg_name (i := 2) scLDistance.nd rfl (.inr rfl))
        (pss_one (ps_set (i := 1) scLDistance.nd rfl (.inl rfl) (pe_op op_add (pv 1) (pe_callB (cr_sum rfl) (by rfl) T.z_sum (by decide +kernel) (pa_cons (pe_lc (own := [("_law_one", 3)]) (g := gName 3) (tt := tYes) rfl scLDistance.nd (pi_list (pe_slice sl_list (pv 0) po_none (po_some (pv 2))))
        (blkOk_by (N := nLDistance) (sc := defScope sLDistance) (by decide +kernel)) (fun _ _ _ _ _ => (pg_name (i := 3) scLDistance.nd rfl (.inl rfl))) (fun _ _ _ _ _ => pts_nil)
        (fun _ _ _ _ _ => (pe_callB (call_max2 rfl) (by rfl) T.z_max (by decide +kernel) (pa_cons pe_int (pa_cons (pe_op op_sub (pe_op op_sub (pe_ix (show IxR _ (rIxL K) from ix_list) (pv 0) (pv 2) (fun _ _ => rfl)) (pv 3)) pe_int) pa_nil))))) pa_nil))))))
      (pss_one (ps_ret (pv 1)))), ?_⟩
    refine ⟨_, rfl, a, _, rfl, .inl (SqL.of ha), _, rfl, by omega, by rw [List.length_map]; omega, ?_⟩
    rw [List.length_map]
    refine for_range (lo := 0) (n := Int.toNat _) (fun i σ' H' => ∃ y2 y3 : Option V, σ' = [some (.ref a), some (.int (((List.range i).map fun late => (drow ls late).sum).sum)), y2, y3] ∧ Ex H H') ⟨none, none, rfl, Ex.refl _⟩ (fun i σ' H' hi hW => ?_) (fun σ' H' hW => ?_)
    · obtain ⟨y2, y3, rfl, w2⟩ := hW
      rw [Int.toNat_natCast] at hi
      rw [show (0 : Int) + (i : Int) = ((i : Nat) : Int) by omega]
      refine ⟨_, rfl, _, rfl, _, rfl, (i : Int), rfl, a, _, rfl, SqL.of (w2 _ _ ha), fun t1 ht1 => ?_⟩
      rw [cut_takeI (by omega)]
      have x1 := Ex.new (o := .lst ((ls.take i).map V.int)) ht1
      have g1 : (upd H' t1 (.lst ((ls.take i).map V.int))) t1 = some (.lst ((ls.take i).map V.int)) := upd_same
      generalize upd H' t1 (.lst ((ls.take i).map V.int)) = H2 at x1 g1 ⊢
      have tl : (ls.take i).length = i := by
        rw [List.length_take]
        omega
      refine ⟨t1, rfl, ⟨_, SqL.of g1⟩, fun Dl hD => ?_⟩
      refine lc_listM (K := K) (fun j => V.int (max 0 (ls.getD i 0 - ls.getD j 0 - 1))) hD g1 (by rw [List.length_map, tl]; omega) (fun j x H3 Qk hx e' qk => ?_) (fun H3 e' h' => ?_)
      · obtain ⟨hj, rfl⟩ := int_inv hx
        rw [tl] at hj
        rw [take_getD1 hj]
        refine ⟨rfl, _, rfl, _, rfl, a, _, (i : Int), .int (ls.getD i 0), rfl, rfl, SqL.of (((w2.trans x1).trans e') _ _ ha), atI_nat (int_at (by omega)), _, rfl, _, _, rfl, rfl, _, _, rfl, rfl, _, _, rfl, ?_⟩
        rw [imax0]
        exact qk _ (Ex.refl _)
      · rw [List.length_map, tl, mapI] at h'
        refine ⟨Dl, _, rfl, SqL.of h', _, _, rfl, rfl, some (.int (i : Int)), y3, ?_, (w2.trans x1).trans e'⟩
        have e : ((List.range (i + 1)).map fun late => (drow ls late).sum).sum = ((List.range i).map fun late => (drow ls late).sum).sum + (drow ls i).sum := by
          rw [List.range_succ, List.map_append, List.sum_append]
          show _ + ((drow ls i).sum + 0) = _
          omega
        rw [e]
        rfl
    · obtain ⟨y2, y3, rfl, w2⟩ := hW
      rw [Int.toNat_natCast]
      exact ⟨_, rfl, q _ w2⟩
def spDrawn : Sp := fun vs H Q _ => ∃ (d : Addr) (k : Nat), vs = [.ref d, .int (k : Int)] ∧ Dice H d ∧ 2 ≤ k ∧ k ≤ 10 ∧ ∀ (p : Addr) (ls : List Int) H', H' p = some (.lst (ls.map V.int)) → p ≠ d → ls.length = k → ls.Pairwise (· ≤ ·) → (∀ e ∈ ls, 0 ≤ e ∧ e ≤ 3) → Dice H' d → Keep d H H' → Q (.ref p) H'
theorem ok_drawn (T : Txt K mg) {f : Addr} {fd : FuncData} (D : DefAt K mg "_law_drawn_levels" sLDrawnLevels ["_law_dice_here", "_law_k"] f fd) : FnOk P w K mg base CX0 3 f fd ["_law_dice_here", "_law_k"] spDrawn := by
  refine D.F.ok scLDrawnLevels (fun vs H Q E h => ?_) (fun cdv A outer s₀ H vs Q E hr h => ?_)
  · obtain ⟨d, k, rfl, _⟩ := h
    rfl
  · obtain ⟨d, k, rfl, hd, k2, k10, q⟩ := h
    obtain ⟨f1, fd1, D1⟩ := T.d_l_distance
    obtain ⟨f2, fd2, D2⟩ := T.d_l_one_of
    have hr1 : Room 1 _ := hr.mono (by decide)
    have hr2 : Room 2 _ := hr.mono (by decide)
    refine ⟨_, pss_cons (ps_set (i := 2) scLDrawnLevels.nd rfl (.inl rfl) (pe_callB (cr_sortedI) (by rfl) T.z_sorted (by decide +kernel) (pa_cons (pe_lc (own := [("_law_turn", 3)]) (g := gName 3) (tt := tYes) rfl scLDrawnLevels.nd (pi_range1 (by rfl) T.z_range (pa_cons (pv 1) pa_nil))
        (blkOk_by (N := nLDrawnLevels) (sc := defScope sLDrawnLevels) (by decide +kernel)) (fun _ _ _ _ _ => (pg_name (i := 3) scLDrawnLevels.nd rfl (.inl rfl))) (fun _ _ _ _ _ => pts_nil)
        (fun _ _ _ _ _ => (pe_call (ok_one_of T D2) hr2 (by rfl) D2.g D2.F.kp D2.b .nil pass0 (pa_cons (pv 0) (pa_cons (pe_lst (pa_cons pe_int (pa_cons pe_int (pa_cons pe_int (pa_cons pe_int (pa_cons pe_int (pa_cons pe_int pa_nil))))))) pa_nil))))) pa_nil)))
      (pss_cons (ps_while PassesOwn.never (pt_cmpR op_gt (pe_call (ok_ldistance T D1) hr1 (by rfl) D1.g D1.F.kp D1.b .nil pass0 (pa_cons (pv 2) pa_nil)) pe_int (nomark _)) (pss_one (ps_set (i := 2) scLDrawnLevels.nd rfl (.inl rfl) (pe_callB (cr_sortedI) (by rfl) T.z_sorted (by decide +kernel) (pa_cons (pe_op op_cat (pe_op op_cat (pe_lst (pa_cons (pe_op op_add (pe_callB (cr_min rfl) (by rfl) T.z_min (by decide +kernel) (pa_cons (pv 2) pa_nil)) pe_int) pa_nil)) (pe_slice sl_list (pv 2) (po_some pe_int) (po_some (pe_un un_neg pe_int)))) (pe_lst (pa_cons (pe_op op_sub (pe_ix ix_list (pv 2) (pe_un un_neg pe_int) (fun _ _ => rfl)) pe_int) pa_nil))) pa_nil)))))
      (pss_one (ps_ret (pv 2)))), ?_⟩
    refine ⟨_, rfl, _, rfl, by omega, by omega, fun Dl hD => ?_⟩
    have ndl : d ≠ Dl := hd.ne_new hD
    refine lc_range (lo := 0) (n := Int.toNat _) (fun i H' => ∃ ns : List Int, H' Dl = some (.lst (ns.map V.int)) ∧ ns.length = i ∧ (∀ e ∈ ns, 0 ≤ e ∧ e ≤ 3) ∧ Dice H' d ∧ Keep d H H') ⟨[], upd_same, rfl, fun e he => absurd he (by simp), hd.upd ndl, Keep.new hD⟩ (fun i H' hi hp => ?_) (fun H' hp => ?_)
    · obtain ⟨ns, w1, w2, w3, w4, w5⟩ := hp
      rw [Int.toNat_natCast] at hi
      refine ⟨rfl, ?_⟩
      dsimp only [tYes]
      rw [if_pos rfl]
      refine ⟨_, rfl, by show 6 ≤ sizeLine; decide, fun la hla => ?_⟩
      have eL := Ex.new (o := .lst [V.int 0, V.int 0, V.int 1, V.int 1, V.int 2, V.int 3]) hla
      refine ⟨d, la, _, rfl, w4.ex eL, upd_same, (w4.ne_new hla).symm, by decide, by decide, fun mo H2 hmo hd2 k2' => ?_⟩
      have hm : ∃ e : Int, mo = .int e ∧ 0 ≤ e ∧ e ≤ 3 := by
        simp only [List.mem_cons, List.not_mem_nil, or_false] at hmo
        rcases hmo with h | h | h | h | h | h
        · exact ⟨0, h, by decide, by decide⟩
        · exact ⟨0, h, by decide, by decide⟩
        · exact ⟨1, h, by decide, by decide⟩
        · exact ⟨1, h, by decide, by decide⟩
        · exact ⟨2, h, by decide, by decide⟩
        · exact ⟨3, h, by decide, by decide⟩
      obtain ⟨e, rfl, m1, m2⟩ := hm
      refine ⟨_, k2' _ _ ndl.symm (eL _ _ w1), by rw [List.length_map]; exact small1000 (by omega), ns ++ [e], ?_, ?_, fun x hx => ?_, hd2.upd ndl, ((w5.trans (Keep.ex eL)).trans k2').mut hD⟩
      · rw [upd_same, List.map_append]
        rfl
      · rw [List.length_append, w2]
        rfl
      · rcases List.mem_append.mp hx with hx | hx
        · exact w3 x hx
        · rw [List.mem_singleton.mp hx]
          exact ⟨m1, m2⟩
    · obtain ⟨ns, w1, w2, w3, w4, w5⟩ := hp
      rw [Int.toNat_natCast] at w2
      refine ⟨Dl, ns, rfl, SqL.of w1, fun ls p0 perm asc hp0 => ?_⟩
      have nd0 : d ≠ p0 := w4.ne_new hp0
      refine ⟨fun m σ' H2 => ∃ (p : Addr) (ls : List Int) (y3 : Option V), m = (sqs ls).toNat ∧ σ' = [some (.ref d), some (.int (k : Int)), some (.ref p), y3] ∧ H2 p = some (.lst (ls.map V.int)) ∧ p ≠ d ∧ ls.length = k ∧ ls.Pairwise (· ≤ ·) ∧ (∀ e ∈ ls, 0 ≤ e ∧ e ≤ 3) ∧ Dice H2 d ∧ Keep d H H2, ⟨_, p0, ls, none, rfl, rfl, upd_same, nd0.symm, by rw [perm.length_eq, w2], asc, fun e he => w3 e (perm.mem_iff.mp he), w4.upd nd0, w5.trans (Keep.new hp0)⟩, fun m σ' H2 hW => ?_⟩
      obtain ⟨p, ls, y3, rfl, rfl, v1, v2, v3, v4, v5, v6, v7⟩ := hW
      refine ⟨_, rfl, p, ls, rfl, v1, by omega, fun H3 e3 => ⟨_, _, rfl, rfl, _, rfl, ite2 (fun c => ?_) (fun c => ?_)⟩⟩
      · have c2 : distL ls > 12 := of_decide_eq_true c
        obtain ⟨x, m, y, rfl⟩ := ends_list (ls := ls) (by omega)
        have far : x + 2 ≤ y := by
          by_cases z : x + 2 ≤ y
          · exact z
          · exfalso
            have := dist_small v4 (by
              have e1 : (x :: (m ++ [y])).getD ((x :: (m ++ [y])).length - 1) 0 = y := by
                rw [show x :: (m ++ [y]) = (x :: m) ++ [y] from rfl, List.length_append, List.length_singleton, Nat.add_sub_cancel, List.getD_eq_getElem?_getD, List.getElem?_append_right (Nat.le_refl _), Nat.sub_self]
                rfl
              rw [e1]
              show y ≤ x + 1
              omega)
            omega
        have bx := v5 x (List.mem_cons_self ..)
        have by_ := v5 y (List.mem_cons_of_mem _ (List.mem_append_right _ (List.mem_singleton.mpr rfl)))
        have u1 := e3 _ _ v1
        have ml : m.length + 2 = k := by
          rw [← v3, List.length_cons, List.length_append, List.length_singleton]
        refine ⟨fun σ2 H4 => ∃ (p' : Addr) (ls' : List Int) (y3 : Option V), (sqs ls').toNat < (sqs (x :: (m ++ [y]))).toNat ∧ σ2 = [some (.ref d), some (.int (k : Int)), some (.ref p'), y3] ∧ H4 p' = some (.lst (ls'.map V.int)) ∧ p' ≠ d ∧ ls'.length = k ∧ ls'.Pairwise (· ≤ ·) ∧ (∀ e ∈ ls', 0 ≤ e ∧ e ≤ 3) ∧ Dice H4 d ∧ Keep d H H4, fun σ2 H4 hN => ?_, ?_⟩
        · obtain ⟨p', ls', y3', h1, h2⟩ := hN
          exact ⟨_, h1, p', ls', y3', rfl, h2⟩
        refine ⟨_, rfl, p, _, rfl, SqL.of u1, by rw [v3]; omega, fun mi hmi hmin => ?_⟩
        have mx : mi = x := by
          have a1 := hmin x (List.mem_cons_self ..)
          rcases List.mem_cons.mp hmi with h | h
          · exact h
          · have := (List.pairwise_cons.mp v4).1 mi h
            omega
        subst mx
        refine ⟨_, _, rfl, rfl, by show 1 ≤ sizeLine; decide, fun l1 hl1 => ?_⟩
        have x1 := Ex.new (o := .lst [V.int (mi + 1)]) hl1
        refine ⟨_, rfl, 1, rfl, _, rfl, -1, rfl, p, _, rfl, SqL.of (x1 _ _ u1), fun l2 hl2 => ?_⟩
        have x2 := Ex.new (o := .lst (cutV ((mi :: (m ++ [y])).map V.int) (some 1) (some (-1)))) hl2
        have cm : cutV ((mi :: (m ++ [y])).map V.int) (some 1) (some (-1)) = m.map V.int := by
          rw [List.map_cons, List.map_append]
          exact cut_mid1 _ _ _
        refine ⟨l1, l2, [V.int (mi + 1)], m.map V.int, rfl, rfl, x2 _ _ upd_same, by rw [upd_same, cm], by rw [List.length_map, List.length_singleton]; exact Nat.le_of_lt (small1000 (by omega)), fun l3 hl3 => ?_⟩
        have x3 := Ex.new (o := .lst ([V.int (mi + 1)] ++ m.map V.int)) hl3
        have x123 := (x1.trans x2).trans x3
        refine ⟨_, rfl, _, rfl, p, _, -1, .int y, rfl, rfl, SqL.of (x123 _ _ u1), by rw [show (mi :: (m ++ [y])).map V.int = ((mi :: m).map V.int) ++ [V.int y] by rw [show mi :: (m ++ [y]) = (mi :: m) ++ [y] from rfl, List.map_append]; rfl]; exact atI_last _ _, _, _, rfl, rfl, by show 1 ≤ sizeLine; decide, fun l4 hl4 => ?_⟩
        have x4 := Ex.new (o := .lst [V.int (y - 1)]) hl4
        refine ⟨l3, l4, [V.int (mi + 1)] ++ m.map V.int, [V.int (y - 1)], rfl, rfl, x4 _ _ upd_same, upd_same, by rw [List.length_append, List.length_map, List.length_singleton, List.length_singleton]; exact Nat.le_of_lt (small1000 (by omega)), fun l5 hl5 => ?_⟩
        have x5 := Ex.new (o := .lst ([V.int (mi + 1)] ++ m.map V.int ++ [V.int (y - 1)])) hl5
        refine ⟨l5, [mi + 1] ++ m ++ [y - 1], rfl, SqL.of (by rw [upd_same, List.map_append, List.map_append]; rfl), fun ls' p' perm asc hp' => ?_⟩
        have x6 := Ex.new (o := .lst (ls'.map V.int)) hp'
        have xx := ((((e3.trans x123).trans x4).trans x5).trans x6)
        have hdx := (v6.ex (((e3.trans x123).trans x4).trans x5))
        have nd' : d ≠ p' := hdx.ne_new hp'
        have pl := perm.length_eq
        rw [List.length_append, List.length_append, List.length_singleton, List.length_singleton] at pl
        refine ⟨p', ls', y3, ?_, rfl, upd_same, nd'.symm, by omega, asc, fun e he => ?_, hdx.upd nd', v7.trans (Keep.ex xx)⟩
        · rw [sqs_perm perm, sqs_app, sqs_app, sqs_one, sqs_one, show mi :: (m ++ [y]) = [mi] ++ m ++ [y] from rfl, sqs_app, sqs_app, sqs_one, sqs_one]
          have := sq_dec bx.1 far by_.2
          have := sqs_nn m
          have n1 := sqs_nn [mi + 1]
          have n2 := sqs_nn [y - 1]
          rw [sqs_one] at n1 n2
          omega
        · have he2 := perm.mem_iff.mp he
          rcases List.mem_append.mp he2 with h | h
          · rcases List.mem_append.mp h with h | h
            · rw [List.mem_singleton.mp h]
              omega
            · exact v5 e (List.mem_cons_of_mem _ (List.mem_append_left _ h))
          · rw [List.mem_singleton.mp h]
            omega
      · exact ⟨_, rfl, q p ls H3 (e3 _ _ v1) v2 v3 v4 v5 (v6.ex e3) (v7.trans (Keep.ex e3))⟩
end
end K1

set_option exponentiation.threshold 400
namespace K1
open PySem PySem.Spec PyProof.Rows L2 Evl HM LX TE ZW
theorem ixN_at {n B : Nat} (h : B < n) : ixN n (B : Int) = some B := by
  unfold ixN
  rw [if_pos (by omega), if_pos (by omega), Int.toNat_natCast]
theorem tell_set {ls : List Int} {x c : Int} {i : Nat} (h : i < ls.length) : tell (ls.set i x) c = tell ls c - max 0 (ls.getD i 0 + c + 1) + max 0 (x + c + 1) := sum_set (f := fun l => max 0 (l + c + 1)) h
theorem perm_range {n : Nat} {ms : List Int} (h : ms.Perm ((List.range n).map fun (i : Nat) => (i : Int))) (hn : 2 ≤ n) : ∃ (u v : Nat) (r : List Int), ms = (u : Int) :: (v : Int) :: r ∧ u ≠ v ∧ u < n ∧ v < n := by
  have hl := h.length_eq
  rw [List.length_map, List.length_range] at hl
  match ms, hl with
  | x :: y :: r, _ =>
    have nd : (x :: y :: r).Nodup := h.nodup_iff.mpr (List.pairwise_map.mpr (List.nodup_range.imp fun {a b} q e => q (by omega)))
    have hx := h.mem_iff.mp (List.mem_cons_self (a := x) (l := y :: r))
    have hy := h.mem_iff.mp (List.mem_cons_of_mem x (List.mem_cons_self (a := y) (l := r)))
    obtain ⟨u, hu, rfl⟩ := List.mem_map.mp hx
    obtain ⟨v, hv, rfl⟩ := List.mem_map.mp hy
    refine ⟨u, v, r, rfl, fun e => ?_, List.mem_range.mp hu, List.mem_range.mp hv⟩
    subst e
    exact (List.nodup_cons.mp nd).1 (List.mem_cons_self ..)
  | [], q => exact absurd (show (0 : Nat) = n from q) (by omega)
  | [x], q => exact absurd (show (1 : Nat) = n from q) (by omega)
theorem two_sorted {u v : Nat} {zs : List Int} (p : zs.Perm [(u : Int), (v : Int)]) (a : zs.Pairwise (· ≤ ·)) (n : u ≠ v) : ∃ i j : Nat, zs = [(i : Int), (j : Int)] ∧ i < j ∧ ((i = u ∧ j = v) ∨ (i = v ∧ j = u)) := by
  have hl := p.length_eq
  match zs, hl with
  | [x, y], _ =>
    have o : x ≤ y := (List.pairwise_cons.mp a).1 y (List.mem_singleton.mpr rfl)
    have hx := p.mem_iff.mp (List.mem_cons_self (a := x) (l := [y]))
    have hy := p.mem_iff.mp (List.mem_cons_of_mem x (List.mem_singleton.mpr (rfl : y = y)))
    have nd : [x, y].Nodup := p.nodup_iff.mpr (by
      rw [List.nodup_cons]
      refine ⟨fun z => ?_, List.nodup_cons.mpr ⟨fun z => absurd z (by simp), List.nodup_nil⟩⟩
      have := List.mem_singleton.mp z
      omega)
    have nxy : x ≠ y := fun e => (List.nodup_cons.mp nd).1 (by rw [e]; exact List.mem_singleton.mpr rfl)
    simp only [List.mem_cons, List.not_mem_nil, or_false] at hx hy
    rcases hx with rfl | rfl <;> rcases hy with rfl | rfl
    · exact absurd rfl nxy
    · exact ⟨u, v, rfl, by omega, .inl ⟨rfl, rfl⟩⟩
    · exact ⟨v, u, rfl, by omega, .inr ⟨rfl, rfl⟩⟩
    · exact absurd rfl nxy
section
variable {P : Program} {w : World} {K : PySem.W.Frag} {mg : Str → Option Value} {base : Heap}
def spOfSum : Sp := fun vs H Q _ => ∃ (d a : Addr) (ls : List Int) (tot : Int), vs = [.ref d, .ref a, .int tot] ∧ Dice H d ∧ H a = some (.lst (ls.map V.int)) ∧ 2 ≤ ls.length ∧ ls.length ≤ 10 ∧ (∀ e ∈ ls, 0 ≤ e ∧ e ≤ 3) ∧ (ls.sum - tot).natAbs ≤ 30 ∧
  ∀ (p : Addr) (fs : List Int) H', H' p = some (.lst (fs.map V.int)) → p ≠ d → fs.length = ls.length → fs.Pairwise (· ≤ ·) → fs.sum = tot → (∀ e ∈ fs, -40 ≤ e ∧ e ≤ 40) → Dice H' d → Keep d H H' → Q (.ref p) H'
theorem ok_of_sum (T : Txt K mg) {f : Addr} {fd : FuncData} (D : DefAt K mg "_law_of_sum" sLOfSum ["_law_dice_here", "_law_levels", "_law_total"] f fd) : FnOk P w K mg base CX0 2 f fd ["_law_dice_here", "_law_levels", "_law_total"] spOfSum := by
  refine D.F.ok scLOfSum (fun vs H Q E h => ?_) (fun cdv A outer s₀ H vs Q E hr h => ?_)
  · obtain ⟨d, a, ls, tot, rfl, _⟩ := h
    rfl
  · obtain ⟨d, a, ls, tot, rfl, hd, ha, l2, l10, hb, hs, q⟩ := h
    obtain ⟨f1, fd1, D1⟩ := T.d_l_roll
    have hr1 : Room 1 _ := hr.mono (by decide)
    refine ⟨_, pss_cons (ps_set (i := 3) scLOfSum.nd rfl (.inl rfl) (pe_callTy call_list_of (by rfl) T.z_list (by decide +kernel) (pa_cons (pv 1) pa_nil)))
      (pss_cons (ps_while PassesOwn.never (pt_cmpR op_ne (pe_callB (cr_sum rfl) (by rfl) T.z_sum (by decide +kernel) (pa_cons (pv 3) pa_nil)) (pv 2) (nomark _)) (pss_cons (ps_set (i := 4) scLOfSum.nd rfl (.inl rfl) (pe_call (ok_roll T D1) hr1 (by rfl) D1.g D1.F.kp D1.b .nil pass0 (pa_cons (pv 0) (pa_cons (pe_callB call_len_seq (by rfl) T.z_len PySem.boot_len (pa_cons (pv 3) pa_nil)) pa_nil))))
      (pss_one (ps_asg (pe_op op_add (pe_ix ix_list (pv 3) (pv 4) (fun _ _ => rfl)) (pe_ifExp (pt_cmpR op_lt (pe_callB (cr_sum rfl) (by rfl) T.z_sum (by decide +kernel) (pa_cons (pv 3) pa_nil)) (pv 2) (nomark _)) pe_int (pe_un un_neg pe_int))) (pg_sub (pv 3) (pv 4) set_list)))))
      (pss_one (ps_ret (pe_callB (cr_sortedI) (by rfl) T.z_sorted (by decide +kernel) (pa_cons (pv 3) pa_nil))))), ?_⟩
    refine ⟨_, rfl, a, _, rfl, .inl (SqL.of ha), fun l hl0 => ?_⟩
    have ndl : d ≠ l := hd.ne_new hl0
    refine ⟨fun m σ' H2 => ∃ (ns : List Int) (y4 : Option V), m = (ns.sum - tot).natAbs ∧ σ' = [some (.ref d), some (.ref a), some (.int tot), some (.ref l), y4] ∧ H2 l = some (.lst (ns.map V.int)) ∧ ns.length = ls.length ∧ (∀ e ∈ ns, (e.natAbs : Int) + (ns.sum - tot).natAbs ≤ 40) ∧ Dice H2 d ∧ Keep d H H2, ⟨_, ls, none, rfl, rfl, upd_same, rfl, fun e he => by have := hb e he; omega, hd.upd ndl, Keep.new hl0⟩, fun m σ' H2 hW => ?_⟩
    obtain ⟨ns, y4, rfl, rfl, v1, v2, v3, v4, v5⟩ := hW
    refine ⟨_, rfl, l, ns, rfl, SqL.of v1, _, rfl, rfl, _, rfl, ite2 (fun c => ?_) (fun c => ?_)⟩
    · have c2 : ¬ ns.sum = tot := fun z => by
        rw [decide_eq_true (congrArg V.int z)] at c
        exact absurd c (by decide)
      refine ⟨fun σ2 H4 => ∃ (ns' : List Int) (y4 : Option V), (ns'.sum - tot).natAbs < (ns.sum - tot).natAbs ∧ σ2 = [some (.ref d), some (.ref a), some (.int tot), some (.ref l), y4] ∧ H4 l = some (.lst (ns'.map V.int)) ∧ ns'.length = ls.length ∧ (∀ e ∈ ns', (e.natAbs : Int) + (ns'.sum - tot).natAbs ≤ 40) ∧ Dice H4 d ∧ Keep d H H4, fun σ2 H4 hN => ?_, ?_⟩
      · obtain ⟨ns', y4', h1, h2⟩ := hN
        exact ⟨_, h1, ns', y4', rfl, h2⟩
      refine ⟨_, rfl, _, rfl, l, _, rfl, .inl (SqL.of v1), d, _, rfl, v4, by rw [List.length_map]; omega, by rw [List.length_map]; omega, fun r H3 r0 r1 hd3 k3 => ?_⟩
      rw [List.length_map] at r1
      obtain ⟨j, rfl⟩ : ∃ j : Nat, r = (j : Int) := ⟨r.toNat, by omega⟩
      have hj : j < ns.length := by omega
      have u1 := k3 _ _ ndl.symm v1
      have fin : ∀ (x : Int) (xx : V), xx = .int (ns.getD j 0 + x) → ((ns.sum < tot ∧ x = 1) ∨ (tot < ns.sum ∧ x = -1)) → ∃ (ns' : List Int) (y4 : Option V), (ns'.sum - tot).natAbs < (ns.sum - tot).natAbs ∧ [some (.ref d), some (.ref a), some (.int tot), some (.ref l), some (.int (j : Int))] = [some (.ref d), some (.ref a), some (.int tot), some (.ref l), y4] ∧ (upd H3 l (.lst ((ns.map V.int).set j xx))) l = some (.lst (ns'.map V.int)) ∧ ns'.length = ls.length ∧ (∀ e ∈ ns', (e.natAbs : Int) + (ns'.sum - tot).natAbs ≤ 40) ∧ Dice (upd H3 l (.lst ((ns.map V.int).set j xx))) d ∧ Keep d H (upd H3 l (.lst ((ns.map V.int).set j xx))) := fun x xx ex hx => by
        subst ex
        have ss := sum_set0 (x := ns.getD j 0 + x) hj
        have mj := v3 _ (get_mem hj)
        refine ⟨ns.set j (ns.getD j 0 + x), some (.int (j : Int)), by omega, rfl, by rw [upd_same, List.map_set], by rw [List.length_set]; exact v2, fun e he => ?_, hd3.upd ndl, (v5.trans k3).mut hl0⟩
        obtain ⟨i, hi, rfl⟩ := mem_get he
        rw [List.length_set] at hi
        rw [getD_set1 hj]
        split
        · omega
        · have := v3 _ (get_mem hi)
          omega
      refine ⟨_, rfl, _, rfl, l, _, (j : Int), .int (ns.getD j 0), rfl, rfl, SqL.of u1, atI_nat (int_at hj), ?_⟩
      refine ⟨_, rfl, l, ns, rfl, SqL.of u1, _, rfl, _, _, rfl, rfl, _, rfl, ite2 (fun cc => ?_) (fun cc => ?_)⟩
      · have c3 : ns.sum < tot := of_decide_eq_true cc
        exact ⟨_, _, rfl, rfl, _, rfl, _, rfl, l, _, (j : Int), j, rfl, rfl, u1, ixN_at (by rw [List.length_map]; exact hj), fin 1 _ rfl (.inl ⟨c3, rfl⟩)⟩
      · have c3 : ¬ ns.sum < tot := fun z => cc (decide_eq_true z)
        exact ⟨_, rfl, _, _, rfl, rfl, _, rfl, _, rfl, l, _, (j : Int), j, rfl, rfl, u1, ixN_at (by rw [List.length_map]; exact hj), fin (-1) _ rfl (.inr ⟨by omega, rfl⟩)⟩
    · have c2 : ns.sum = tot := by
        by_cases z : ns.sum = tot
        · exact z
        · exfalso
          apply c
          rw [decide_eq_false (fun y => z (V.int.inj y))]
          rfl
      refine ⟨_, rfl, l, ns, rfl, SqL.of v1, fun fs p perm asc hp => ?_⟩
      have ndp := v4.ne_new hp
      refine q p fs _ upd_same ndp.symm (by rw [perm.length_eq, v2]) asc (by rw [sum_perm perm, c2]) (fun e he => ?_) (v4.upd ndp) (v5.trans (Keep.new hp))
      have := v3 e (perm.mem_iff.mp he)
      omega
def spApart : Sp := fun vs H Q _ => ∃ (d a : Addr) (ls : List Int), vs = [.ref d, .ref a] ∧ Dice H d ∧ H a = some (.lst (ls.map V.int)) ∧ a ≠ d ∧ 2 ≤ ls.length ∧ ls.length ≤ 10 ∧ ls.Pairwise (· ≤ ·) ∧ (∀ e ∈ ls, 0 ≤ e ∧ e ≤ 3) ∧
  ∀ (p : Addr) (fs : List Int) H', H' p = some (.lst (fs.map V.int)) → p ≠ d → fs.length = ls.length → fs.Pairwise (· ≤ ·) → fs.sum = ls.sum → (∀ e ∈ fs, -1 ≤ e ∧ e ≤ 4) → (∀ c, tell ls c ≤ tell fs c) → Dice H' d → Keep d H H' → Q (.ref p) H'
theorem ok_apart (T : Txt K mg) {f : Addr} {fd : FuncData} (D : DefAt K mg "_law_apart" sLApart ["_law_dice_here", "_law_levels"] f fd) : FnOk P w K mg base CX0 3 f fd ["_law_dice_here", "_law_levels"] spApart := by
  refine D.F.ok scLApart (fun vs H Q E h => ?_) (fun cdv A outer s₀ H vs Q E hr h => ?_)
  · obtain ⟨d, a, ls, rfl, _⟩ := h
    rfl
  · obtain ⟨d, a, ls, rfl, hd, ha, nad, lt2, l10, hp, hb, q⟩ := h
    obtain ⟨f1, fd1, D1⟩ := T.d_l_mixed
    have hr2 : Room 2 _ := hr.mono (by decide)
    refine ⟨_, pss_cons (ps_asg (pe_callB (cr_sortedI) (by rfl) T.z_sorted (by decide +kernel) (pa_cons (pe_slice sl_list (pe_call (ok_mixed T D1) hr2 (by rfl) D1.g D1.F.kp D1.b .nil pass0 (pa_cons (pv 0) (pa_cons (pe_listRg rfl (by rfl) T.z_list (prg_1 (by rfl) T.z_range (pe_callB call_len_seq (by rfl) T.z_len PySem.boot_len (pa_cons (pv 1) pa_nil)))) pa_nil))) po_none (po_some pe_int)) pa_nil)) (pg_lst (by rfl) (pgs_cons (pg_name (i := 2) scLApart.nd rfl (.inl rfl)) (pgs_cons (pg_name (i := 3) scLApart.nd rfl (.inl rfl)) pgs_nil))))
      (pss_cons (ps_set (i := 4) scLApart.nd rfl (.inl rfl) (pe_callTy call_list_of (by rfl) T.z_list (by decide +kernel) (pa_cons (pv 1) pa_nil)))
      (pss_cons (ps_asg (pe_tup (pa_cons (pe_op op_sub (pe_ix ix_list (pv 4) (pv 2) (fun _ _ => rfl)) pe_int) (pa_cons (pe_op op_add (pe_ix ix_list (pv 4) (pv 3) (fun _ _ => rfl)) pe_int) pa_nil))) (pg_tup (by rfl) (pgs_cons (pg_sub (pv 4) (pv 2) set_list) (pgs_cons (pg_sub (pv 4) (pv 3) set_list) pgs_nil))))
      (pss_one (ps_ret (pe_callB (cr_sortedI) (by rfl) T.z_sorted (by decide +kernel) (pa_cons (pv 4) pa_nil)))))), ?_⟩
    refine ⟨_, rfl, _, rfl, a, _, rfl, .inl (SqL.of ha), _, rfl, by rw [List.length_map]; exact RgOk.of_le (by omega) (by omega) (by omega) (by omega), fun l1 hl1 => ?_⟩
    have er : rgV 0 ((ls.map V.int).length : Int) = (((List.range ls.length).map fun (i : Nat) => (i : Int)).map V.int) := by
      unfold rgV
      rw [List.length_map, Int.sub_zero, Int.toNat_natCast, List.map_map]
      refine List.map_congr_left fun i _ => ?_
      show V.int (0 + (i : Int)) = V.int (i : Int)
      rw [Int.zero_add]
    rw [er]
    have x1 := Ex.new (o := .lst (((List.range ls.length).map fun (i : Nat) => (i : Int)).map V.int)) hl1
    refine ⟨d, l1, (List.range ls.length).map fun (i : Nat) => (i : Int), rfl, hd.ex x1, upd_same, by rw [List.length_map, List.length_range]; omega, fun l2 ms H2 perm hl2 hd2 k2 => ?_⟩
    obtain ⟨u, v, r, rfl, nuv, hu, hv⟩ := perm_range perm lt2
    refine ⟨2, rfl, l2, _, rfl, SqL.of hl2, fun l3 hl3 => ?_⟩
    have x3 := Ex.new (o := .lst (cutV (((u : Int) :: (v : Int) :: r).map V.int) none (some 2))) hl3
    refine ⟨l3, [(u : Int), (v : Int)], rfl, SqL.of (by rw [upd_same, show (2 : Int) = ((2 : Nat) : Int) from rfl, cut_takeI (by show 2 ≤ r.length + 1 + 1; omega)]; rfl), fun zs l4 pz az hl4 => ?_⟩
    obtain ⟨i, j, rfl, hij, hc⟩ := two_sorted pz az nuv
    have x4 := Ex.new (o := .lst ([(i : Int), (j : Int)].map V.int)) hl4
    have hi : i < ls.length := by omega
    have hj : j < ls.length := by omega
    have k13 : Keep d H _ := ((Keep.ex x1).trans k2).trans (Keep.ex (x3.trans x4))
    have hd4 := hd2.ex (x3.trans x4)
    refine ⟨l4, _, rfl, SqL.of upd_same, rfl, .int (i : Int), [_], rfl, .int (j : Int), [], rfl, rfl, ?_⟩
    show tSeq _ _ _ _ (upd (upd H2 l3 (.lst (cutV (((u : Int) :: (v : Int) :: r).map V.int) none (some 2)))) l4 (.lst ([(i : Int), (j : Int)].map V.int)))
    generalize upd (upd H2 l3 (.lst (cutV (((u : Int) :: (v : Int) :: r).map V.int) none (some 2)))) l4 (.lst ([(i : Int), (j : Int)].map V.int)) = H5 at k13 hd4 ⊢
    have ha5 := k13 _ _ nad ha
    refine ⟨_, rfl, a, _, rfl, .inl (SqL.of ha5), fun l hl0 => ?_⟩
    have ndl : d ≠ l := hd4.ne_new hl0
    have x6 := Ex.new (o := .lst (ls.map V.int)) hl0
    have g6 : (upd H5 l (.lst (ls.map V.int))) l = some (.lst (ls.map V.int)) := upd_same
    have hd6 := hd4.upd (o := .lst (ls.map V.int)) ndl
    have hlH : H l = none := k13.free ndl.symm hl0
    have k16 := k13.trans (Keep.ex x6)
    generalize upd H5 l (.lst (ls.map V.int)) = H6 at x6 g6 hd6 k16 ⊢
    refine ⟨_, rfl, _, rfl, l, _, (i : Int), .int (ls.getD i 0), rfl, rfl, SqL.of g6, atI_nat (int_at hi), _, _, rfl, rfl, ?_⟩
    refine ⟨_, rfl, _, rfl, l, _, (j : Int), .int (ls.getD j 0), rfl, rfl, SqL.of g6, atI_nat (int_at hj), _, _, rfl, rfl, by show 2 ≤ sizeLine; decide, fun tp htp => ?_⟩
    have x7 := Ex.new (o := .tup [.int (ls.getD i 0 - 1), .int (ls.getD j 0 + 1)]) htp
    have g7 := x7 _ _ g6
    have ndt : d ≠ tp := hd6.ne_new htp
    refine ⟨tp, _, rfl, SqT.of upd_same, rfl, .int (ls.getD i 0 - 1), [_], rfl, ?_⟩
    refine ⟨_, rfl, _, rfl, l, _, (i : Int), i, rfl, rfl, g7, ixN_at (by rw [List.length_map]; exact hi), ?_⟩
    refine ⟨.int (ls.getD j 0 + 1), [], rfl, ?_⟩
    refine ⟨_, rfl, _, rfl, l, _, (j : Int), j, rfl, rfl, upd_same, ixN_at (by rw [List.length_set, List.length_map]; exact hj), rfl, ?_⟩
    have nij : ¬ j = i := by omega
    have gs : (ls.set i (ls.getD i 0 - 1)).getD j 0 = ls.getD j 0 := by rw [getD_set1 hi, if_neg nij]
    refine ⟨_, rfl, l, (ls.set i (ls.getD i 0 - 1)).set j (ls.getD j 0 + 1), rfl, SqL.of (by rw [upd_same, List.map_set, List.map_set]), fun fs p perm asc hp' => ?_⟩
    have hd8 : Dice (upd (upd (upd H6 tp (.tup [.int (ls.getD i 0 - 1), .int (ls.getD j 0 + 1)])) l (.lst ((ls.map V.int).set i (.int (ls.getD i 0 - 1))))) l (.lst (((ls.map V.int).set i (.int (ls.getD i 0 - 1))).set j (.int (ls.getD j 0 + 1))))) d := ((hd6.upd ndt).upd ndl).upd ndl
    have k8 : Keep d H (upd (upd (upd H6 tp (.tup [.int (ls.getD i 0 - 1), .int (ls.getD j 0 + 1)])) l (.lst ((ls.map V.int).set i (.int (ls.getD i 0 - 1))))) l (.lst (((ls.map V.int).set i (.int (ls.getD i 0 - 1))).set j (.int (ls.getD j 0 + 1))))) := (((k16.trans (Keep.ex x7)).mut hlH).mut hlH)
    have ndp := hd8.ne_new hp'
    have pij := pw_get hp (show i ≤ j by omega) hj
    refine q p fs _ upd_same ndp.symm (by rw [perm.length_eq, List.length_set, List.length_set]) asc ?_ (fun e he => ?_) (fun c => ?_) (hd8.upd ndp) (k8.trans (Keep.new hp'))
    · rw [sum_perm perm, sum_set0 (by rw [List.length_set]; exact hj), sum_set0 hi, gs]
      omega
    · obtain ⟨t, ht, rfl⟩ := mem_get (perm.mem_iff.mp he)
      rw [List.length_set, List.length_set] at ht
      rw [getD_set1 (by rw [List.length_set]; exact hj), getD_set1 hi]
      have b1 := hb _ (get_mem hi)
      have b2 := hb _ (get_mem hj)
      have b3 := hb _ (get_mem ht)
      split
      · omega
      · split
        · omega
        · omega
    · rw [tell_perm perm, tell_set (by rw [List.length_set]; exact hj), tell_set hi, gs]
      omega
end
end K1

set_option exponentiation.threshold 400
namespace K1
open PySem PySem.Spec PyProof.Rows L2 Evl HM LX TE ZW
theorem pw9 : (10 : Int) ^ (Int.toNat 9) = 1000000000 := by decide +kernel
theorem pw48 : (10 : Int) ^ (Int.toNat 48) = 1000000000000000000000000000000000000000000000000 := by decide +kernel
def shf (ls : List Int) (g : Int) : List Int := ls.map fun e => e + g
theorem shf_len (ls : List Int) (g : Int) : (shf ls g).length = ls.length := List.length_map ..
theorem tell_shf (ls : List Int) (g c : Int) : tell (shf ls g) c = tell ls (c + g) := by
  unfold tell shf
  rw [List.map_map]
  congr 1
  refine List.map_congr_left fun x _ => ?_
  show max 0 (x + g + c + 1) = max 0 (x + (c + g) + 1)
  omega
theorem shf_get {ls : List Int} {g : Int} {i : Nat} (h : i < ls.length) : (shf ls g).getD i 0 = ls.getD i 0 + g := by
  unfold shf
  rw [List.getD_eq_getElem?_getD, List.getD_eq_getElem?_getD, List.getElem?_map, List.getElem?_eq_getElem h]
  rfl
theorem dist_shf (ls : List Int) (g : Int) : distL (shf ls g) = distL ls := by
  unfold distL
  rw [shf_len]
  congr 1
  refine List.map_congr_left fun i hi => ?_
  have hi' := List.mem_range.mp hi
  congr 1
  refine List.map_congr_left fun j hj => ?_
  have hj' := List.mem_range.mp hj
  rw [shf_get hi', shf_get (by omega)]
  omega
theorem sum_shf : ∀ (ls : List Int) (g : Int), (shf ls g).sum = ls.sum + (ls.length : Int) * g
  | [], g => by
    show (0 : Int) = 0 + ((0 : Nat) : Int) * g
    rw [show ((0 : Nat) : Int) = 0 from rfl, Int.zero_mul]
    omega
  | x :: r, g => by
    have := sum_shf r g
    show x + g + (shf r g).sum = x + r.sum + ((r.length + 1 : Nat) : Int) * g
    rw [this, show ((r.length + 1 : Nat) : Int) = (r.length : Int) + 1 by omega, Int.add_mul, Int.one_mul]
    omega
theorem asc_shf {ls : List Int} (g : Int) (h : ls.Pairwise (· ≤ ·)) : (shf ls g).Pairwise (· ≤ ·) := List.pairwise_map.mpr (h.imp fun {a b} q => by omega)
theorem short_shf {ls : List Int} {g : Int} (h : ∀ e ∈ ls, -50 ≤ e ∧ e ≤ 50) (hg : (g.natAbs : Int) ≤ 10 ^ 49) : Short (shf ls g) := short_of fun l hl => by
  obtain ⟨e, he, rfl⟩ := List.mem_map.mp hl
  have := h e he
  constructor <;> omega
theorem sum_bd : ∀ {ls : List Int}, (∀ e ∈ ls, 0 ≤ e ∧ e ≤ 3) → 0 ≤ ls.sum ∧ ls.sum ≤ 3 * (ls.length : Int)
  | [], _ => by decide
  | x :: r, h => by
    have h1 := h x (List.mem_cons_self ..)
    have h2 := sum_bd fun e he => h e (List.mem_cons_of_mem x he)
    rw [List.sum_cons, List.length_cons]
    constructor <;> omega
structure LvB (ls : List Int) (n : Nat) : Prop where
  len : ls.length = n
  asc : ls.Pairwise (· ≤ ·)
  bd : ∀ e ∈ ls, -50 ≤ e ∧ e ≤ 50
def PairOk (H : Hp) (n : Nat) (S : Int) (x : V) : Prop := ∃ t pa pb la lb, x = .ref t ∧ H t = some (.tup [.ref pa, .ref pb]) ∧ H pa = some (.lst (la.map V.int)) ∧ H pb = some (.lst (lb.map V.int)) ∧ LvB la n ∧ LvB lb n ∧ la.sum = S ∧ lb.sum = S
theorem PairOk.ex {H H' : Hp} {n : Nat} {S : Int} {x : V} (e : Ex H H') (h : PairOk H n S x) : PairOk H' n S x := by
  obtain ⟨t, pa, pb, la, lb, h0, h1, h2, h3, h4⟩ := h
  exact ⟨t, pa, pb, la, lb, h0, e _ _ h1, e _ _ h2, e _ _ h3, h4⟩
theorem LvB.short {ls : List Int} {n : Nat} (h : LvB ls n) : Short ls := short_of fun l hl => by
  have := h.bd l hl
  constructor <;> omega
theorem bool_iff {a b : Bool} {p : Prop} (h1 : a = true ↔ p) (h2 : b = true ↔ p) : a = b := Bool.eq_iff_iff.mpr (h1.trans h2.symm)
section
variable {P : Program} {w : World} {K : PySem.W.Frag} {mg : Str → Option Value} {base : Heap}
def spPair : Sp := fun vs H Q _ => ∃ (a b : Addr) (one other : List Int), vs = [.ref a, .ref b] ∧ H a = some (.tup (one.map V.int)) ∧ H b = some (.tup (other.map V.int)) ∧ one.length = other.length ∧ one.sum = other.sum ∧ 2 ≤ one.length ∧ one.length ≤ 10 ∧ (∀ e ∈ one ++ other, -50 ≤ e ∧ e ≤ 50) ∧ one.Pairwise (· ≤ ·) ∧ other.Pairwise (· ≤ ·) ∧
  ∀ H', Ex H H' → Q (.bl true) H'
theorem ok_pair_right (T : Txt K mg) {f : Addr} {fd : FuncData} (D : DefAt K mg "_law_pair_right" sLPairRight ["_law_one", "_law_other"] f fd) : FnOk P w K mg base CX0 9 f fd ["_law_one", "_law_other"] spPair := by
  refine D.F.ok scLPairRight (fun vs H Q E h => ?_) (fun cdv A outer s₀ H vs Q E hr h => ?_)
  · obtain ⟨a, b, one, other, rfl, _⟩ := h
    rfl
  · obtain ⟨a, b, one, other, rfl, ha, hb, hl, hs, h2, h10, bd, p1, p2, q⟩ := h
    obtain ⟨f1, fd1, D1⟩ := T.d_is_held
    obtain ⟨f2, fd2, D2⟩ := T.d_core_of_levels
    obtain ⟨f3, fd3, D3⟩ := T.d_distance
    obtain ⟨f4, fd4, D4⟩ := T.d_are_above
    obtain ⟨f5, fd5, D5⟩ := T.d_level_richness
    have hr6 : Room 6 _ := hr.mono (by decide)
    have hr7 : Room 7 _ := hr.mono (by decide)
    have hr8 : Room 8 _ := hr.mono (by decide)
    refine ⟨_, pss_cons (ps_set (i := 2) scLPairRight.nd rfl (.inl rfl) pe_bl)
      (pss_cons (ps_for PassesOwn.never rfl (pi_range2 (by rfl) T.z_range (pa_cons (pe_op op_sub (pe_un un_neg (pe_callB (MT.cr_maxT rfl) (by rfl) T.z_max (by decide +kernel) (pa_cons (pe_op op_catE (pv 0) (pv 1)) pa_nil))) pe_int) (pa_cons (pe_op op_sub pe_int (pe_callB (MT.cr_minT rfl) (by rfl) T.z_min (by decide +kernel) (pa_cons (pe_op op_catE (pv 0) (pv 1)) pa_nil))) pa_nil))) (pg_name (i := 3) scLPairRight.nd rfl (.inr rfl))
        (pss_cons (ps_set (i := 4) scLPairRight.nd rfl (.inl rfl) (pe_callB (cr_sum rfl) (by rfl) T.z_sum (by decide +kernel) (pa_cons (pe_lc (own := [("_law_e", 6)]) (g := gName 6) (tt := tYes) rfl scLPairRight.nd (pi_tup (pv 0))
        (blkOk_by (N := nLPairRight) (sc := defScope sLPairRight) (by decide +kernel)) (fun _ _ _ _ _ => (pg_name (i := 6) scLPairRight.nd rfl (.inl rfl))) (fun _ _ _ _ _ => pts_nil)
        (fun _ _ _ _ _ => (pe_callB (call_max2 rfl) (by rfl) T.z_max (by decide +kernel) (pa_cons pe_int (pa_cons (pe_op op_add (pe_op op_add (pv 6) (pv 3)) pe_int) pa_nil))))) pa_nil)))
      (pss_cons (ps_set (i := 5) scLPairRight.nd rfl (.inl rfl) (pe_callB (cr_sum rfl) (by rfl) T.z_sum (by decide +kernel) (pa_cons (pe_lc (own := [("_law_e", 6)]) (g := gName 6) (tt := tYes) rfl scLPairRight.nd (pi_tup (pv 1))
        (blkOk_by (N := nLPairRight) (sc := defScope sLPairRight) (by decide +kernel)) (fun _ _ _ _ _ => (pg_name (i := 6) scLPairRight.nd rfl (.inl rfl))) (fun _ _ _ _ _ => pts_nil)
        (fun _ _ _ _ _ => (pe_callB (call_max2 rfl) (by rfl) T.z_max (by decide +kernel) (pa_cons pe_int (pa_cons (pe_op op_add (pe_op op_add (pv 6) (pv 3)) pe_int) pa_nil))))) pa_nil)))
      (pss_cons (ps_set (i := 2) scLPairRight.nd rfl (.inl rfl) (pe_and (pv 2) (pe_one (pe_cmpR op_ge (pv 4) (pv 5) (nomark _)))))
      (pss_one (ps_if (PW.pt (pw_or (pt_cmpR op_ne (pe_call (ok_level_richness T D5) hr7 (by rfl) D5.g D5.F.kp D5.b .nil pass0 (pa_cons (pv 0) (pa_cons (pv 3) pa_nil))) (pe_op op_sub (pv 4) pe_int) (nomark _))
          (pw_or1 (pt_cmpR op_ne (pe_call (ok_level_richness T D5) hr7 (by rfl) D5.g D5.F.kp D5.b .nil pass0 (pa_cons (pv 1) (pa_cons (pv 3) pa_nil))) (pe_op op_sub (pv 5) pe_int) (nomark _))))) (pss_one (ps_ret pe_bl)) pss_nil))))))
      (pss_cons (ps_if (pt_cmpR op_ne (pe_call (ok_are_above T D4) hr8 (by rfl) D4.g D4.F.kp D4.b .nil pass0 (pa_cons (pv 0) (pa_cons (pv 1) pa_nil))) (pv 2) (nomark _)) (pss_one (ps_ret pe_bl)) pss_nil)
      (pss_cons (ps_if (pt_cmpR op_gt (pe_callB (call_max2 rfl) (by rfl) T.z_max (by decide +kernel) (pa_cons (pe_call (ok_distance T D3) hr7 (by rfl) D3.g D3.F.kp D3.b .nil pass0 (pa_cons (pv 0) pa_nil)) (pa_cons (pe_call (ok_distance T D3) hr7 (by rfl) D3.g D3.F.kp D3.b .nil pass0 (pa_cons (pv 1) pa_nil)) pa_nil))) pe_int (nomark _)) (pss_one (ps_ret pe_bl)) pss_nil)
      (pss_one (ps_ret (pe_cmpR op_eq (pe_call (ok_is_held T D1) hr6 (by rfl) D1.g D1.F.kp D1.b .nil pass0 (pa_cons (pe_call (ok_core_of_levels T D2) hr8 (by rfl) D2.g D2.F.kp D2.b .nil pass0 (pa_cons (pv 0) pa_nil)) (pa_cons (pe_call (ok_core_of_levels T D2) hr8 (by rfl) D2.g D2.F.kp D2.b .nil pass0 (pa_cons (pv 1) pa_nil)) pa_nil))) (pv 2) (nomark _))))))), ?_⟩
    have gb1 : ∀ i, -(10 ^ 9) < one.getD i 0 ∧ one.getD i 0 < 10 ^ 9 := fun i => by
      by_cases z : i < one.length
      · have := bd _ (List.mem_append_left _ (get_mem z))
        constructor <;> omega
      · rw [List.getD_eq_getElem?_getD, List.getElem?_eq_none (by omega)]
        decide
    have gb2 : ∀ i, -(10 ^ 9) < other.getD i 0 ∧ other.getD i 0 < 10 ^ 9 := fun i => by
      by_cases z : i < other.length
      · have := bd _ (List.mem_append_right _ (get_mem z))
        constructor <;> omega
      · rw [List.getD_eq_getElem?_getD, List.getElem?_eq_none (by omega)]
        decide
    have sh1 : Short one := fun i => by have := gb1 i; constructor <;> omega
    have sh2 : Short other := fun i => by have := gb2 i; constructor <;> omega
    have la : (one ++ other).length = one.length + other.length := List.length_append
    have small : (one.map V.int).length + (other.map V.int).length ≤ sizeLine := by
      rw [List.length_map, List.length_map]
      exact Nat.le_of_lt (small1000 (by omega))
    refine ⟨_, rfl, _, rfl, a, b, _, _, rfl, rfl, ha, hb, small, fun t1 H1 e1 h1 => ?_⟩
    rw [← List.map_append] at h1
    refine ⟨t1, one ++ other, rfl, SqT.of h1, by omega, fun M hM hMx => ⟨_, rfl, _, _, rfl, rfl, ?_⟩⟩
    refine ⟨_, rfl, _, rfl, a, b, _, _, rfl, rfl, e1 _ _ ha, e1 _ _ hb, small, fun t2 H2 e2 h2' => ?_⟩
    rw [← List.map_append] at h2'
    refine ⟨t2, one ++ other, rfl, SqT.of h2', by omega, fun m hm hmn => ⟨_, _, rfl, rfl, ?_⟩⟩
    have bM := bd M hM
    have bm := bd m hm
    have e12 := e1.trans e2
    refine ⟨_, _, rfl, ⟨by omega, by omega, by omega, by omega⟩, for_range (lo := -M - 2) (n := Int.toNat _) (fun i σ' H' => ∃ (r : Bool) (y3 y4 y5 : Option V), σ' = [some (.ref a), some (.ref b), some (.bl r), y3, y4, y5, none] ∧ (r = true ↔ ∀ j : Nat, j < i → tell other (-M - 2 + j) ≤ tell one (-M - 2 + j)) ∧ Ex H H') ⟨true, none, none, none, rfl, ⟨fun _ j hj => absurd hj (Nat.not_lt_zero _), fun _ => rfl⟩, e12⟩ (fun i σ' H' hi hW => ?_) (fun σ' H' hW => ?_)⟩
    · obtain ⟨r, y3, y4, y5, rfl, hr0, w2⟩ := hW
      refine ⟨_, rfl, a, rfl, ⟨_, SqT.of (w2 _ _ ha)⟩, fun D1' hD1 => ?_⟩
      refine lc_tupM (K := K) (fun j => V.int (max 0 (one.getD j 0 + (-M - 2 + i) + 1))) hD1 (w2 _ _ ha) (by rw [List.length_map]; omega) (fun j x H3 Qk hx e' qk => ?_) (fun H3 e3 h3 => ?_)
      · obtain ⟨hj, rfl⟩ := int_inv hx
        refine ⟨rfl, _, rfl, _, rfl, _, _, rfl, rfl, _, _, rfl, rfl, _, _, rfl, ?_⟩
        rw [imax0]
        exact qk _ (Ex.refl _)
      rw [List.length_map, mapI] at h3
      refine ⟨D1', _, rfl, SqL.of h3, ?_⟩
      rw [tellR]
      have w3 := w2.trans e3
      refine ⟨_, rfl, b, rfl, ⟨_, SqT.of (w3 _ _ hb)⟩, fun D2' hD2 => ?_⟩
      refine lc_tupM (K := K) (fun j => V.int (max 0 (other.getD j 0 + (-M - 2 + i) + 1))) hD2 (w3 _ _ hb) (by rw [List.length_map]; omega) (fun j x H4 Qk hx e' qk => ?_) (fun H4 e4 h4 => ?_)
      · obtain ⟨hj, rfl⟩ := int_inv hx
        refine ⟨rfl, _, rfl, _, rfl, _, _, rfl, rfl, _, _, rfl, rfl, _, _, rfl, ?_⟩
        rw [imax0]
        exact qk _ (Ex.refl _)
      rw [List.length_map, mapI] at h4
      refine ⟨D2', _, rfl, SqL.of h4, ?_⟩
      rw [tellR]
      have w4 := w3.trans e4
      cases r with
      | true =>
        refine ⟨_, rfl, true, rfl, iteT ⟨_, rfl, _, rfl, _, _, rfl, rfl, ?_⟩⟩
        refine ⟨_, rfl, _, rfl, a, one, _, rfl, w4 _ _ ha, h2, by omega, sh1, p1, by omega, by omega, fun H5 e5 => ⟨_, rfl, _, _, rfl, rfl, rfl, _, rfl, iteF' (by rw [decide_eq_true rfl]; rfl) ?_⟩⟩
        refine ⟨_, rfl, _, rfl, b, other, _, rfl, (w4.trans e5) _ _ hb, by omega, by omega, sh2, p2, by omega, by omega, fun H6 e6 => ⟨_, rfl, _, _, rfl, rfl, rfl, _, rfl, iteF' (by rw [decide_eq_true rfl]; rfl) ?_⟩⟩
        refine ⟨_, _, _, _, rfl, ?_, (w4.trans e5).trans e6⟩
        rw [decide_eq_true_eq]
        constructor
        · intro h j hj
          by_cases z : j = i
          · rw [z]
            exact h
          · exact hr0.mp rfl j (by omega)
        · exact fun h => h i (Nat.lt_succ_self i)
      | false =>
        refine ⟨_, rfl, false, rfl, iteF ?_⟩
        refine ⟨_, rfl, _, rfl, a, one, _, rfl, w4 _ _ ha, h2, by omega, sh1, p1, by omega, by omega, fun H5 e5 => ⟨_, rfl, _, _, rfl, rfl, rfl, _, rfl, iteF' (by rw [decide_eq_true rfl]; rfl) ?_⟩⟩
        refine ⟨_, rfl, _, rfl, b, other, _, rfl, (w4.trans e5) _ _ hb, by omega, by omega, sh2, p2, by omega, by omega, fun H6 e6 => ⟨_, rfl, _, _, rfl, rfl, rfl, _, rfl, iteF' (by rw [decide_eq_true rfl]; rfl) ?_⟩⟩
        refine ⟨false, _, _, _, rfl, ⟨(fun z => by cases z), fun h => ?_⟩, (w4.trans e5).trans e6⟩
        exact hr0.mpr fun j hj => h j (by omega)
    · obtain ⟨r, y3, y4, y5, rfl, hr0, w2⟩ := hW
      have full : r = true ↔ ∀ c, tell other c ≤ tell one c := by
        rw [hr0]
        constructor
        · intro h c
          refine tell_range (lo := -M - 2) (hi := 2 - m) hl hs (fun l hl0 => by have := hMx l hl0; omega) (fun l hl0 => by have := hmn l hl0; omega) (fun c c1 c2 => ?_) c
          have := h (c - (-M - 2)).toNat (by omega)
          rw [show -M - 2 + ((c - (-M - 2)).toNat : Int) = c by omega] at this
          exact this
        · exact fun h j _ => h _
      refine ⟨_, rfl, _, rfl, a, b, one, other, rfl, w2 _ _ ha, w2 _ _ hb, hl, hs, h2, by omega, sh1, sh2, p1, p2, fun r1 H3 hr1 e3 => ?_⟩
      have er : r1 = r := bool_iff hr1 full
      subst er
      refine ⟨_, rfl, rfl, _, rfl, iteF' (by rw [decide_eq_true rfl]; rfl) ?_⟩
      have w3 := w2.trans e3
      refine ⟨_, rfl, a, one, rfl, w3 _ _ ha, h2, by omega, sh1, p1, fun H4 e4 => ⟨_, rfl, b, other, rfl, (w3.trans e4) _ _ hb, by omega, by omega, sh2, p2, fun H5 e5 => ⟨_, _, rfl, _, _, rfl, rfl, _, rfl, ite2 (fun c => ?_) (fun c => ?_)⟩⟩⟩
      · exact q _ ((w3.trans e4).trans e5)
      · have c2 : ¬ (if distL other > distL one then distL other else distL one) > 12 := fun z => c (decide_eq_true z)
        have d1 : distL one ≤ 12 ∧ distL other ≤ 12 := by
          split at c2 <;> constructor <;> omega
        have w5 := (w3.trans e4).trans e5
        refine ⟨_, rfl, a, one, rfl, w5 _ _ ha, h2, by omega, gb1, p1, d1.1, fun q1 H6 e6 hq1 g1 => ⟨_, rfl, b, other, rfl, (w5.trans e6) _ _ hb, by omega, by omega, gb2, p2, d1.2, fun q2 H7 e7 hq2 g2 => ⟨q1, q2, _, _, rfl, e7 _ _ hq1, hq2, g1, g2, fun r2 H8 hr2 e8 => ⟨_, rfl, rfl, ?_⟩⟩⟩⟩
        have er2 : r2 = r1 := bool_iff hr2 ((full).trans (core_held hl hs (by omega) p1 p2).symm)
        rw [er2, decide_eq_true rfl]
        exact q _ (((w5.trans e6).trans e7).trans e8)
def spLaw (K : PySem.W.Frag) : Sp := fun vs H Q _ => ∃ (a : Addr) (ns : List Int), vs = [.ref a] ∧ SqL K H a (ns.map V.int) ∧ ns.length ≤ 63 ∧ ∀ H', Q (.bl true) H'
theorem sql_keep {K : PySem.W.Frag} {H H1 H2 : Hp} {p a : Addr} {xs : List V} (h0 : H p = none) (e : Ex H H1) (k : Keep p H1 H2) (h : SqL K H a xs) : SqL K H2 a xs := by
  rcases h with (h | ⟨o, h⟩) | h
  · exact .inl (.inl (k _ _ (ne_of_none h h0) (e _ _ h)))
  · exact .inl (.inr ⟨o, k _ _ (ne_of_none h h0) (e _ _ h)⟩)
  · exact .inr h
theorem ok_law (T : Txt K mg) {f : Addr} {fd : FuncData} (F : Fun K "law" "law" sLaw f fd) : FnOk P w K mg base CX0 10 f fd ["_law_script"] (spLaw K) := by
  refine F.ok scLaw (fun vs H Q E h => ?_) (fun cdv A outer s₀ H vs Q E hr h => ?_)
  · obtain ⟨a, ns, rfl, _⟩ := h
    rfl
  · obtain ⟨a, ns, rfl, hS, hlen, q⟩ := h
    obtain ⟨f1, fd1, D1⟩ := T.d_level_richness
    obtain ⟨f2, fd2, D2⟩ := T.d_distance
    obtain ⟨f3, fd3, D3⟩ := T.d_are_above
    obtain ⟨f4, fd4, D4⟩ := T.d_l_roll
    obtain ⟨f5, fd5, D5⟩ := T.d_l_pair_right
    obtain ⟨f6, fd6, D6⟩ := T.d_l_apart
    obtain ⟨f7, fd7, D7⟩ := T.d_l_of_sum
    obtain ⟨f8, fd8, D8⟩ := T.d_l_drawn_levels
    obtain ⟨f9, fd9, D9⟩ := T.d_l_dice
    have hr1 : Room 1 _ := hr.mono (by decide)
    have hr2 : Room 2 _ := hr.mono (by decide)
    have hr3 : Room 3 _ := hr.mono (by decide)
    have hr7 : Room 7 _ := hr.mono (by decide)
    have hr8 : Room 8 _ := hr.mono (by decide)
    have hr9 : Room 9 _ := hr.mono (by decide)
    refine ⟨_, pss_cons (ps_for PassesOwn.never rfl (pi_range1 (by rfl) T.z_range (pa_cons (pe_callB (call_max2 rfl) (by rfl) T.z_max (by decide +kernel) (pa_cons pe_int (pa_cons (pe_callB (call_min2 rfl) (by rfl) T.z_min (by decide +kernel) (pa_cons (pe_callB call_len_seq (by rfl) T.z_len PySem.boot_len (pa_cons (pv 0) pa_nil)) (pa_cons pe_int pa_nil))) pa_nil))) pa_nil)) (pg_name (i := 1) scLaw.nd rfl (.inl rfl))
        (pss_cons (ps_set (i := 2) scLaw.nd rfl (.inl rfl) (pe_call (ok_dice T D9) hr1 (by rfl) D9.g D9.F.kp D9.b .nil pass0 (pa_cons (pv 0) (pa_cons (pv 1) pa_nil))))
      (pss_cons (ps_set (i := 3) scLaw.nd rfl (.inl rfl) (pe_op op_add pe_int (pe_call (ok_roll T D4) hr1 (by rfl) D4.g D4.F.kp D4.b .nil pass0 (pa_cons (pv 2) (pa_cons pe_int pa_nil)))))
      (pss_cons (ps_set (i := 4) scLaw.nd rfl (.inl rfl) (pe_call (ok_drawn T D8) hr3 (by rfl) D8.g D8.F.kp D8.b .nil pass0 (pa_cons (pv 2) (pa_cons (pv 3) pa_nil))))
      (pss_cons (ps_set (i := 5) scLaw.nd rfl (.inl rfl) (pe_call (ok_of_sum T D7) hr2 (by rfl) D7.g D7.F.kp D7.b .nil pass0 (pa_cons (pv 2) (pa_cons (pe_call (ok_drawn T D8) hr3 (by rfl) D8.g D8.F.kp D8.b .nil pass0 (pa_cons (pv 2) (pa_cons (pv 3) pa_nil))) (pa_cons (pe_callB (cr_sum rfl) (by rfl) T.z_sum (by decide +kernel) (pa_cons (pv 4) pa_nil)) pa_nil)))))
      (pss_cons (ps_set (i := 6) scLaw.nd rfl (.inl rfl) (pe_call (ok_apart T D6) hr3 (by rfl) D6.g D6.F.kp D6.b .nil pass0 (pa_cons (pv 2) (pa_cons (pv 4) pa_nil))))
      (pss_cons (ps_for PassesOwn.never rfl (pi_tup (pe_tup (pa_cons (pe_tup (pa_cons (pv 4) (pa_cons (pv 5) pa_nil))) (pa_cons (pe_tup (pa_cons (pv 5) (pa_cons (pv 4) pa_nil))) (pa_cons (pe_tup (pa_cons (pv 6) (pa_cons (pv 4) pa_nil))) (pa_cons (pe_tup (pa_cons (pv 4) (pa_cons (pv 6) pa_nil))) (pa_cons (pe_tup (pa_cons (pv 6) (pa_cons (pv 5) pa_nil))) (pa_cons (pe_tup (pa_cons (pv 4) (pa_cons (pv 4) pa_nil))) pa_nil)))))))) (pg_tup (by rfl) (pgs_cons (pg_name (i := 7) scLaw.nd rfl (.inl rfl)) (pgs_cons (pg_name (i := 8) scLaw.nd rfl (.inl rfl)) pgs_nil)))
        (pss_one (ps_if (pt_not (pt_val (pe_call (ok_pair_right T D5) hr9 (by rfl) D5.g D5.F.kp D5.b .nil pass0 (pa_cons (pe_callTy call_tuple_of (by rfl) T.z_tuple (by decide +kernel) (pa_cons (pv 7) pa_nil)) (pa_cons (pe_callTy call_tuple_of (by rfl) T.z_tuple (by decide +kernel) (pa_cons (pv 8) pa_nil)) pa_nil))))) (pss_one (ps_ret pe_bl)) pss_nil)))
      (pss_cons (ps_if (PW.pt (pw_or (pt_not (pt_val (pe_call (ok_are_above T D3) hr8 (by rfl) D3.g D3.F.kp D3.b .nil pass0 (pa_cons (pe_callTy call_tuple_of (by rfl) T.z_tuple (by decide +kernel) (pa_cons (pv 6) pa_nil)) (pa_cons (pe_callTy call_tuple_of (by rfl) T.z_tuple (by decide +kernel) (pa_cons (pv 4) pa_nil)) pa_nil)))))
          (pw_or1 (pt_not (pt_val (pe_call (ok_are_above T D3) hr8 (by rfl) D3.g D3.F.kp D3.b .nil pass0 (pa_cons (pe_callTy call_tuple_of (by rfl) T.z_tuple (by decide +kernel) (pa_cons (pv 4) pa_nil)) (pa_cons (pe_callTy call_tuple_of (by rfl) T.z_tuple (by decide +kernel) (pa_cons (pv 4) pa_nil)) pa_nil)))))))) (pss_one (ps_ret pe_bl)) pss_nil)
      (pss_cons (ps_set (i := 9) scLaw.nd rfl (.inr rfl) (pe_op op_mul (pe_op op_sub (pe_op op_mul (pe_call (ok_roll T D4) hr1 (by rfl) D4.g D4.F.kp D4.b .nil pass0 (pa_cons (pv 2) (pa_cons pe_int pa_nil))) pe_int) pe_int) (pe_op op_add (pe_op op_powW pe_int pe_int) (pe_call (ok_roll T D4) hr1 (by rfl) D4.g D4.F.kp D4.b .nil pass0 (pa_cons (pv 2) (pa_cons (pe_op op_powW pe_int pe_int) pa_nil))))))
      (pss_cons (ps_par (i := 10) (j := 11) (by rfl) scLaw.nd rfl rfl (by decide) rfl rfl (pa_cons (pe_callTy call_tuple_of (by rfl) T.z_tuple (by decide +kernel) (pa_cons (pe_lc (own := [("_law_e", 12)]) (g := gName 12) (tt := tYes) rfl scLaw.nd (pi_list (pv 4))
        (blkOk_by (N := nLaw) (sc := defScope sLaw) (by decide +kernel)) (fun _ _ _ _ _ => (pg_name (i := 12) scLaw.nd rfl (.inl rfl))) (fun _ _ _ _ _ => pts_nil)
        (fun _ _ _ _ _ => (pe_op op_add (pv 12) (pv 9)))) pa_nil)) (pa_cons (pe_callTy call_tuple_of (by rfl) T.z_tuple (by decide +kernel) (pa_cons (pe_lc (own := [("_law_e", 12)]) (g := gName 12) (tt := tYes) rfl scLaw.nd (pi_list (pv 5))
        (blkOk_by (N := nLaw) (sc := defScope sLaw) (by decide +kernel)) (fun _ _ _ _ _ => (pg_name (i := 12) scLaw.nd rfl (.inl rfl))) (fun _ _ _ _ _ => pts_nil)
        (fun _ _ _ _ _ => (pe_op op_add (pv 12) (pv 9)))) pa_nil)) pa_nil)) (by rfl))
      (pss_cons (ps_if (pt_cmpR op_ne (pe_call (ok_are_above T D3) hr8 (by rfl) D3.g D3.F.kp D3.b .nil pass0 (pa_cons (pv 10) (pa_cons (pv 11) pa_nil))) (pe_call (ok_are_above T D3) hr8 (by rfl) D3.g D3.F.kp D3.b .nil pass0 (pa_cons (pe_callTy call_tuple_of (by rfl) T.z_tuple (by decide +kernel) (pa_cons (pv 4) pa_nil)) (pa_cons (pe_callTy call_tuple_of (by rfl) T.z_tuple (by decide +kernel) (pa_cons (pv 5) pa_nil)) pa_nil))) (nomark _)) (pss_one (ps_ret pe_bl)) pss_nil)
      (pss_one (ps_if (PW.pt (pw_or (pt_cmpR op_ne (pe_call (ok_distance T D2) hr7 (by rfl) D2.g D2.F.kp D2.b .nil pass0 (pa_cons (pv 10) pa_nil)) (pe_call (ok_distance T D2) hr7 (by rfl) D2.g D2.F.kp D2.b .nil pass0 (pa_cons (pe_callTy call_tuple_of (by rfl) T.z_tuple (by decide +kernel) (pa_cons (pv 4) pa_nil)) pa_nil)) (nomark _))
          (pw_or1 (pt_cmpR op_ne (pe_call (ok_level_richness T D1) hr7 (by rfl) D1.g D1.F.kp D1.b .nil pass0 (pa_cons (pv 10) (pa_cons (pe_op op_sub pe_int (pv 9)) pa_nil))) (pe_call (ok_level_richness T D1) hr7 (by rfl) D1.g D1.F.kp D1.b .nil pass0 (pa_cons (pe_callTy call_tuple_of (by rfl) T.z_tuple (by decide +kernel) (pa_cons (pv 4) pa_nil)) (pa_cons pe_int pa_nil))) (nomark _))))) (pss_one (ps_ret pe_bl)) pss_nil)))))))))))))
      (pss_one (ps_ret pe_bl)), ?_⟩
    refine ⟨_, rfl, a, _, rfl, .inl hS, _, 4, rfl, 1, _, rfl, _, rfl, ?_, ?_, for_range (lo := 0) (n := Int.toNat _) (fun i σ' H' => ∃ y1 y2 y3 y4 y5 y6 y7 y8 y9 y10 y11, σ' = [some (.ref a), y1, y2, y3, y4, y5, y6, y7, y8, y9, y10, y11, none] ∧ SqL K H' a (ns.map V.int)) ⟨none, none, none, none, none, none, none, none, none, none, none, rfl, hS⟩ (fun i σ' H' _ hp => ?_) (fun σ' H' hp => ?_)⟩
    · first | omega | (split <;> omega) | (split <;> split <;> omega)
    · rw [List.length_map]
      first | omega | (split <;> omega) | (split <;> split <;> omega)
    · obtain ⟨y1, y2, y3, y4, y5, y6, y7, y8, y9, y10, y11, rfl, hS'⟩ := hp
      refine ⟨_, rfl, _, rfl, a, ns, i, ?_, hS', fun d H1 hp0 e1 hd1 => ?_⟩
      · rw [Int.zero_add]
        rfl
      have fin : ∀ H2, Keep d H1 H2 → SqL K H2 a (ns.map V.int) := fun H2 k2 => sql_keep hp0 e1 k2 hS'
      refine ⟨_, rfl, d, _, rfl, hd1, by decide, by decide, fun r0 H2 r1 r2 hd2 k2 => ⟨_, _, rfl, rfl, ?_⟩⟩
      obtain ⟨n, rfl⟩ : ∃ n : Nat, r0 = (n : Int) := ⟨r0.toNat, by omega⟩
      have en : (2 : Int) + (n : Int) = ((n + 2 : Nat) : Int) := by omega
      refine ⟨_, rfl, _, rfl, d, n + 2, by rw [← en]; rfl, hd2, by omega, by omega, fun p1 one H3 h1 np1 l1 s1 b1 hd3 k3 => ?_⟩
      refine ⟨_, rfl, _, rfl, _, rfl, d, n + 2, by rw [← en]; rfl, hd3, by omega, by omega, fun p2 ls2 H4 h2 np2 l2 s2 b2 hd4 k4 => ?_⟩
      have sb1 := sum_bd b1
      have sb2 := sum_bd b2
      have h14 := k4 _ _ np1 h1
      refine ⟨_, rfl, p1, one, rfl, SqL.of h14, d, p2, ls2, one.sum, rfl, hd4, h2, by omega, by omega, b2, by omega, fun p3 other H5 h3 np3 l3 s3 sum3 b3 hd5 k5 => ?_⟩
      have h15 := k5 _ _ np1 h14
      refine ⟨_, rfl, _, rfl, d, p1, one, rfl, hd5, h15, np1, by omega, by omega, s1, b1, fun p4 far H6 h4 np4 l4 s4 sum4 b4 ab4 hd6 k6 => ?_⟩
      have h16 := k6 _ _ np1 h15
      have h36 := k6 _ _ np3 h3
      have k16 := (((k2.trans k3).trans k4).trans k5).trans k6
      have L1 : LvB one (n + 2) := ⟨l1, s1, fun e he => by have := b1 e he; omega⟩
      have L3 : LvB other (n + 2) := ⟨by omega, s3, fun e he => by have := b3 e he; omega⟩
      have L4 : LvB far (n + 2) := ⟨by omega, s4, fun e he => by have := b4 e he; omega⟩
      refine ⟨_, rfl, _, rfl, by show 2 ≤ sizeLine; decide, fun t1 ht1 => ?_⟩
      have x1 := Ex.new (o := .tup [.ref p1, .ref p3]) ht1
      refine ⟨_, rfl, _, rfl, by show 2 ≤ sizeLine; decide, fun t2 ht2 => ?_⟩
      have x2 := Ex.new (o := .tup [.ref p3, .ref p1]) ht2
      refine ⟨_, rfl, _, rfl, by show 2 ≤ sizeLine; decide, fun t3 ht3 => ?_⟩
      have x3 := Ex.new (o := .tup [.ref p4, .ref p1]) ht3
      refine ⟨_, rfl, _, rfl, by show 2 ≤ sizeLine; decide, fun t4 ht4 => ?_⟩
      have x4 := Ex.new (o := .tup [.ref p1, .ref p4]) ht4
      refine ⟨_, rfl, _, rfl, by show 2 ≤ sizeLine; decide, fun t5 ht5 => ?_⟩
      have x5 := Ex.new (o := .tup [.ref p4, .ref p3]) ht5
      refine ⟨_, rfl, _, rfl, by show 2 ≤ sizeLine; decide, fun t6 ht6 => ?_⟩
      have x6 := Ex.new (o := .tup [.ref p1, .ref p1]) ht6
      refine ⟨by show 6 ≤ sizeLine; decide, fun t ht => ?_⟩
      have x7 := Ex.new (o := .tup [.ref t1, .ref t2, .ref t3, .ref t4, .ref t5, .ref t6]) ht
      have x17 := (((((x1.trans x2).trans x3).trans x4).trans x5).trans x6).trans x7
      have all : ∀ x ∈ [V.ref t1, .ref t2, .ref t3, .ref t4, .ref t5, .ref t6], PairOk (upd (upd (upd (upd (upd (upd (upd H6 t1 (.tup [.ref p1, .ref p3])) t2 (.tup [.ref p3, .ref p1])) t3 (.tup [.ref p4, .ref p1])) t4 (.tup [.ref p1, .ref p4])) t5 (.tup [.ref p4, .ref p3])) t6 (.tup [.ref p1, .ref p1])) t (.tup [.ref t1, .ref t2, .ref t3, .ref t4, .ref t5, .ref t6])) (n + 2) one.sum x := fun x hx => by
        have q1 := x17 _ _ h16
        have q3 := x17 _ _ h36
        have q4 := x17 _ _ h4
        simp only [List.mem_cons, List.not_mem_nil, or_false] at hx
        rcases hx with rfl | rfl | rfl | rfl | rfl | rfl
        · exact ⟨t1, p1, p3, one, other, rfl, (((((x2.trans x3).trans x4).trans x5).trans x6).trans x7) _ _ upd_same, q1, q3, L1, L3, rfl, sum3⟩
        · exact ⟨t2, p3, p1, other, one, rfl, ((((x3.trans x4).trans x5).trans x6).trans x7) _ _ upd_same, q3, q1, L3, L1, sum3, rfl⟩
        · exact ⟨t3, p4, p1, far, one, rfl, (((x4.trans x5).trans x6).trans x7) _ _ upd_same, q4, q1, L4, L1, sum4, rfl⟩
        · exact ⟨t4, p1, p4, one, far, rfl, ((x5.trans x6).trans x7) _ _ upd_same, q1, q4, L1, L4, rfl, sum4⟩
        · exact ⟨t5, p4, p3, far, other, rfl, (x6.trans x7) _ _ upd_same, q4, q3, L4, L3, sum4, sum3⟩
        · exact ⟨t6, p1, p1, one, one, rfl, x7 _ _ upd_same, q1, q1, L1, L1, rfl, rfl⟩
      have gt : (upd (upd (upd (upd (upd (upd (upd H6 t1 (.tup [.ref p1, .ref p3])) t2 (.tup [.ref p3, .ref p1])) t3 (.tup [.ref p4, .ref p1])) t4 (.tup [.ref p1, .ref p4])) t5 (.tup [.ref p4, .ref p3])) t6 (.tup [.ref p1, .ref p1])) t (.tup [.ref t1, .ref t2, .ref t3, .ref t4, .ref t5, .ref t6])) t = some (.tup [.ref t1, .ref t2, .ref t3, .ref t4, .ref t5, .ref t6]) := upd_same
      generalize upd (upd (upd (upd (upd (upd (upd H6 t1 (.tup [.ref p1, .ref p3])) t2 (.tup [.ref p3, .ref p1])) t3 (.tup [.ref p4, .ref p1])) t4 (.tup [.ref p1, .ref p4])) t5 (.tup [.ref p4, .ref p3])) t6 (.tup [.ref p1, .ref p1])) t (.tup [.ref t1, .ref t2, .ref t3, .ref t4, .ref t5, .ref t6]) = H7 at x17 all gt ⊢
      refine ⟨t, rfl, ⟨_, SqT.of gt⟩, for_it (walk_tup (K := K) (a := t) (xs := [V.ref t1, .ref t2, .ref t3, .ref t4, .ref t5, .ref t6])) (fun i σ' H' => ∃ y1 y7 y8, σ' = [some (.ref a), y1, some (.ref d), some (.int ((n + 2 : Nat) : Int)), some (.ref p1), some (.ref p3), some (.ref p4), y7, y8, y9, y10, y11, none] ∧ Ex H7 H') ⟨_, _, _, by rw [← en]; rfl, Ex.refl _⟩ (fun i σ' H' _ hp => ?_) (fun i x σ' H' H8 hi hp hy => ?_) (fun σ' H' hp => ?_)⟩
      · obtain ⟨_, _, _, _, e⟩ := hp
        exact SqT.of (e _ _ gt)
      · obtain ⟨z1, z7, z8, rfl, e⟩ := hp
        obtain ⟨rfl, hx⟩ := hy
        obtain ⟨tx, pa, pb, la, lb, rfl, g1, g2, g3, g4, g5, g6, g7⟩ := (all x (List.mem_of_getElem? hx)).ex e
        refine ⟨tx, _, rfl, SqT.of g1, rfl, .ref pa, [_], rfl, .ref pb, [], rfl, rfl, ?_⟩
        refine ⟨_, rfl, pa, _, rfl, .inl ⟨SqL.of g2, fun u1 hu1 => ?_⟩⟩
        have v1 := Ex.new (o := .tup (la.map V.int)) hu1
        refine ⟨_, rfl, pb, _, rfl, .inl ⟨SqL.of (v1 _ _ g3), fun u2 hu2 => ?_⟩⟩
        have v2 := Ex.new (o := .tup (lb.map V.int)) hu2
        refine ⟨u1, u2, la, lb, rfl, v2 _ _ upd_same, upd_same, by rw [g4.len, g5.len], by rw [g6, g7], by rw [g4.len]; omega, by rw [g4.len]; omega, fun e he => ?_, g4.asc, g5.asc, fun H9 e9 => ⟨true, rfl, iteF ⟨_, _, _, rfl, e.trans ((v1.trans v2).trans e9)⟩⟩⟩
        rcases List.mem_append.mp he with h | h
        · exact g4.bd e h
        · exact g5.bd e h
      obtain ⟨z1, z7, z8, rfl, e⟩ := hp
      have eA := x17.trans e
      have h1A := eA _ _ h16
      have h3A := eA _ _ h36
      have h4A := eA _ _ h4
      have hdA := hd6.ex eA
      have kA := k16.trans (Keep.ex eA)
      refine ⟨_, rfl, p4, _, rfl, .inl ⟨SqL.of h4A, fun u1 hu1 => ?_⟩⟩
      have v1 := Ex.new (o := .tup (far.map V.int)) hu1
      refine ⟨_, rfl, p1, _, rfl, .inl ⟨SqL.of (v1 _ _ h1A), fun u2 hu2 => ?_⟩⟩
      have v2 := Ex.new (o := .tup (one.map V.int)) hu2
      refine ⟨u1, u2, far, one, rfl, v2 _ _ upd_same, upd_same, by omega, by omega, by omega, by omega, L4.short, L1.short, s4, s1, fun r H9 hr e9 => ?_⟩
      obtain rfl : r = true := hr.mpr ab4
      refine ⟨true, rfl, iteF ?_⟩
      have e19 := (v1.trans v2).trans e9
      refine ⟨_, rfl, p1, _, rfl, .inl ⟨SqL.of (e19 _ _ h1A), fun u3 hu3 => ?_⟩⟩
      have v3 := Ex.new (o := .tup (one.map V.int)) hu3
      refine ⟨_, rfl, p1, _, rfl, .inl ⟨SqL.of (v3 _ _ (e19 _ _ h1A)), fun u4 hu4 => ?_⟩⟩
      have v4 := Ex.new (o := .tup (one.map V.int)) hu4
      refine ⟨u3, u4, one, one, rfl, v4 _ _ upd_same, upd_same, rfl, rfl, by omega, by omega, L1.short, L1.short, s1, s1, fun r H10 hr2 e10 => ?_⟩
      obtain rfl : r = true := hr2.mpr fun c => Int.le_refl _
      refine ⟨true, rfl, iteF ?_⟩
      have eB := (e19.trans (v3.trans v4)).trans e10
      have hdB := hdA.ex eB
      have h1B := eB _ _ h1A
      have h3B := eB _ _ h3A
      refine ⟨_, rfl, d, _, rfl, hdB, by decide, by decide, fun r3 H11 r30 r31 hd11 k11 => ?_⟩
      refine ⟨_, _, rfl, rfl, .inl (by constructor <;> omega), _, _, rfl, rfl, 10, 48, rfl, rfl, ⟨by decide, by decide +kernel⟩, _, rfl, 10, 9, rfl, rfl, ⟨by decide, by decide +kernel⟩, d, _, rfl, hd11, by rw [pw9]; decide, by rw [pw9]; decide, fun r9 H12 r90 r91 hd12 k12 => ?_⟩
      rw [pw9] at r91
      refine ⟨_, _, rfl, rfl, _, _, rfl, rfl, .inl (by constructor <;> omega), ?_⟩
      obtain ⟨G, hG⟩ : ∃ G, G = (r3 * 2 - 1) * ((10 : Int) ^ (Int.toNat 48) + r9) := ⟨_, rfl⟩
      have bG : (G.natAbs : Int) ≤ 2 * 10 ^ 48 := by
        rw [hG, pw48]
        have : r3 = 0 ∨ r3 = 1 := by omega
        rcases this with rfl | rfl <;> omega
      have h1C := k12 _ _ np1 (k11 _ _ np1 h1B)
      have h3C := k12 _ _ np3 (k11 _ _ np3 h3B)
      have kC := ((kA.trans (Keep.ex eB)).trans k11).trans k12
      show gName 9 (V.int ((r3 * 2 - 1) * ((10 : Int) ^ (Int.toNat 48) + r9))) _ _ _
      rw [← hG]
      have mk : ∀ l : List Int, (List.range l.length).map (fun j => V.int (l.getD j 0 + G)) = (shf l G).map V.int := fun l => by
        rw [mapI]
        congr 1
        exact range_getD l fun e => e + G
      refine ⟨_, rfl, p1, rfl, ⟨_, SqL.of h1C⟩, fun Dl hDl => ?_⟩
      refine lc_listM (K := K) (fun j => V.int (one.getD j 0 + G)) hDl h1C (by rw [List.length_map]; omega) (fun j x Hq Qk hx e' qk => ?_) (fun H13 e13 h13 => ?_)
      · obtain ⟨hj, rfl⟩ := int_inv hx
        exact ⟨rfl, _, rfl, _, rfl, _, _, rfl, rfl, qk _ (Ex.refl _)⟩
      rw [List.length_map, mk one] at h13
      refine ⟨Dl, _, rfl, .inl ⟨SqL.of h13, fun m1 hm1 => ?_⟩⟩
      have y1' := Ex.new (o := .tup ((shf one G).map V.int)) hm1
      have g1 : (upd H13 m1 (.tup ((shf one G).map V.int))) m1 = some (.tup ((shf one G).map V.int)) := upd_same
      generalize upd H13 m1 (.tup ((shf one G).map V.int)) = H14 at y1' g1 ⊢
      have eC := e13.trans y1'
      refine ⟨_, rfl, p3, rfl, ⟨_, SqL.of (eC _ _ h3C)⟩, fun Dm hDm => ?_⟩
      refine lc_listM (K := K) (fun j => V.int (other.getD j 0 + G)) hDm (eC _ _ h3C) (by rw [List.length_map]; omega) (fun j x Hq Qk hx e' qk => ?_) (fun H15 e15 h15 => ?_)
      · obtain ⟨hj, rfl⟩ := int_inv hx
        exact ⟨rfl, _, rfl, _, rfl, _, _, rfl, rfl, qk _ (Ex.refl _)⟩
      rw [List.length_map, mk other] at h15
      refine ⟨Dm, _, rfl, .inl ⟨SqL.of h15, fun m2 hm2 => ?_⟩⟩
      have y2' := Ex.new (o := .tup ((shf other G).map V.int)) hm2
      have g2 : (upd H15 m2 (.tup ((shf other G).map V.int))) m2 = some (.tup ((shf other G).map V.int)) := upd_same
      generalize upd H15 m2 (.tup ((shf other G).map V.int)) = H16 at y2' g2 ⊢
      have eD := e15.trans y2'
      have g1D := eD _ _ g1
      have eCD := eC.trans eD
      have h1D := eCD _ _ h1C
      have h3D := eCD _ _ h3C
      have S1 : Short (shf one G) := short_shf L1.bd (by omega)
      have S3 : Short (shf other G) := short_shf L3.bd (by omega)
      have A1 := asc_shf G s1
      have A3 := asc_shf G s3
      have ln : (shf one G).length = n + 2 := by rw [shf_len, l1]
      have ln3 : (shf other G).length = n + 2 := by rw [shf_len, l3, l2]
      refine ⟨_, _, rfl, ?_⟩
      refine ⟨_, rfl, _, rfl, m1, m2, shf one G, shf other G, rfl, g1D, g2, by omega, by rw [sum_shf, sum_shf, sum3, l1, l3, l2], by omega, by omega, S1, S3, A1, A3, fun r Ha hr ea => ?_⟩
      refine ⟨_, rfl, p1, _, rfl, .inl ⟨SqL.of (ea _ _ h1D), fun u5 hu5 => ?_⟩⟩
      have w5 := Ex.new (o := .tup (one.map V.int)) hu5
      refine ⟨_, rfl, p3, _, rfl, .inl ⟨SqL.of (w5 _ _ (ea _ _ h3D)), fun u6 hu6 => ?_⟩⟩
      have w6 := Ex.new (o := .tup (other.map V.int)) hu6
      refine ⟨u5, u6, one, other, rfl, w6 _ _ upd_same, upd_same, by omega, by omega, by omega, by omega, L1.short, L3.short, s1, s3, fun r' Hb hr' eb => ?_⟩
      have err : r = r' := bool_iff hr (hr'.trans ⟨fun h c => by rw [tell_shf, tell_shf]; exact h _, fun h c => by
        have := h (c - G)
        rw [tell_shf, tell_shf, show c - G + G = c by omega] at this
        exact this⟩)
      subst err
      refine ⟨rfl, _, rfl, iteF' (by rw [decide_eq_true rfl]; rfl) ?_⟩
      have eF := (ea.trans (w5.trans w6)).trans eb
      have g1F := eF _ _ g1D
      have h1F := eF _ _ h1D
      refine ⟨_, rfl, m1, shf one G, rfl, g1F, by omega, by omega, S1, A1, fun Hc ec => ?_⟩
      refine ⟨_, rfl, p1, _, rfl, .inl ⟨SqL.of (ec _ _ h1F), fun u7 hu7 => ?_⟩⟩
      have w7 := Ex.new (o := .tup (one.map V.int)) hu7
      refine ⟨u7, one, rfl, upd_same, by omega, by omega, L1.short, s1, fun Hd ed => ?_⟩
      refine ⟨rfl, _, rfl, iteF' (by rw [dist_shf, decide_eq_true rfl]; rfl) ?_⟩
      have eG := (ec.trans w7).trans ed
      refine ⟨_, rfl, _, rfl, _, _, rfl, rfl, m1, shf one G, 0 - G, rfl, eG _ _ g1F, by omega, by omega, S1, A1, by omega, by omega, fun He ee => ?_⟩
      refine ⟨_, rfl, p1, _, rfl, .inl ⟨SqL.of ((eG.trans ee) _ _ h1F), fun u8 hu8 => ?_⟩⟩
      have w8 := Ex.new (o := .tup (one.map V.int)) hu8
      refine ⟨u8, one, 0, rfl, upd_same, by omega, by omega, L1.short, s1, by decide, by decide, fun Hf ef => ?_⟩
      refine ⟨rfl, _, rfl, iteF' (by rw [tell_shf, show 0 - G + G = (0 : Int) by omega, decide_eq_true rfl]; rfl) ?_⟩
      refine ⟨_, _, _, _, _, _, _, _, _, _, _, rfl, fin _ ?_⟩
      exact kC.trans (Keep.ex ((((eCD.trans eF).trans eG).trans (ee.trans w8)).trans ef))
    · obtain ⟨y1, y2, y3, y4, y5, y6, y7, y8, y9, y10, y11, rfl, hS'⟩ := hp
      exact q _
end
end K1

namespace K1
open PySem PySem.Spec PyProof.Rows L2
/-- what a def of the text leaves -/
theorem mk_def {K : PySem.W.Frag} {h : Heap} {mg : Str → Option Value} {x : Str} {st : Stmt} {ps : List Str} {f : Addr} {oc : Value} {od an : Option Addr} {osl : Array (Option Value)} {kV doc pm cdv ct : Value} (X : K.In h) (G : h.Ns mainGlobals mg)
    (a : PySem.W.nsIn K mainGlobals x = some (some (.ref f))) (l : K.lookup f = some ⟨oc, od, .func (PySem.W.fnOf x x (defArgs st) (defBody st) (defScope st) .none kV doc pm an cdv ct), osl⟩) (c : PySem.W.codeIn K cdv x = true) (k : PySem.W.keepIn K (.ref f) = true)
    (b : ∀ (kV doc pm : Value) (an : Option Addr) (cdv ct : Value) (us : List Value), us.length = ps.length → bindArgs (PySem.W.fnOf x x (defArgs st) (defBody st) (defScope st) .none kV doc pm an cdv ct) ⟨us, []⟩ = pure (ps.zip us)) :
    ∃ f fd, DefAt K mg x st ps f fd := ⟨f, _, ⟨fun_mk (st := st) l c k, PySem.W.mg_of X G a, (fun_mk (st := st) l c k).binds b⟩⟩
theorem all_mk {P : Program} {w : World} {K : PySem.W.Frag} {h : Heap} {mg : Str → Option Value} {fa : Addr} (X : K.In h) (G : h.Ns mainGlobals mg) (hfa : mg "law" = some (.ref fa)) (vBOUND : ∃ t, mg "BOUND" = some (.int (10 ^ 60) t)) (vSHORT_BOUND : ∃ t, mg "SHORT_BOUND" = some (.int (10 ^ 50) t))
    {tSIDE tMAX_ORDER tMOST_DISTANCE : Tok} (gSIDE : PySem.W.nsIn K mainGlobals "MOST_SIDE" = some (some (.int 60 tSIDE))) (gMAX_ORDER : PySem.W.nsIn K mainGlobals "MAX_ORDER" = some (some (.int 60 tMAX_ORDER))) (gMOST_DISTANCE : PySem.W.nsIn K mainGlobals "MOST_DISTANCE" = some (some (.int 12 tMOST_DISTANCE)))
    (z_abs : PySem.W.nsIn K mainGlobals "abs" = some none) (z_all : PySem.W.nsIn K mainGlobals "all" = some none) (z_bool : PySem.W.nsIn K mainGlobals "bool" = some none) (z_enumerate : PySem.W.nsIn K mainGlobals "enumerate" = some none) (z_int : PySem.W.nsIn K mainGlobals "int" = some none) (z_isinstance : PySem.W.nsIn K mainGlobals "isinstance" = some none) (z_len : PySem.W.nsIn K mainGlobals "len" = some none) (z_list : PySem.W.nsIn K mainGlobals "list" = some none) (z_max : PySem.W.nsIn K mainGlobals "max" = some none) (z_min : PySem.W.nsIn K mainGlobals "min" = some none) (z_range : PySem.W.nsIn K mainGlobals "range" = some none) (z_sorted : PySem.W.nsIn K mainGlobals "sorted" = some none) (z_sum : PySem.W.nsIn K mainGlobals "sum" = some none) (z_tuple : PySem.W.nsIn K mainGlobals "tuple" = some none)
    {f0 : Addr} {oc0 : Value} {od0 an0 : Option Addr} {sl0 : Array (Option Value)} {kV0 dc0 pm0 cd0 ct0 : Value}
    (a0 : PySem.W.nsIn K mainGlobals "is_integer" = some (some (.ref f0))) (l0 : K.lookup f0 = some ⟨oc0, od0, .func (PySem.W.fnOf "is_integer" "is_integer" (defArgs sIsInteger) (defBody sIsInteger) (defScope sIsInteger) .none kV0 dc0 pm0 an0 cd0 ct0), sl0⟩) (c0 : PySem.W.codeIn K cd0 "is_integer" = true) (k0 : PySem.W.keepIn K (.ref f0) = true)
    {f1 : Addr} {oc1 : Value} {od1 an1 : Option Addr} {sl1 : Array (Option Value)} {kV1 dc1 pm1 cd1 ct1 : Value}
    (a1 : PySem.W.nsIn K mainGlobals "is_between" = some (some (.ref f1))) (l1 : K.lookup f1 = some ⟨oc1, od1, .func (PySem.W.fnOf "is_between" "is_between" (defArgs sIsBetween) (defBody sIsBetween) (defScope sIsBetween) .none kV1 dc1 pm1 an1 cd1 ct1), sl1⟩) (c1 : PySem.W.codeIn K cd1 "is_between" = true) (k1 : PySem.W.keepIn K (.ref f1) = true)
    {f2 : Addr} {oc2 : Value} {od2 an2 : Option Addr} {sl2 : Array (Option Value)} {kV2 dc2 pm2 cd2 ct2 : Value}
    (a2 : PySem.W.nsIn K mainGlobals "is_short" = some (some (.ref f2))) (l2 : K.lookup f2 = some ⟨oc2, od2, .func (PySem.W.fnOf "is_short" "is_short" (defArgs sIsShort) (defBody sIsShort) (defScope sIsShort) .none kV2 dc2 pm2 an2 cd2 ct2), sl2⟩) (c2 : PySem.W.codeIn K cd2 "is_short" = true) (k2 : PySem.W.keepIn K (.ref f2) = true)
    {f3 : Addr} {oc3 : Value} {od3 an3 : Option Addr} {sl3 : Array (Option Value)} {kV3 dc3 pm3 cd3 ct3 : Value}
    (a3 : PySem.W.nsIn K mainGlobals "are_short" = some (some (.ref f3))) (l3 : K.lookup f3 = some ⟨oc3, od3, .func (PySem.W.fnOf "are_short" "are_short" (defArgs sAreShort) (defBody sAreShort) (defScope sAreShort) .none kV3 dc3 pm3 an3 cd3 ct3), sl3⟩) (c3 : PySem.W.codeIn K cd3 "are_short" = true) (k3 : PySem.W.keepIn K (.ref f3) = true)
    {f4 : Addr} {oc4 : Value} {od4 an4 : Option Addr} {sl4 : Array (Option Value)} {kV4 dc4 pm4 cd4 ct4 : Value}
    (a4 : PySem.W.nsIn K mainGlobals "check_between" = some (some (.ref f4))) (l4 : K.lookup f4 = some ⟨oc4, od4, .func (PySem.W.fnOf "check_between" "check_between" (defArgs sCheckBetween) (defBody sCheckBetween) (defScope sCheckBetween) .none kV4 dc4 pm4 an4 cd4 ct4), sl4⟩) (c4 : PySem.W.codeIn K cd4 "check_between" = true) (k4 : PySem.W.keepIn K (.ref f4) = true)
    {f5 : Addr} {oc5 : Value} {od5 an5 : Option Addr} {sl5 : Array (Option Value)} {kV5 dc5 pm5 cd5 ct5 : Value}
    (a5 : PySem.W.nsIn K mainGlobals "check_up_to" = some (some (.ref f5))) (l5 : K.lookup f5 = some ⟨oc5, od5, .func (PySem.W.fnOf "check_up_to" "check_up_to" (defArgs sCheckUpTo) (defBody sCheckUpTo) (defScope sCheckUpTo) .none kV5 dc5 pm5 an5 cd5 ct5), sl5⟩) (c5 : PySem.W.codeIn K cd5 "check_up_to" = true) (k5 : PySem.W.keepIn K (.ref f5) = true)
    {f6 : Addr} {oc6 : Value} {od6 an6 : Option Addr} {sl6 : Array (Option Value)} {kV6 dc6 pm6 cd6 ct6 : Value}
    (a6 : PySem.W.nsIn K mainGlobals "is_heap" = some (some (.ref f6))) (l6 : K.lookup f6 = some ⟨oc6, od6, .func (PySem.W.fnOf "is_heap" "is_heap" (defArgs sIsHeap) (defBody sIsHeap) (defScope sIsHeap) .none kV6 dc6 pm6 an6 cd6 ct6), sl6⟩) (c6 : PySem.W.codeIn K cd6 "is_heap" = true) (k6 : PySem.W.keepIn K (.ref f6) = true)
    {f7 : Addr} {oc7 : Value} {od7 an7 : Option Addr} {sl7 : Array (Option Value)} {kV7 dc7 pm7 cd7 ct7 : Value}
    (a7 : PySem.W.nsIn K mainGlobals "check_heap" = some (some (.ref f7))) (l7 : K.lookup f7 = some ⟨oc7, od7, .func (PySem.W.fnOf "check_heap" "check_heap" (defArgs sCheckHeap) (defBody sCheckHeap) (defScope sCheckHeap) .none kV7 dc7 pm7 an7 cd7 ct7), sl7⟩) (c7 : PySem.W.codeIn K cd7 "check_heap" = true) (k7 : PySem.W.keepIn K (.ref f7) = true)
    {f8 : Addr} {oc8 : Value} {od8 an8 : Option Addr} {sl8 : Array (Option Value)} {kV8 dc8 pm8 cd8 ct8 : Value}
    (a8 : PySem.W.nsIn K mainGlobals "check_heaps" = some (some (.ref f8))) (l8 : K.lookup f8 = some ⟨oc8, od8, .func (PySem.W.fnOf "check_heaps" "check_heaps" (defArgs sCheckHeaps) (defBody sCheckHeaps) (defScope sCheckHeaps) .none kV8 dc8 pm8 an8 cd8 ct8), sl8⟩) (c8 : PySem.W.codeIn K cd8 "check_heaps" = true) (k8 : PySem.W.keepIn K (.ref f8) = true)
    {f9 : Addr} {oc9 : Value} {od9 an9 : Option Addr} {sl9 : Array (Option Value)} {kV9 dc9 pm9 cd9 ct9 : Value}
    (a9 : PySem.W.nsIn K mainGlobals "height_at" = some (some (.ref f9))) (l9 : K.lookup f9 = some ⟨oc9, od9, .func (PySem.W.fnOf "height_at" "height_at" (defArgs sHeightAt) (defBody sHeightAt) (defScope sHeightAt) .none kV9 dc9 pm9 an9 cd9 ct9), sl9⟩) (c9 : PySem.W.codeIn K cd9 "height_at" = true) (k9 : PySem.W.keepIn K (.ref f9) = true)
    {f10 : Addr} {oc10 : Value} {od10 an10 : Option Addr} {sl10 : Array (Option Value)} {kV10 dc10 pm10 cd10 ct10 : Value}
    (a10 : PySem.W.nsIn K mainGlobals "holds" = some (some (.ref f10))) (l10 : K.lookup f10 = some ⟨oc10, od10, .func (PySem.W.fnOf "holds" "holds" (defArgs sHolds) (defBody sHolds) (defScope sHolds) .none kV10 dc10 pm10 an10 cd10 ct10), sl10⟩) (c10 : PySem.W.codeIn K cd10 "holds" = true) (k10 : PySem.W.keepIn K (.ref f10) = true)
    {f11 : Addr} {oc11 : Value} {od11 an11 : Option Addr} {sl11 : Array (Option Value)} {kV11 dc11 pm11 cd11 ct11 : Value}
    (a11 : PySem.W.nsIn K mainGlobals "box" = some (some (.ref f11))) (l11 : K.lookup f11 = some ⟨oc11, od11, .func (PySem.W.fnOf "box" "box" (defArgs sBox) (defBody sBox) (defScope sBox) .none kV11 dc11 pm11 an11 cd11 ct11), sl11⟩) (c11 : PySem.W.codeIn K cd11 "box" = true) (k11 : PySem.W.keepIn K (.ref f11) = true)
    {f12 : Addr} {oc12 : Value} {od12 an12 : Option Addr} {sl12 : Array (Option Value)} {kV12 dc12 pm12 cd12 ct12 : Value}
    (a12 : PySem.W.nsIn K mainGlobals "is_held" = some (some (.ref f12))) (l12 : K.lookup f12 = some ⟨oc12, od12, .func (PySem.W.fnOf "is_held" "is_held" (defArgs sIsHeld) (defBody sIsHeld) (defScope sIsHeld) .none kV12 dc12 pm12 an12 cd12 ct12), sl12⟩) (c12 : PySem.W.codeIn K cd12 "is_held" = true) (k12 : PySem.W.keepIn K (.ref f12) = true)
    {f13 : Addr} {oc13 : Value} {od13 an13 : Option Addr} {sl13 : Array (Option Value)} {kV13 dc13 pm13 cd13 ct13 : Value}
    (a13 : PySem.W.nsIn K mainGlobals "union_of" = some (some (.ref f13))) (l13 : K.lookup f13 = some ⟨oc13, od13, .func (PySem.W.fnOf "union_of" "union_of" (defArgs sUnionOf) (defBody sUnionOf) (defScope sUnionOf) .none kV13 dc13 pm13 an13 cd13 ct13), sl13⟩) (c13 : PySem.W.codeIn K cd13 "union_of" = true) (k13 : PySem.W.keepIn K (.ref f13) = true)
    {f14 : Addr} {oc14 : Value} {od14 an14 : Option Addr} {sl14 : Array (Option Value)} {kV14 dc14 pm14 cd14 ct14 : Value}
    (a14 : PySem.W.nsIn K mainGlobals "is_levels" = some (some (.ref f14))) (l14 : K.lookup f14 = some ⟨oc14, od14, .func (PySem.W.fnOf "is_levels" "is_levels" (defArgs sIsLevels) (defBody sIsLevels) (defScope sIsLevels) .none kV14 dc14 pm14 an14 cd14 ct14), sl14⟩) (c14 : PySem.W.codeIn K cd14 "is_levels" = true) (k14 : PySem.W.keepIn K (.ref f14) = true)
    {f15 : Addr} {oc15 : Value} {od15 an15 : Option Addr} {sl15 : Array (Option Value)} {kV15 dc15 pm15 cd15 ct15 : Value}
    (a15 : PySem.W.nsIn K mainGlobals "check_levels" = some (some (.ref f15))) (l15 : K.lookup f15 = some ⟨oc15, od15, .func (PySem.W.fnOf "check_levels" "check_levels" (defArgs sCheckLevels) (defBody sCheckLevels) (defScope sCheckLevels) .none kV15 dc15 pm15 an15 cd15 ct15), sl15⟩) (c15 : PySem.W.codeIn K cd15 "check_levels" = true) (k15 : PySem.W.keepIn K (.ref f15) = true)
    {f16 : Addr} {oc16 : Value} {od16 an16 : Option Addr} {sl16 : Array (Option Value)} {kV16 dc16 pm16 cd16 ct16 : Value}
    (a16 : PySem.W.nsIn K mainGlobals "check_like_levels" = some (some (.ref f16))) (l16 : K.lookup f16 = some ⟨oc16, od16, .func (PySem.W.fnOf "check_like_levels" "check_like_levels" (defArgs sCheckLikeLevels) (defBody sCheckLikeLevels) (defScope sCheckLikeLevels) .none kV16 dc16 pm16 an16 cd16 ct16), sl16⟩) (c16 : PySem.W.codeIn K cd16 "check_like_levels" = true) (k16 : PySem.W.keepIn K (.ref f16) = true)
    {f17 : Addr} {oc17 : Value} {od17 an17 : Option Addr} {sl17 : Array (Option Value)} {kV17 dc17 pm17 cd17 ct17 : Value}
    (a17 : PySem.W.nsIn K mainGlobals "distance_in" = some (some (.ref f17))) (l17 : K.lookup f17 = some ⟨oc17, od17, .func (PySem.W.fnOf "distance_in" "distance_in" (defArgs sDistanceIn) (defBody sDistanceIn) (defScope sDistanceIn) .none kV17 dc17 pm17 an17 cd17 ct17), sl17⟩) (c17 : PySem.W.codeIn K cd17 "distance_in" = true) (k17 : PySem.W.keepIn K (.ref f17) = true)
    {f18 : Addr} {oc18 : Value} {od18 an18 : Option Addr} {sl18 : Array (Option Value)} {kV18 dc18 pm18 cd18 ct18 : Value}
    (a18 : PySem.W.nsIn K mainGlobals "distance" = some (some (.ref f18))) (l18 : K.lookup f18 = some ⟨oc18, od18, .func (PySem.W.fnOf "distance" "distance" (defArgs sDistance) (defBody sDistance) (defScope sDistance) .none kV18 dc18 pm18 an18 cd18 ct18), sl18⟩) (c18 : PySem.W.codeIn K cd18 "distance" = true) (k18 : PySem.W.keepIn K (.ref f18) = true)
    {f19 : Addr} {oc19 : Value} {od19 an19 : Option Addr} {sl19 : Array (Option Value)} {kV19 dc19 pm19 cd19 ct19 : Value}
    (a19 : PySem.W.nsIn K mainGlobals "columns_at" = some (some (.ref f19))) (l19 : K.lookup f19 = some ⟨oc19, od19, .func (PySem.W.fnOf "columns_at" "columns_at" (defArgs sColumnsAt) (defBody sColumnsAt) (defScope sColumnsAt) .none kV19 dc19 pm19 an19 cd19 ct19), sl19⟩) (c19 : PySem.W.codeIn K cd19 "columns_at" = true) (k19 : PySem.W.keepIn K (.ref f19) = true)
    {f20 : Addr} {oc20 : Value} {od20 an20 : Option Addr} {sl20 : Array (Option Value)} {kV20 dc20 pm20 cd20 ct20 : Value}
    (a20 : PySem.W.nsIn K mainGlobals "rows_at" = some (some (.ref f20))) (l20 : K.lookup f20 = some ⟨oc20, od20, .func (PySem.W.fnOf "rows_at" "rows_at" (defArgs sRowsAt) (defBody sRowsAt) (defScope sRowsAt) .none kV20 dc20 pm20 an20 cd20 ct20), sl20⟩) (c20 : PySem.W.codeIn K cd20 "rows_at" = true) (k20 : PySem.W.keepIn K (.ref f20) = true)
    {f21 : Addr} {oc21 : Value} {od21 an21 : Option Addr} {sl21 : Array (Option Value)} {kV21 dc21 pm21 cd21 ct21 : Value}
    (a21 : PySem.W.nsIn K mainGlobals "level_richness" = some (some (.ref f21))) (l21 : K.lookup f21 = some ⟨oc21, od21, .func (PySem.W.fnOf "level_richness" "level_richness" (defArgs sLevelRichness) (defBody sLevelRichness) (defScope sLevelRichness) .none kV21 dc21 pm21 an21 cd21 ct21), sl21⟩) (c21 : PySem.W.codeIn K cd21 "level_richness" = true) (k21 : PySem.W.keepIn K (.ref f21) = true)
    {f22 : Addr} {oc22 : Value} {od22 an22 : Option Addr} {sl22 : Array (Option Value)} {kV22 dc22 pm22 cd22 ct22 : Value}
    (a22 : PySem.W.nsIn K mainGlobals "are_above" = some (some (.ref f22))) (l22 : K.lookup f22 = some ⟨oc22, od22, .func (PySem.W.fnOf "are_above" "are_above" (defArgs sAreAbove) (defBody sAreAbove) (defScope sAreAbove) .none kV22 dc22 pm22 an22 cd22 ct22), sl22⟩) (c22 : PySem.W.codeIn K cd22 "are_above" = true) (k22 : PySem.W.keepIn K (.ref f22) = true)
    {f23 : Addr} {oc23 : Value} {od23 an23 : Option Addr} {sl23 : Array (Option Value)} {kV23 dc23 pm23 cd23 ct23 : Value}
    (a23 : PySem.W.nsIn K mainGlobals "core_with_levels" = some (some (.ref f23))) (l23 : K.lookup f23 = some ⟨oc23, od23, .func (PySem.W.fnOf "core_with_levels" "core_with_levels" (defArgs sCoreWithLevels) (defBody sCoreWithLevels) (defScope sCoreWithLevels) .none kV23 dc23 pm23 an23 cd23 ct23), sl23⟩) (c23 : PySem.W.codeIn K cd23 "core_with_levels" = true) (k23 : PySem.W.keepIn K (.ref f23) = true)
    {f24 : Addr} {oc24 : Value} {od24 an24 : Option Addr} {sl24 : Array (Option Value)} {kV24 dc24 pm24 cd24 ct24 : Value}
    (a24 : PySem.W.nsIn K mainGlobals "core_of_levels" = some (some (.ref f24))) (l24 : K.lookup f24 = some ⟨oc24, od24, .func (PySem.W.fnOf "core_of_levels" "core_of_levels" (defArgs sCoreOfLevels) (defBody sCoreOfLevels) (defScope sCoreOfLevels) .none kV24 dc24 pm24 an24 cd24 ct24), sl24⟩) (c24 : PySem.W.codeIn K cd24 "core_of_levels" = true) (k24 : PySem.W.keepIn K (.ref f24) = true)
    {f25 : Addr} {oc25 : Value} {od25 an25 : Option Addr} {sl25 : Array (Option Value)} {kV25 dc25 pm25 cd25 ct25 : Value}
    (a25 : PySem.W.nsIn K mainGlobals "_law_dice" = some (some (.ref f25))) (l25 : K.lookup f25 = some ⟨oc25, od25, .func (PySem.W.fnOf "_law_dice" "_law_dice" (defArgs sLDice) (defBody sLDice) (defScope sLDice) .none kV25 dc25 pm25 an25 cd25 ct25), sl25⟩) (c25 : PySem.W.codeIn K cd25 "_law_dice" = true) (k25 : PySem.W.keepIn K (.ref f25) = true)
    {f26 : Addr} {oc26 : Value} {od26 an26 : Option Addr} {sl26 : Array (Option Value)} {kV26 dc26 pm26 cd26 ct26 : Value}
    (a26 : PySem.W.nsIn K mainGlobals "_law_roll" = some (some (.ref f26))) (l26 : K.lookup f26 = some ⟨oc26, od26, .func (PySem.W.fnOf "_law_roll" "_law_roll" (defArgs sLRoll) (defBody sLRoll) (defScope sLRoll) .none kV26 dc26 pm26 an26 cd26 ct26), sl26⟩) (c26 : PySem.W.codeIn K cd26 "_law_roll" = true) (k26 : PySem.W.keepIn K (.ref f26) = true)
    {f27 : Addr} {oc27 : Value} {od27 an27 : Option Addr} {sl27 : Array (Option Value)} {kV27 dc27 pm27 cd27 ct27 : Value}
    (a27 : PySem.W.nsIn K mainGlobals "_law_one_of" = some (some (.ref f27))) (l27 : K.lookup f27 = some ⟨oc27, od27, .func (PySem.W.fnOf "_law_one_of" "_law_one_of" (defArgs sLOneOf) (defBody sLOneOf) (defScope sLOneOf) .none kV27 dc27 pm27 an27 cd27 ct27), sl27⟩) (c27 : PySem.W.codeIn K cd27 "_law_one_of" = true) (k27 : PySem.W.keepIn K (.ref f27) = true)
    {f28 : Addr} {oc28 : Value} {od28 an28 : Option Addr} {sl28 : Array (Option Value)} {kV28 dc28 pm28 cd28 ct28 : Value}
    (a28 : PySem.W.nsIn K mainGlobals "_law_mixed" = some (some (.ref f28))) (l28 : K.lookup f28 = some ⟨oc28, od28, .func (PySem.W.fnOf "_law_mixed" "_law_mixed" (defArgs sLMixed) (defBody sLMixed) (defScope sLMixed) .none kV28 dc28 pm28 an28 cd28 ct28), sl28⟩) (c28 : PySem.W.codeIn K cd28 "_law_mixed" = true) (k28 : PySem.W.keepIn K (.ref f28) = true)
    {f29 : Addr} {oc29 : Value} {od29 an29 : Option Addr} {sl29 : Array (Option Value)} {kV29 dc29 pm29 cd29 ct29 : Value}
    (a29 : PySem.W.nsIn K mainGlobals "_law_distance" = some (some (.ref f29))) (l29 : K.lookup f29 = some ⟨oc29, od29, .func (PySem.W.fnOf "_law_distance" "_law_distance" (defArgs sLDistance) (defBody sLDistance) (defScope sLDistance) .none kV29 dc29 pm29 an29 cd29 ct29), sl29⟩) (c29 : PySem.W.codeIn K cd29 "_law_distance" = true) (k29 : PySem.W.keepIn K (.ref f29) = true)
    {f30 : Addr} {oc30 : Value} {od30 an30 : Option Addr} {sl30 : Array (Option Value)} {kV30 dc30 pm30 cd30 ct30 : Value}
    (a30 : PySem.W.nsIn K mainGlobals "_law_drawn_levels" = some (some (.ref f30))) (l30 : K.lookup f30 = some ⟨oc30, od30, .func (PySem.W.fnOf "_law_drawn_levels" "_law_drawn_levels" (defArgs sLDrawnLevels) (defBody sLDrawnLevels) (defScope sLDrawnLevels) .none kV30 dc30 pm30 an30 cd30 ct30), sl30⟩) (c30 : PySem.W.codeIn K cd30 "_law_drawn_levels" = true) (k30 : PySem.W.keepIn K (.ref f30) = true)
    {f31 : Addr} {oc31 : Value} {od31 an31 : Option Addr} {sl31 : Array (Option Value)} {kV31 dc31 pm31 cd31 ct31 : Value}
    (a31 : PySem.W.nsIn K mainGlobals "_law_of_sum" = some (some (.ref f31))) (l31 : K.lookup f31 = some ⟨oc31, od31, .func (PySem.W.fnOf "_law_of_sum" "_law_of_sum" (defArgs sLOfSum) (defBody sLOfSum) (defScope sLOfSum) .none kV31 dc31 pm31 an31 cd31 ct31), sl31⟩) (c31 : PySem.W.codeIn K cd31 "_law_of_sum" = true) (k31 : PySem.W.keepIn K (.ref f31) = true)
    {f32 : Addr} {oc32 : Value} {od32 an32 : Option Addr} {sl32 : Array (Option Value)} {kV32 dc32 pm32 cd32 ct32 : Value}
    (a32 : PySem.W.nsIn K mainGlobals "_law_apart" = some (some (.ref f32))) (l32 : K.lookup f32 = some ⟨oc32, od32, .func (PySem.W.fnOf "_law_apart" "_law_apart" (defArgs sLApart) (defBody sLApart) (defScope sLApart) .none kV32 dc32 pm32 an32 cd32 ct32), sl32⟩) (c32 : PySem.W.codeIn K cd32 "_law_apart" = true) (k32 : PySem.W.keepIn K (.ref f32) = true)
    {f33 : Addr} {oc33 : Value} {od33 an33 : Option Addr} {sl33 : Array (Option Value)} {kV33 dc33 pm33 cd33 ct33 : Value}
    (a33 : PySem.W.nsIn K mainGlobals "_law_pair_right" = some (some (.ref f33))) (l33 : K.lookup f33 = some ⟨oc33, od33, .func (PySem.W.fnOf "_law_pair_right" "_law_pair_right" (defArgs sLPairRight) (defBody sLPairRight) (defScope sLPairRight) .none kV33 dc33 pm33 an33 cd33 ct33), sl33⟩) (c33 : PySem.W.codeIn K cd33 "_law_pair_right" = true) (k33 : PySem.W.keepIn K (.ref f33) = true)
    {f34 : Addr} {oc34 : Value} {od34 an34 : Option Addr} {sl34 : Array (Option Value)} {kV34 dc34 pm34 cd34 ct34 : Value}
    (a34 : PySem.W.nsIn K mainGlobals "law" = some (some (.ref f34))) (l34 : K.lookup f34 = some ⟨oc34, od34, .func (PySem.W.fnOf "law" "law" (defArgs sLaw) (defBody sLaw) (defScope sLaw) .none kV34 dc34 pm34 an34 cd34 ct34), sl34⟩) (c34 : PySem.W.codeIn K cd34 "law" = true) (k34 : PySem.W.keepIn K (.ref f34) = true) :
    ∃ fd : FuncData, (∀ (s : Shared) (v : Value), BindsTo s fd ⟨[v], []⟩ [("_law_script", v)]) ∧ ∀ base : Heap, K.In base → base.Ns mainGlobals mg → FnOk P w K mg base CX0 10 fa fd ["_law_script"] (spLaw K) := by
  have e := hfa.symm.trans (PySem.W.mg_of X G a34)
  cases e
  have T : Txt K mg :=
    { z_abs := PySem.W.mg_none_of X G z_abs, z_all := PySem.W.mg_none_of X G z_all, z_bool := PySem.W.mg_none_of X G z_bool, z_enumerate := PySem.W.mg_none_of X G z_enumerate, z_int := PySem.W.mg_none_of X G z_int, z_isinstance := PySem.W.mg_none_of X G z_isinstance, z_len := PySem.W.mg_none_of X G z_len, z_list := PySem.W.mg_none_of X G z_list, z_max := PySem.W.mg_none_of X G z_max, z_min := PySem.W.mg_none_of X G z_min, z_range := PySem.W.mg_none_of X G z_range, z_sorted := PySem.W.mg_none_of X G z_sorted, z_sum := PySem.W.mg_none_of X G z_sum, z_tuple := PySem.W.mg_none_of X G z_tuple, v_BOUND := vBOUND, v_SHORT_BOUND := vSHORT_BOUND, v_SIDE := ⟨tSIDE, PySem.W.mg_of X G gSIDE⟩, v_MAX_ORDER := ⟨tMAX_ORDER, PySem.W.mg_of X G gMAX_ORDER⟩, v_MOST_DISTANCE := ⟨tMOST_DISTANCE, PySem.W.mg_of X G gMOST_DISTANCE⟩,
      d_is_integer := mk_def (ps := ["value"]) X G a0 l0 c0 k0 fun _ _ _ _ _ _ us hl => match us, hl with | [_], _ => rfl,
      d_is_between := mk_def (ps := ["value", "low", "high"]) X G a1 l1 c1 k1 fun _ _ _ _ _ _ us hl => match us, hl with | [_, _, _], _ => rfl,
      d_is_short := mk_def (ps := ["value"]) X G a2 l2 c2 k2 fun _ _ _ _ _ _ us hl => match us, hl with | [_], _ => rfl,
      d_are_short := mk_def (ps := ["numbers"]) X G a3 l3 c3 k3 fun _ _ _ _ _ _ us hl => match us, hl with | [_], _ => rfl,
      d_check_between := mk_def (ps := ["value", "low", "high"]) X G a4 l4 c4 k4 fun _ _ _ _ _ _ us hl => match us, hl with | [_, _, _], _ => rfl,
      d_check_up_to := mk_def (ps := ["value", "high"]) X G a5 l5 c5 k5 fun _ _ _ _ _ _ us hl => match us, hl with | [_, _], _ => rfl,
      d_is_heap := mk_def (ps := ["value"]) X G a6 l6 c6 k6 fun _ _ _ _ _ _ us hl => match us, hl with | [_], _ => rfl,
      d_check_heap := mk_def (ps := ["heap"]) X G a7 l7 c7 k7 fun _ _ _ _ _ _ us hl => match us, hl with | [_], _ => rfl,
      d_check_heaps := mk_def (ps := ["one", "other"]) X G a8 l8 c8 k8 fun _ _ _ _ _ _ us hl => match us, hl with | [_, _], _ => rfl,
      d_height_at := mk_def (ps := ["heap", "column"]) X G a9 l9 c9 k9 fun _ _ _ _ _ _ us hl => match us, hl with | [_, _], _ => rfl,
      d_holds := mk_def (ps := ["heap", "other"]) X G a10 l10 c10 k10 fun _ _ _ _ _ _ us hl => match us, hl with | [_, _], _ => rfl,
      d_box := mk_def (ps := ["columns", "rows"]) X G a11 l11 c11 k11 fun _ _ _ _ _ _ us hl => match us, hl with | [_, _], _ => rfl,
      d_is_held := mk_def (ps := ["heap", "other"]) X G a12 l12 c12 k12 fun _ _ _ _ _ _ us hl => match us, hl with | [_, _], _ => rfl,
      d_union_of := mk_def (ps := ["one", "other"]) X G a13 l13 c13 k13 fun _ _ _ _ _ _ us hl => match us, hl with | [_, _], _ => rfl,
      d_is_levels := mk_def (ps := ["value"]) X G a14 l14 c14 k14 fun _ _ _ _ _ _ us hl => match us, hl with | [_], _ => rfl,
      d_check_levels := mk_def (ps := ["levels"]) X G a15 l15 c15 k15 fun _ _ _ _ _ _ us hl => match us, hl with | [_], _ => rfl,
      d_check_like_levels := mk_def (ps := ["levels", "many"]) X G a16 l16 c16 k16 fun _ _ _ _ _ _ us hl => match us, hl with | [_, _], _ => rfl,
      d_distance_in := mk_def (ps := ["levels"]) X G a17 l17 c17 k17 fun _ _ _ _ _ _ us hl => match us, hl with | [_], _ => rfl,
      d_distance := mk_def (ps := ["levels"]) X G a18 l18 c18 k18 fun _ _ _ _ _ _ us hl => match us, hl with | [_], _ => rfl,
      d_columns_at := mk_def (ps := ["levels", "c"]) X G a19 l19 c19 k19 fun _ _ _ _ _ _ us hl => match us, hl with | [_, _], _ => rfl,
      d_rows_at := mk_def (ps := ["levels", "c"]) X G a20 l20 c20 k20 fun _ _ _ _ _ _ us hl => match us, hl with | [_, _], _ => rfl,
      d_level_richness := mk_def (ps := ["levels", "c"]) X G a21 l21 c21 k21 fun _ _ _ _ _ _ us hl => match us, hl with | [_, _], _ => rfl,
      d_are_above := mk_def (ps := ["one", "other"]) X G a22 l22 c22 k22 fun _ _ _ _ _ _ us hl => match us, hl with | [_, _], _ => rfl,
      d_core_with_levels := mk_def (ps := ["levels"]) X G a23 l23 c23 k23 fun _ _ _ _ _ _ us hl => match us, hl with | [_], _ => rfl,
      d_core_of_levels := mk_def (ps := ["levels"]) X G a24 l24 c24 k24 fun _ _ _ _ _ _ us hl => match us, hl with | [_], _ => rfl,
      d_l_dice := mk_def (ps := ["_law_script", "_law_at"]) X G a25 l25 c25 k25 fun _ _ _ _ _ _ us hl => match us, hl with | [_, _], _ => rfl,
      d_l_roll := mk_def (ps := ["_law_dice_here", "_law_total"]) X G a26 l26 c26 k26 fun _ _ _ _ _ _ us hl => match us, hl with | [_, _], _ => rfl,
      d_l_one_of := mk_def (ps := ["_law_dice_here", "_law_items"]) X G a27 l27 c27 k27 fun _ _ _ _ _ _ us hl => match us, hl with | [_, _], _ => rfl,
      d_l_mixed := mk_def (ps := ["_law_dice_here", "_law_items"]) X G a28 l28 c28 k28 fun _ _ _ _ _ _ us hl => match us, hl with | [_, _], _ => rfl,
      d_l_distance := mk_def (ps := ["_law_levels"]) X G a29 l29 c29 k29 fun _ _ _ _ _ _ us hl => match us, hl with | [_], _ => rfl,
      d_l_drawn_levels := mk_def (ps := ["_law_dice_here", "_law_k"]) X G a30 l30 c30 k30 fun _ _ _ _ _ _ us hl => match us, hl with | [_, _], _ => rfl,
      d_l_of_sum := mk_def (ps := ["_law_dice_here", "_law_levels", "_law_total"]) X G a31 l31 c31 k31 fun _ _ _ _ _ _ us hl => match us, hl with | [_, _, _], _ => rfl,
      d_l_apart := mk_def (ps := ["_law_dice_here", "_law_levels"]) X G a32 l32 c32 k32 fun _ _ _ _ _ _ us hl => match us, hl with | [_, _], _ => rfl,
      d_l_pair_right := mk_def (ps := ["_law_one", "_law_other"]) X G a33 l33 c33 k33 fun _ _ _ _ _ _ us hl => match us, hl with | [_, _], _ => rfl }
  have F := fun_mk (st := sLaw) l34 c34 k34
  exact ⟨PySem.W.fnOf "law" "law" (defArgs sLaw) (defBody sLaw) (defScope sLaw) .none kV34 dc34 pm34 an34 cd34 ct34, fun s v => .of_eq rfl, fun base _ _ => ok_law T F⟩
/-- the end of the law's row, what the loose names hold told -/
theorem walk_x {l : PySem.W.OpenLaw} {k : Nat} {q : Program} {loose : List Str} {lv : List (Str × PySem.W.WData)} {YP : World → Heap → Prop} {d : DefRec} {K : Params → PySem.W.Frag}
    (hn : l.most = some 63) (hdf : d.params.defaults = []) (hr : Room k callerA) (hY : ∀ (w : World) (h : Heap), YP w h → (K w.params).In h)
    (F : ∀ (w : World) (mg : Str → Option Value) (fa : Addr) (h : Heap), (K w.params).In h → h.Ns mainGlobals mg → PySem.W.XL q lv mg h → mg d.name = some (.ref fa) →
      ∃ fd : FuncData, (∀ (s : Shared) (u : Value), BindsTo s fd ⟨[u], []⟩ [("_law_script", u)]) ∧
        ∀ base : Heap, (K w.params).In base → base.Ns mainGlobals mg → FnOk l.prog w (K w.params) mg base CX0 k fa fd ["_law_script"] (spLaw (K w.params))) :
    PySem.W.WalkO q loose (PySem.W.XL q lv) YP l.row.toRowW d [] (fun f vs => PySem.call f vs) := by
  refine Att.attach_call hn hdf fun w s₀ s₁ mg mb fa o pm cd doc a vs ns G Y ho hd hcd hmg hobj hints hlen hg => ?_
  obtain ⟨fd, hb, hF⟩ := F w mg fa _ (hY w _ Y) G.T.g G.X hmg
  exact law_call (hY w _ Y) G.T.g G.T.b G.T.builtins G.T.nolimit hg hobj hints (Nat.le_trans hlen (by decide)) hr hF hb (fun H _ hS => ⟨a, ns, rfl, hS, hlen, fun _ => rfl⟩) fun H e s' z => z
end K1

open PySem PySem.W PyProof.Rows
set_option maxHeartbeats 0 in
theorem PySem.Challenge.cw_ringstairs_k72_whole_levels_above_others_holds : PySem.Challenge.rw_ringstairs_k72_whole_levels_above_others.Holds := by
  w_on; o_law; k_head; (case hw => w_witness2)
  k_fill
  refine K1.walk_x (k := 10) rfl rfl ⟨rfl, by decide, by decide⟩ (fun w h Y => PySem.W.kIn_of Y) ?F
  case F =>
    intro w mg fa h KX G XF hmg
    have vBOUND : ∃ t, mg "BOUND" = some (.int (10 ^ 60) t) := by
      obtain ⟨v, e1, e2⟩ := XF.2.val _ (List.mem_cons_self ..)
      cases e2
      exact ⟨_, e1⟩
    have vSHORT_BOUND : ∃ t, mg "SHORT_BOUND" = some (.int (10 ^ 50) t) := by
      obtain ⟨v, e1, e2⟩ := XF.2.val _ (List.mem_cons_of_mem _ (List.mem_cons_self ..))
      cases e2
      exact ⟨_, e1⟩
    refine' K1.all_mk KX G hmg vBOUND vSHORT_BOUND ?gSIDE ?gMAX_ORDER ?gMOST_DISTANCE ?z_abs ?z_all ?z_bool ?z_enumerate ?z_int ?z_isinstance ?z_len ?z_list ?z_max ?z_min ?z_range ?z_sorted ?z_sum ?z_tuple ?a0 ?l0 ?c0 ?k0 ?a1 ?l1 ?c1 ?k1 ?a2 ?l2 ?c2 ?k2 ?a3 ?l3 ?c3 ?k3 ?a4 ?l4 ?c4 ?k4 ?a5 ?l5 ?c5 ?k5 ?a6 ?l6 ?c6 ?k6 ?a7 ?l7 ?c7 ?k7 ?a8 ?l8 ?c8 ?k8 ?a9 ?l9 ?c9 ?k9 ?a10 ?l10 ?c10 ?k10 ?a11 ?l11 ?c11 ?k11 ?a12 ?l12 ?c12 ?k12 ?a13 ?l13 ?c13 ?k13 ?a14 ?l14 ?c14 ?k14 ?a15 ?l15 ?c15 ?k15 ?a16 ?l16 ?c16 ?k16 ?a17 ?l17 ?c17 ?k17 ?a18 ?l18 ?c18 ?k18 ?a19 ?l19 ?c19 ?k19 ?a20 ?l20 ?c20 ?k20 ?a21 ?l21 ?c21 ?k21 ?a22 ?l22 ?c22 ?k22 ?a23 ?l23 ?c23 ?k23 ?a24 ?l24 ?c24 ?k24 ?a25 ?l25 ?c25 ?k25 ?a26 ?l26 ?c26 ?k26 ?a27 ?l27 ?c27 ?k27 ?a28 ?l28 ?c28 ?k28 ?a29 ?l29 ?c29 ?k29 ?a30 ?l30 ?c30 ?k30 ?a31 ?l31 ?c31 ?k31 ?a32 ?l32 ?c32 ?k32 ?a33 ?l33 ?c33 ?k33 ?a34 ?l34 ?c34 ?k34
    (case gSIDE => k_is); (case gMAX_ORDER => k_is); (case gMOST_DISTANCE => k_is); (case z_abs => k_is); (case z_all => k_is); (case z_bool => k_is); (case z_enumerate => k_is); (case z_int => k_is)
    (case z_isinstance => k_is); (case z_len => k_is); (case z_list => k_is); (case z_max => k_is); (case z_min => k_is); (case z_range => k_is); (case z_sorted => k_is); (case z_sum => k_is)
    (case z_tuple => k_is); (case a0 => k_is); (case l0 => k_is); (case c0 => k_is); (case k0 => k_is); (case a1 => k_is); (case l1 => k_is); (case c1 => k_is)
    (case k1 => k_is); (case a2 => k_is); (case l2 => k_is); (case c2 => k_is); (case k2 => k_is); (case a3 => k_is); (case l3 => k_is); (case c3 => k_is)
    (case k3 => k_is); (case a4 => k_is); (case l4 => k_is); (case c4 => k_is); (case k4 => k_is); (case a5 => k_is); (case l5 => k_is); (case c5 => k_is)
    (case k5 => k_is); (case a6 => k_is); (case l6 => k_is); (case c6 => k_is); (case k6 => k_is); (case a7 => k_is); (case l7 => k_is); (case c7 => k_is)
    (case k7 => k_is); (case a8 => k_is); (case l8 => k_is); (case c8 => k_is); (case k8 => k_is); (case a9 => k_is); (case l9 => k_is); (case c9 => k_is)
    (case k9 => k_is); (case a10 => k_is); (case l10 => k_is); (case c10 => k_is); (case k10 => k_is); (case a11 => k_is); (case l11 => k_is); (case c11 => k_is)
    (case k11 => k_is); (case a12 => k_is); (case l12 => k_is); (case c12 => k_is); (case k12 => k_is); (case a13 => k_is); (case l13 => k_is); (case c13 => k_is)
    (case k13 => k_is); (case a14 => k_is); (case l14 => k_is); (case c14 => k_is); (case k14 => k_is); (case a15 => k_is); (case l15 => k_is); (case c15 => k_is)
    (case k15 => k_is); (case a16 => k_is); (case l16 => k_is); (case c16 => k_is); (case k16 => k_is); (case a17 => k_is); (case l17 => k_is); (case c17 => k_is)
    (case k17 => k_is); (case a18 => k_is); (case l18 => k_is); (case c18 => k_is); (case k18 => k_is); (case a19 => k_is); (case l19 => k_is); (case c19 => k_is)
    (case k19 => k_is); (case a20 => k_is); (case l20 => k_is); (case c20 => k_is); (case k20 => k_is); (case a21 => k_is); (case l21 => k_is); (case c21 => k_is)
    (case k21 => k_is); (case a22 => k_is); (case l22 => k_is); (case c22 => k_is); (case k22 => k_is); (case a23 => k_is); (case l23 => k_is); (case c23 => k_is)
    (case k23 => k_is); (case a24 => k_is); (case l24 => k_is); (case c24 => k_is); (case k24 => k_is); (case a25 => k_is); (case l25 => k_is); (case c25 => k_is)
    (case k25 => k_is); (case a26 => k_is); (case l26 => k_is); (case c26 => k_is); (case k26 => k_is); (case a27 => k_is); (case l27 => k_is); (case c27 => k_is)
    (case k27 => k_is); (case a28 => k_is); (case l28 => k_is); (case c28 => k_is); (case k28 => k_is); (case a29 => k_is); (case l29 => k_is); (case c29 => k_is)
    (case k29 => k_is); (case a30 => k_is); (case l30 => k_is); (case c30 => k_is); (case k30 => k_is); (case a31 => k_is); (case l31 => k_is); (case c31 => k_is)
    (case k31 => k_is); (case a32 => k_is); (case l32 => k_is); (case c32 => k_is); (case k32 => k_is); (case a33 => k_is); (case l33 => k_is); (case c33 => k_is)
    (case k33 => k_is); (case a34 => k_is); (case l34 => k_is); (case c34 => k_is); (case k34 => k_is)

