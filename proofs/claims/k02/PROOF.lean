import PyProof.Rows.All
import Wide.All
import OpenK.AllK
import Wide.FinOn
import Lean
import PyProof.EqAt
import PyProof.EqKinds
import PyProof.TupleCall
import PyProof.SetScanFacts
import PyProof.TupleKey
import PyProof.SetKind
import PyProof.DictKinds
import PyProof.Rows.SetFrom
import PyProof.DictIter
import KE.KSortAsk
import KE.KSortTup
import KE.KDictSum
import KE.KRevIter
import PyProof.ListNew
import PyProof.MinMaxWalk
import PyProof.SumWalkG
import PyProof.NeKinds
import PyProof.Rows.StrInSeq3
import PyProof.StrBlockH
import PyProof.Rows.StrJoin2
import PyProof.SliceStr2
import KE.KIntText
import PyProof.Rows.StrSplitCount
import PyProof.Rows.FStr
import PyProof.StrLawsIdx
import PyProof.StrLawsChain
import KE.KTryMore
import KE.KIsAll
import PyProof.ExcArgs
import PyProof.ExcBaseAll.ValueError
import PySem.Challenge.RW_roundsum_k02_refused
set_option Elab.async false
set_option linter.all false
set_option autoImplicit false
set_option tactic.hygienic false
set_option maxRecDepth 100000
set_option maxHeartbeats 4000000
namespace RS
open PySem PySem.SetTable
noncomputable def advM (mask : Nat) (p : Probe) : Probe :=
 if p.more > 0 then { p with j := p.j + 1, more := p.more - 1 } else
 { p with j := (leap mask p.i p.perturb).1, more := runEnd mask (leap mask p.i p.perturb).1 - (leap mask p.i p.perturb).1, i := (leap mask p.i p.perturb).1, perturb := (leap mask p.i p.perturb).2 }
noncomputable def atG (mask : Nat) (g : Nat × Nat) : Probe := { j := g.1, more := runEnd mask g.1 - g.1, i := g.1, perturb := g.2, dummy := none }
noncomputable def grp (mask : Nat) (h : Int) : Nat -> Nat × Nat
 | 0 => (bits h % (mask + 1), bits h)
 | g + 1 => leap mask (grp mask h g).1 (grp mask h g).2
noncomputable def sq (mask : Nat) (h : Int) : Nat -> Probe
 | 0 => atG mask (grp mask h 0)
 | n + 1 => advM mask (sq mask h n)
theorem start_eq (t : SetTable) (h : Int) : t.probeStart h = sq t.mask h 0 := rfl
theorem runLen (mask i : Nat) : runEnd mask i - i <= 9 := by
 unfold runEnd
 split <;> lia
theorem sq_run {mask : Nat} {h : Int} {s : Nat} {p : Probe} (e : sq mask h s = p) : ∀ k, k <= p.more -> sq mask h (s + k) = { p with j := p.j + k, more := p.more - k }
 | 0, _ => by rw [Nat.add_zero, e]; rfl
 | k + 1, hk => by
  rw [<- Nat.add_assoc]
  show advM mask (sq mask h (s + k)) = _
  rw [sq_run e k (by lia)]
  unfold advM
  rw [if_pos (show p.more - k > 0 by lia)]
  simp only [Probe.mk.injEq, and_true, true_and]
  lia
noncomputable def gst (mask : Nat) (h : Int) : Nat -> Nat
 | 0 => 0
 | g + 1 => gst mask h g + (runEnd mask (grp mask h g).1 - (grp mask h g).1) + 1
theorem sq_gst (mask : Nat) (h : Int) : ∀ g, sq mask h (gst mask h g) = atG mask (grp mask h g)
 | 0 => rfl
 | g + 1 => by
  have e := sq_run (sq_gst mask h g) (runEnd mask (grp mask h g).1 - (grp mask h g).1) (Nat.le_refl _)
  show advM mask (sq mask h (gst mask h g + (runEnd mask (grp mask h g).1 - (grp mask h g).1))) = _
  rw [e]
  unfold advM
  rw [if_neg (by simp [atG])]
  rfl
theorem sq_in (mask : Nat) (h : Int) (g k : Nat) (hk : k <= runEnd mask (grp mask h g).1 - (grp mask h g).1) : (sq mask h (gst mask h g + k)).j = (grp mask h g).1 + k := by
 rw [sq_run (sq_gst mask h g) k hk]
 rfl
theorem gst_le (mask : Nat) (h : Int) : ∀ g, gst mask h g <= 10 * g
 | 0 => Nat.le_refl _
 | g + 1 => by
  have := gst_le mask h g
  have := runLen mask (grp mask h g).1
  show gst mask h g + (runEnd mask (grp mask h g).1 - (grp mask h g).1) + 1 <= _
  lia
theorem grp_pert (mask : Nat) (h : Int) : ∀ g, (grp mask h g).2 = bits h / 32 ^ g
 | 0 => by simp [grp]
 | g + 1 => by
  show (grp mask h g).2 / 32 = _
  rw [grp_pert mask h g, Nat.div_div_eq_div_mul, Nat.pow_succ]
theorem bits_lt (h : Int) : bits h < 2 ^ 64 := by
 unfold bits
 have h1 : (0 : Int) <= h % 2 ^ 64 := Int.emod_nonneg _ (by decide)
 have h2 : h % 2 ^ 64 < 2 ^ 64 := Int.emod_lt_of_pos _ (by decide)
 lia
theorem pert_zero (mask : Nat) (h : Int) (g : Nat) (hg : 13 <= g) : (grp mask h g).2 = 0 := by
 rw [grp_pert]
 refine Nat.div_eq_of_lt (Nat.lt_of_lt_of_le (bits_lt h) (Nat.le_trans (show 2 ^ 64 <= 32 ^ 13 by decide) (Nat.pow_le_pow_right (by decide) hg)))
noncomputable def lcg (mask i : Nat) : Nat := (i * 5 + 1) % (mask + 1)
noncomputable def lit (mask : Nat) : Nat -> Nat -> Nat
 | 0, i => i
 | k + 1, i => lit mask k (lcg mask i)
theorem lit_add (mask : Nat) : ∀ a b i, lit mask (a + b) i = lit mask b (lit mask a i)
 | 0, b, i => by rw [Nat.zero_add]; rfl
 | a + 1, b, i => by rw [Nat.add_right_comm]; exact lit_add mask a b (lcg mask i)
theorem grp_lit (mask : Nat) (h : Int) : ∀ k, (grp mask h (13 + k)).1 = lit mask k (grp mask h 13).1
 | 0 => rfl
 | k + 1 => by
  have e : lit mask (k + 1) (grp mask h 13).1 = lcg mask (lit mask k (grp mask h 13).1) := lit_add mask k 1 _
  rw [e, <- grp_lit mask h k]
  show ((grp mask h (13 + k)).1 * 5 + 1 + (grp mask h (13 + k)).2 / 32) % (mask + 1) = _
  rw [pert_zero mask h (13 + k) (by lia)]
  rfl
theorem grp_lt (mask : Nat) (h : Int) : ∀ g, (grp mask h g).1 < mask + 1
 | 0 => Nat.mod_lt _ (Nat.succ_pos _)
 | _ + 1 => Nat.mod_lt _ (Nat.succ_pos _)
noncomputable def MaskOk (mask : Nat) : Prop := mask = 7 \/ mask = 31 \/ mask = 127 \/ mask = 511
noncomputable def seen (mask : Nat) : Nat -> Nat -> Nat -> Nat
 | 0, _, acc => acc
 | k + 1, i, acc => seen mask k (lcg mask i) (acc ||| (1 <<< i))
theorem seen_bit (mask : Nat) : ∀ (k i acc j : Nat), (seen mask k i acc).testBit j = true -> acc.testBit j = true \/ ∃ m, m < k /\ lit mask m i = j
 | 0, i, acc, j, h => .inl h
 | k + 1, i, acc, j, h => by
  rcases seen_bit mask k (lcg mask i) (acc ||| (1 <<< i)) j h with z | ⟨m, hm, e⟩
  ·rw [Nat.testBit_or, Bool.or_eq_true] at z
   rcases z with z | z
   ·exact .inl z
   ·refine .inr ⟨0, by lia, ?_⟩
    rw [Nat.one_shiftLeft, Nat.testBit_two_pow] at z
    exact of_decide_eq_true z
  ·exact .inr ⟨m + 1, by lia, e⟩
set_option exponentiation.threshold 600 in
theorem orbit511 : (∀ j, j < 511 + 1 -> ∃ k, k < 511 + 1 /\ lit 511 k 0 = j) /\ lit 511 (511 + 1) 0 = 0 := by
 refine ⟨fun j hj => ?_, by decide +kernel⟩
 have e : seen 511 512 0 0 = 2 ^ 512 - 1 := by decide +kernel
 have h : (seen 511 512 0 0).testBit j = true := by
  rw [e, Nat.testBit_two_pow_sub_one]
  exact decide_eq_true hj
 rcases seen_bit 511 512 0 0 j h with z | z
 ·rw [Nat.zero_testBit] at z
  cases z
 ·exact z
theorem orbit0 {mask : Nat} (hm : MaskOk mask) : (∀ j, j < mask + 1 -> ∃ k, k < mask + 1 /\ lit mask k 0 = j) /\ lit mask (mask + 1) 0 = 0 := by
 rcases hm with rfl | rfl | rfl | rfl
 ·exact ⟨by decide +kernel, by decide +kernel⟩
 ·exact ⟨by decide +kernel, by decide +kernel⟩
 ·exact ⟨by decide +kernel, by decide +kernel⟩
 ·exact orbit511
theorem orbit {mask : Nat} (hm : MaskOk mask) {i j : Nat} (hi : i < mask + 1) (hj : j < mask + 1) : ∃ k, k < mask + 1 /\ lit mask k i = j := by
 obtain ⟨all, back⟩ := orbit0 hm
 obtain ⟨a, ha, rfl⟩ := all i hi
 obtain ⟨b, hb, rfl⟩ := all j hj
 rcases Nat.lt_or_ge b a with h | h
 ·refine ⟨mask + 1 - a + b, by lia, ?_⟩
  rw [<- lit_add, <- Nat.add_assoc, show a + (mask + 1 - a) = mask + 1 by lia, lit_add, back]
 ·refine ⟨b - a, by lia, ?_⟩
  rw [<- lit_add, show a + (b - a) = b by lia]
theorem covers {mask : Nat} (hm : MaskOk mask) (h : Int) {j : Nat} (hj : j < mask + 1) : ∃ g, g < mask + 14 /\ (grp mask h g).1 = j := by
 obtain ⟨k, hk, e⟩ := orbit hm (grp_lt mask h 13) hj
 exact ⟨13 + k, by lia, by rw [grp_lit]; exact e⟩
theorem covers_sq {mask : Nat} (hm : MaskOk mask) (h : Int) {j : Nat} (hj : j < mask + 1) : ∃ n, n < 10 * turns mask /\ (sq mask h n).j = j := by
 obtain ⟨g, hg, e⟩ := covers hm h hj
 refine ⟨gst mask h g, ?_, by rw [sq_gst]; exact e⟩
 have := gst_le mask h g
 unfold turns
 lia
theorem sq_dummy (mask : Nat) (h : Int) : ∀ n, (sq mask h n).dummy = none
 | 0 => rfl
 | n + 1 => by
  show (advM mask (sq mask h n)).dummy = none
  unfold advM
  split <;> exact sq_dummy mask h n
theorem sq_lt {mask : Nat} (h : Int) : ∀ n, (sq mask h n).j + (sq mask h n).more <= mask
 | 0 => by
  have := grp_lt mask h 0
  show (grp mask h 0).1 + (runEnd mask (grp mask h 0).1 - (grp mask h 0).1) <= mask
  unfold runEnd
  split <;> lia
 | n + 1 => by
  have ih := sq_lt (mask := mask) h n
  show (advM mask (sq mask h n)).j + (advM mask (sq mask h n)).more <= mask
  unfold advM
  split
  ·simp only
   lia
  ·have : (leap mask (sq mask h n).i (sq mask h n).perturb).1 < mask + 1 := Nat.mod_lt _ (Nat.succ_pos _)
   simp only
   unfold runEnd
   split <;> lia
end RS
namespace RS
open PySem PySem.SetTable
noncomputable def Rise (xs : Array Nat) : Prop := xs.toList.Pairwise (· < ·)
theorem Rise.lt {xs : Array Nat} (r : Rise xs) {a b x y : Nat} (ha : xs[a]? = some x) (hb : xs[b]? = some y) (h : a < b) : x < y := by
 rw [<- Array.getElem?_toList] at ha hb
 obtain ⟨ha', ea⟩ := List.getElem?_eq_some_iff.mp ha
 obtain ⟨hb', eb⟩ := List.getElem?_eq_some_iff.mp hb
 rw [<- ea, <- eb]
 exact List.pairwise_iff_getElem.mp r a b ha' hb' h
set_option tactic.hygienic true in
theorem below_go {xs : Array Nat} {j : Nat} : ∀ (fuel lo hi : Nat), hi - lo <= fuel -> lo <= hi -> hi <= xs.size ->
  (∀ a x, a < lo -> xs[a]? = some x -> x < j) -> (∀ a x, hi <= a -> xs[a]? = some x -> j <= x) -> Rise xs ->
  (below.go xs j fuel lo hi <= xs.size /\ (∀ a x, a < below.go xs j fuel lo hi -> xs[a]? = some x -> x < j) /\ ∀ a x, below.go xs j fuel lo hi <= a -> xs[a]? = some x -> j <= x)
 | 0, lo, hi, hf, hl, hz, h1, h2, _ => by
  have e : lo = hi := by lia
  subst e
  unfold below.go
  exact ⟨hz, h1, h2⟩
 | fuel + 1, lo, hi, hf, hl, hz, h1, h2, r => by
  unfold below.go
  by_cases hlt : lo < hi
  ·rw [if_pos hlt]
   dsimp only
   have hm1 : (lo + hi) / 2 < hi := by lia
   have hm0 : lo <= (lo + hi) / 2 := by lia
   have hms : (lo + hi) / 2 < xs.size := by lia
   have eg : xs.getD ((lo + hi) / 2) j = xs[(lo + hi) / 2] := by simp [Array.getD, hms]
   have em : xs[(lo + hi) / 2]? = some xs[(lo + hi) / 2] := by simp [hms]
   rw [eg]
   split
   ·rename_i hc
    refine below_go fuel _ hi (by lia) (by lia) hz (fun a x ha hx => ?_) h2 r
    rcases Nat.lt_or_ge a ((lo + hi) / 2) with h | h
    ·exact Nat.lt_trans (r.lt hx em h) hc
    ·have : a = (lo + hi) / 2 := by lia
     subst this
     rw [em] at hx
     cases hx
     exact hc
   ·rename_i hc
    refine below_go fuel lo _ (by lia) hm0 (by lia) h1 (fun a x ha hx => ?_) r
    rcases Nat.lt_or_ge ((lo + hi) / 2) a with h | h
    ·exact Nat.le_of_lt (Nat.lt_of_le_of_lt (Nat.not_lt.mp hc) (r.lt em hx h))
    ·have : a = (lo + hi) / 2 := by lia
     subst this
     rw [em] at hx
     cases hx
     exact Nat.not_lt.mp hc
  ·rw [if_neg hlt]
   have e : lo = hi := by lia
   subst e
   exact ⟨hz, h1, h2⟩
theorem below_spec {xs : Array Nat} (r : Rise xs) (j : Nat) : below xs j <= xs.size /\ (∀ a x, a < below xs j -> xs[a]? = some x -> x < j) /\ ∀ a x, below xs j <= a -> xs[a]? = some x -> j <= x :=
 below_go xs.size 0 xs.size (by lia) (Nat.zero_le _) (Nat.le_refl _) (fun a x h => absurd h (Nat.not_lt_zero _)) (fun a x h e => by
  obtain ⟨h', _⟩ := Array.getElem?_eq_some_iff.mp e
  lia) r
theorem below_at {xs : Array Nat} (r : Rise xs) {i j : Nat} (h : xs[i]? = some j) : below xs j = i := by
 obtain ⟨_, h1, h2⟩ := below_spec r j
 rcases Nat.lt_trichotomy (below xs j) i with q | q | q
 ·obtain ⟨hi, _⟩ := Array.getElem?_eq_some_iff.mp h
  have hb : xs[below xs j]? = some xs[below xs j] := by simp [show below xs j < xs.size by omega]
  have := h2 _ _ (Nat.le_refl _) hb
  have := r.lt hb h q
  lia
 ·exact q
 ·have := h1 i j q h
  lia
theorem insert_rise {xs : Array Nat} (r : Rise xs) {j : Nat} (h : j ∉ xs.toList) : Rise (insertAt xs (below xs j) j) := by
 obtain ⟨hs, h1, h2⟩ := below_spec r j
 unfold Rise
 rw [SetTable.toList_insertAt]
 have key : ∀ l : List Nat, l = xs.toList -> (l.take (below xs j) ++ j :: l.drop (below xs j)).Pairwise (· < ·) := fun l hl => by
  subst hl
  have a1 : ∀ x ∈ xs.toList.take (below xs j), x < j := fun x hx => by
   obtain ⟨i, hi, e⟩ := List.getElem_of_mem hx
   rw [List.getElem_take] at e
   have hlt : i < below xs j := by rw [List.length_take] at hi; lia
   have hlen : i < xs.toList.length := by rw [List.length_take] at hi; lia
   refine h1 i x hlt ?_
   rw [<- Array.getElem?_toList]
   exact List.getElem?_eq_some_iff.mpr ⟨hlen, e⟩
  have a2 : ∀ x ∈ xs.toList.drop (below xs j), j < x := fun x hx => by
   obtain ⟨i, hi, e⟩ := List.getElem_of_mem hx
   rw [List.getElem_drop] at e
   have hlen : below xs j + i < xs.toList.length := by rw [List.length_drop] at hi; lia
   have hge := h2 (below xs j + i) x (Nat.le_add_right _ _) (by rw [<- Array.getElem?_toList]; exact List.getElem?_eq_some_iff.mpr ⟨hlen, e⟩)
   have hne : j ≠ x := fun q => h (by rw [q]; exact List.mem_of_mem_drop hx)
   lia
  rw [List.pairwise_append]
  refine ⟨r.sublist (List.take_sublist _ _), List.pairwise_cons.mpr ⟨a2, r.sublist (List.drop_sublist _ _)⟩, fun x hx y hy => ?_⟩
  rcases List.mem_cons.mp hy with rfl | hy
  ·exact a1 x hx
  ·exact Nat.lt_trans (a1 x hx) (a2 y hy)
 have e := key xs.toList rfl
 simpa using e
structure Tab (t : SetTable) (es : Array (Int × Value)) : Prop where
 nod : t.dummies = #[]
 mask : MaskOk t.mask
 rise : Rise t.place
 size : t.place.size = es.size
 le : ∀ j ∈ t.place.toList, j <= t.mask
 plain : t.plain = true
 room : es.size * 5 < t.mask * 3
 reach : ∀ (i j : Nat) (e : Int × Value), t.place[i]? = some j -> es[i]? = some e -> ∃ n, (sq t.mask e.1 n).j = j /\ ∀ m, m < n -> (sq t.mask e.1 m).j ∈ t.place.toList
theorem mem_place {t : SetTable} {j : Nat} : j ∈ t.place.toList ↔ ∃ i : Nat, t.place[i]? = some j := by
 constructor
 ·intro h
  obtain ⟨i, hi, e⟩ := List.getElem_of_mem h
  exact ⟨i, by rw [<- Array.getElem?_toList]; exact List.getElem?_eq_some_iff.mpr ⟨hi, e⟩⟩
 ·rintro ⟨i, e⟩
  rw [<- Array.getElem?_toList] at e
  exact List.mem_of_getElem? e
theorem slot_live {t : SetTable} (r : Rise t.place) {i j : Nat} (h : t.place[i]? = some j) : t.slot j = .live i := by
 unfold SetTable.slot
 simp only [below_at r h, h, beq_self_eq_true, if_true]
theorem slot_empty {t : SetTable} (nd : t.dummies = #[]) {j : Nat} (h : j ∉ t.place.toList) : t.slot j = .empty := by
 unfold SetTable.slot
 have h1 : (t.place[below t.place j]? == some j) = false := by
  cases q : (t.place[below t.place j]? == some j) with
  | false => rfl
  | true => exact absurd (mem_place.mpr ⟨_, eq_of_beq q⟩) h
 have h2 : SetTable.has t.dummies j = false := by rw [nd]; rfl
 simp only [h1, h2, Bool.false_eq_true, if_false]
theorem Tab.empty_slot {t : SetTable} {es : Array (Int × Value)} (T : Tab t es) : ∃ j, j < t.mask + 1 /\ j ∉ t.place.toList := by
 refine Classical.byContradiction fun hc => ?_
 have hall : ∀ j ∈ List.range (t.mask + 1), j ∈ t.place.toList := fun j hj => Classical.byContradiction fun h => hc ⟨j, List.mem_range.mp hj, h⟩
 have hl := (List.nodup_range (n := t.mask + 1)).length_le_of_subset hall
 rw [List.length_range, Array.length_toList, T.size] at hl
 have := T.room
 lia
theorem Tab.first_empty {t : SetTable} {es : Array (Int × Value)} (T : Tab t es) (h : Int) : ∃ n, n < 10 * turns t.mask /\ (sq t.mask h n).j ∉ t.place.toList /\ ∀ m, m < n -> (sq t.mask h m).j ∈ t.place.toList := by
 obtain ⟨j, hj, hn⟩ := T.empty_slot
 obtain ⟨n, hlt, e⟩ := covers_sq T.mask h hj
 have hex : ∃ n, n < 10 * turns t.mask /\ (sq t.mask h n).j ∉ t.place.toList := ⟨n, hlt, by rw [e]; exact hn⟩
 have key : ∀ k, (∃ n, n < k /\ (sq t.mask h n).j ∉ t.place.toList) -> ∃ n, n < k /\ (sq t.mask h n).j ∉ t.place.toList /\ ∀ m, m < n -> (sq t.mask h m).j ∈ t.place.toList := by
  intro k
  induction k with
  | zero => rintro ⟨n, hn, _⟩; exact absurd hn (Nat.not_lt_zero _)
  | succ k ih =>
   rintro ⟨n, hn, hq⟩
   by_cases hb : ∃ n, n < k /\ (sq t.mask h n).j ∉ t.place.toList
   ·obtain ⟨m, hm, x⟩ := ih hb
    exact ⟨m, Nat.lt_succ_of_lt hm, x⟩
   ·refine ⟨n, hn, hq, fun m hm => Classical.byContradiction fun hx => hb ⟨m, by lia, hx⟩⟩
 exact key _ hex
noncomputable abbrev hAt (es : Array (Int × Value)) (i : Nat) : Int := (es[i]?.map (·.1)).getD 0
theorem probe_go {t : SetTable} {es : Array (Int × Value)} (T : Tab t es) (h : Int) {N : Nat} (hN : (sq t.mask h N).j ∉ t.place.toList) (hb : ∀ m, m < N -> (sq t.mask h m).j ∈ t.place.toList) :
  ∀ (fuel n : Nat), n <= N -> N - n < fuel -> ((∀ m i : Nat, n <= m -> m < N -> t.place[i]? = some (sq t.mask h m).j -> hAt es i ≠ h) /\ probe.go t (hAt es) h fuel (sq t.mask h n) = some (.empty (sq t.mask h N).j none)) \/
   ∃ m i : Nat, n <= m /\ m < N /\ t.place[i]? = some (sq t.mask h m).j /\ hAt es i = h /\ (∀ m' i' : Nat, n <= m' -> m' < m -> t.place[i']? = some (sq t.mask h m').j -> hAt es i' ≠ h) /\
    probe.go t (hAt es) h fuel (sq t.mask h n) = some (.candidate (sq t.mask h m).j i (sq t.mask h (m + 1)))
 | 0, n, _, hf => absurd hf (Nat.not_lt_zero _)
 | fuel + 1, n, hn, hf => by
  unfold probe.go
  rcases Nat.lt_or_ge n N with hlt | hge
  ·obtain ⟨i, hi⟩ := mem_place.mp (hb n hlt)
   rw [slot_live T.rise hi]
   dsimp only
   by_cases hq : hAt es i = h
   ·refine .inr ⟨n, i, Nat.le_refl _, hlt, hi, hq, fun m' i' h1 h2 => absurd h1 (by lia), ?_⟩
    rw [if_pos (by rw [hq]; exact beq_self_eq_true _)]
    rfl
   ·rw [if_neg (by simpa using hq)]
    have only : ∀ i' : Nat, t.place[i']? = some (sq t.mask h n).j -> i' = i := fun i' hi' => (below_at T.rise hi').symm.trans (below_at T.rise hi)
    rcases probe_go T h hN hb fuel (n + 1) hlt (by lia) with ⟨h1, h2⟩ | ⟨m, i2, a1, a2, a3, a4, a5, a6⟩
    ·refine .inl ⟨fun m i' c1 c2 c3 => ?_, h2⟩
     rcases Nat.eq_or_lt_of_le c1 with rfl | c1
     ·rw [only i' c3]; exact hq
     ·exact h1 m i' c1 c2 c3
    ·refine .inr ⟨m, i2, by lia, a2, a3, a4, fun m' i' c1 c2 c3 => ?_, a6⟩
     rcases Nat.eq_or_lt_of_le c1 with rfl | c1
     ·rw [only i' c3]; exact hq
     ·exact a5 m' i' c1 c2 c3
  ·have e : n = N := by lia
   subst e
   rw [slot_empty T.nod hN]
   refine .inl ⟨fun m i h1 h2 => absurd h1 (by lia), ?_⟩
   rw [sq_dummy]
theorem probe_spec {t : SetTable} {es : Array (Int × Value)} (T : Tab t es) (h : Int) {N : Nat} (hlt : N < 10 * turns t.mask) (hN : (sq t.mask h N).j ∉ t.place.toList) (hb : ∀ m, m < N -> (sq t.mask h m).j ∈ t.place.toList) (n : Nat) (hn : n <= N) :
  ((∀ m i : Nat, n <= m -> m < N -> t.place[i]? = some (sq t.mask h m).j -> hAt es i ≠ h) /\ t.probe (hAt es) h (sq t.mask h n) = some (.empty (sq t.mask h N).j none)) \/
   ∃ m i : Nat, n <= m /\ m < N /\ t.place[i]? = some (sq t.mask h m).j /\ hAt es i = h /\ (∀ m' i' : Nat, n <= m' -> m' < m -> t.place[i']? = some (sq t.mask h m').j -> hAt es i' ≠ h) /\
    t.probe (hAt es) h (sq t.mask h n) = some (.candidate (sq t.mask h m).j i (sq t.mask h (m + 1))) :=
 probe_go T h hN hb _ n hn (by lia)
end RS
namespace RS
open PySem PySem.SetTable
theorem insertAt_get {α : Type} (xs : Array α) (p : Nat) (hp : p <= xs.size) (x : α) (i : Nat) :
  (insertAt xs p x)[i]? = if i < p then xs[i]? else if i = p then some x else xs[i - 1]? := by
 rw [<- Array.getElem?_toList, SetTable.toList_insertAt]
 have e : ∀ l : List α, l.length = xs.size -> (l.take p ++ x :: l.drop p)[i]? = if i < p then l[i]? else if i = p then some x else l[i - 1]? := fun l hl => by
  have hlt : (l.take p).length = p := by rw [List.length_take]; lia
  by_cases h1 : i < p
  ·rw [if_pos h1, List.getElem?_append_left (by lia), List.getElem?_take, if_pos h1]
  ·rw [if_neg h1, List.getElem?_append_right (by lia), hlt]
   by_cases h2 : i = p
   ·rw [if_pos h2, h2, Nat.sub_self]; rfl
   ·rw [if_neg h2]
    obtain ⟨k, rfl⟩ : ∃ k, i = p + 1 + k := ⟨i - (p + 1), by lia⟩
    rw [show p + 1 + k - p = k + 1 by lia, List.getElem?_cons_succ, List.getElem?_drop]
    congr 1
    lia
 have := e xs.toList (by simp)
 simpa using this
theorem insertAt_size {α : Type} (xs : Array α) (p : Nat) (x : α) : (insertAt xs p x).size = xs.size + 1 := by
 have := (SetTable.insertAt_perm xs p x).length_eq
 simpa using this
theorem insertAt_pair {t : SetTable} {es : Array (Int × Value)} (hs : t.place.size = es.size) {p : Nat} (hp : p <= es.size) {j i j' : Nat} {e e' : Int × Value}
  (h1 : (insertAt t.place p j)[i]? = some j') (h2 : (insertAt es p e)[i]? = some e') : (j' = j /\ e' = e) \/ ∃ i' : Nat, t.place[i']? = some j' /\ es[i']? = some e' := by
 rw [insertAt_get _ _ (by lia)] at h1
 rw [insertAt_get _ _ hp] at h2
 by_cases q1 : i < p
 ·rw [if_pos q1] at h1 h2; exact .inr ⟨_, h1, h2⟩
 ·rw [if_neg q1] at h1 h2
  by_cases q2 : i = p
  ·rw [if_pos q2] at h1 h2; cases h1; cases h2; exact .inl ⟨rfl, rfl⟩
  ·rw [if_neg q2] at h1 h2; exact .inr ⟨_, h1, h2⟩
theorem mem_insertAt {α : Type} {xs : Array α} {p : Nat} {x y : α} : y ∈ (insertAt xs p x).toList ↔ y = x \/ y ∈ xs.toList := by
 rw [(SetTable.insertAt_perm xs p x).mem_iff, Array.toList_push, List.mem_append, List.mem_singleton, or_comm]
theorem put_place (t : SetTable) (nd : t.dummies = #[]) (j : Nat) : t.put j = ({ t with place := insertAt t.place (below t.place j) j }, below t.place j) := by
 unfold SetTable.put
 have h2 : SetTable.has t.dummies j = false := by rw [nd]; rfl
 rw [h2]
 rfl
structure Tab0 (t : SetTable) (es : Array (Int × Value)) : Prop where
 nod : t.dummies = #[]
 mask : MaskOk t.mask
 rise : Rise t.place
 size : t.place.size = es.size
 le : ∀ j ∈ t.place.toList, j <= t.mask
 plain : t.plain = true
 reach : ∀ (i j : Nat) (e : Int × Value), t.place[i]? = some j -> es[i]? = some e -> ∃ n, (sq t.mask e.1 n).j = j /\ ∀ m, m < n -> (sq t.mask e.1 m).j ∈ t.place.toList
theorem Tab0.more {t : SetTable} {es : Array (Int × Value)} (T : Tab0 t es) (h : es.size * 5 < t.mask * 3) : Tab t es := ⟨T.nod, T.mask, T.rise, T.size, T.le, T.plain, h, T.reach⟩
theorem Tab.put {t : SetTable} {es : Array (Int × Value)} (T : Tab t es) {h : Int} {N : Nat} (x : Value) (hN : (sq t.mask h N).j ∉ t.place.toList) (hb : ∀ m, m < N -> (sq t.mask h m).j ∈ t.place.toList) :
  Tab0 { t with place := insertAt t.place (below t.place (sq t.mask h N).j) (sq t.mask h N).j } (insertAt es (below t.place (sq t.mask h N).j) (h, x)) := by
 have hp := (below_spec T.rise (sq t.mask h N).j).1
 have hs := T.size
 refine ⟨T.nod, T.mask, insert_rise T.rise hN, by simp only [insertAt_size, hs], fun j hj => ?_, T.plain, fun i j e h1 h2 => ?_⟩
 ·rcases mem_insertAt.mp hj with rfl | hj
  ·have := sq_lt (mask := t.mask) h N
   show _ <= t.mask
   lia
  ·exact T.le j hj
 ·rcases insertAt_pair hs (by lia) h1 h2 with ⟨rfl, rfl⟩ | ⟨i', a, b⟩
  ·exact ⟨N, rfl, fun m hm => mem_insertAt.mpr (.inr (hb m hm))⟩
  ·obtain ⟨n, q1, q2⟩ := T.reach i' j e a b
   exact ⟨n, q1, fun m hm => mem_insertAt.mpr (.inr (q2 m hm))⟩
structure Own (mask : Nat) (hs : List Int) (owner : Array (Option Nat)) (k : Nat) : Prop where
 size : owner.size = mask + 1
 lt : ∀ (j a : Nat), owner[j]? = some (some a) -> a < k
 one : ∀ (j j' a : Nat), owner[j]? = some (some a) -> owner[j']? = some (some a) -> j = j'
 all : ∀ a, a < k -> ∃ j : Nat, owner[j]? = some (some a)
 reach : ∀ (j a : Nat) (h : Int), owner[j]? = some (some a) -> hs[a]? = some h -> ∃ n, (sq mask h n).j = j /\ ∀ m, m < n -> ∃ b, owner[(sq mask h m).j]? = some (some b)
theorem Own.free_slot {mask k : Nat} {hs : List Int} {owner : Array (Option Nat)} (O : Own mask hs owner k) (hk : k <= mask) : ∃ j, j < mask + 1 /\ owner[j]? = some none := by
 refine Classical.byContradiction fun hc => ?_
 have hall : ∀ j, j < mask + 1 -> ∃ a : Nat, owner[j]? = some (some a) := fun j hj => by
  have hj' : j < owner.size := by rw [O.size]; exact hj
  cases q : owner[j]? with
  | none => rw [Array.getElem?_eq_none_iff] at q; lia
  | some v =>
   cases v with
   | none => exact absurd ⟨j, hj, q⟩ hc
   | some a => exact ⟨a, rfl⟩
 let f : Nat -> Nat := fun j => ((owner[j]?).getD none).getD 0
 have hf : ∀ j, j < mask + 1 -> owner[j]? = some (some (f j)) := fun j hj => by
  obtain ⟨a, ha⟩ := hall j hj
  show owner[j]? = some (some (((owner[j]?).getD none).getD 0))
  rw [ha]; rfl
 have nd : ((List.range (mask + 1)).map f).Nodup := by
  refine List.Pairwise.map f (R := fun a b => a ∈ List.range (mask + 1) /\ b ∈ List.range (mask + 1) /\ a ≠ b) (fun a b ⟨ha, hb, hab⟩ e => hab ?_) ?_
  ·exact O.one a b (f a) (hf a (List.mem_range.mp ha)) (by rw [e]; exact hf b (List.mem_range.mp hb))
  ·exact List.Pairwise.imp_of_mem (fun ha hb hab => ⟨ha, hb, hab⟩) List.nodup_range
 have sub : ∀ a ∈ (List.range (mask + 1)).map f, a ∈ List.range k := fun a ha => by
  obtain ⟨j, hj, rfl⟩ := List.mem_map.mp ha
  exact List.mem_range.mpr (O.lt j _ (hf j (List.mem_range.mp hj)))
 have := nd.length_le_of_subset sub
 rw [List.length_map, List.length_range, List.length_range] at this
 lia
theorem getD_none {owner : Array (Option Nat)} {mask j : Nat} (hs : owner.size = mask + 1) (hj : j < mask + 1) : (owner.getD j (some 0)).isNone = true ↔ owner[j]? = some none := by
 have h' : j < owner.size := by lia
 have e1 : owner.getD j (some 0) = owner[j] := by simp [Array.getD, h']
 have e2 : owner[j]? = some owner[j] := by simp [h']
 rw [e1, e2]
 cases owner[j] <;> simp
theorem held_of {owner : Array (Option Nat)} {mask j : Nat} (hs : owner.size = mask + 1) (hj : j < mask + 1) (h : (owner.getD j (some 0)).isNone = false) : ∃ b, owner[j]? = some (some b) := by
 have h' : j < owner.size := by lia
 have e1 : owner.getD j (some 0) = owner[j] := by simp [Array.getD, h']
 have e2 : owner[j]? = some owner[j] := by simp [h']
 rw [e1] at h
 rw [e2]
 cases q : owner[j] with
 | none => rw [q] at h; cases h
 | some b => exact ⟨b, rfl⟩
set_option tactic.hygienic true in
theorem free_spec {owner : Array (Option Nat)} {mask : Nat} (hs : owner.size = mask + 1) (h : Int) : ∀ (fuel g : Nat), (∀ m, m < gst mask h g -> ∃ b, owner[(sq mask h m).j]? = some (some b)) ->
  (∃ g', g <= g' /\ g' < g + fuel /\ owner[(grp mask h g').1]? = some none) ->
  ∃ n, layClean.free mask owner fuel (grp mask h g).1 (grp mask h g).2 = some (sq mask h n).j /\ owner[(sq mask h n).j]? = some none /\ ∀ m, m < n -> ∃ b, owner[(sq mask h m).j]? = some (some b)
 | 0, g, _, ⟨g', h1, h2, _⟩ => absurd h2 (by lia)
 | fuel + 1, g, hb, ⟨g', h1, h2, h3⟩ => by
  unfold layClean.free
  have hi := grp_lt mask h g
  have hend : ∀ k, k < runEnd mask (grp mask h g).1 + 1 - (grp mask h g).1 -> (grp mask h g).1 + k < mask + 1 /\ k <= runEnd mask (grp mask h g).1 - (grp mask h g).1 := fun k hk => by
   unfold runEnd at hk ⊢
   split at hk <;> rename_i q <;> simp only [q, if_true, if_false] <;> lia
  cases q : (List.range (runEnd mask (grp mask h g).1 + 1 - (grp mask h g).1)).find? fun k => (owner.getD ((grp mask h g).1 + k) (some 0)).isNone with
  | some k =>
   dsimp only
   have hk := List.mem_range.mp (List.mem_of_find?_eq_some q)
   have hp := List.find?_some q
   obtain ⟨e1, e2⟩ := hend k hk
   have ej := sq_in mask h g k e2
   refine ⟨gst mask h g + k, by rw [ej], by rw [ej]; exact (getD_none hs e1).mp hp, fun m hm => ?_⟩
   rcases Nat.lt_or_ge m (gst mask h g) with hl | hl
   ·exact hb m hl
   ·obtain ⟨d, rfl⟩ : ∃ d, m = gst mask h g + d := ⟨m - gst mask h g, by lia⟩
    have hd : d < k := by lia
    rw [sq_in mask h g d (by lia)]
    refine held_of hs (by lia) ?_
    have hbefore := (List.find?_range_eq_some.mp q).2.2 d hd
    simpa using hbefore
  | none =>
   dsimp only
   have hnone : ∀ k, k < runEnd mask (grp mask h g).1 + 1 - (grp mask h g).1 -> (owner.getD ((grp mask h g).1 + k) (some 0)).isNone = false := fun k hk => by
    have hno := List.find?_eq_none.mp q k (List.mem_range.mpr hk)
    cases hh : (owner.getD ((grp mask h g).1 + k) (some 0)).isNone with
    | false => rfl
    | true => exact absurd hh hno
   have hlen : (grp mask h g).1 <= runEnd mask (grp mask h g).1 := by unfold runEnd; split <;> lia
   refine free_spec hs h fuel (g + 1) (fun m hm => ?_) ⟨g', ?_, by lia, h3⟩
   ·rcases Nat.lt_or_ge m (gst mask h g) with hl | hl
    ·exact hb m hl
    ·obtain ⟨d, rfl⟩ : ∃ d, m = gst mask h g + d := ⟨m - gst mask h g, by lia⟩
     have hm' : gst mask h g + d < gst mask h g + (runEnd mask (grp mask h g).1 - (grp mask h g).1) + 1 := hm
     have hd : d <= runEnd mask (grp mask h g).1 - (grp mask h g).1 := by lia
     rw [sq_in mask h g d hd]
     exact held_of hs (hend d (by lia)).1 (hnone d (by lia))
   ·rcases Nat.eq_or_lt_of_le h1 with rfl | h1
    ·have := hnone 0 (by lia)
     rw [Nat.add_zero] at this
     rw [(getD_none hs hi).mpr h3] at this
     cases this
    ·exact h1
theorem Own.start (mask : Nat) (hs : List Int) : Own mask hs (Array.replicate (mask + 1) none) 0 := by
 have hno : ∀ (j a : Nat), (Array.replicate (mask + 1) (none : Option Nat))[j]? = some (some a) -> False := fun j a e => by
  rw [Array.getElem?_replicate] at e
  split at e <;> cases e
 exact ⟨by simp, fun j a e => (hno j a e).elim, fun j _ a e => (hno j a e).elim, fun a h => absurd h (Nat.not_lt_zero _), fun j a _ e => (hno j a e).elim⟩
set_option tactic.hygienic true in
theorem Own.step {mask k : Nat} {hs : List Int} {owner : Array (Option Nat)} (O : Own mask hs owner k) {h : Int} (hh : hs[k]? = some h) {n : Nat} (hf : owner[(sq mask h n).j]? = some none)
  (hb : ∀ m, m < n -> ∃ b, owner[(sq mask h m).j]? = some (some b)) : Own mask hs (owner.setIfInBounds (sq mask h n).j (some k)) (k + 1) := by
 have hj : (sq mask h n).j < owner.size := (Array.getElem?_eq_some_iff.mp hf).1
 have get : ∀ i : Nat, (owner.setIfInBounds (sq mask h n).j (some k))[i]? = if (sq mask h n).j = i then some (some k) else owner[i]? := fun i => by
  rw [Array.getElem?_setIfInBounds]
  split
  ·rfl
  ·rfl
 have up : ∀ (i b : Nat), owner[i]? = some (some b) -> (owner.setIfInBounds (sq mask h n).j (some k))[i]? = some (some b) := fun i b e => by
  rw [get, if_neg (fun q => by rw [q, e] at hf; cases hf)]
  exact e
 refine ⟨by rw [Array.size_setIfInBounds, O.size], fun j a e => ?_, fun j j' a e e' => ?_, fun a ha => ?_, fun j a h' e eh => ?_⟩
 ·rw [get] at e
  split at e
  ·cases e; exact Nat.lt_succ_self _
  ·exact Nat.lt_succ_of_lt (O.lt j a e)
 ·rw [get] at e e'
  split at e
  ·rename_i q
   cases e
   split at e'
   ·rename_i q'; exact q.symm.trans q'
   ·exact absurd (O.lt _ _ e') (Nat.lt_irrefl _)
  ·split at e'
   ·cases e'; exact absurd (O.lt _ _ e) (Nat.lt_irrefl _)
   ·exact O.one _ _ _ e e'
 ·rcases Nat.lt_or_ge a k with hlt | hge
  ·obtain ⟨j, hj'⟩ := O.all a hlt
   exact ⟨j, up j a hj'⟩
  ·have : a = k := by lia
   subst this
   exact ⟨_, by rw [get, if_pos rfl]⟩
 ·rw [get] at e
  split at e
  ·rename_i q
   cases e
   rw [hh] at eh
   cases eh
   exact ⟨n, q, fun m hm => let ⟨b, x⟩ := hb m hm; ⟨b, up _ _ x⟩⟩
  ·obtain ⟨n', q1, q2⟩ := O.reach j a h' e eh
   exact ⟨n', q1, fun m hm => let ⟨b, x⟩ := q2 m hm; ⟨b, up _ _ x⟩⟩
noncomputable abbrev layStep (mask : Nat) (acc : Option (Array (Option Nat) × Nat)) (h : Int) : Option (Array (Option Nat) × Nat) := do
 let (owner, k) <- acc
 let j <- layClean.free mask owner (turns mask) (bits h % (mask + 1)) (bits h)
 pure (owner.setIfInBounds j (some k), k + 1)
theorem lay_fold {mask : Nat} (hm : MaskOk mask) (hs : List Int) (hlen : hs.length <= mask) : ∀ (rest : List Int) (pre : List Int) (owner : Array (Option Nat)), pre ++ rest = hs -> Own mask hs owner pre.length ->
  ∃ owner', rest.foldl (layStep mask) (some (owner, pre.length)) = some (owner', hs.length) /\ Own mask hs owner' hs.length
 | [], pre, owner, e, O => by
  rw [List.append_nil] at e
  subst e
  exact ⟨owner, rfl, O⟩
 | h :: rest, pre, owner, e, O => by
  have hk : hs[pre.length]? = some h := by rw [<- e, List.getElem?_append_right (Nat.le_refl _), Nat.sub_self]; rfl
  have hkl : pre.length < hs.length := (List.getElem?_eq_some_iff.mp hk).1
  obtain ⟨j, hj, hfree⟩ := O.free_slot (by lia)
  obtain ⟨g, hg, eg⟩ := covers hm h hj
  obtain ⟨n, e1, e2, e3⟩ := free_spec O.size h (turns mask) 0 (fun m hm' => absurd hm' (Nat.not_lt_zero _)) ⟨g, Nat.zero_le _, by unfold turns; lia, by rw [eg]; exact hfree⟩
  have est : layStep mask (some (owner, pre.length)) h = some (owner.setIfInBounds (sq mask h n).j (some pre.length), pre.length + 1) := by
   show ((layClean.free mask owner (turns mask) (bits h % (mask + 1)) (bits h)).bind fun j => some (owner.setIfInBounds j (some pre.length), pre.length + 1)) = _
   have e1' : layClean.free mask owner (turns mask) (bits h % (mask + 1)) (bits h) = some (sq mask h n).j := e1
   rw [e1']
   rfl
  rw [List.foldl_cons, est]
  have := lay_fold hm hs hlen rest (pre ++ [h]) (owner.setIfInBounds (sq mask h n).j (some pre.length)) (by rw [<- e]; simp) (by rw [List.length_append]; exact O.step hk e2 e3)
  rw [List.length_append] at this
  exact this
theorem layClean_spec {mask : Nat} (hm : MaskOk mask) (hs : Array Int) (hlen : hs.size <= mask) : ∃ owner, layClean mask hs = some owner /\ Own mask hs.toList owner hs.size := by
 obtain ⟨owner, e, O⟩ := lay_fold hm hs.toList (by rw [Array.length_toList]; exact hlen) hs.toList [] (Array.replicate (mask + 1) none) rfl (Own.start mask _)
 rw [Array.length_toList] at O e
 refine ⟨owner, ?_, O⟩
 unfold layClean
 have e' : Array.foldl (layStep mask) (some (Array.replicate (mask + 1) none, 0)) hs = some (owner, hs.size) := by
  rw [<- Array.foldl_toList]; exact e
 show (Array.foldl (layStep mask) (some (Array.replicate (mask + 1) none, 0)) hs).map (·.1) = some owner
 rw [e']
 rfl
noncomputable def liveOf (mask : Nat) (owner : Array (Option Nat)) : List (Nat × Nat) := (List.range (mask + 1)).filterMap fun j => (owner.getD j none).map (j, ·)
theorem mem_live {mask : Nat} {owner : Array (Option Nat)} (hs : owner.size = mask + 1) {j a : Nat} : (j, a) ∈ liveOf mask owner ↔ owner[j]? = some (some a) := by
 unfold liveOf
 rw [List.mem_filterMap]
 constructor
 ·rintro ⟨j', hj', e⟩
  have h' : j' < owner.size := by rw [hs]; exact List.mem_range.mp hj'
  have e1 : owner.getD j' none = owner[j'] := by simp [Array.getD, h']
  rw [e1] at e
  cases q : owner[j'] with
  | none => rw [q] at e; cases e
  | some b =>
   rw [q] at e
   cases e
   rw [<- q]
   simp [h']
 ·intro e
  obtain ⟨h', q⟩ := Array.getElem?_eq_some_iff.mp e
  refine ⟨j, List.mem_range.mpr (by lia), ?_⟩
  have e1 : owner.getD j none = owner[j] := by simp [Array.getD, h']
  rw [e1, q]
  rfl
theorem live_rise (mask : Nat) (owner : Array (Option Nat)) : ((liveOf mask owner).map (·.1)).Pairwise (· < ·) := by
 rw [List.pairwise_map]
 unfold liveOf
 rw [List.pairwise_filterMap]
 refine List.Pairwise.imp (fun {a b} hab => ?_) List.pairwise_lt_range
 intro x hx y hy
 have hx' : (owner.getD a none).map (a, ·) = some x := hx
 have hy' : (owner.getD b none).map (b, ·) = some y := hy
 cases qa : owner.getD a none with
 | none => rw [qa] at hx'; cases hx'
 | some u =>
  cases qb : owner.getD b none with
  | none => rw [qb] at hy'; cases hy'
  | some v =>
   rw [qa] at hx'
   rw [qb] at hy'
   cases hx'
   cases hy'
   exact hab
theorem live_order {mask k : Nat} {hs : List Int} {owner : Array (Option Nat)} (O : Own mask hs owner k) : ((liveOf mask owner).map (·.2)).Perm (List.range k) := by
 have ndL : (liveOf mask owner).Nodup := by
  have := live_rise mask owner
  rw [List.pairwise_map] at this
  exact this.imp fun {a b} h e => by rw [e] at h; exact Nat.lt_irrefl _ h
 have nd : ((liveOf mask owner).map (·.2)).Nodup := by
  unfold List.Nodup
  rw [List.pairwise_map]
  refine List.Pairwise.imp_of_mem (fun {a b} ha hb hab e => hab ?_) ndL
  obtain ⟨j, x⟩ := a
  obtain ⟨j', x'⟩ := b
  have e' : x = x' := e
  subst e'
  rw [O.one j j' x ((mem_live O.size).mp ha) ((mem_live O.size).mp hb)]
 refine (List.perm_ext_iff_of_nodup nd List.nodup_range).mpr fun a => ?_
 rw [List.mem_map, List.mem_range]
 constructor
 ·rintro ⟨⟨j, x⟩, hm, rfl⟩
  exact O.lt j x ((mem_live O.size).mp hm)
 ·intro h
  obtain ⟨j, hj⟩ := O.all a h
  exact ⟨(j, a), (mem_live O.size).mpr hj, rfl⟩
theorem picks {α : Type} (es : Array α) : ∀ (l : List Nat), (∀ a ∈ l, a < es.size) -> (l.filterMap (es[·]?)).length = l.length /\ ∀ (i a : Nat) (e : α), l[i]? = some a -> ((l.filterMap (es[·]?))[i]? = some e ↔ es[a]? = some e)
 | [], _ => ⟨rfl, fun i a e h => by simp at h⟩
 | b :: l, hl => by
  have hb := hl b List.mem_cons_self
  obtain ⟨v, hv⟩ : ∃ v, es[b]? = some v := ⟨es[b], by simp [hb]⟩
  obtain ⟨i1, i2⟩ := picks es l fun a ha => hl a (List.mem_cons_of_mem _ ha)
  rw [List.filterMap_cons, hv]
  refine ⟨by simp [i1], fun i a e h => ?_⟩
  cases i with
  | zero =>
   simp only [List.getElem?_cons_zero, Option.some.injEq] at h ⊢
   subst h
   rw [hv]
   simp
  | succ i =>
   simp only [List.getElem?_cons_succ] at h ⊢
   exact i2 i a e h
theorem sizeAbove_small {n : Nat} (h : n = 5 \/ n = 19 \/ n = 77) : (SetTable.sizeAbove (SetTable.grown n) - 1 = 31 /\ n = 5) \/ (SetTable.sizeAbove (SetTable.grown n) - 1 = 127 /\ n = 19) \/ (SetTable.sizeAbove (SetTable.grown n) - 1 = 511 /\ n = 77) := by
 rcases h with rfl | rfl | rfl
 ·exact .inl ⟨by decide +kernel, rfl⟩
 ·exact .inr (.inl ⟨by decide +kernel, rfl⟩)
 ·exact .inr (.inr ⟨by decide +kernel, rfl⟩)
theorem laid_spec {M : Nat} {es : Array (Int × Value)} (finger moves : Nat) (led : Bool) (hmk : MaskOk M /\ es.size * 5 < M * 3) :
  ∃ (t' : SetTable) (order : Array Nat), SetTable.laid M finger moves led true (es.map (·.1)) = some (t', order) /\ (order.filterMap (es[·]?)).toList.Perm es.toList /\ Tab t' (order.filterMap (es[·]?)) /\ t'.led = led /\ (order.filterMap (es[·]?)).size = es.size := by
 obtain ⟨owner, e, O⟩ := layClean_spec hmk.1 (es.map (·.1)) (by rw [Array.size_map]; lia)
 rw [Array.size_map] at O
 have hord := live_order O
 have hlt : ∀ a ∈ (liveOf M owner).map (·.2), a < es.size := fun a ha => List.mem_range.mp (hord.mem_iff.mp ha)
 obtain ⟨p1, p2⟩ := picks es _ hlt
 have hfm : (((liveOf M owner).map (·.2)).toArray.filterMap (es[·]?)).toList = ((liveOf M owner).map (·.2)).filterMap (es[·]?) := by simp
 have hperm : (((liveOf M owner).map (·.2)).toArray.filterMap (es[·]?)).toList.Perm es.toList := by
  rw [hfm]
  have := hord.filterMap (es[·]?)
  rw [filterMap_getElem?_range] at this
  exact this
 have hsz : (((liveOf M owner).map (·.2)).toArray.filterMap (es[·]?)).size = es.size := by
  rw [<- Array.length_toList, hperm.length_eq, Array.length_toList]
 refine ⟨{ mask := M, place := ((liveOf M owner).map (·.1)).toArray, dummies := #[], finger := finger, led := led, moves := moves, plain := true }, ((liveOf M owner).map (·.2)).toArray, by unfold SetTable.laid; rw [e]; rfl, hperm, ⟨rfl, hmk.1, ?_, ?_, ?_, rfl, ?_, ?_⟩, rfl, hsz⟩
 ·show Rise ((liveOf M owner).map (·.1)).toArray
  unfold Rise
  simpa using live_rise _ owner
 ·show ((liveOf M owner).map (·.1)).toArray.size = _
  rw [hsz, List.size_toArray, List.length_map]
  have := hord.length_eq
  rw [List.length_map, List.length_range] at this
  exact this
 ·intro j hj
  have hj' : j ∈ ((liveOf M owner).map (·.1)).toArray.toList := hj
  rw [List.toList_toArray] at hj'
  obtain ⟨⟨j0, a⟩, hm, rfl⟩ := List.mem_map.mp hj'
  have := (Array.getElem?_eq_some_iff.mp ((mem_live O.size).mp hm)).1
  rw [O.size] at this
  show j0 <= _
  exact Nat.le_of_lt_succ this
 ·show (((liveOf M owner).map (·.2)).toArray.filterMap (es[·]?)).size * 5 < _
  rw [hsz]
  exact hmk.2
 ·intro i j en h1 h2
  have h1' : ((liveOf M owner).map (·.1)).toArray[i]? = some j := h1
  rw [List.getElem?_toArray, List.getElem?_map] at h1'
  cases q : (liveOf M owner)[i]? with
  | none => rw [q] at h1'; cases h1'
  | some ja =>
   obtain ⟨j0, a⟩ := ja
   rw [q] at h1'
   cases h1'
   have hm : (j0, a) ∈ liveOf M owner := List.mem_of_getElem? q
   have ho := (mem_live O.size).mp hm
   have h2' : (((liveOf M owner).map (·.2)).filterMap (es[·]?))[i]? = some en := by
    rw [<- hfm, Array.getElem?_toList]; exact h2
   have hea := (p2 i a en (by rw [List.getElem?_map, q]; rfl)).mp h2'
   obtain ⟨n, n1, n2⟩ := O.reach j0 a en.1 ho (by rw [Array.getElem?_toList, Array.getElem?_map, hea]; rfl)
   refine ⟨n, n1, fun m hm' => ?_⟩
   obtain ⟨b, hb⟩ := n2 m hm'
   show _ ∈ ((liveOf M owner).map (·.1)).toArray.toList
   rw [List.toList_toArray]
   exact List.mem_map.mpr ⟨_, (mem_live O.size).mpr hb, rfl⟩
theorem relaid_spec {t : SetTable} {es : Array (Int × Value)} (T : Tab0 t es) (hn : es.size = 5 \/ es.size = 19 \/ es.size = 77) :
  ∃ (t' : SetTable) (order : Array Nat), t.relaid (es.map (·.1)) (SetTable.grown es.size) = some (t', order) /\ (order.filterMap (es[·]?)).toList.Perm es.toList /\ Tab t' (order.filterMap (es[·]?)) /\ t'.led = t.led /\ (order.filterMap (es[·]?)).size = es.size := by
 have hmk : MaskOk (SetTable.sizeAbove (SetTable.grown es.size) - 1) /\ es.size * 5 < (SetTable.sizeAbove (SetTable.grown es.size) - 1) * 3 := by
  rcases sizeAbove_small hn with ⟨e, h⟩ | ⟨e, h⟩ | ⟨e, h⟩
  ·rw [e, h]; exact ⟨.inr (.inl rfl), by decide⟩
  ·rw [e, h]; exact ⟨.inr (.inr (.inl rfl)), by decide⟩
  ·rw [e, h]; exact ⟨.inr (.inr (.inr rfl)), by decide⟩
 unfold SetTable.relaid
 rw [T.plain]
 exact laid_spec t.finger _ t.led hmk
theorem grown_small {n : Nat} (h : n = 5 \/ n = 19 \/ n = 77) : SetTable.sizeAbove (SetTable.grown n) <= 512 := by
 rcases h with rfl | rfl | rfl <;> decide +kernel
end RS
namespace RS
open PySem PySem.SetTable
section
variable {prog : Program} {w : World} {A : Around} {E : Value -> Shared -> Prop} {s : Shared} {K : Type} [DecidableEq K] {knd : KeyKind prog w K}
theorem Tab.fits {t : SetTable} {es : Array (Int × Value)} (T : Tab t es) : t.fits es.size = true := by
 have := T.size
 have := T.room
 have h0 : t.dummies.size = 0 := by rw [T.nod]; rfl
 unfold SetTable.fits SetTable.fill
 simp only [Bool.and_eq_true, beq_iff_eq, decide_eq_true_eq]
 lia
theorem MaskOk.odd {mask : Nat} (h : MaskOk mask) : (mask % 2 == 0) = false := by
 rcases h with rfl | rfl | rfl | rfl <;> rfl
theorem wp_noClass {ks : List K} {a : Addr} {Q : Bool -> Shared -> Prop} (hk : IsTupleKey knd s.heap ks a) (h : Q false s) : wpAny (model prog w) A (ofAClassStatement 8 (.ref a)) Q E s := by
 have hT := hk.typeIs
 obtain ⟨o, items, n, ho, _, hd, hi⟩ := hk
 unfold ofAClassStatement
 refine wpAny_bind (wpAny_typeOf hT ?_)
 dsimp only
 refine wpAny_bind (wpAny_pure ?_)
 simp only [Bool.not_true, Bool.false_eq_true, if_false]
 refine wpAny_bind (wpAny_seqItems ho hd ?_)
 dsimp only
 refine wpAny_bind ?_
 rw [<- Array.forIn_toList]
 refine wpAny_forIn_list _ (fun rest r s' => r.1 = none /\ s' = s /\ ∀ v ∈ rest, carriedByValue v = true) _ ?_ ?_ _ _ ⟨rfl, rfl, hi.byValue⟩
 ·rintro v rest r s' ⟨hr, rfl, hall⟩
  have hv := hall v List.mem_cons_self
  have e : ofAClassStatement 7 v = pure false := by
   cases v with
   | ref b => simp [carriedByValue] at hv
   | _ => unfold ofAClassStatement; rfl
  rw [e]
  refine wpAny_bind (wpAny_pure ?_)
  simp only [Bool.false_eq_true, if_false]
  exact wpAny_pure ⟨rfl, rfl, fun u hu => hall u (List.mem_cons_of_mem _ hu)⟩
 ·rintro ⟨r1, r2⟩ s' ⟨hr, rfl, _⟩
  simp only at hr
  subst hr
  exact wpAny_pure h
theorem wp_notSeen {ks : List K} {a : Addr} {Q : Bool -> Shared -> Prop} (hk : IsTupleKey knd s.heap ks a) (stored : List Value) (hst : ∀ y ∈ stored, ∃ ks' b, y = .ref b /\ IsTupleKey knd s.heap ks' b) (h : Q false s) :
  wpAny (model prog w) A (searchCouldBeSeen (.ref a) stored) Q E s := by
 unfold searchCouldBeSeen
 refine wpAny_bind ?_
 refine wpAny_forIn_list _ (fun rest r s' => r.1 = none /\ s' = s /\ ∀ y ∈ rest, ∃ ks' b, y = .ref b /\ IsTupleKey knd s.heap ks' b) _ ?_ ?_ _ _ ⟨rfl, rfl, hst⟩
 ·rintro v rest r s' ⟨hr, rfl, hall⟩
  obtain ⟨ks', b, rfl, hb⟩ := hall v List.mem_cons_self
  have hrest : ∀ y ∈ rest, ∃ ks' b, y = .ref b /\ IsTupleKey knd s'.heap ks' b := fun y hy => hall y (List.mem_cons_of_mem _ hy)
  dsimp only
  by_cases hv : (a == b) = true
  ·rw [if_pos (by rw [hv]; rfl)]
   exact wpAny_pure ⟨rfl, rfl, hrest⟩
  ·rw [if_neg (by simp [hv, carriedByValue])]
   refine wpAny_bind (wpAny_eqIsQuiet_tuple hk ?_)
   simp only [Bool.not_true, Bool.false_eq_true, if_false]
   refine wpAny_bind (wpAny_eqIsQuiet_tuple hb ?_)
   simp only [Bool.not_true, Bool.false_eq_true, if_false]
   refine wpAny_bind (wp_noClass hk ?_)
   simp only [Bool.false_eq_true, if_false]
   refine wpAny_bind (wp_noClass hb ?_)
   simp only [Bool.false_eq_true, if_false]
   exact wpAny_pure ⟨rfl, rfl, hrest⟩
 ·rintro ⟨r1, r2⟩ s' ⟨hr, rfl, _⟩
  simp only at hr
  subst hr
  exact wpAny_pure h
structure Ents (knd : KeyKind prog w K) (h : Heap) (es : Array (Int × Value)) (xs : List (List K × Addr)) : Prop where
 perm : es.toList.Perm (xs.map fun p => (tupleKeyHash knd p.1, Value.ref p.2))
 keys : ∀ p ∈ xs, IsTupleKey knd h p.1 p.2
 nodup : (xs.map (·.1)).Nodup
theorem Ents.at {h : Heap} {es : Array (Int × Value)} {xs : List (List K × Addr)} (X : Ents knd h es xs) {i : Nat} {e : Int × Value} (he : es[i]? = some e) : ∃ p ∈ xs, e = (tupleKeyHash knd p.1, Value.ref p.2) := by
 have hm : e ∈ es.toList := by rw [<- Array.getElem?_toList] at he; exact List.mem_of_getElem? he
 obtain ⟨p, hp, q⟩ := List.mem_map.mp (X.perm.mem_iff.mp hm)
 exact ⟨p, hp, q.symm⟩
theorem wp_search {S a : Addr} {o : Obj} {es : Array (Int × Value)} {ep : Nat} {t : SetTable} {xs : List (List K × Addr)} {ks : List K} {Q : SetFound -> Shared -> Prop} (hu : A.units < cLine)
  (ho : s.heap.get? S = some o) (hd : o.data = .set es ep t) (T : Tab t es) (X : Ents knd s.heap es xs) (hk : IsTupleKey knd s.heap ks a) {N : Nat} (hlt : N < 10 * turns t.mask)
  (hN : (sq t.mask (tupleKeyHash knd ks) N).j ∉ t.place.toList) (hb : ∀ m, m < N -> (sq t.mask (tupleKeyHash knd ks) m).j ∈ t.place.toList)
  (h1 : (∃ p ∈ xs, p.1 = ks) -> Q (.there none) s) (h2 : (∀ p ∈ xs, p.1 ≠ ks) -> Q (.free (sq t.mask (tupleKeyHash knd ks) N).j false) s) :
  ∀ (fuel n : Nat) (stand : Option Probe), stand.getD (t.probeStart (tupleKeyHash knd ks)) = sq t.mask (tupleKeyHash knd ks) n -> n <= N -> N - n < fuel ->
   (∀ (m i : Nat) (e : Int × Value), m < n -> t.place[i]? = some (sq t.mask (tupleKeyHash knd ks) m).j -> es[i]? = some e -> ∀ p ∈ xs, e = (tupleKeyHash knd p.1, Value.ref p.2) -> p.1 ≠ ks) ->
   wpAny (model prog w) A (setSearchFrom S (.ref a) (tupleKeyHash knd ks) true fuel stand) Q E s
 | 0, _, _, _, _, hf, _ => absurd hf (Nat.not_lt_zero _)
 | fuel + 1, n, stand, hst, hn, hf, hpre => by
  unfold setSearchFrom
  refine wpAny_bind (wpAny_setState_of ho hd T.fits ?_)
  dsimp only
  have hg : t.gaveWay = false := T.mask.odd
  rw [hg]
  simp only [Bool.false_eq_true, if_false]
  rw [hst]
  rcases probe_spec T (tupleKeyHash knd ks) hlt hN hb n hn with ⟨c1, c2⟩ | ⟨m, i, c1, c2, c3, c4, c5, c6⟩
  ·generalize hq : t.probe _ (tupleKeyHash knd ks) (sq t.mask (tupleKeyHash knd ks) n) = r
   have e : r = some (.empty (sq t.mask (tupleKeyHash knd ks) N).j none) := hq.symm.trans c2
   subst e
   dsimp only
   refine wpAny_pure (h2 fun p hp e => ?_)
   obtain ⟨i, hi, ei⟩ := List.getElem_of_mem (X.perm.mem_iff.mpr (List.mem_map.mpr ⟨p, hp, rfl⟩))
   have hei : es[i]? = some (tupleKeyHash knd p.1, Value.ref p.2) := by rw [<- Array.getElem?_toList]; exact List.getElem?_eq_some_iff.mpr ⟨hi, ei⟩
   have his : i < t.place.size := by rw [T.size, <- Array.length_toList]; exact hi
   obtain ⟨j, hj⟩ : ∃ j, t.place[i]? = some j := ⟨t.place[i], by simp [his]⟩
   obtain ⟨n', e1, e2⟩ := T.reach i j _ hj hei
   rw [e] at e1 e2
   have hlt' : n' < N := by
    rcases Nat.lt_or_ge n' N with q | q
    ·exact q
    ·rcases Nat.eq_or_lt_of_le q with q | q
     ·rw [q, e1] at hN; exact absurd (mem_place.mpr ⟨i, hj⟩) hN
     ·exact absurd (e2 N q) hN
   rw [<- e1] at hj
   rcases Nat.lt_or_ge n' n with q | q
   ·exact hpre n' i _ q hj hei p hp rfl e
   ·refine c1 n' i q hlt' hj ?_
    show (es[i]?.map (·.1)).getD 0 = _
    rw [hei, e]
    rfl
  ·generalize hq : t.probe _ (tupleKeyHash knd ks) (sq t.mask (tupleKeyHash knd ks) n) = r
   have e : r = some (.candidate (sq t.mask (tupleKeyHash knd ks) m).j i (sq t.mask (tupleKeyHash knd ks) (m + 1))) := hq.symm.trans c6
   subst e
   dsimp only
   have his : i < es.size := by rw [<- T.size]; exact (Array.getElem?_eq_some_iff.mp c3).1
   obtain ⟨en, hen⟩ : ∃ en, es[i]? = some en := ⟨es[i], by simp [his]⟩
   obtain ⟨p, hp, rfl⟩ := X.at hen
   have hpk := X.keys p hp
   have cont : wpAny (model prog w) A (do
     let equal <- holding [Value.ref p.2] (eqBool (Value.ref p.2) (.ref a))
     let (es', _, t') <- setState S
     if (true && equal) = true then return .there none
     let some same := t'.sameMemory t.moves t.mask | unsupported "set.changed-during-lookup:is-the-new-block-at-the-old-address"
     let still <- match (if same = true then t'.slot (sq t.mask (tupleKeyHash knd ks) m).j else .empty) with
      | .live i' => match es'[i']? with
       | some (_, y') => do pure (if <- isSame y' (Value.ref p.2) then some i' else none)
       | none => pure none
      | _ => pure none
     match still with
     | none => rule "set.search.anew"; setSearchFrom S (.ref a) (tupleKeyHash knd ks) true fuel none
     | some i' => if equal = true then return .there (some i') else setSearchFrom S (.ref a) (tupleKeyHash knd ks) true fuel (some (sq t.mask (tupleKeyHash knd ks) (m + 1)))) Q E s := by
    refine wpAny_bind (wpAny_holding (wpAny_eqBool_tuple hu hpk hk ?_))
    refine wpAny_bind (wpAny_setState_of ho hd T.fits ?_)
    dsimp only
    by_cases hke : p.1 = ks
    ·rw [if_pos (by simp [hke])]
     exact wpAny_pure (h1 ⟨p, hp, hke⟩)
    ·rw [if_neg (by simp [hke])]
     have hsm : t.sameMemory t.moves t.mask = some true := by unfold SetTable.sameMemory; rw [if_pos (beq_self_eq_true _)]
     rw [hsm]
     dsimp only
     rw [if_pos rfl, slot_live T.rise c3]
     dsimp only
     rw [hen]
     dsimp only
     refine wpAny_bind ?_
     have hss : isSame (Value.ref p.2) (Value.ref p.2) = pure true := by
      unfold isSame
      dsimp only
      rw [if_pos (beq_self_eq_true _)]
     rw [hss]
     refine wpAny_pure (wpAny_bind (wpAny_pure ?_))
     rw [if_pos rfl]
     dsimp only
     rw [if_neg (by simp [hke])]
     refine wp_search hu ho hd T X hk hlt hN hb h1 h2 fuel (m + 1) _ rfl (by lia) (by lia) fun m' i' e' q1 q2 q3 p' hp' q4 q5 => ?_
     rcases Nat.lt_or_ge m' n with z | z
     ·exact hpre m' i' e' z q2 q3 p' hp' q4 q5
     ·rcases Nat.lt_or_ge m' m with y | y
      ·refine c5 m' i' z y q2 ?_
       show (es[i']?.map (·.1)).getD 0 = _
       rw [q3, q4, q5]
       rfl
      ·have em : m' = m := by lia
       subst em
       have ei : i' = i := (below_at T.rise q2).symm.trans (below_at T.rise c3)
       subst ei
       rw [q3] at hen
       cases hen
       have e2 : p.2 = p'.2 := by injection q4 with _ q; injection q
       have hin : p.1 = p'.1 := by
        have k1 := X.keys p hp
        have k2 := X.keys p' hp'
        rw [e2] at k1
        exact k1.inj k2
       exact hke (hin.trans q5)
   rw [hen]
   cases hled : t.led with
   | true =>
    simp only [Bool.not_true, Bool.false_eq_true, if_false]
    exact cont
   | false =>
    simp only [Bool.not_false, if_true]
    refine wpAny_bind (wp_notSeen hk _ (fun y hy => ?_) ?_)
    ·obtain ⟨e', he', rfl⟩ := List.mem_map.mp hy
     rw [Array.toList_filter] at he'
     have hm := (List.mem_filter.mp he').1
     obtain ⟨p', hp', q⟩ := List.mem_map.mp (X.perm.mem_iff.mp hm)
     exact ⟨p'.1, p'.2, by rw [<- q], X.keys p' hp'⟩
    ·simp only [Bool.false_eq_true, if_false]
     exact cont
end
end RS
namespace RS
open PySem PySem.SetTable
section
variable {prog : Program} {w : World} {A : Around} {E : Value -> Shared -> Prop} {s : Shared}
theorem tupKey_keep {K : Type} [DecidableEq K] {knd : KeyKind prog w K} {h h' : Heap} {ks : List K} {a : Addr} (x : IsTupleKey knd h ks a) (k : ∀ o, h.get? a = some o -> h'.get? a = some o) : IsTupleKey knd h' ks a :=
 let ⟨o, items, n, ho, hc, hd, hi⟩ := x; ⟨o, items, n, k o ho, hc, hd, hi⟩
theorem items_ints {ks : List Int} {vs : List Value} (h : ItemsAre (intKind prog w) ks vs) : ∀ v ∈ vs, ∃ i t, v = .int i t := by
 induction h with
 | nil => intro v hv; cases hv
 | @cons k v ks vs h1 _ ih =>
  intro u hu
  rcases List.mem_cons.mp hu with rfl | hu
  ·cases u with
   | int i t => exact ⟨i, t, rfl⟩
   | _ => exact absurd h1 (by intro q; cases q)
  ·exact ih u hu
theorem wp_hashByValue {ks : List Int} {a : Addr} {Q : Bool -> Shared -> Prop} (hk : IsTupleKey (intKind prog w) s.heap ks a) (h : Q true s) : wpAny (model prog w) A (hashByValue 8 (.ref a)) Q E s := by
 have hT := hk.typeIs
 obtain ⟨o, items, n, ho, _, hd, hi⟩ := hk
 unfold hashByValue
 refine wpAny_bind (wpAny_specialOf hT F.slot_tuple_hash.lookup ?_)
 dsimp only
 refine wpAny_bind (wpAny_seqItems ho hd ?_)
 refine wpAny_bind ?_
 show wpAny _ _ (forIn items _ _) _ _ s
 rw [<- Array.forIn_toList]
 refine wpAny_forIn_list _ (fun rest r s' => r.1 = none /\ s' = s /\ ∀ v ∈ rest, ∃ i t, v = .int i t) _ ?_ ?_ _ _ ⟨rfl, rfl, items_ints hi⟩
 ·rintro v rest r s' ⟨hr, rfl, hall⟩
  obtain ⟨i, t, rfl⟩ := hall v List.mem_cons_self
  have e : hashByValue 7 (.int i t) = pure true := by unfold hashByValue; rfl
  rw [e]
  refine wpAny_bind (wpAny_pure ?_)
  simp only [Bool.not_true, Bool.false_eq_true, if_false]
  exact wpAny_pure ⟨rfl, rfl, fun u hu => hall u (List.mem_cons_of_mem _ hu)⟩
 ·rintro ⟨r1, r2⟩ s' ⟨hr, rfl, _⟩
  simp only at hr
  subst hr
  exact wpAny_pure h
noncomputable def SetAt (prog : Program) (w : World) (h : Heap) (S : Addr) (led : Bool) (xs : List (List Int × Addr)) : Prop :=
 ∃ o es ep t, h.get? S = some o /\ o.ExactSet /\ o.data = .set es ep t /\ Tab t es /\ t.led = led /\ Ents (intKind prog w) h es xs
theorem Ents.keep {h h' : Heap} {es : Array (Int × Value)} {xs : List (List Int × Addr)} (X : Ents (intKind prog w) h es xs) (k : ∀ p ∈ xs, ∀ o, h.get? p.2 = some o -> h'.get? p.2 = some o) : Ents (intKind prog w) h' es xs :=
 ⟨X.perm, fun p hp => tupKey_keep (X.keys p hp) (k p hp), X.nodup⟩
theorem Ents.size {h : Heap} {es : Array (Int × Value)} {xs : List (List Int × Addr)} (X : Ents (intKind prog w) h es xs) : es.size = xs.length := by
 have := X.perm.length_eq
 rw [List.length_map, Array.length_toList] at this
 exact this
theorem key_apart {h : Heap} {S a : Addr} {o : Obj} {es : Array (Int × Value)} {ep : Nat} {t : SetTable} {ks : List Int} (ho : h.get? S = some o) (hd : o.data = .set es ep t) (hk : IsTupleKey (intKind prog w) h ks a) : a ≠ S := by
 rintro rfl
 obtain ⟨o', items, n, ho', _, hd', _⟩ := hk
 rw [ho] at ho'
 cases ho'
 rw [hd] at hd'
 cases hd'
noncomputable def more (xs : List (List Int × Addr)) (k : List Int) (a : Addr) : List (List Int × Addr) := if k ∈ xs.map (·.1) then xs else xs ++ [(k, a)]
theorem wp_relay {S : Addr} {o : Obj} {es : Array (Int × Value)} {ep : Nat} {t : SetTable} {xs : List (List Int × Addr)} {Q : Unit -> Shared -> Prop} (ho : s.heap.get? S = some o) (he : o.ExactSet) (hd : o.data = .set es ep t)
  (T : Tab0 t es) (X : Ents (intKind prog w) s.heap es xs) (hn : es.size = 5 \/ es.size = 19 \/ es.size = 77) (hm : es.size <= t.mask)
  (h : ∀ h', Heap.SameBut S s.heap h' -> SetAt prog w h' S t.led xs -> Q () { s with heap := h' }) : wpAny (model prog w) A (setRelay S (SetTable.grown es.size)) Q E s := by
 have hf : t.fits es.size = true := by
  have := T.size
  have h0 : t.dummies.size = 0 := by rw [T.nod]; rfl
  unfold SetTable.fits SetTable.fill
  simp only [Bool.and_eq_true, beq_iff_eq, decide_eq_true_eq]
  lia
 obtain ⟨t', order, e1, e2, e3, e4, e5⟩ := relaid_spec T hn
 unfold setRelay
 refine wpAny_bind (wpAny_setState_of ho hd hf ?_)
 dsimp only
 have hsz := grown_small hn
 rw [if_neg (by rw [sizeLine_eq]; lia)]
 rw [e1]
 refine wpAny_bind ?_
 have hre : ∀ (Q' : Array (Int × Value) × SetTable -> Shared -> Prop), Q' (order.filterMap (es[·]?), t') s -> wpAny (model prog w) A
   (if ((order.filterMap (es[·]?)).size != es.size) = true then (unsupported "internal:set-table-lost-an-element" : Sem PUnit) >>= fun _ => pure (order.filterMap (es[·]?), t') else pure (order.filterMap (es[·]?), t')) Q' E s := fun Q' hq => by
  rw [if_neg (by simp [e5])]
  exact wpAny_pure hq
 refine hre _ ?_
 have hb : (order.filterMap (es[·]?)).size < scanBound := by
  rw [e5]
  show es.size < 4096
  lia
 refine wpAny_storeSet_of ho hd ?_ (fits_of_scanBound hb)
 have hg : (s.heap.update S (Obj.putSet (order.filterMap (es[·]?)) t')).get? S = some { o with data := .set (order.filterMap (es[·]?)) (ep + 1) t' } := by
  have := Heap.get?_update_self (Obj.putSet (order.filterMap (es[·]?)) t') ho (by rw [putSet_of _ t' hd]; rfl)
  rw [putSet_of _ t' hd] at this; exact this
 have hsb := Heap.SameBut.update s.heap S (Obj.putSet (order.filterMap (es[·]?)) t')
 refine h _ hsb ⟨_, _, ep + 1, t', hg, he, rfl, e3, e4, ⟨e2.trans X.perm, fun p hp => ?_, X.nodup⟩⟩
 have hk := X.keys p hp
 exact tupKey_keep hk fun o' q => (hsb.2 p.2 (key_apart ho hd hk)).trans q
theorem wp_setAdd {S a : Addr} {led : Bool} {xs : List (List Int × Addr)} {ks : List Int} {Q : Bool -> Shared -> Prop} (hu : A.units < cLine) (hS : SetAt prog w s.heap S led xs) (hk : IsTupleKey (intKind prog w) s.heap ks a) (hlen : xs.length + 1 <= 200)
  (h : ∀ b h' tk, s.toks <= tk -> Heap.SameBut S s.heap h' -> SetAt prog w h' S led (more xs ks a) -> Q b { s with heap := h', toks := tk }) : wpAny (model prog w) A (setAdd S (.ref a)) Q E s := by
 obtain ⟨o, es, ep, t, ho, he, hd, T, hl, X⟩ := hS
 have hes := X.size
 unfold setAdd
 refine wpAny_holding (wpAny_bind (wpAny_pyHash_tuple hu hk ?_))
 generalize htk : s.toks + (ks.length + 1) = tk
 have htk' : s.toks <= tk := by lia
 unfold setAddHashed setAddHashedIn
 refine wpAny_holding (wpAny_bind (wpAny_setState_of (s := { s with toks := tk }) ho hd T.fits ?_))
 dsimp only
 have hbs : byScan (.ref a) es = false := by simp [byScan, Value.scannable]
 rw [hbs]
 simp only [Bool.false_eq_true, if_false]
 obtain ⟨N, hN1, hN2, hN3⟩ := T.first_empty (tupleKeyHash (intKind prog w) ks)
 unfold setSearch
 have hturn : 10 * turns t.mask <= 6000 := by
  unfold turns
  rcases T.mask with q | q | q | q <;> rw [q] <;> decide
 refine wpAny_bind (wp_search (s := { s with toks := tk }) hu ho hd T X hk hN1 hN2 hN3 ?g1 ?g2 100000 0 none (start_eq t _) (Nat.zero_le _) (by lia) fun m _ _ hm => absurd hm (Nat.not_lt_zero _))
 case g1 =>
  rintro ⟨p, hp, e⟩
  dsimp only
  refine wpAny_pure ?_
  have hm : more xs ks a = xs := by unfold more; rw [if_pos (List.mem_map.mpr ⟨p, hp, e⟩)]
  exact h false s.heap tk htk' (Heap.SameBut.refl S s.heap) (by rw [hm]; exact ⟨o, es, ep, t, ho, he, hd, T, hl, X⟩)
 case g2 =>
  intro hno
  dsimp only
  have hm : more xs ks a = xs ++ [(ks, a)] := by
   unfold more
   rw [if_neg fun hin => ?_]
   obtain ⟨p, hp, e⟩ := List.mem_map.mp hin
   exact hno p hp e
  refine wpAny_bind (wpAny_setState_of (s := { s with toks := tk }) ho hd T.fits ?_)
  dsimp only
  rw [put_place t T.nod]
  dsimp only
  rw [if_pos T.plain]
  refine wpAny_bind (wp_hashByValue (s := { s with toks := tk }) hk ?_)
  simp only [if_true]
  have T0 := T.put (.ref a) hN2 hN3
  have hsz1 := insertAt_size es (below t.place (sq t.mask (tupleKeyHash (intKind prog w) ks) N).j) (tupleKeyHash (intKind prog w) ks, Value.ref a)
  have hb : (insertAt es (below t.place (sq t.mask (tupleKeyHash (intKind prog w) ks) N).j) (tupleKeyHash (intKind prog w) ks, Value.ref a)).size < scanBound := by
   rw [hsz1]
   show es.size + 1 < 4096
   lia
  generalize hes' : insertAt es (below t.place (sq t.mask (tupleKeyHash (intKind prog w) ks) N).j) (tupleKeyHash (intKind prog w) ks, Value.ref a) = es' at T0 hsz1 hb ⊢
  have hperm : es'.toList.Perm ((xs ++ [(ks, a)]).map fun p => (tupleKeyHash (intKind prog w) p.1, Value.ref p.2)) := by
   rw [<- hes']
   refine (SetTable.insertAt_perm _ _ _).trans ?_
   rw [Array.toList_push, List.map_append]
   exact X.perm.append_right _
  have hnd : ((xs ++ [(ks, a)]).map (·.1)).Nodup := by
   rw [List.map_append, List.nodup_append]
   refine ⟨X.nodup, by simp, fun x hx y hy e => ?_⟩
   rw [List.map_singleton, List.mem_singleton] at hy
   obtain ⟨p, hp, q⟩ := List.mem_map.mp hx
   exact hno p hp (by rw [q, e, hy])
  generalize ht' : ({ t with place := insertAt t.place (below t.place (sq t.mask (tupleKeyHash (intKind prog w) ks) N).j) (sq t.mask (tupleKeyHash (intKind prog w) ks) N).j } : SetTable) = t' at T0 ⊢
  have hmask : t'.mask = t.mask := by rw [<- ht']
  have hled : t'.led = t.led := by rw [<- ht']
  have hkeys : ∀ p ∈ xs ++ [(ks, a)], IsTupleKey (intKind prog w) s.heap p.1 p.2 := fun p hp => by
   rcases List.mem_append.mp hp with hp | hp
   ·exact X.keys p hp
   ·rw [List.mem_singleton.mp hp]; exact hk
  refine wpAny_bind (wpAny_storeSet_of (s := { s with toks := tk }) ho hd ?_ (fits_of_scanBound hb))
  have hg : (s.heap.update S (Obj.putSet es' t')).get? S = some { o with data := .set es' (ep + 1) t' } := by
   have := Heap.get?_update_self (Obj.putSet es' t') ho (by rw [putSet_of es' t' hd]; rfl)
   rw [putSet_of es' t' hd] at this; exact this
  have hsb := Heap.SameBut.update s.heap S (Obj.putSet es' t')
  have X' : Ents (intKind prog w) (s.heap.update S (Obj.putSet es' t')) es' (xs ++ [(ks, a)]) := ⟨hperm, fun p hp => tupKey_keep (hkeys p hp) fun o' q => (hsb.2 p.2 (key_apart ho hd (hkeys p hp))).trans q, hnd⟩
  have hfill : t'.fill = es'.size := by
   have h0 : t'.dummies.size = 0 := by rw [T0.nod]; rfl
   unfold SetTable.fill
   rw [h0, T0.size]
   rfl
  have hroom := T.room
  by_cases hfull : t'.tooFull = true
  ·rw [if_pos (by rw [hfull]; rfl)]
   have hge : es'.size * 5 >= t.mask * 3 := by
    unfold SetTable.tooFull at hfull
    rw [hfill, hmask] at hfull
    simpa using hfull
   have hn : es'.size = 5 \/ es'.size = 19 \/ es'.size = 77 := by
    rcases T.mask with q | q | q | q <;> rw [q] at hge hroom <;> lia
   have hle : es'.size <= t'.mask := by
    rw [hmask]
    rcases T.mask with q | q | q | q <;> rw [q] at hge hroom ⊢ <;> lia
   rw [show es.size + 1 = es'.size from hsz1.symm]
   refine wpAny_bind (wp_relay (s := { s with heap := s.heap.update S (Obj.putSet es' t'), toks := tk }) hg he rfl T0 X' hn hle fun h' hs' hS' => ?_)
   refine wpAny_pure (h true h' tk htk' (hsb.trans hs') ?_)
   rw [hm, <- hl, <- hled]
   exact hS'
  ·rw [if_neg (by simpa using hfull)]
   have hlt : es'.size * 5 < t.mask * 3 := by
    unfold SetTable.tooFull at hfull
    rw [hfill, hmask] at hfull
    simpa using hfull
   refine wpAny_pure (h true _ tk htk' hsb ?_)
   rw [hm, <- hl, <- hled]
   exact ⟨_, es', ep + 1, t', hg, he, rfl, T0.more (by rw [hmask]; exact hlt), rfl, X'⟩
end
end RS
namespace RS
open PySem PySem.SetTable
noncomputable abbrev newSetObj (led : Bool) : Obj := { cls := .type "set", dict := none, data := .set #[] 0 (.fresh 0 0 led) }
section
variable {prog : Program} {w : World} {A : Around} {E : Value -> Shared -> Prop} {s : Shared}
theorem setAt_fresh {h : Heap} {S : Addr} {led : Bool} (e : h.get? S = some (newSetObj led)) : SetAt prog w h S led [] :=
 ⟨_, #[], 0, _, e, ⟨rfl, rfl, rfl⟩, rfl, ⟨rfl, .inl rfl, List.Pairwise.nil, rfl, fun j hj => (by cases hj), rfl, (by show 0 * 5 < 7 * 3; decide), fun i j e h => (by simp [SetTable.fresh] at h)⟩, rfl,
  ⟨List.Perm.refl _, fun p hp => (by cases hp), List.nodup_nil⟩⟩
noncomputable def moreAll (xs : List (List Int × Addr)) (l : List (List Int × Addr)) : List (List Int × Addr) := l.foldl (fun xs p => more xs p.1 p.2) xs
theorem more_len (xs : List (List Int × Addr)) (k : List Int) (a : Addr) : (more xs k a).length <= xs.length + 1 := by
 unfold more
 split
 ·lia
 ·rw [List.length_append, List.length_singleton]; lia
structure Went (S I : Addr) (s s' : Shared) : Prop where
 heap : ∀ b o, b ≠ S -> b ≠ I -> s.heap.get? b = some o -> s'.heap.get? b = some o
 gens : s'.gens = s.gens
 drawn : s'.drawn = s.drawn
 os : s'.os = s.os
theorem set_loop {S I l : Addr} {led : Bool} {its : List (List Int × Addr)} {R : Result -> Shared -> Prop} (hh : A.handled = none) (hu : A.units + 1 < cLine) (hSI : S ≠ I) (hSl : S ≠ l) (hlI : l ≠ I) (hI : ∀ p ∈ its, p.2 ≠ I) (hlen : its.length <= 150) :
  ∀ (rest pre : List (List Int × Addr)) (xs : List (List Int × Addr)) (s : Shared), pre ++ rest = its -> xs.length <= pre.length -> s.heap.IsListIter I l pre.length -> s.heap.IsList l (its.map fun p => Value.ref p.2).toArray -> SetAt prog w s.heap S led xs ->
   (∀ p ∈ its, IsTupleKey (intKind prog w) s.heap p.1 p.2) -> (∀ s', Went S I s s' -> SetAt prog w s'.heap S led (moreAll xs rest) -> R (.ok (.ret .none)) s') ->
   codeAny (model prog w) A (.builtin "set.update.loop" ⟨[.ref S, .ref I], []⟩) R s
 | [], pre, xs, s, e, hx, hi, hl, hS, hk, h => by
  rw [List.append_nil] at e
  subst e
  refine codeAny_builtin PyProof.Rows.F.entry_set_update_loop ?_
  rw [Around.under_plainId PyProof.Rows.F.plain_set_update_loop _]
  show wpAny _ A.in1 (pyNext (.ref I) >>= _) _ _ s
  refine wpAny_bind (wpAny_pyNext_list_end (by exact hh) hi hl (by simp) fun h' eb => ?_)
  refine wpAny_pure (h { s with heap := h' } ⟨fun b o _ hb q => eb b o hb q, rfl, rfl, rfl⟩ ?_)
  obtain ⟨o, es, ep, t, ho, he, hd, T, hle, X⟩ := hS
  exact ⟨o, es, ep, t, eb _ _ hSI ho, he, hd, T, hle, X.keep fun p hp o' q => eb _ _ (fun z => by
   obtain ⟨o2, e2, c2, d2⟩ := hi
   obtain ⟨o3, it3, n3, e3, c3, d3, _⟩ := X.keys p hp
   rw [z, e2] at e3
   cases e3
   rw [d2] at d3
   cases d3) q⟩
 | p :: rest, pre, xs, s, e, hx, hi, hl, hS, hk, h => by
  have hp : p ∈ its := by rw [<- e]; simp
  have hlp : pre.length + 1 <= its.length := by rw [<- e]; simp
  refine codeAny_builtin PyProof.Rows.F.entry_set_update_loop ?_
  rw [Around.under_plainId PyProof.Rows.F.plain_set_update_loop _]
  show wpAny _ A.in1 (pyNext (.ref I) >>= _) _ _ s
  refine wpAny_bind (wpAny_pyNext_list_item hi hl (x := Value.ref p.2) (by rw [<- e]; simp) fun h1 hi1 hs1 => ?_)
  have up1 : ∀ b o, b ≠ I -> s.heap.get? b = some o -> h1.get? b = some o := fun b o hb q => hs1.extBut b o hb q
  have hS1 : SetAt prog w h1 S led xs := by
   obtain ⟨o, es, ep, t, ho, he, hd, T, hle, X⟩ := hS
   exact ⟨o, es, ep, t, up1 _ _ hSI ho, he, hd, T, hle, X.keep fun q hq o' z => up1 _ _ (fun y => by
    obtain ⟨o2, e2, c2, d2⟩ := hi
    obtain ⟨o3, it3, n3, e3, c3, d3, _⟩ := X.keys q hq
    rw [y, e2] at e3
    cases e3
    rw [d2] at d3
    cases d3) z⟩
  have hk1 : ∀ q ∈ its, IsTupleKey (intKind prog w) h1 q.1 q.2 := fun q hq => tupKey_keep (hk q hq) fun o z => up1 _ o (hI q hq) z
  show wpAny _ A.in1 (holding [Value.ref p.2] (setAdd S (.ref p.2)) >>= _) _ _ { s with heap := h1 }
  refine wpAny_bind (wpAny_holding (wp_setAdd (s := { s with heap := h1 }) (by exact hu) hS1 (hk1 p hp) (by lia) fun b h2 tk htk hs2 hS2 => ?_))
  refine wpAny_pure ⟨plainId_quiet PyProof.Rows.F.plain_set_update_loop _, ?_⟩
  have up2 : ∀ b o, b ≠ S -> h1.get? b = some o -> h2.get? b = some o := fun b o hb q => hs2.extBut b o hb q
  have hml := more_len xs p.1 p.2
  have kS : ∀ q ∈ its, q.2 ≠ S := fun q hq z => by
   obtain ⟨o, es, ep, t, ho, _, hd, _⟩ := hS1
   exact key_apart ho hd (hk1 q hq) z
  refine set_loop hh hu hSI hSl hlI hI hlen rest (pre ++ [p]) (more xs p.1 p.2) { s with heap := h2, toks := tk } (by rw [<- e]; simp) (by rw [List.length_append, List.length_singleton]; lia) ?_ ?_ hS2 (fun q hq => ?_) fun s' w' hS' => ?_
  ·rw [List.length_append, List.length_singleton]
   exact hi1.at fun o q => up2 _ o (Ne.symm hSI) q
  ·obtain ⟨o, q, r⟩ := hl
   exact ⟨o, up2 _ _ (Ne.symm hSl) (up1 _ _ hlI q), r⟩
  ·exact tupKey_keep (hk1 q hq) fun o z => up2 _ o (kS q hq) z
  ·exact h s' ⟨fun b o h1' h2' q => w'.heap b o h1' h2' (up2 b o h1' (up1 b o h2' q)), w'.gens, w'.drawn, w'.os⟩ hS'
theorem code_set_new_w (a : Value) {Q₁ : Value -> Shared -> Prop} (h : Q₁ (.ref s.heap.objs.size) { s with heap := s.heap.push (newSetObj (!w.params.followText "set-order")) }) :
  codeAny (model prog w) A (.call (.builtin "set.__new__") ⟨[.type "set", a], []⟩) (wants Q₁ E) s := by
 refine codeAny_of_tree ?_
 show wpAny _ A.in1 (do checkBuiltinCall "set.__new__" ⟨[.type "set", a], []⟩; again (.builtin "set.__new__" ⟨[.type "set", a], []⟩)) _ _ s
 refine wpAny_bind (wpAny_of_eq (PySem.F.newCall_set_1 a) (wpAny_pure ⟨plainId_quiet PySem.F.plain_set_new _, codeAny_builtin PySem.F.entry_set_new ?_⟩))
 rw [Around.under_plainId PySem.F.plain_set_new _]
 unfold Builtin.«set.__new__» Builtin.Frozenset.newClass
 have hsb := sub_set_self
 obtain ⟨hp, g, d, tk, os⟩ := s
 dsimp only
 wp_walk
 refine wpAny_askSetting (wpAny_pure ?_)
 dsimp only
 simp only [newObj]
 exact wpAny_bind (wpAny_alloc (wpAny_pure (wpAny_pure h)))
set_option maxHeartbeats 4000000 in
theorem call_set_tups {l : Addr} {its : List (List Int × Addr)} {Q : Value -> Shared -> Prop} (hh : A.handled = none) (hu : A.units + 8 < cLine) (hl : s.heap.IsList l (its.map fun p => Value.ref p.2).toArray) (hk : ∀ p ∈ its, IsTupleKey (intKind prog w) s.heap p.1 p.2) (hlen : its.length <= 150)
  (h : ∀ (h' : Heap) (tk : Nat), SetAt prog w h' s.heap.objs.size (!w.params.followText "set-order") (moreAll [] its) -> (∀ b o, s.heap.get? b = some o -> h'.get? b = some o) -> Q (.ref s.heap.objs.size) { s with heap := h', toks := tk }) :
  wpAny (model prog w) A (call (.type "set") [.ref l]) Q E s := by
 obtain ⟨mc, mt, hmro⟩ := PySem.F.called_set.mro
 have hmd := PySem.F.called_set.made
 have hsb := PySem.F.called_set.sub
 refine wpAny_call (codeAny_of_tree ?_)
 show wpAny _ _ (callAny (.type "set") _) _ _ s
 refine wpAny_pure ⟨Code.quiet_builtin _ (by decide +kernel), codeAny_builtin PySem.F.entry_type_call ?_⟩
 rw [Around.under_plain (weight_type_call_type "set" [.ref l] []) rfl]
 have x1 := PySem.F.called_set.notType
 have x2 := PySem.F.called_set.canCreate
 have x3 := PySem.F.typeCall_set_1 (.ref l)
 repeat (any_goals (first | assumption | wp_step))
 refine codeAny_mono (code_set_new_w (.ref l) (E := E) (Q₁ := fun ob s1 => ob = .ref s.heap.objs.size /\ s1 = { s with heap := s.heap.push (newSetObj (!w.params.followText "set-order")) }) ⟨rfl, rfl⟩) fun r s1 hr => ?_
 cases r with
 | error e => exact hr
 | ok fl =>
  cases fl with
  | ret ob =>
   obtain ⟨rfl, rfl⟩ := hr
   generalize (!w.params.followText "set-order") = led at h ⊢
   have g1 : (s.heap.push (newSetObj led)).get? s.heap.objs.size = some (newSetObj led) := Heap.get?_push_size _ rfl
   have hT : Shared.TypeIs { s with heap := s.heap.push (newSetObj led) } (.ref s.heap.objs.size) "set" := ⟨_, g1, rfl⟩
   have y1 := PySem.F.called_set.init.lookup
   have y2 := PySem.F.called_set.init.bind (.ref s.heap.objs.size)
   repeat (any_goals (first | assumption | wp_step))
   refine codeAny_mono (codeAny_call_builtin (R := wants (fun r s2 => r = .none /\ ∃ h' tk, s2 = { s with heap := h', toks := tk } /\ SetAt prog w h' s.heap.objs.size led (moreAll [] its) /\ ∀ b o, s.heap.get? b = some o -> h'.get? b = some o) E)
    PySem.F.called_set.init.plain PySem.F.entry_set_init (check_set_init_1 hT ?_)) fun r2 s2 hr2 => ?_
   ·have hl' := hl
    obtain ⟨ol, hol, hcl, nl, hdl⟩ := hl
    obtain ⟨oc, od, oda, osl⟩ := ol
    simp only at hcl hdl
    subst hcl; subst hdl
    have hol1 : (s.heap.push (newSetObj led)).get? l = some { cls := .type "list", dict := od, data := .seq (its.map fun p => Value.ref p.2).toArray nl, slots := osl } := Heap.get?_push_of_some _ hol
    have z1 := PySem.F.sub_list_set
    have z2 := PySem.F.sub_list_frozenset
    have z3 : (Value.type "list" == Value.type "dict") = false := by decide
    have hl1 : (s.heap.push (newSetObj led)).IsList l (its.map fun p => Value.ref p.2).toArray := ⟨_, hol1, rfl, nl, rfl⟩
    unfold Builtin.«set.__init__» noKeywords Builtin.Frozenset.updateFrom
    generalize hPI : pyIter = PI
    wp_walk
    subst hPI
    refine wpAny_pyIter_list hl1 ?_
    refine wpAny_bind (wpAny_runValue ?_)
    have hlS : l < s.heap.objs.size := Heap.lt_size hol
    have sz : (s.heap.push (newSetObj led)).objs.size = s.heap.objs.size + 1 := Heap.size_push ..
    have kk : ∀ b o, s.heap.get? b = some o -> ((s.heap.push (newSetObj led)).push { cls := .type "list_iterator", data := .fields #[.ref l, .int 0 0] }).get? b = some o := fun b o q => Heap.get?_push_of_some _ (Heap.get?_push_of_some _ q)
    have ltI : ∀ p ∈ its, p.2 < s.heap.objs.size := fun p hp => by
     obtain ⟨o, _, _, e, _⟩ := hk p hp
     exact Heap.lt_size e
    refine set_loop (its := its) (led := led) (S := s.heap.objs.size) (I := (s.heap.push (newSetObj led)).objs.size) (l := l) (by simpa using hh) (by show A.units + 1 + 1 + 1 < cLine; lia) (by rw [sz]; exact Nat.ne_of_lt (Nat.lt_succ_self _)) (Nat.ne_of_gt hlS)
     (by rw [sz]; exact Nat.ne_of_lt (Nat.lt_succ_of_lt hlS)) (fun p hp => by rw [sz]; exact Nat.ne_of_lt (Nat.lt_succ_of_lt (ltI p hp))) hlen its [] [] _ rfl (Nat.le_refl _) ⟨_, Heap.get?_push_size _ rfl, rfl, rfl⟩ (hl1.push _)
     (setAt_fresh (Heap.get?_push_of_some _ g1)) (fun p hp => tupKey_keep (hk p hp) fun o q => kk _ o q) fun s' w' hS' => ?_
    obtain ⟨h', g', d', tk', os'⟩ := s'
    have eg : g' = s.gens := w'.gens
    have ed : d' = s.drawn := w'.drawn
    have eo : os' = s.os := w'.os
    subst eg; subst ed; subst eo
    show wpAny _ _ _ _ _ _
    refine wpAny_pure ?_
    show wpAny _ _ (ret Value.none) _ _ _
    refine wpAny_pure ⟨rfl, h', tk', rfl, hS', fun b o q => ?_⟩
    have hb := Heap.lt_size q
    exact w'.heap b o (Nat.ne_of_lt hb) (by rw [sz]; exact Nat.ne_of_lt (Nat.lt_succ_of_lt hb)) (kk b o q)
   ·cases r2 with
    | error e => exact hr2
    | ok fl2 =>
     cases fl2 with
     | ret r =>
      obtain ⟨rfl, h', tk, rfl, hS', hk'⟩ := hr2
      repeat (any_goals (first | assumption | wp_step))
      exact h _ _ hS' hk'
     | _ => exact hr2.elim
  | _ => exact hr.elim
end
end RS
namespace RS
open PySem PySem.SetTable
theorem erase_perm {α : Type} (l : List α) (i : Nat) (h : i < l.length) : (l[i] :: l.eraseIdx i).Perm l := by
 have e : l = l.take i ++ l[i] :: l.drop (i + 1) := by rw [List.getElem_cons_drop, List.take_append_drop]
 rw [List.eraseIdx_eq_take_drop_succ]
 conv => rhs; rw [e]
 exact List.perm_middle.symm
set_option tactic.hygienic true in
theorem pick_go {α : Type} (next : Nat -> Nat) : ∀ (fuel k : Nat) (left : List α) (out : Array α), left.length = fuel -> (pickOrder.go next fuel k left out).toList.Perm (out.toList ++ left)
 | 0, k, left, out, h => by
  have e : left = [] := List.length_eq_zero_iff.mp h
  subst e
  simp [pickOrder.go]
 | fuel + 1, k, left, out, h => by
  unfold pickOrder.go
  have hlt : next k % left.length < left.length := Nat.mod_lt _ (by lia)
  rw [List.getElem?_eq_getElem hlt]
  dsimp only
  have ih := pick_go next fuel (k + 1) (left.eraseIdx (next k % left.length)) (out.push left[next k % left.length]) (by rw [List.length_eraseIdx_of_lt hlt]; lia)
  refine ih.trans ?_
  rw [Array.toList_push, List.append_assoc]
  refine List.Perm.append_left _ ?_
  exact erase_perm left _ hlt
set_option tactic.hygienic true in
theorem pick_perm {α : Type} (next : Nat -> Nat) (xs : Array α) : (pickOrder next xs).toList.Perm xs.toList := by
 have := pick_go next xs.size 0 xs.toList #[] (by simp)
 simpa [pickOrder] using this
namespace Fs
theorem slot_next : Slot "set_iterator" "__next__" "set_iterator.__next__" :=
 .of (owner := "set_iterator") (n := "__next__") (by rw [typeLookup_type, builtinLookup_eq_fast]; kernel_rfl) (by decide +kernel) (by decide +kernel) (by decide +kernel)
  (by first | exact .inl (by decide +kernel) | exact .inr (by decide +kernel)) (by rw [isSubtype_type]; kernel_rfl)
theorem slot_self : Slot "set_iterator" "__iter__" "set_iterator.__iter__" :=
 .of (owner := "set_iterator") (n := "__iter__") (by rw [typeLookup_type, builtinLookup_eq_fast]; kernel_rfl) (by decide +kernel) (by decide +kernel) (by decide +kernel)
  (by first | exact .inl (by decide +kernel) | exact .inr (by decide +kernel)) (by rw [isSubtype_type]; kernel_rfl)
theorem entry_next : entryFor table "set_iterator.__next__" = some Builtin.«set_iterator.__next__» := entryFor_of_tree (by kernel_rfl)
theorem entry_iter : entryFor table "set.__iter__" = some Builtin.«frozenset.__iter__» := entryFor_alias (id' := "frozenset.__iter__") (by kernel_rfl) rfl (by decide +kernel) (by kernel_rfl)
theorem owner_it : Manifest.owners.lookup (String.ofList ['r', 'o', 't', 'a', 'r', 'e', 't', 'i', '_', 't', 'e', 's'].reverse) = some Manifest.sig_set_iterator := by kernel_rfl
theorem args_next (a : Value) : argsOk "set_iterator.__next__" ⟨[a], []⟩ := by
 unfold argsOk; rw [signature?_of (id := "set_iterator.__next__") (n := ['_', '_', 't', 'x', 'e', 'n', '_', '_']) (o := ['r', 'o', 't', 'a', 'r', 'e', 't', 'i', '_', 't', 'e', 's']) (by kernel_rfl) owner_it]; kernel_rfl
theorem args_self (a : Value) : argsOk "set_iterator.__iter__" ⟨[a], []⟩ := by
 unfold argsOk; rw [signature?_of (id := "set_iterator.__iter__") (n := ['_', '_', 'r', 'e', 't', 'i', '_', '_']) (o := ['r', 'o', 't', 'a', 'r', 'e', 't', 'i', '_', 't', 'e', 's']) (by kernel_rfl) owner_it]; kernel_rfl
end Fs
end RS
namespace RS
open PySem PySem.SetTable
theorem Fs.entry_self : entryFor table "set_iterator.__iter__" = some Builtin.«dict_keyiterator.__iter__» := entryFor_alias (id' := "dict_keyiterator.__iter__") (by kernel_rfl) rfl (by decide +kernel) (by kernel_rfl)
noncomputable def SetEx (h : Heap) (S : Addr) (es : Array (Int × Value)) (ep : Nat) (t : SetTable) : Prop := ∃ o, h.get? S = some o /\ o.cls = .type "set" /\ o.data = .set es ep t
theorem SetEx.at {h h' : Heap} {S : Addr} {es : Array (Int × Value)} {ep : Nat} {t : SetTable} (x : SetEx h S es ep t) (k : ∀ o, h.get? S = some o -> h'.get? S = some o) : SetEx h' S es ep t := let ⟨o, e, r⟩ := x; ⟨o, k o e, r⟩
theorem SetEx.type {s : Shared} {S : Addr} {es : Array (Int × Value)} {ep : Nat} {t : SetTable} (x : SetEx s.heap S es ep t) : s.TypeIs (.ref S) "set" := let ⟨o, e, c, _⟩ := x; ⟨o, e, c⟩
noncomputable def walkOf (w : World) (S : Addr) (es : Array (Int × Value)) (ep : Nat) : Array (Int × Value) := if w.params.followText "set-order" = true then pickOrder (w.params.setOrder S ep) es else es
theorem walk_perm (w : World) (S : Addr) (es : Array (Int × Value)) (ep : Nat) : (walkOf w S es ep).toList.Perm es.toList := by
 unfold walkOf
 split
 ·exact pick_perm _ _
 ·exact List.Perm.refl _
theorem walk_size (w : World) (S : Addr) (es : Array (Int × Value)) (ep : Nat) : (walkOf w S es ep).size = es.size := by
 rw [<- Array.length_toList, (walk_perm w S es ep).length_eq, Array.length_toList]
noncomputable def slotAt (w : World) (t : SetTable) (i : Nat) : Nat := if w.params.followText "set-order" = true then 0 else if i = 0 then 0 else t.place.getD (i - 1) 0 + 1
noncomputable def IsSetIter (w : World) (h : Heap) (I S : Addr) (n ep : Nat) (t : SetTable) (i : Nat) : Prop :=
 ∃ o, h.get? I = some o /\ o.cls = .type "set_iterator" /\ o.data = .fields #[.int (slotAt w t i) 0, .int i 0, .ref S, .int n 0, .int ep 0]
theorem IsSetIter.type {w : World} {s : Shared} {I S : Addr} {n ep : Nat} {t : SetTable} {i : Nat} (x : IsSetIter w s.heap I S n ep t i) : s.TypeIs (.ref I) "set_iterator" := let ⟨o, e, c, _⟩ := x; ⟨o, e, c⟩
theorem IsSetIter.at {w : World} {h h' : Heap} {I S : Addr} {n ep : Nat} {t : SetTable} {i : Nat} (x : IsSetIter w h I S n ep t i) (k : ∀ o, h.get? I = some o -> h'.get? I = some o) : IsSetIter w h' I S n ep t i := let ⟨o, e, r⟩ := x; ⟨o, k o e, r⟩
noncomputable def Led (w : World) (t : SetTable) : Prop := t.led = !w.params.followText "set-order"
theorem below_slot {w : World} {t : SetTable} (r : Rise t.place) (hw : w.params.followText "set-order" = false) {i : Nat} (hi : i <= t.place.size) : below t.place (slotAt w t i) = i := by
 unfold slotAt
 rw [hw]
 simp only [Bool.false_eq_true, if_false]
 have g : ∀ k : Nat, k < t.place.size -> t.place[k]? = some (t.place.getD k 0) := fun k hk => by simp [Array.getD, hk]
 by_cases h0 : i = 0
 ·rw [if_pos h0, h0]
  obtain ⟨a1, a2, a3⟩ := below_spec r 0
  rcases Nat.eq_zero_or_pos (below t.place 0) with q | q
  ·exact q
  ·exact absurd (a2 0 _ q (g 0 (by lia))) (Nat.not_lt_zero _)
 ·rw [if_neg h0]
  obtain ⟨a1, a2, a3⟩ := below_spec r (t.place.getD (i - 1) 0 + 1)
  have hlt : i - 1 < t.place.size := by lia
  have h1 : i - 1 < below t.place (t.place.getD (i - 1) 0 + 1) := by
   rcases Nat.lt_or_ge (i - 1) (below t.place (t.place.getD (i - 1) 0 + 1)) with q | q
   ·exact q
   ·have := a3 (i - 1) _ q (g _ hlt)
    lia
  rcases Nat.lt_or_ge i (below t.place (t.place.getD (i - 1) 0 + 1)) with q | q
  ·have hi' : i < t.place.size := by lia
   have b1 := a2 i _ q (g i hi')
   have b2 := r.lt (g (i - 1) hlt) (g i hi') (by lia)
   omega
  ·lia
section
variable {prog : Program} {w : World} {A : Around} {E : Value -> Shared -> Prop} {s : Shared} {S I : Addr} {es : Array (Int × Value)} {ep : Nat} {t : SetTable}
theorem wp_byText {Q : Bool -> Shared -> Prop} (h : Q (w.params.followText "set-order") s) : wpAny (model prog w) A setsByText Q E s := by
 unfold setsByText
 exact wpAny_bind (wpAny_askSetting (wpAny_pure h))
theorem wp_iterSet {Q : Value -> Shared -> Prop} (hS : SetEx s.heap S es ep t) (T : Tab t es)
  (hQ : Q (.ref s.heap.objs.size) { s with heap := s.heap.push { cls := .type "set_iterator", data := .fields #[.int (slotAt w t 0) 0, .int 0 0, .ref S, .int es.size 0, .int ep 0] } }) : wpAny (model prog w) A (pyIter (.ref S)) Q E s := by
 obtain ⟨o, ho, hc, hd⟩ := id hS
 refine wpAny_pyIter_slot hS.type F.slot_set_iter (wpAny_call_entry F.slot_set_iter hS.type Fs.entry_iter ?_ (F.args_set_iter_1 _))
 unfold Builtin.«frozenset.__iter__» Builtin.Frozenset.slot0
 refine wpAny_bind (m := (do let x <- slotArgs "__iter__" 0 _; Builtin.Frozenset.addrOf x.1 : Sem Addr)) (wpAny_bind (wpAny_pure ?_))
 show wpAny _ _ (pure S) _ _ s
 refine wpAny_pure ?_
 refine wpAny_bind ?_
 unfold Builtin.Frozenset.sizeOf
 refine wpAny_bind (wpAny_setEntries_of ho hd T.fits (wpAny_pure ?_))
 refine wpAny_bind ?_
 unfold setDrawn
 refine wpAny_bind (wpAny_setState_of ho hd T.fits ?_)
 refine wpAny_bind (wp_byText (wpAny_pure ?_))
 have hdr : ∀ b : Bool, (!b && (!t.plain && decide (es.size > 1))) = false := fun b => by rw [T.plain]; simp
 show wpAny _ _ (if (!(w.params.followText "set-order") && (!t.plain && decide (es.size > 1))) = true then _ else _) _ _ s
 rw [hdr]
 simp only [Bool.false_eq_true, if_false]
 refine wpAny_bind (wpAny_pure ?_)
 refine wpAny_bind (wpAny_setEpoch_of ho hd T.fits ?_)
 have hsl : slotAt w t 0 = 0 := by unfold slotAt; split <;> rfl
 rw [hsl] at hQ
 refine wpAny_bind (wpAny_newObj_type (wpAny_pure ⟨_, rfl, "set_iterator", _, ⟨_, Heap.get?_push_size _ rfl, rfl⟩, Fs.slot_next.lookup, ?_⟩))
 exact hQ
theorem wp_nextSet {Q : Option (Value × Nat) -> Shared -> Prop} (hS : SetEx s.heap S es ep t) (T : Tab t es) (L : Led w t) {i : Nat} (hi : i <= es.size)
  (h : Q (((walkOf w S es ep)[i]?).map fun e => (e.2, slotAt w t (i + 1))) s) : wpAny (model prog w) A (setNext S (slotAt w t i) i ep) Q E s := by
 obtain ⟨o, ho, hc, hd⟩ := id hS
 unfold setNext
 refine wpAny_bind (wpAny_setState_of ho hd T.fits ?_)
 dsimp only
 refine wpAny_bind (wp_byText ?_)
 cases hw : w.params.followText "set-order" with
 | true =>
  simp only [if_true]
  rw [if_neg (by simp)]
  refine wpAny_bind ?_
  unfold setWalk
  refine wpAny_bind (wpAny_setState_of ho hd T.fits ?_)
  dsimp only
  refine wpAny_bind (wp_byText ?_)
  rw [hw]
  simp only [if_true]
  refine wpAny_bind (wpAny_askSetting (wpAny_pure (wpAny_pure ?_)))
  have e1 : walkOf w S es ep = pickOrder (w.params.setOrder S ep) es := by unfold walkOf; rw [if_pos hw]
  have e2 : slotAt w t (i + 1) = slotAt w t i := by unfold slotAt; rw [if_pos hw, if_pos hw]
  rw [e1, e2] at h
  exact h
 | false =>
  simp only [Bool.false_eq_true, if_false]
  have hdr : (!t.plain && decide (es.size > 1)) = false := by rw [T.plain]; rfl
  show wpAny _ _ (if (!t.plain && decide (es.size > 1)) = true then _ else _) _ _ s
  rw [hdr]
  simp only [Bool.false_eq_true, if_false]
  have hled : t.led = true := by have := L; unfold Led at this; rw [hw] at this; exact this
  refine wpAny_bind (m := (if (!t.led && !es.isEmpty) = true then unsupported "set:maker-not-led" else pure () : Sem PUnit)) ?_
  rw [hled]
  simp only [Bool.not_true, Bool.false_and, Bool.false_eq_true, if_false]
  refine wpAny_pure ?_
  rw [below_slot T.rise hw (by rw [T.size]; exact hi)]
  refine wpAny_pure ?_
  have e1 : walkOf w S es ep = es := by unfold walkOf; rw [if_neg (by rw [hw]; exact Bool.false_ne_true)]
  rw [e1] at h
  rcases Nat.lt_or_ge i es.size with hlt | hge
  ·have hp : i < t.place.size := by rw [T.size]; exact hlt
   have g1 : es[i]? = some es[i] := by simp [hlt]
   have g2 : t.place[i]? = some (t.place.getD i 0) := by simp [Array.getD, hp]
   rw [g1] at h ⊢
   rw [g2]
   have e3 : slotAt w t (i + 1) = t.place.getD i 0 + 1 := by
    unfold slotAt
    rw [if_neg (by rw [hw]; exact Bool.false_ne_true), if_neg (by lia)]
    rfl
   rw [e3] at h
   exact h
  ·have g1 : es[i]? = none := by simp [hge]
   rw [g1] at h ⊢
   exact h
theorem wp_nextSet_item {Q : Option Value -> Shared -> Prop} {i : Nat} {e : Int × Value} (hI : IsSetIter w s.heap I S es.size ep t i) (hS : SetEx s.heap S es ep t) (T : Tab t es) (L : Led w t) (he : (walkOf w S es ep)[i]? = some e)
  (hQ : ∀ h', IsSetIter w h' I S es.size ep t (i + 1) -> Heap.SameBut I s.heap h' -> Q (some e.2) { s with heap := h' }) : wpAny (model prog w) A (pyNext (.ref I)) Q E s := by
 obtain ⟨o, ho, hc, hd⟩ := id hI
 obtain ⟨so, hso, hsc, hsd⟩ := id hS
 have hi : i < es.size := by rw [<- walk_size w S es ep]; exact (Array.getElem?_eq_some_iff.mp he).1
 unfold pyNext
 refine wpAny_bind (wpAny_attempt (wpAny_callSpecial?_slot (name := Str.ofString "__next__") hI.type Fs.slot_next (wpAny_call_entry Fs.slot_next hI.type Fs.entry_next ?_ (Fs.args_next _))))
 unfold Builtin.«set_iterator.__next__»
 refine wpAny_bind (wpAny_pure ?_)
 refine wpAny_bind (wpAny_fieldsOf ho hd ?_)
 dsimp only
 refine wpAny_bind (wpAny_setEntries_of hso hsd T.fits ?_)
 rw [if_neg (by simp)]
 refine wpAny_bind (wp_nextSet hS T L (Nat.le_of_lt hi) ?_)
 rw [he]
 dsimp only [Option.map_some]
 refine wpAny_bind (wpAny_setField ho hd (by simp) ?_)
 have ho1 := Heap.get?_update_self (Obj.mapFields (·.setIfInBounds 0 (rawInt (slotAt w t (i + 1))))) ho (Obj.isFreed_of_fields (Obj.data_mapFields hd _))
 refine wpAny_bind (wpAny_setField ho1 (Obj.data_mapFields hd _) (by simp) ?_)
 refine wpAny_pure ⟨_, rfl, wpAny_pure (hQ _ ⟨_, Heap.get?_update_self _ ho1 (Obj.isFreed_of_fields (Obj.data_mapFields (Obj.data_mapFields hd _) _)), ?_, ?_⟩ ((Heap.SameBut.update ..).trans (Heap.SameBut.update ..)))⟩
 ·exact (Obj.cls_mapFields ..).trans ((Obj.cls_mapFields ..).trans hc)
 ·rw [Obj.data_mapFields (Obj.data_mapFields hd _) _]
  simp [rawInt]
theorem wp_nextSet_end {Q : Option Value -> Shared -> Prop} (hh : A.handled = none) (hI : IsSetIter w s.heap I S es.size ep t es.size) (hS : SetEx s.heap S es ep t) (T : Tab t es) (L : Led w t)
  (hQ : ∀ h', Heap.ExtBut I s.heap h' -> Q none { s with heap := h' }) : wpAny (model prog w) A (pyNext (.ref I)) Q E s := by
 obtain ⟨o, ho, hc, hd⟩ := id hI
 obtain ⟨so, hso, hsc, hsd⟩ := id hS
 unfold pyNext
 refine wpAny_bind (wpAny_attempt (wpAny_callSpecial?_slot (name := Str.ofString "__next__") hI.type Fs.slot_next (wpAny_call_entry Fs.slot_next hI.type Fs.entry_next ?_ (Fs.args_next _))))
 unfold Builtin.«set_iterator.__next__»
 refine wpAny_bind (wpAny_pure ?_)
 refine wpAny_bind (wpAny_fieldsOf ho hd ?_)
 dsimp only
 refine wpAny_bind (wpAny_setEntries_of hso hsd T.fits ?_)
 rw [if_neg (by simp)]
 refine wpAny_bind (wp_nextSet hS T L (Nat.le_refl _) ?_)
 have hn : (walkOf w S es ep)[es.size]? = none := by
  have := walk_size w S es ep
  simp [this]
 rw [hn]
 dsimp only [Option.map_none]
 refine wpAny_bind (wpAny_setField ho hd (by simp) ?_)
 refine wpAny_bind (m := newExc (.type "StopIteration") []) ?_
 simp only [newExc, newTuple]
 refine wpAny_bind (wpAny_newObj_type ?_ (by size_fits))
 refine wpAny_bind (m := firstArgMember _ _) (wpAny_of_eq (a := Value.none) (by first | rfl | (simp only [firstArgMember]; rfl)) ?_)
 refine wpAny_newObj_type ?_ (by size_fits)
 simp only [raiseNew]
 refine wpAny_bind (wpAny_handled ?_)
 rw [show A.in1.handled = none from hh]
 refine wpAny_bind (wpAny_pure (wpAny_throw ?_))
 refine wpAny_bind (wpAny_isInstance (T := "StopIteration") (b := true) ⟨_, Heap.get?_push_size _ rfl, rfl⟩ isSubtype_stop ?_)
 exact wpAny_pure (hQ _ (((Heap.SameBut.update ..).extBut.push _).push _))
theorem walks_set (hh : A.handled = none) (hne : S ≠ I) (T : Tab t es) (L : Led w t) :
  Walks prog w A I [I, S] [I] es.size (fun i v => ∃ e, (walkOf w S es ep)[i]? = some e /\ v = e.2) (fun i h => IsSetIter w h I S es.size ep t i /\ SetEx h S es ep t) where
 sub := fun b hb => by simp at hb; simp [hb]
 frame := fun _ _ _ st hk => ⟨st.1.at fun o e => hk I (by simp) o e, st.2.at fun o e => hk S (by simp) o e⟩
 item := fun i s Q E hi st hQ => by
  obtain ⟨e, he⟩ : ∃ e, (walkOf w S es ep)[i]? = some e := ⟨(walkOf w S es ep)[i]'(by rw [walk_size]; exact hi), by simp [walk_size, hi]⟩
  refine wp_nextSet_item st.1 st.2 T L he fun h' hI' hs' => ?_
  exact hQ _ h' s.toks ⟨e, he, rfl⟩ ⟨hI', st.2.at fun o q => hs'.extBut _ o hne q⟩ fun b o hb q => hs'.extBut b o (fun z => hb (by simp [z])) q
 done := fun s Q E st hQ => wp_nextSet_end hh st.1 st.2 T L fun h' he' => hQ h' s.toks fun b o hb q => he' b o (fun z => hb (by simp [z])) q
 self := fun i s Q E st hQ => by
  refine wpAny_pyIter_slot st.1.type Fs.slot_self (wpAny_call_entry Fs.slot_self st.1.type Fs.entry_self ?_ (Fs.args_self _))
  show wpAny _ _ (ret (.ref I)) _ _ s
  exact wpAny_pure ⟨_, rfl, "set_iterator", _, st.1.type, Fs.slot_next.lookup, hQ⟩
end
end RS
namespace RS
noncomputable abbrev Pt := Int × Int
noncomputable def arrow (s e : Pt) : Pt := (e.1 - s.1, e.2 - s.2)
noncomputable def cross (a b : Pt) : Int := a.1 * b.2 - a.2 * b.1
noncomputable def fstHalf (a : Pt) : Bool := decide (0 < a.2) || (decide (a.2 = 0) && decide (0 < a.1))
noncomputable def before (a b : Pt) : Bool := if (fstHalf a != fstHalf b) = true then fstHalf a else decide (0 < cross a b)
noncomputable def round (cs : List Pt) : List Pt := List.zipWith arrow cs (cs.drop 1 ++ cs.take 1)
noncomputable def isShape (cs : List Pt) : Bool :=
 if cs.length < 2 then decide (cs.length = 1)
 else if (0, 0) ∈ round cs then false
 else (List.zipWith before (round cs) ((round cs).drop 1)).all id
noncomputable def half (a : Pt) : Int := if (decide (a.2 < 0) || (decide (a.2 = 0) && decide (a.1 < 0))) = true then 1 else 0
noncomputable def bad (a b : Pt) : Bool := decide (half b < half a) || (decide (half a = half b) && decide (cross a b <= 0))
noncomputable def lawSides (cs : List Pt) : List Pt := if cs.length < 2 then [] else round cs
noncomputable def good (cs : List Pt) : Bool :=
 if cs.length = 0 \/ (0, 0) ∈ lawSides cs then false
 else if 0 < (lawSides cs).length /\ half ((lawSides cs).headD (0, 0)) = 1 then false
 else (List.zipWith bad (lawSides cs) ((lawSides cs).drop 1)).all (! ·)
theorem half_of {a : Pt} (h : a ≠ (0, 0)) : half a = if fstHalf a = true then 0 else 1 := by
 obtain ⟨x, y⟩ := a
 have hne : ¬ (x = 0 /\ y = 0) := fun ⟨e1, e2⟩ => h (by rw [e1, e2])
 unfold half fstHalf
 simp only [Bool.or_eq_true, Bool.and_eq_true, decide_eq_true_eq]
 by_cases c1 : y < 0 \/ (y = 0 /\ x < 0)
 ·rw [if_pos c1, if_neg (by lia)]
 ·rw [if_neg c1, if_pos (by lia)]
theorem bad_before {a b : Pt} (ha : a ≠ (0, 0)) (hb : b ≠ (0, 0)) : bad a b = ! before a b := by
 unfold bad before
 rw [half_of ha, half_of hb]
 cases fstHalf a <;> cases fstHalf b
 ·simp only [Bool.false_eq_true, if_false, Int.lt_irrefl, decide_false, Bool.false_or, decide_true, Bool.true_and, bne_self_eq_false]
  by_cases h : cross a b <= 0
  ·simp [h, Int.not_lt.mpr h]
  ·simp [h, Int.not_le.mp h]
 ·rfl
 ·rfl
 ·simp only [if_true, Int.lt_irrefl, decide_false, Bool.false_or, decide_true, Bool.true_and, bne_self_eq_false, Bool.false_eq_true, if_false]
  by_cases h : cross a b <= 0
  ·simp [h, Int.not_lt.mpr h]
  ·simp [h, Int.not_le.mp h]
noncomputable def sum1 (l : List Pt) : Int := (l.map (·.1)).sum
noncomputable def sum2 (l : List Pt) : Int := (l.map (·.2)).sum
theorem sum_zip : ∀ (xs ys : List Pt), xs.length = ys.length -> sum1 (List.zipWith arrow xs ys) = sum1 ys - sum1 xs /\ sum2 (List.zipWith arrow xs ys) = sum2 ys - sum2 xs
 | [], [], _ => by simp [sum1, sum2]
 | x :: xs, y :: ys, h => by
  obtain ⟨e1, e2⟩ := sum_zip xs ys (by simpa using h)
  simp only [sum1, sum2, List.zipWith_cons_cons, List.map_cons, List.sum_cons, arrow] at e1 e2 ⊢
  lia
theorem sum_rot (cs : List Pt) : sum1 (cs.drop 1 ++ cs.take 1) = sum1 cs /\ sum2 (cs.drop 1 ++ cs.take 1) = sum2 cs := by
 cases cs with
 | nil => simp [sum1, sum2]
 | cons c r =>
  simp only [List.drop_succ_cons, List.drop_zero, List.take_succ_cons, List.take_zero, sum1, sum2, List.map_append, List.map_cons, List.map_nil, List.sum_append, List.sum_cons, List.sum_nil]
  lia
theorem rot_length (cs : List Pt) : (cs.drop 1 ++ cs.take 1).length = cs.length := by
 cases cs <;> simp
theorem round_sum (cs : List Pt) : sum1 (round cs) = 0 /\ sum2 (round cs) = 0 := by
 obtain ⟨a1, a2⟩ := sum_zip cs _ (rot_length cs).symm
 obtain ⟨b1, b2⟩ := sum_rot cs
 unfold round
 lia
theorem round_length (cs : List Pt) : (round cs).length = cs.length := by
 unfold round
 rw [List.length_zipWith, rot_length, Nat.min_self]
theorem second_all : ∀ (l : List Pt), (∀ a ∈ l, a ≠ (0, 0)) -> (List.zipWith before l (l.drop 1)).all id = true -> ∀ a, l.head? = some a -> fstHalf a = false -> ∀ b ∈ l, fstHalf b = false
 | [], _, _, a, h, _ => by cases h
 | [x], _, _, a, h, hf => by
  intro b hb
  rw [List.mem_singleton.mp hb]
  cases h
  exact hf
 | x :: y :: r, hn, hall, a, h, hf => by
  cases h
  simp only [List.drop_succ_cons, List.drop_zero, List.zipWith_cons_cons, List.all_cons, id, Bool.and_eq_true] at hall
  have hy : fstHalf y = false := by
   have h1 := hall.1
   unfold before at h1
   rw [hf] at h1
   cases q : fstHalf y with
   | false => rfl
   | true => rw [q] at h1; simp at h1
  intro b hb
  rcases List.mem_cons.mp hb with rfl | hb
  ·exact hf
  ·refine second_all (y :: r) (fun z hz => hn z (List.mem_cons_of_mem _ hz)) ?_ y rfl hy b hb
   exact hall.2
theorem neg_sum : ∀ (l : List Pt), (∀ a ∈ l, a ≠ (0, 0) /\ fstHalf a = false) -> sum2 l <= 0 /\ (sum2 l = 0 -> sum1 l <= 0 /\ (l ≠ [] -> sum1 l < 0))
 | [], _ => by simp [sum1, sum2]
 | a :: r, h => by
  obtain ⟨i1, i2⟩ := neg_sum r fun b hb => h b (List.mem_cons_of_mem _ hb)
  obtain ⟨hn, hf⟩ := h a List.mem_cons_self
  obtain ⟨x, y⟩ := a
  have hne : ¬ (x = 0 /\ y = 0) := fun ⟨e1, e2⟩ => hn (by rw [e1, e2])
  unfold fstHalf at hf
  simp only [Bool.or_eq_false_iff, Bool.and_eq_false_iff, decide_eq_false_iff_not] at hf
  simp only [sum1, sum2, List.map_cons, List.sum_cons] at i1 i2 ⊢
  refine ⟨by omega, fun e => ?_⟩
  have e2 : (r.map (·.2)).sum = 0 := by lia
  obtain ⟨j1, j2⟩ := i2 e2
  refine ⟨by lia, fun _ => by lia⟩
theorem zip_not : ∀ (l r : List Pt), (∀ a ∈ l, a ≠ (0, 0)) -> (∀ a ∈ r, a ≠ (0, 0)) -> (List.zipWith bad l r).all (! ·) = (List.zipWith before l r).all id
 | [], _, _, _ => by simp
 | _ :: _, [], _, _ => by simp
 | a :: l, b :: r, hl, hr => by
  simp only [List.zipWith_cons_cons, List.all_cons, id]
  rw [zip_not l r (fun z hz => hl z (List.mem_cons_of_mem _ hz)) fun z hz => hr z (List.mem_cons_of_mem _ hz), bad_before (hl a List.mem_cons_self) (hr b List.mem_cons_self), Bool.not_not]
theorem shape_good (cs : List Pt) : isShape cs = good cs := by
 unfold isShape good lawSides
 by_cases hl : cs.length < 2
 ·rw [if_pos hl]
  simp only [hl, if_true, List.length_nil, Nat.lt_irrefl, false_and, if_false, List.not_mem_nil, or_false]
  by_cases h0 : cs.length = 0
  ·rw [if_pos h0]; simp [h0]
  ·rw [if_neg h0]
   have : cs.length = 1 := by lia
   simp [this]
 ·rw [if_neg hl]
  simp only [hl, if_false]
  by_cases hz : (0, 0) ∈ round cs
  ·rw [if_pos hz, if_pos (.inr hz)]
  ·rw [if_neg hz, if_neg (by rintro (h | h) <;> first | omega | exact hz h)]
   have hn : ∀ a ∈ round cs, a ≠ (0, 0) := fun a ha e => hz (e ▸ ha)
   rw [zip_not _ _ hn fun a ha => hn a (List.mem_of_mem_drop ha)]
   by_cases hh : 0 < (round cs).length /\ half ((round cs).headD (0, 0)) = 1
   ·rw [if_pos hh]
    cases q : (List.zipWith before (round cs) ((round cs).drop 1)).all id with
    | false => rfl
    | true =>
     exfalso
     cases e : round cs with
     | nil => rw [e] at hh; simp at hh
     | cons a r =>
      rw [e] at q hh hn
      have hf : fstHalf a = false := by
       have h1 : half a = 1 := hh.2
       rw [half_of (hn a List.mem_cons_self)] at h1
       cases z : fstHalf a with
       | false => rfl
       | true => rw [z] at h1; simp at h1
      have hall := second_all (a :: r) hn q a rfl hf
      have hs := neg_sum (a :: r) fun b hb => ⟨hn b hb, hall b hb⟩
      obtain ⟨s1, s2⟩ := round_sum cs
      rw [e] at s1 s2
      have := (hs.2 s2).2 (by simp)
      lia
   ·rw [if_neg hh]
end RS
namespace RS
noncomputable abbrev Ad := Nat
noncomputable def kk (p : Pt) : List Int := [p.1, p.2]
theorem kk_inj {p q : Pt} (h : kk p = kk q) : p = q := by
 unfold kk at h
 simp only [List.cons.injEq, and_true] at h
 exact Prod.ext h.1 h.2
noncomputable def addP (xs : List (Pt × Ad)) (p : Pt × Ad) : List (Pt × Ad) := if p.1 ∈ xs.map (·.1) then xs else xs ++ [p]
noncomputable def dedP (l : List (Pt × Ad)) : List (Pt × Ad) := l.foldl addP []
theorem addP_mem {xs : List (Pt × Ad)} {p q : Pt × Ad} (h : q ∈ addP xs p) : q ∈ xs \/ q = p := by
 unfold addP at h
 split at h
 ·exact .inl h
 ·simpa using h
set_option tactic.hygienic true in
theorem addP_keys (xs : List (Pt × Ad)) (p : Pt × Ad) (k : Pt) : k ∈ (addP xs p).map (·.1) ↔ k ∈ xs.map (·.1) \/ k = p.1 := by
 unfold addP
 split
 ·rename_i h
  constructor
  ·exact .inl
  ·rintro (h' | rfl)
   ·exact h'
   ·exact h
 ·simp [List.map_append]
set_option tactic.hygienic true in
theorem addP_nodup {xs : List (Pt × Ad)} (h : (xs.map (·.1)).Nodup) (p : Pt × Ad) : ((addP xs p).map (·.1)).Nodup := by
 unfold addP
 split
 ·exact h
 ·rename_i hn
  rw [List.map_append, List.nodup_append]
  refine ⟨h, by simp, fun a ha b hb e => ?_⟩
  rw [List.map_singleton, List.mem_singleton] at hb
  exact hn (by rw [<- hb, <- e]; exact ha)
theorem ded_go : ∀ (l xs : List (Pt × Ad)), (xs.map (·.1)).Nodup -> ((l.foldl addP xs).map (·.1)).Nodup /\ (∀ k, k ∈ (l.foldl addP xs).map (·.1) ↔ k ∈ xs.map (·.1) \/ k ∈ l.map (·.1)) /\ (∀ p ∈ l.foldl addP xs, p ∈ xs \/ p ∈ l) /\ (l.foldl addP xs).length <= xs.length + l.length
 | [], xs, h => ⟨h, fun k => by simp, fun p hp => .inl hp, by simp⟩
 | p :: l, xs, h => by
  obtain ⟨a, b, c, d⟩ := ded_go l (addP xs p) (addP_nodup h p)
  refine ⟨a, fun k => ?_, fun q hq => ?_, ?_⟩
  ·show k ∈ (l.foldl addP (addP xs p)).map (·.1) ↔ _
   rw [b k, addP_keys, List.map_cons, List.mem_cons]
   exact or_assoc
  ·rcases c q hq with z | z
   ·rcases addP_mem z with y | y
    ·exact .inl y
    ·exact .inr (by rw [y]; exact List.mem_cons_self)
   ·exact .inr (List.mem_cons_of_mem _ z)
  ·have : (addP xs p).length <= xs.length + 1 := by
    unfold addP
    split
    ·lia
    ·rw [List.length_append]; simp
   simp only [List.foldl_cons, List.length_cons]
   lia
theorem dedP_nodup (l : List (Pt × Ad)) : ((dedP l).map (·.1)).Nodup := (ded_go l [] List.nodup_nil).1
theorem dedP_keys (l : List (Pt × Ad)) (k : Pt) : k ∈ (dedP l).map (·.1) ↔ k ∈ l.map (·.1) := by
 have := (ded_go l [] List.nodup_nil).2.1 k
 simpa [dedP] using this
theorem dedP_sub {l : List (Pt × Ad)} {p : Pt × Ad} (h : p ∈ dedP l) : p ∈ l := by
 rcases (ded_go l [] List.nodup_nil).2.2.1 p h with z | z
 ·cases z
 ·exact z
theorem dedP_len (l : List (Pt × Ad)) : (dedP l).length <= l.length := by
 have := (ded_go l [] List.nodup_nil).2.2.2
 simpa [dedP] using this
noncomputable def lexLt (a b : Pt) : Bool := decide (a.1 < b.1) || (decide (a.1 = b.1) && decide (a.2 < b.2))
theorem lexLt_iff {a b : Pt} : lexLt a b = true ↔ a.1 < b.1 \/ (a.1 = b.1 /\ a.2 < b.2) := by
 unfold lexLt
 simp
theorem lex_irrefl (a : Pt) : lexLt a a = false := by
 cases h : lexLt a a with
 | false => rfl
 | true => rw [lexLt_iff] at h; lia
theorem lex_asym {a b : Pt} (h : lexLt a b = true) : lexLt b a = false := by
 cases h' : lexLt b a with
 | false => rfl
 | true => rw [lexLt_iff] at h h'; lia
theorem lex_trans {a b c : Pt} (h : lexLt a b = true) (h' : lexLt b c = true) : lexLt a c = true := by
 rw [lexLt_iff] at *
 lia
theorem lex_tot {a b : Pt} (hne : a ≠ b) (h : lexLt a b = false) : lexLt b a = true := by
 have h1 : ¬ (a.1 < b.1 \/ (a.1 = b.1 /\ a.2 < b.2)) := fun z => by rw [lexLt_iff.mpr z] at h; cases h
 rw [lexLt_iff]
 have : ¬ (a.1 = b.1 /\ a.2 = b.2) := fun ⟨e1, e2⟩ => hne (Prod.ext e1 e2)
 lia
noncomputable def ins (p : Pt) : List Pt -> List Pt
 | [] => [p]
 | q :: r => if p = q then q :: r else if lexLt p q = true then p :: q :: r else q :: ins p r
noncomputable def sortD (l : List Pt) : List Pt := l.foldr ins []
set_option tactic.hygienic true in
theorem mem_ins {p x : Pt} : ∀ {l : List Pt}, x ∈ ins p l ↔ x = p \/ x ∈ l
 | [] => by simp [ins]
 | q :: r => by
  unfold ins
  split
  ·rename_i h; subst h
   constructor
   ·exact .inr
   ·rintro (rfl | h)
    ·exact List.mem_cons_self
    ·exact h
  ·split
   ·simp
   ·rw [List.mem_cons, mem_ins, List.mem_cons]
    constructor
    ·rintro (h | h | h)
     ·exact .inr (.inl h)
     ·exact .inl h
     ·exact .inr (.inr h)
    ·rintro (h | h | h)
     ·exact .inr (.inl h)
     ·exact .inl h
     ·exact .inr (.inr h)
set_option tactic.hygienic true in
theorem ins_sorted {p : Pt} : ∀ {l : List Pt}, l.Pairwise (fun a b => lexLt a b = true) -> (ins p l).Pairwise (fun a b => lexLt a b = true)
 | [], _ => by simp [ins]
 | q :: r, h => by
  obtain ⟨h1, h2⟩ := List.pairwise_cons.mp h
  unfold ins
  split
  ·exact h
  ·rename_i hne
   split
   ·rename_i hl
    refine List.pairwise_cons.mpr ⟨fun x hx => ?_, h⟩
    rcases List.mem_cons.mp hx with rfl | hx
    ·exact hl
    ·exact lex_trans hl (h1 x hx)
   ·rename_i hl
    refine List.pairwise_cons.mpr ⟨fun x hx => ?_, ins_sorted h2⟩
    rcases mem_ins.mp hx with rfl | hx
    ·exact lex_tot hne (by simpa using hl)
    ·exact h1 x hx
theorem sortD_sorted : ∀ l : List Pt, (sortD l).Pairwise (fun a b => lexLt a b = true)
 | [] => List.Pairwise.nil
 | _ :: l => ins_sorted (sortD_sorted l)
theorem mem_sortD {x : Pt} : ∀ {l : List Pt}, x ∈ sortD l ↔ x ∈ l
 | [] => by simp [sortD]
 | p :: l => by
  show x ∈ ins p (sortD l) ↔ _
  rw [mem_ins, mem_sortD, List.mem_cons]
theorem sorted_uniq : ∀ {l r : List Pt}, l.Pairwise (fun a b => lexLt a b = true) -> r.Pairwise (fun a b => lexLt a b = true) -> (∀ x, x ∈ l ↔ x ∈ r) -> l = r
 | [], [], _, _, _ => rfl
 | [], b :: r, _, _, h => by
  have := (h b).mpr List.mem_cons_self
  cases this
 | a :: l, [], _, _, h => by
  have := (h a).mp List.mem_cons_self
  cases this
 | a :: l, b :: r, hl, hr, h => by
  obtain ⟨l1, l2⟩ := List.pairwise_cons.mp hl
  obtain ⟨r1, r2⟩ := List.pairwise_cons.mp hr
  have hab : a = b := by
   rcases List.mem_cons.mp ((h a).mp List.mem_cons_self) with e | e
   ·exact e
   ·rcases List.mem_cons.mp ((h b).mpr List.mem_cons_self) with e' | e'
    ·exact e'.symm
    ·have x1 := r1 a e
     have x2 := l1 b e'
     rw [lex_asym x1] at x2
     cases x2
  subst hab
  congr 1
  refine sorted_uniq l2 r2 fun x => ?_
  constructor
  ·intro hx
   rcases List.mem_cons.mp ((h x).mp (List.mem_cons_of_mem _ hx)) with e | e
   ·have := l1 x hx
    rw [e, lex_irrefl] at this
    cases this
   ·exact e
  ·intro hx
   rcases List.mem_cons.mp ((h x).mpr (List.mem_cons_of_mem _ hx)) with e | e
   ·have := r1 x hx
    rw [e, lex_irrefl] at this
    cases this
   ·exact e
theorem sorted_is {l : List Pt} {r : List Pt} (hr : r.Pairwise (fun a b => lexLt a b = true)) (h : ∀ x, x ∈ r ↔ x ∈ l) : r = sortD l := sorted_uniq hr (sortD_sorted l) fun x => (h x).trans mem_sortD.symm
theorem perm_map {α β : Type} (f : α -> β) : ∀ {a b' : List β}, a.Perm b' -> ∀ b : List α, b' = b.map f -> ∃ l : List α, l.Perm b /\ a = l.map f := by
 intro a b' h
 induction h with
 | nil =>
  intro b e
  have : b = [] := by cases b with | nil => rfl | cons _ _ => cases e
  subst this
  exact ⟨[], .refl _, rfl⟩
 | cons x _ ih =>
  intro b e
  cases b with
  | nil => cases e
  | cons y r =>
   injection e with e1 e2
   obtain ⟨l, p, q⟩ := ih r e2
   exact ⟨y :: l, p.cons y, by rw [List.map_cons, e1, q]⟩
 | swap x y _ =>
  intro b e
  cases b with
  | nil => cases e
  | cons u r =>
   cases r with
   | nil => injection e with _ e2; cases e2
   | cons v r =>
    injection e with e1 e2
    injection e2 with e2 e3
    exact ⟨v :: u :: r, List.Perm.swap _ _ _, by rw [List.map_cons, List.map_cons, e1, e2, e3]⟩
 | trans _ _ ih1 ih2 =>
  intro b e
  obtain ⟨l, p, q⟩ := ih2 b e
  obtain ⟨l', p', q'⟩ := ih1 l q
  exact ⟨l', p'.trans p, q'⟩
end RS
namespace RS
open PySem PySem.W PyProof.Rows
section
variable {n : Nat} {R : Nat -> Nat -> Bool} {cmp : Nat -> Nat -> (Bool -> Shared -> Prop) -> Shared -> Prop} {s : Shared}
structure Ord (n : Nat) (R : Nat -> Nat -> Bool) : Prop where
 asym : ∀ i j, R i j = true -> R j i = false
 trans : ∀ i j k, R i j = true -> R j k = true -> R i k = true
 tot : ∀ i j, i < n -> j < n -> i ≠ j -> R i j = false -> R j i = true
noncomputable def Answers (n : Nat) (R : Nat -> Nat -> Bool) (cmp : Nat -> Nat -> (Bool -> Shared -> Prop) -> Shared -> Prop) (s : Shared) : Prop := ∀ i j (C : Bool -> Shared -> Prop), i < n -> j < n -> C (R i j) s -> cmp i j C s
noncomputable def Pm (n : Nat) (p : Array Nat) : Prop := p.toList.Perm (List.range n)
theorem Pm.size {p : Array Nat} (h : Pm n p) : p.size = n := by
 have := h.length_eq
 rw [List.length_range, Array.length_toList] at this
 exact this
theorem Pm.lt {p : Array Nat} (h : Pm n p) {i : Nat} (hi : i < n) : p.getD i 0 < n := by
 have hs : i < p.size := by rw [h.size]; exact hi
 have e : p.getD i 0 = p[i] := by simp [Array.getD, hs]
 rw [e]
 exact List.mem_range.mp (h.mem_iff.mp (by simp))
theorem Pm.ne {p : Array Nat} (h : Pm n p) {i j : Nat} (hi : i < n) (hj : j < n) (hij : i ≠ j) : p.getD i 0 ≠ p.getD j 0 := by
 have hi' : i < p.size := by rw [h.size]; exact hi
 have hj' : j < p.size := by rw [h.size]; exact hj
 have e1 : p.getD i 0 = p[i] := by simp [Array.getD, hi']
 have e2 : p.getD j 0 = p[j] := by simp [Array.getD, hj']
 rw [e1, e2]
 intro e
 have nd : p.toList.Nodup := h.nodup_iff.mpr List.nodup_range
 have e' : p.toList[i]'(by simpa using hi') = p.toList[j]'(by simpa using hj') := by simpa using e
 exact hij ((List.getElem_inj nd).mp e')
noncomputable def Up (R : Nat -> Nat -> Bool) (p : Array Nat) (m : Nat) : Prop := ∀ a b, a < b -> b < m -> R (p.getD a 0) (p.getD b 0) = true
noncomputable def Down (R : Nat -> Nat -> Bool) (p : Array Nat) (m : Nat) : Prop := ∀ a b, a < b -> b < m -> R (p.getD b 0) (p.getD a 0) = true
theorem Up.more (O : Ord n R) {p : Array Nat} {m : Nat} (h : Up R p m) (hm : 0 < m) (hr : R (p.getD (m - 1) 0) (p.getD m 0) = true) : Up R p (m + 1) := fun a b hab hb => by
 rcases Nat.lt_or_ge b m with q | q
 ·exact h a b hab q
 ·have e : b = m := by omega
  subst e
  rcases Nat.lt_or_ge a (b - 1) with z | z
  ·exact O.trans _ _ _ (h a (b - 1) z (by omega)) hr
  ·have e : a = b - 1 := by omega
   subst e
   exact hr
theorem Down.more (O : Ord n R) {p : Array Nat} {m : Nat} (h : Down R p m) (hm : 0 < m) (hr : R (p.getD m 0) (p.getD (m - 1) 0) = true) : Down R p (m + 1) := fun a b hab hb => by
 rcases Nat.lt_or_ge b m with q | q
 ·exact h a b hab q
 ·have e : b = m := by omega
  subst e
  rcases Nat.lt_or_ge a (b - 1) with z | z
  ·exact O.trans _ _ _ hr (h a (b - 1) z (by omega))
  ·have e : a = b - 1 := by omega
   subst e
   exact hr
theorem asc_wp (O : Ord n R) (hc : Answers n R cmp s) {p : Array Nat} (hp : Pm n p) {Q : Nat -> Shared -> Prop} : ∀ (f m : Nat), 0 < m -> m + f = n -> Up R p m ->
  (∀ m', m <= m' -> m' <= n -> Up R p m' -> (m' < n -> R (p.getD m' 0) (p.getD (m' - 1) 0) = true) -> Q m' s) -> (kas_asc p f m).kasWp cmp Q s
 | 0, m, h0, hf, hu, h => h m (Nat.le_refl _) (by omega) hu fun hlt => absurd hlt (by omega)
 | f + 1, m, h0, hf, hu, h => by
  show cmp _ _ (fun c s' => KasT.kasWp cmp (if c = true then .ret m else kas_asc p f (m + 1)) Q s') s
  refine hc _ _ _ (hp.lt (by omega)) (hp.lt (by omega)) ?_
  cases e : R (p.getD m 0) (p.getD (m - 1) 0) with
  | true =>
   rw [if_pos rfl]
   exact h m (Nat.le_refl _) (by omega) hu fun _ => e
  | false =>
   rw [if_neg Bool.false_ne_true]
   refine asc_wp O hc hp f (m + 1) (by omega) (by omega) (hu.more O h0 (O.tot _ _ (hp.lt (by omega)) (hp.lt (by omega)) (hp.ne (by omega) (by omega) (by omega)) e)) fun m' a b c d => h m' (by omega) b c d
theorem desc_wp (O : Ord n R) (hc : Answers n R cmp s) {p : Array Nat} (hp : Pm n p) {Q : Array Nat × Nat × Nat -> Shared -> Prop} : ∀ (f m : Nat), 0 < m -> m + f = n -> Down R p m ->
  (∀ m', m <= m' -> m' <= n -> Down R p m' -> Q (p, m', 0) s) -> (kas_desc f p m 0).kasWp cmp Q s
 | 0, m, h0, hf, hu, h => h m (Nat.le_refl _) (by omega) hu
 | f + 1, m, h0, hf, hu, h => by
  show cmp _ _ (fun c s' => KasT.kasWp cmp (if c = true then (if 0 > 0 then _ else kas_desc f p (m + 1) 0) else .ask (p.getD (m - 1) 0) (p.getD m 0) fun d => if d = true then .ret (p, m, 0) else kas_desc f p (m + 1) (0 + 1)) Q s') s
  refine hc _ _ _ (hp.lt (by omega)) (hp.lt (by omega)) ?_
  cases e : R (p.getD m 0) (p.getD (m - 1) 0) with
  | true =>
   rw [if_pos rfl, if_neg (Nat.lt_irrefl 0)]
   exact desc_wp O hc hp f (m + 1) (by omega) (by omega) (hu.more O h0 e) fun m' a b c => h m' (by omega) b c
  | false =>
   rw [if_neg Bool.false_ne_true]
   show cmp _ _ (fun d s' => KasT.kasWp cmp (if d = true then .ret (p, m, 0) else kas_desc f p (m + 1) (0 + 1)) Q s') s
   refine hc _ _ _ (hp.lt (by omega)) (hp.lt (by omega)) ?_
   rw [O.tot _ _ (hp.lt (by omega)) (hp.lt (by omega)) (hp.ne (by omega) (by omega) (by omega)) e, if_pos rfl]
   exact h m (Nat.le_refl _) (by omega) hu
theorem rev_pm {p : Array Nat} (hp : Pm n p) (i j : Nat) : Pm n (kas_rev p i j) := by
 have h := mirror_perm p i j ((j - i) / 2)
 exact (Array.perm_iff_toList_perm.mp h).trans hp
theorem rev_get {p : Array Nat} {m : Nat} (hm : m <= p.size) (k : Nat) (hk : k < m) : (kas_rev p 0 m).getD k 0 = p.getD (m - 1 - k) 0 := by
 have h := getElem?_mirror (xs := p) (i := 0) (j := m) hm (m / 2) (by omega) k
 have e : (kas_rev p 0 m)[k]? = p[m - 1 - k]? := by
  show (mirror p 0 m ((m - 0) / 2))[k]? = _
  rw [Nat.sub_zero, h]
  split
  ·congr 1
   omega
  ·congr 1
   omega
 have g1 : ∀ (q : Array Nat) (i : Nat), q.getD i 0 = (q[i]?).getD 0 := fun q i => by simp [Array.getD_eq_getD_getElem?]
 rw [g1, g1, e]
theorem rev_up {p : Array Nat} {m : Nat} (hm : m <= p.size) (h : Down R p m) : Up R (kas_rev p 0 m) m := fun a b hab hb => by
 rw [rev_get hm a (by omega), rev_get hm b hb]
 exact h _ _ (by omega) (by omega)
theorem count_wp (O : Ord n R) (hc : Answers n R cmp s) {p : Array Nat} (hp : Pm n p) (h2 : 2 <= n) {Q : Nat × Array Nat -> Shared -> Prop} (h : ∀ m q, 0 < m -> m <= n -> Pm n q -> Up R q m -> Q (m, q) s) : (kas_count n p).kasWp cmp Q s := by
 unfold kas_count
 rw [KasT.kasWp_bind]
 refine asc_wp O hc hp (n - 1) 1 (by omega) (by omega) (fun a b hab hb => absurd hab (by omega)) fun m h1 h2' hu hn => ?_
 by_cases hm : m = n
 ·rw [if_pos (by simp [hm])]
  exact h m p (by omega) h2' hp hu
 ·rw [if_neg (by simp [hm])]
  by_cases hm1 : m > 1
  ·rw [if_pos hm1]
   show cmp _ _ (fun c s' => KasT.kasWp cmp (if c = true then .ret (m, p) else kas_descPart m n (kas_rev p 0 m)) Q s') s
   refine hc _ _ _ (hp.lt (by omega)) (hp.lt (by omega)) ?_
   rw [hu 0 (m - 1) (by omega) (by omega), if_pos rfl]
   exact h m p (by omega) h2' hp hu
  ·rw [if_neg hm1]
   have e : m = 1 := by omega
   subst e
   unfold kas_descPart
   rw [KasT.kasWp_bind]
   refine desc_wp O hc hp (n - (1 + 1)) (1 + 1) (by omega) (by omega) (fun a b hab hb => ?_) fun m' a b c => ?_
   ·have ea : a = 0 := by omega
    have eb : b = 1 := by omega
    subst ea eb
    exact hn (by omega)
   ·rw [if_neg (Nat.lt_irrefl 0)]
    unfold kas_tail3
    rw [KasT.kasWp_bind]
    have hs : m' <= p.size := by rw [hp.size]; exact b
    refine asc_wp O hc (rev_pm hp 0 m') (n - m') m' (by omega) (by omega) (rev_up hs c) fun m2 a2 b2 c2 _ => ?_
    exact h m2 _ (by omega) b2 (rev_pm hp 0 m') c2
theorem place_wp (O : Ord n R) (hc : Answers n R cmp s) {p : Array Nat} (hp : Pm n p) {k : Nat} (hk : k < n) (hu : Up R p k) {Q : Nat -> Shared -> Prop} : ∀ (f l r : Nat), l <= r -> r <= k -> r - l <= f -> (∀ a, a < l -> R (p.getD a 0) (p.getD k 0) = true) -> (∀ a, r <= a -> a < k -> R (p.getD k 0) (p.getD a 0) = true) ->
  (∀ l', l' <= k -> (∀ a, a < l' -> R (p.getD a 0) (p.getD k 0) = true) -> (∀ a, l' <= a -> a < k -> R (p.getD k 0) (p.getD a 0) = true) -> Q l' s) -> (kas_place p k f l r).kasWp cmp Q s
 | 0, l, r, hlr, hrk, hf, h1, h2, h => by
  have e : l = r := by omega
  subst e
  exact h l hrk h1 h2
 | f + 1, l, r, hlr, hrk, hf, h1, h2, h => by
  unfold kas_place
  by_cases hge : l >= r
  ·rw [if_pos hge]
   have e : l = r := by omega
   subst e
   exact h l hrk h1 h2
  ·rw [if_neg hge]
   show cmp _ _ (fun c s' => KasT.kasWp cmp (if c = true then kas_place p k f l ((l + r) / 2) else kas_place p k f ((l + r) / 2 + 1) r) Q s') s
   have hmid : (l + r) / 2 < r := by omega
   refine hc _ _ _ (hp.lt hk) (hp.lt (by omega)) ?_
   cases e : R (p.getD k 0) (p.getD ((l + r) / 2) 0) with
   | true =>
    rw [if_pos rfl]
    refine place_wp O hc hp hk hu f l _ (by omega) (by omega) (by omega) h1 (fun a ha hak => ?_) h
    rcases Nat.eq_or_lt_of_le ha with q | q
    ·rw [<- q]; exact e
    ·exact O.trans _ _ _ e (hu _ _ q hak)
   | false =>
    rw [if_neg Bool.false_ne_true]
    refine place_wp O hc hp hk hu f _ r (by omega) hrk (by omega) (fun a ha => ?_) h2 h
    have em := O.tot _ _ (hp.lt hk) (hp.lt (by omega)) (hp.ne hk (by omega) (by omega)) e
    rcases Nat.lt_or_ge a ((l + r) / 2) with q | q
    ·exact O.trans _ _ _ (hu _ _ q (by omega)) em
    ·have ea : a = (l + r) / 2 := by omega
     rw [ea]; exact em
theorem bubble_get {p : Array Nat} {k l : Nat} (hk : k < p.size) (hl : l <= k) (i : Nat) : (bubble p k (k - l)).getD i 0 = if i = l then p.getD k 0 else if l < i /\ i <= k then p.getD (i - 1) 0 else p.getD i 0 := by
 have h := getElem?_bubble (xs := p) hk (k - l) (by omega) i
 have g1 : ∀ (q : Array Nat) (i : Nat), q.getD i 0 = (q[i]?).getD 0 := fun q i => by simp [Array.getD_eq_getD_getElem?]
 rw [g1, h, show k - (k - l) = l by omega]
 by_cases e1 : i = l
 ·rw [if_pos e1, if_pos e1, g1]
 ·rw [if_neg e1, if_neg e1]
  by_cases e2 : l < i /\ i <= k
  ·rw [if_pos e2, if_pos e2, g1]
  ·rw [if_neg e2, if_neg e2, g1]
theorem bin_wp (O : Ord n R) (hc : Answers n R cmp s) {Q : Array Nat -> Shared -> Prop} (h : ∀ q, Pm n q -> Up R q n -> Q q s) : ∀ (f : Nat) (p : Array Nat) (k : Nat), 0 < k -> k + f = n -> Pm n p -> Up R p k -> (kas_bin f p k).kasWp cmp Q s
 | 0, p, k, h0, hf, hp, hu => by
  have e : k = n := by omega
  subst e
  exact h p hp hu
 | f + 1, p, k, h0, hf, hp, hu => by
  unfold kas_bin
  rw [KasT.kasWp_bind]
  have hk : k < n := by omega
  have hks : k < p.size := by rw [hp.size]; exact hk
  refine place_wp O hc hp hk hu k 0 k (Nat.zero_le _) (Nat.le_refl _) (by omega) (fun a ha => absurd ha (Nat.not_lt_zero _)) (fun a ha hak => absurd ha (by omega)) fun l hl h1 h2 => ?_
  refine bin_wp O hc h f _ (k + 1) (by omega) (by omega) ((Array.perm_iff_toList_perm.mp (bubble_perm p k (k - l))).trans hp) fun a b hab hb => ?_
  rw [bubble_get hks hl, bubble_get hks hl]
  by_cases ea : a = l
  ·rw [if_pos ea, if_neg (by omega)]
   rw [if_pos (by omega)]
   exact h2 _ (by omega) (by omega)
  ·rw [if_neg ea]
   by_cases eb : b = l
   ·rw [if_pos eb, if_neg (by omega)]
    exact h1 _ (by omega)
   ·rw [if_neg eb]
    by_cases ca : l < a /\ a <= k
    ·rw [if_pos ca, if_pos (by omega)]
     exact hu _ _ (by omega) (by omega)
    ·rw [if_neg ca]
     by_cases cb : l < b /\ b <= k
     ·rw [if_pos cb]
      rcases Nat.lt_or_ge a (b - 1) with q | q
      ·exact hu _ _ q (by omega)
      ·exact absurd q (by omega)
     ·rw [if_neg cb]
      exact hu _ _ hab (by omega)
theorem sort_wp (O : Ord n R) (hc : Answers n R cmp s) (h2 : 2 <= n) {Q : Array Nat -> Shared -> Prop} (h : ∀ q, Pm n q -> Up R q n -> Q q s) : (kas_sort n).kasWp cmp Q s := by
 unfold kas_sort
 rw [KasT.kasWp_bind]
 refine count_wp O hc (p := List.toArray (List.range n)) (by unfold Pm; simp) h2 fun m q h0 hm hp hu => ?_
 by_cases hlt : m < n
 ·rw [if_pos hlt]
  have e : max m 1 = m := by omega
  rw [e]
  exact bin_wp O hc h (n - m) q m h0 (by omega) hp hu
 ·rw [if_neg hlt]
  have e : m = n := by omega
  subst e
  exact h q hp hu
end
end RS
namespace RS
open PySem PySem.W PyProof.Rows PySem.SetTable
section
variable {prog : Program} {w : World} {A : Around} {E : Value -> Shared -> Prop} {s : Shared}
theorem hint_set {S : Addr} {Q : Bool -> Shared -> Prop} (hT : s.TypeIs (.ref S) "set") (h : Q false s) : wpAny (model prog w) A (Builtin.List.listLengthHint (.ref S)) Q E s := by
 unfold Builtin.List.listLengthHint
 refine wpAny_bind (wpAny_specialOf hT PySem.F.slot_set_len.lookup ?_)
 generalize hid : ("set.__len__" : String) = id0
 wp_delta
 rw [show splitId id0 = some ("set", "__len__") from by subst hid; decide +kernel]
 subst hid
 refine wpAny_bind (wpAny_isInstance (T := "set") (b := true) hT (by rw [isSubtype_type]; kernel_rfl) ?_)
 refine wpAny_ite_split (fun hab => absurd hab (by decide)) (fun _ => ?_)
 refine wpAny_ite_split (fun _ => ?_) (fun hab => absurd (by decide +kernel) hab)
 exact wpAny_bind (wpAny_typeOf hT (wpAny_pure h))
theorem src_set {S : Addr} {es : Array (Int × Value)} {ep : Nat} {t : SetTable} (T : Tab t es) (L : Led w t) :
  KdlSrc prog w "set" S S es.size (fun i v => ∃ e, (walkOf w S es ep)[i]? = some e /\ v = e.2) (fun h => SetEx h S es ep t) where
 type := fun s hS => hS.type
 there := fun h hS => let ⟨_, e, _⟩ := hS; ⟨Heap.lt_size e, Heap.lt_size e⟩
 keep := fun h h' hS hk => hS.at fun o e => hk S (.inl rfl) o e
 notList := by decide
 notTuple := by decide
 hint := fun _ _ s _ hS hq => hint_set hS.type hq
 iter := fun A s hh hS => ⟨_, _, fun _ _ hq => wp_iterSet hS T hq, walks_set hh (let ⟨_, e, _⟩ := hS; Nat.ne_of_lt (Heap.lt_size e)) T L, ⟨⟨_, Heap.get?_push_size _ rfl, rfl, rfl⟩, hS.at fun o e => Heap.get?_push_of_some _ e⟩⟩
variable {h₀ : Heap} {L : Addr} {m : Str -> Option Value} {news : List (Addr × Obj)}
theorem sort_short {D : Addr} {vs : List Value} {Q : Value -> Shared -> Prop} {n : Nat} (F : Fr h₀ L s.heap m) (N : News h₀ L s.heap ((D, listOf vs.toArray n) :: news)) (off : ∀ q ∈ news, q.1 ≠ D) (h1 : vs.length < 2)
  (h : ∀ h' c, Fr h₀ L h' m -> News h₀ L h' ((D, listOf vs.toArray c) :: news) -> Q .none { s with heap := h' }) : wpAny (model prog w) A (call (.builtin "list.sort") [.ref D]) Q E s := by
 obtain ⟨ho, hDL, hD0⟩ := N (D, listOf vs.toArray n) List.mem_cons_self
 have N0 : News h₀ L s.heap news := fun p hp => N p (List.mem_cons_of_mem _ hp)
 refine wpAny_call_entry slot_list_sort ⟨_, ho, rfl⟩ entry_list_sort ?_ (args_list_sort _)
 rw [list_sort_plain]
 have hlt : D < s.heap.objs.size := Heap.lt_size ho
 have s1 := Heap.SameBut.update s.heap D (Obj.mapSeq fun _ => (#[] : Array Value))
 obtain ⟨e1, g1⟩ : ∃ e1, (s.heap.update D (Obj.mapSeq fun _ => (#[] : Array Value))).get? D = some (seqObj "list" #[] e1) := ⟨_, get?_update_seq ho fun _ => #[]⟩
 refine wpAny_bind (listItems_at ho rfl ?_)
 refine wpAny_bind (listUpdate_at ho rfl ?_ (by rw [List.size_toArray, sizeLine_eq]; lia) (Nat.zero_le _))
 refine wpAny_bind (seqEpoch_at g1 rfl ?_)
 refine wpAny_bind (wpAny_newTuple ?_ (by show vs.length <= _; rw [sizeLine_eq]; omega))
 refine wpAny_bind (wpAny_newList ?_ (Nat.zero_le _))
 refine wpAny_holding ?_
 have F3 := ((kas_fr F s1 hDL hD0).push (seqObj "tuple" vs.toArray 0)).push (seqObj "list" #[] 0)
 have N3 : News h₀ L (((s.heap.update D (Obj.mapSeq fun _ => (#[] : Array Value))).push (seqObj "tuple" vs.toArray 0)).push (seqObj "list" #[] 0)) news :=
  (kas_news N0 s1 off).grown fun b x e => Heap.get?_push_of_some _ (Heap.get?_push_of_some _ e)
 have g3 : (((s.heap.update D (Obj.mapSeq fun _ => (#[] : Array Value))).push (seqObj "tuple" vs.toArray 0)).push (seqObj "list" #[] 0)).get? D = some (seqObj "list" #[] e1) := Heap.get?_push_of_some _ (Heap.get?_push_of_some _ g1)
 show wpAny (model prog w) _ _ _ _ { s with heap := ((s.heap.update D (Obj.mapSeq fun _ => (#[] : Array Value))).push (seqObj "tuple" vs.toArray 0)).push (seqObj "list" #[] 0) }
 generalize ((s.heap.update D (Obj.mapSeq fun _ => (#[] : Array Value))).push (seqObj "tuple" vs.toArray 0)).push (seqObj "list" #[] 0) = h3 at F3 N3 g3 ⊢
 dsimp only
 have h2 : vs.toArray.size < 2 := by rw [List.size_toArray]; exact h1
 rw [if_pos h2, if_pos h2]
 refine wpAny_bind (wpAny_pure ?_)
 rw [StateT.run_pure]
 refine wpAny_bind (wpAny_pure ?_)
 dsimp only
 refine wpAny_bind (seqEpoch_at g3 rfl ?_)
 have eout : ((SortSt.mk' general' (vs.toArray.zip vs.toArray) #[] 7 none) |> arrOf).map (·.2) = vs.toArray := by
  show (vs.toArray.zip vs.toArray).map (·.2) = vs.toArray
  apply Array.toList_inj.mp
  rw [Array.toList_map, ksk_zip]
  exact List.map_snd_zip (Nat.le_refl _)
 refine wpAny_bind (listUpdate_at g3 rfl ?_ (Nat.zero_le _) (by show (((SortSt.mk' general' (vs.toArray.zip vs.toArray) #[] 7 none) |> arrOf).map (·.2)).size <= _; rw [eout, List.size_toArray, sizeLine_eq]; lia))
 simp only [bne_self_eq_false, Bool.false_eq_true, if_false]
 have s2 := Heap.SameBut.update h3 D (Obj.mapSeq fun _ => vs.toArray)
 obtain ⟨c2, g4⟩ : ∃ c2, (h3.update D (Obj.mapSeq fun _ => vs.toArray)).get? D = some (seqObj "list" vs.toArray c2) := ⟨_, get?_update_seq g3 fun _ => vs.toArray⟩
 refine wpAny_pure ⟨_, rfl, ?_⟩
 have fin := h (h3.update D (Obj.mapSeq fun _ => vs.toArray)) c2 (kas_fr F3 s2 hDL hD0) (fun p hp => by
  rcases List.mem_cons.mp hp with rfl | hp
  ·exact ⟨g4, hDL, hD0⟩
  ·exact kas_news N3 s2 off p hp)
 rw [<- eout] at fin
 exact fin
theorem lt_pairs {a b : Addr} {p q : Pt} {C : Bool -> Shared -> Prop} (ha : IsTupleKey (intKind prog w) s.heap (kk p) a) (hb : IsTupleKey (intKind prog w) s.heap (kk q) b) (h : C (lexLt p q) s) :
  wpAny (model prog w) A (keyLt' (tuples' true) (.ref a) (.ref b)) C E s := by
 obtain ⟨oa, xs, na, ho, _, hd, hi⟩ := ha
 obtain ⟨ob, ys, nb, ho', _, hd', hi'⟩ := hb
 obtain ⟨x1, x2, exs, t1, t2, e1, e2⟩ : ∃ x1 x2, xs.toList = [x1, x2] /\ ∃ t1 t2, x1 = Value.int p.1 t1 /\ x2 = Value.int p.2 t2 := by
  revert hi
  generalize xs.toList = l
  intro hi
  cases hi with
  | cons h1 r => cases r with
   | cons h2 r => cases r with
    | nil =>
     obtain ⟨t1, e1⟩ := Value.isInt_shape h1
     obtain ⟨t2, e2⟩ := Value.isInt_shape h2
     exact ⟨_, _, rfl, t1, t2, e1, e2⟩
 obtain ⟨y1, y2, eys, u1, u2, f1, f2⟩ : ∃ y1 y2, ys.toList = [y1, y2] /\ ∃ u1 u2, y1 = Value.int q.1 u1 /\ y2 = Value.int q.2 u2 := by
  revert hi'
  generalize ys.toList = l
  intro hi'
  cases hi' with
  | cons h1 r => cases r with
   | cons h2 r => cases r with
    | nil =>
     obtain ⟨t1, e1⟩ := Value.isInt_shape h1
     obtain ⟨t2, e2⟩ := Value.isInt_shape h2
     exact ⟨_, _, rfl, t1, t2, e1, e2⟩
 have hsz : decide (xs.size < ys.size) = false := by
  have a1 : xs.size = 2 := by rw [<- Array.length_toList, exs]; rfl
  have a2 : ys.size = 2 := by rw [<- Array.length_toList, eys]; rfl
  rw [a1, a2]; rfl
 subst e1 e2 f1 f2
 refine kat_lt ho hd ho' hd' ?_
 rw [exs, eys, hsz]
 refine kat_cons (wpAny_eqBool_int ?_)
 by_cases c1 : p.1 = q.1
 ·rw [show (p.1 == q.1) = true by simp [c1]]
  refine kat_yes (kat_cons (wpAny_eqBool_int ?_))
  by_cases c2 : p.2 = q.2
  ·rw [show (p.2 == q.2) = true by simp [c2]]
   refine kat_yes (kat_nil ?_)
   have e : lexLt p q = false := by rw [show p = q from Prod.ext c1 c2]; exact lex_irrefl q
   rw [e] at h
   exact h
  ·rw [show (p.2 == q.2) = false by simp [c2]]
   refine kat_no (kat_one _ _ (lt_int ?_))
   have e : lexLt p q = decide (p.2 < q.2) := by unfold lexLt; simp [c1]
   rw [e] at h
   exact h
 ·rw [show (p.1 == q.1) = false by simp [c1]]
  refine kat_no (oneLt_int ?_)
  have e : lexLt p q = decide (p.1 < q.1) := by unfold lexLt; simp [c1]
  rw [e] at h
  exact h
theorem sort_pairs {D : Addr} {its : List (Pt × Addr)} {Q : Value -> Shared -> Prop} {n : Nat} (F : Fr h₀ L s.heap m) (N : News h₀ L s.heap ((D, listOf (its.map fun p => Value.ref p.2).toArray n) :: news)) (off : ∀ q ∈ news, q.1 ≠ D) (h64 : its.length < 64)
  (nd : (its.map (·.1)).Nodup) (hk : ∀ h', Fr h₀ L h' m -> News h₀ L h' news -> ∀ p ∈ its, IsTupleKey (intKind prog w) h' (kk p.1) p.2)
  (h : ∀ h' c (srt : List (Pt × Addr)), Fr h₀ L h' m -> News h₀ L h' ((D, listOf (srt.map fun p => Value.ref p.2).toArray c) :: news) -> srt.Perm its -> srt.Pairwise (fun p q : Pt × Addr => lexLt p.1 q.1 = true) -> Q .none { s with heap := h' }) :
  wpAny (model prog w) A (call (.builtin "list.sort") [.ref D]) Q E s := by
 by_cases h2 : its.length < 2
 ·refine sort_short F N off (by rw [List.length_map]; exact h2) fun h' c F' N' => h h' c its F' N' (.refl _) ?_
  cases its with
  | nil => exact List.Pairwise.nil
  | cons p t =>
   cases t with
   | nil => exact List.pairwise_singleton _ _
   | cons q t => exact absurd h2 (Nat.not_lt.mpr (Nat.le_add_left _ _))
 ·have hlen : (its.map fun p => Value.ref p.2).length = its.length := List.length_map ..
  refine kat_lsort (vs := its.map fun p => Value.ref p.2) F N (.head off) (by simp) (by rw [hlen]; lia) (by rw [hlen]; exact h64) fun e1 h' F' N' => ?_
  have N0 : News h₀ L h' news := fun p hp => N' p (List.mem_cons_of_mem _ hp)
  have keys := hk h' F' N0
  have tups : ∀ l : List (Pt × Addr), (∀ p ∈ l, IsTupleKey (intKind prog w) h' (kk p.1) p.2) -> ∃ fs : List Value, fs.length = l.length /\ (∀ v ∈ fs, ∃ i t, v = Value.int i t) /\ KatTups h' (l.map fun p => Value.ref p.2) fs := by
   intro l
   induction l with
   | nil => intro _; exact ⟨[], rfl, (fun v hv => by cases hv), KatTups.nil⟩
   | cons p l ih =>
    intro hl
    obtain ⟨fs, a1, a2, a3⟩ := ih fun q hq => hl q (List.mem_cons_of_mem _ hq)
    obtain ⟨o, xs, k, ho, hc, hd, hi⟩ := hl p List.mem_cons_self
    obtain ⟨v, hv, i, t, rfl⟩ : ∃ v, xs[0]? = some v /\ ∃ i t, v = Value.int i t := by
     have hi2 := hi
     revert hi2
     rw [<- Array.getElem?_toList]
     generalize xs.toList = z
     intro hi2
     cases hi2 with
     | cons q1 r =>
      obtain ⟨t, e⟩ := Value.isInt_shape q1
      exact ⟨_, rfl, _, t, e⟩
    refine ⟨Value.int i t :: fs, by simp [a1], fun u hu => ?_, KatTups.cons ho hc hd hv a3⟩
    rcases List.mem_cons.mp hu with rfl | hu
    ·exact ⟨i, t, rfl⟩
    ·exact a2 u hu
  obtain ⟨fs, f1, f2, f3⟩ := tups its keys
  refine kat_kind (T := .type "int") f3 (by lia) (fun v hv => ?_) (by decide) ?_
  ·obtain ⟨i, t, rfl⟩ := f2 v hv
   exact Looks.of_pure rfl
  rw [show (Value.type "int" != Value.type "tuple") = true by decide]
  have hget : ∀ i (hi : i < its.length), (its.map fun p => Value.ref p.2).getD i Value.none = Value.ref (its[i]).2 := fun i hi => by simp [hi]
  have ord : Ord its.length (fun i j => lexLt (its.getD i ((0, 0), 0)).1 (its.getD j ((0, 0), 0)).1) := by
   refine ⟨fun i j => lex_asym, fun i j k => lex_trans, fun i j hi hj hij hf => lex_tot (fun e => hij ?_) hf⟩
   have hi' : i < (its.map (·.1)).length := by rw [List.length_map]; exact hi
   have hj' : j < (its.map (·.1)).length := by rw [List.length_map]; exact hj
   refine (List.getElem_inj (h₀ := hi') (h₁ := hj') nd).mp ?_
   simp only [List.getElem_map]
   simpa [hi, hj] using e
  rw [hlen]
  refine sort_wp ord (fun i j C hi hj hC => ?_) (by lia) fun q hq hu => ?_
  ·show wpAny _ _ (keyLt' (tuples' true) _ _) _ _ _
   rw [hget i hi, hget j hj]
   refine lt_pairs (keys _ (List.getElem_mem hi)) (keys _ (List.getElem_mem hj)) ?_
   have e1 : its.getD i ((0, 0), 0) = its[i] := by simp [hi]
   have e2 : its.getD j ((0, 0), 0) = its[j] := by simp [hj]
   dsimp only at hC
   rw [e1, e2] at hC
   exact hC
  ·have hmem : ∀ i ∈ q.toList, i < its.length := fun i hi => List.mem_range.mp (hq.mem_iff.mp hi)
   have eout : (q.toList.map fun i => (its.map fun p => Value.ref p.2).getD i Value.none) = (q.toList.map fun i => its.getD i ((0, 0), 0)).map fun p => Value.ref p.2 := by
    rw [List.map_map]
    refine List.map_congr_left fun i hi => ?_
    have hi' := hmem i hi
    simp [hi']
   rw [eout]
   refine KasFin.intro F' N' (.head off) fun h2' c F2 N2 => h h2' c _ F2 N2 ?_ ?_
   ·have := hq.map fun i => its.getD i ((0, 0), 0)
    refine this.trans ?_
    have e : (List.range its.length).map (fun i => its.getD i ((0, 0), 0)) = its := by
     refine List.ext_getElem (by simp) fun i h1 h2 => ?_
     simp at h2 ⊢
     simp [h2]
    rw [e]
   ·rw [List.pairwise_map]
    have hsz : q.size = its.length := hq.size
    refine List.pairwise_iff_getElem.mpr fun a b ha hb hab => ?_
    have ha' : a < q.size := by simpa using ha
    have hb' : b < q.size := by simpa using hb
    have := hu a b hab (by rw [<- hsz]; exact hb')
    have ea : q.getD a 0 = q.toList[a] := by simp [Array.getD, ha']
    have eb : q.getD b 0 = q.toList[b] := by simp [Array.getD, hb']
    rw [ea, eb] at this
    exact this
end
end RS
namespace RS
open PySem
namespace Fs
theorem lri_no_len : typeLookup (.type "list_reverseiterator") "__len__" = pure none := by rw [typeLookup_type, builtinLookup_eq_fast]; kernel_rfl
theorem lri_hint : typeLookup (.type "list_reverseiterator") "__length_hint__" = pure (some (.builtin "list_reverseiterator.__length_hint__")) := by rw [typeLookup_type, builtinLookup_eq_fast]; kernel_rfl
end Fs
section
variable {prog : Program} {w : World} {A : Around} {E : Value -> Shared -> Prop} {s : Shared}
theorem hint_rev {a l : Addr} {i : Int} {Q : Bool -> Shared -> Prop} (hT : s.heap.IsRevIter a l i) (h : Q false s) : wpAny (model prog w) A (Builtin.List.listLengthHint (.ref a)) Q E s := by
 unfold Builtin.List.listLengthHint
 refine wpAny_bind (wpAny_specialOf hT.typeIs Fs.lri_no_len ?_)
 show wpAny _ _ (specialOf (Value.ref a) (Str.ofString "__length_hint__") >>= _) _ _ _
 refine wpAny_bind (wpAny_specialOf hT.typeIs Fs.lri_hint ?_)
 generalize hid : ("list_reverseiterator.__length_hint__" : String) = id0
 wp_delta
 rw [show splitId id0 = some ("list_reverseiterator", "__length_hint__") from by subst hid; decide +kernel]
 subst hid
 refine wpAny_bind (wpAny_isInstance (T := "list_reverseiterator") (b := true) hT.typeIs (by rw [isSubtype_type]; kernel_rfl) ?_)
 refine wpAny_ite_split (fun hab => absurd hab (by decide)) (fun _ => ?_)
 refine wpAny_ite_split (fun _ => ?_) (fun hab => absurd (by decide +kernel) hab)
 refine wpAny_ite_split (fun hab => absurd hab (by decide +kernel)) (fun _ => ?_)
 exact wpAny_pure h
theorem call_list_rev {a l : Addr} {its : Array Value} {Q : Value -> Shared -> Prop} (hh : A.handled = none) (hr : s.heap.IsRevIter a l ((its.size : Int) - 1)) (hl : s.heap.IsList l its) (hne : l ≠ a) (hn : its.size <= sizeLine)
  (hQ : ∀ h' tk acc c, (∀ b o, b ≠ a -> s.heap.get? b = some o -> h'.get? b = some o) -> h'.get? s.heap.objs.size = some { cls := .type "list", dict := none, data := .seq acc c, slots := #[] } ->
   acc.toList = its.toList.reverse -> Q (.ref s.heap.objs.size) { s with heap := h', toks := tk }) : wpAny (model prog w) A (call (.type "list") [.ref a]) Q E s := by
 have lta : a < s.heap.objs.size := let ⟨_, e, _⟩ := hr; Heap.lt_size e
 have ltl : l < s.heap.objs.size := let ⟨_, e, _⟩ := hl; Heap.lt_size e
 refine callType_codes (Q₁ := fun ob s1 => ob = .ref s.heap.objs.size /\ s1 = { s with heap := s.heap.push { cls := .type "list", data := .seq #[] } }) F.called_list (F.typeCall_list_1 _) F.entry_list_init (code_list_new _ ⟨rfl, rfl⟩) fun ob s1 h1 => ?_
 obtain ⟨rfl, rfl⟩ := h1
 have g1 : (s.heap.push { cls := .type "list", data := .seq #[] }).get? s.heap.objs.size = some { cls := .type "list", data := .seq #[] } := Heap.get?_push_size _ rfl
 refine ⟨⟨_, g1, rfl⟩, F.args_list_init_2 _ _, ?_⟩
 show wpAny _ _ (do let old <- Builtin.List.listItems (.ref s.heap.objs.size); Builtin.List.listUpdate (.ref s.heap.objs.size) (fun _ => #[]); letGo old.toList.reverse; Builtin.List.listExtendWith (.ref s.heap.objs.size) (.ref a) .none) _ _ _
 refine wpAny_bind ?_
 unfold Builtin.List.listItems
 refine wpAny_bind (wpAny_seqItems g1 rfl (wpAny_pure ?_))
 show wpAny _ _ (updateSeq s.heap.objs.size (fun _ => #[]) >>= fun _ => letGo (#[] : Array Value).toList.reverse >>= fun _ => Builtin.List.listExtendWith (.ref s.heap.objs.size) (.ref a) .none) _ _ _
 refine wpAny_bind (wpAny_updateSeq g1 rfl ?_)
 have g2 := Heap.get?_update_self (Obj.mapSeq (fun _ => (#[] : Array Value))) g1 rfl
 have k2 : ∀ b o, s.heap.get? b = some o -> ((s.heap.push { cls := .type "list", data := .seq #[] }).update s.heap.objs.size (Obj.mapSeq (fun _ => (#[] : Array Value)))).get? b = some o := fun b o e =>
  (Heap.get?_update_other _ _ (Nat.ne_of_gt (Heap.lt_size e))).trans (Heap.get?_push_of_some _ e)
 refine wpAny_bind (wpAny_letGo ?_)
 generalize ((s.heap.push { cls := .type "list", data := .seq #[] }).update s.heap.objs.size (Obj.mapSeq (fun _ => (#[] : Array Value)))) = h2 at g2 k2 ⊢
 have hr2 : h2.IsRevIter a l ((its.size : Int) - 1) := hr.at fun o e => k2 a o e
 have hl2 : h2.IsList l its := hl.at fun o e => k2 l o e
 unfold Builtin.List.listExtendWith
 refine wpAny_bind (wpAny_typeOf (T := "list_reverseiterator") (Heap.IsRevIter.typeIs (s := { s with heap := h2 }) hr2) ?_)
 have q1 : Builtin.List.listSameRef (.ref s.heap.objs.size) (.ref a) = false := by simp [Builtin.List.listSameRef, Nat.ne_of_gt lta]
 have q2 : (Value.type "list_reverseiterator" == Value.type "list") = false := by decide
 have q3 : (Value.type "list_reverseiterator" == Value.type "tuple") = false := by decide
 simp only [q1, q2, q3, Bool.or_false, Bool.false_eq_true, if_false]
 refine wpAny_bind (wpAny_pyIter_revIter (s := { s with heap := h2 }) hr2 ?_)
 refine wpAny_bind (wpAny_holding (hint_rev (s := { s with heap := h2 }) hr2 ?_))
 refine wpAny_ite_split (fun hab => absurd hab (by decide)) (fun _ => ?_)
 have W := Walks.listRev (prog := prog) (w := w) (A := A.in1.in1) hh a l hne its
 refine wpAny_pure ⟨plainId_quiet F.plain_extend_loop _, codeAny_extend_loopS W.toS hn s.heap.objs.size (by simp [Nat.ne_of_gt lta, Nat.ne_of_gt ltl]) _ its.size 0 _ #[] _ rfl (Nat.zero_le _) ⟨Nat.zero_le _, by simpa using hr2, hl2⟩ g2 (ItemsOf.nil _) fun s' acc c hm hS hacc => ?_⟩
 obtain ⟨h', g', d', tk', os'⟩ := s'
 have eg : g' = s.gens := hm.gens
 have ed : d' = s.drawn := hm.drawn
 have eo : os' = s.os := hm.os
 subst eg; subst ed; subst eo
 refine ⟨rfl, hQ h' tk' acc c (fun b o hb e => hm.heap b o (fun z => ?_) (k2 b o e)) hS ?_⟩
 ·rcases List.mem_cons.mp z with z | z
  ·exact absurd (Heap.lt_size e) (by rw [z]; exact Nat.lt_irrefl _)
  ·exact hb (by simpa using z)
 ·refine List.ext_getElem? fun j => ?_
  have hsz : acc.size = its.size := hacc.1
  rcases Nat.lt_or_ge j acc.size with hj | hj
  ·have := hacc.2 j acc[j] (by simp [hj])
   rw [Array.getElem?_toList]
   rw [List.getElem?_reverse (by simpa [<- hsz] using hj)]
   simp only [Array.length_toList, Array.getElem?_toList]
   rw [this]
   simp [hj]
  ·rw [List.getElem?_eq_none (by simpa using hj), List.getElem?_eq_none (by simpa [<- hsz] using hj)]
end
end RS
namespace L2
open PySem PySem.Spec PyProof.Rows
noncomputable abbrev Key := Sum Int Str
noncomputable def keyIs : Key -> Value -> Bool
 | .inl k, v => Value.isInt k v
 | .inr x, v => Value.isStrOf x v
noncomputable def keyH (w : World) : Key -> Int
 | .inl k => hashInt k
 | .inr x => hashStr w x
theorem keyIs_shape : ∀ {k : Key} {v : Value}, keyIs k v = true -> (∃ i t, k = Sum.inl i /\ v = Value.int i t) \/ (∃ x t, k = Sum.inr x /\ v = Value.str x t)
 | .inl i, v, h => by
  obtain ⟨t, e⟩ := Value.isInt_shape (k := i) (v := v) h
  exact .inl ⟨i, t, rfl, e⟩
 | .inr x, v, h => by
  obtain ⟨t, e⟩ := Value.isStrOf_shape (x := x) (v := v) h
  exact .inr ⟨x, t, rfl, e⟩
theorem key_ll (a b : Int) : decide ((Sum.inl a : Key) = Sum.inl b) = (a == b) := by
 by_cases e : a = b
 ·subst e; simp
 ·have h : ¬ (Sum.inl a : Key) = Sum.inl b := fun q => e (Sum.inl.inj q)
  rw [decide_eq_false h]
  exact (beq_eq_false_iff_ne.mpr e).symm
theorem key_rr (a b : Str) : decide ((Sum.inr a : Key) = Sum.inr b) = decide (a = b) := by
 by_cases e : a = b
 ·subst e; simp
 ·have h : ¬ (Sum.inr a : Key) = Sum.inr b := fun q => e (Sum.inr.inj q)
  rw [decide_eq_false h, decide_eq_false e]
theorem key_lr (a : Int) (b : Str) : decide ((Sum.inl a : Key) = Sum.inr b) = false := decide_eq_false (fun q => nomatch q)
theorem key_rl (a : Str) (b : Int) : decide ((Sum.inr a : Key) = Sum.inl b) = false := decide_eq_false (fun q => nomatch q)
noncomputable def mixKind (prog : Program) (w : World) : PySem.KeyKind prog w Key where
 is := keyIs
 hash := keyH w
 inj := fun v a b ha hb => by
  rcases keyIs_shape ha with ⟨i, t, rfl, rfl⟩ | ⟨x, t, rfl, rfl⟩
  ·rcases keyIs_shape hb with ⟨j, u, rfl, e⟩ | ⟨y, u, rfl, e⟩
   ·injection e with e1 _; rw [e1]
   ·exact nomatch e
  ·rcases keyIs_shape hb with ⟨j, u, rfl, e⟩ | ⟨y, u, rfl, e⟩
   ·exact nomatch e
   ·injection e with e1 _; rw [e1]
 byValue := fun k v h => by
  rcases keyIs_shape h with ⟨i, t, rfl, rfl⟩ | ⟨x, t, rfl, rfl⟩ <;> rfl
 pyHash := fun hv h => by
  rcases keyIs_shape hv with ⟨i, t, rfl, rfl⟩ | ⟨x, t, rfl, rfl⟩
  ·exact wpAny_pyHash_int h
  ·exact wpAny_pyHash_str h
 eqBool := fun hu hv h => by
  rcases keyIs_shape hu with ⟨i, t, rfl, rfl⟩ | ⟨x, t, rfl, rfl⟩
  ·rcases keyIs_shape hv with ⟨j, u, rfl, rfl⟩ | ⟨y, u, rfl, rfl⟩
   ·rw [key_ll] at h; exact wpAny_eqBool_int h
   ·rw [key_lr] at h; exact SeqAt.EqAt.int_str i t y u _ _ _ _ h
  ·rcases keyIs_shape hv with ⟨j, u, rfl, rfl⟩ | ⟨y, u, rfl, rfl⟩
   ·rw [key_rl] at h; exact SeqAt.EqAt.str_int x t j u _ _ _ _ h
   ·rw [key_rr] at h; exact wpAny_eqBool_str h
 «strs» := fun k x t v h => by
  rcases keyIs_shape h with ⟨i, u, rfl, e⟩ | ⟨y, u, rfl, e⟩
  ·exact nomatch e
  ·injection e with e1 _
   subst e1
   cases v <;> rfl
end L2
namespace L2
open PySem PySem.Spec PyProof.Rows
inductive V where
 | non | bl (b : Bool) | int (i : Int) | str (x : Str) | byt (b : Array UInt8) | flt (b : UInt64) | ref (a : Addr) | ty (n : String)
 deriving DecidableEq
noncomputable def RelV : V -> Value -> Prop
 | .non, u => u = Value.none
 | .bl b, u => u = Value.bool b
 | .int i, u => ∃ t, u = Value.int i t
 | .str x, u => ∃ t, u = Value.str x t
 | .byt b, u => ∃ t, u = Value.bytes b t
 | .flt b, u => ∃ t, u = Value.float b t
 | .ref a, u => u = Value.ref a
 | .ty n, u => u = Value.type n
noncomputable abbrev Vals : List V -> List Value -> Prop := Paired RelV
theorem Vals.length {xs : List V} {us : List Value} (r : Vals xs us) : xs.length = us.length := Paired.length r
theorem Vals.get : ∀ {xs : List V} {us : List Value} {i : Nat} {x : V}, Vals xs us -> xs[i]? = some x -> ∃ u, us[i]? = some u /\ RelV x u
 | _, _, _, _, .nil, e => by simp at e
 | _, _, 0, _, .cons r _, e => by simp at e; subst e; exact ⟨_, rfl, r⟩
 | _, _, i + 1, x, .cons _ t, e => by
  obtain ⟨u, h1, h2⟩ := Vals.get (i := i) (x := x) t (by simpa using e)
  exact ⟨u, by simpa using h1, h2⟩
theorem Vals.set {x : V} {u : Value} (r : RelV x u) : ∀ {xs : List V} {us : List Value} (i : Nat), Vals xs us -> Vals (xs.set i x) (us.set i u)
 | _, _, _, .nil => .nil
 | _, _, 0, .cons _ t => .cons r t
 | _, _, i + 1, .cons q t => .cons q (Vals.set r i t)
theorem Vals.append : ∀ {xs ys : List V} {us ws : List Value}, Vals xs us -> Vals ys ws -> Vals (xs ++ ys) (us ++ ws)
 | _, _, _, _, .nil, s => s
 | _, _, _, _, .cons r t, s => .cons r (Vals.append t s)
theorem Vals.take : ∀ {xs : List V} {us : List Value} (n : Nat), Vals xs us -> Vals (xs.take n) (us.take n)
 | _, _, 0, _ => .nil
 | _, _, _ + 1, .nil => .nil
 | _, _, n + 1, .cons r t => .cons r (Vals.take n t)
theorem Vals.drop : ∀ {xs : List V} {us : List Value} (n : Nat), Vals xs us -> Vals (xs.drop n) (us.drop n)
 | _, _, 0, r => r
 | _, _, _ + 1, .nil => .nil
 | _, _, n + 1, .cons _ t => Vals.drop n t
noncomputable def RelO : Option V -> Option Value -> Prop
 | some v, some u => RelV v u
 | none, none => True
 | _, _ => False
noncomputable def KV {κ : Type} : List (κ × V) -> List (κ × Value) -> Prop := Paired fun (p : κ × V) (q : κ × Value) => p.1 = q.1 /\ RelV p.2 q.2
noncomputable def kV : Key -> V
 | .inl i => .int i
 | .inr x => .str x
inductive HO where
 | lst (xs : List V)
 | tup (xs : List V)
 | dK (kvs : List (Key × V)) | dT (kvs : List (List Key × V))
 | set (S : Int -> Bool) (n : Nat)
 | ins (C dx : Addr) (fs : List (Str × V))
 | own (x : Addr)
 | xd (fs : List (Str × V))
 | met (f x : Addr)
 | rng (lo hi : Int)
 | frz (o : Obj) (u : HO)
 | tbl (ps : Array Value)
 | ext (φ : Heap -> Prop)
noncomputable abbrev Hp := Addr -> Option HO
noncomputable def upd (H : Hp) (a : Addr) (o : HO) : Hp := fun b => if b = a then some o else H b
theorem upd_same {H : Hp} {a : Addr} {o : HO} : upd H a o a = some o := by unfold upd; rw [if_pos rfl]
theorem upd_ne {H : Hp} {a b : Addr} {o : HO} (h : b ≠ a) : upd H a o b = H b := by unfold upd; rw [if_neg h]
theorem ne_of {H : Hp} {a b : Addr} {o u : HO} (h : H a = some o) (h' : H b = some u) (d : o ≠ u) : a ≠ b := by
 intro e; subst e; rw [h] at h'; exact d (Option.some.inj h')
theorem ne_of_none {H : Hp} {a b : Addr} {o : HO} (h : H a = some o) (h' : H b = none) : a ≠ b := by
 intro e; subst e; rw [h] at h'; cases h'
section
variable (P : Program) (w : World)
noncomputable def ObjOk (H : Hp) (h : Heap) (a : Addr) : HO -> Prop
 | .lst xs => xs.length <= sizeLine /\ ∃ (its : List Value) (n : Nat), Vals xs its /\ h.get? a = some { cls := .type "list", data := .seq its.toArray n }
 | .tup xs => xs.length <= sizeLine /\ ∃ its : List Value, Vals xs its /\ IsTup h a its.toArray
 | .dK kvs => kvs.length <= sizeLine /\ (a == sysModules) = false /\ ∃ vs, KV kvs vs /\ h.DictOf (mixKind P w) a vs
 | .dT kvs => kvs.length <= sizeLine /\ (a == sysModules) = false /\ ∃ xs : List (List Key × Addr × Value),
   Paired (fun (p : List Key × V) (q : List Key × Addr × Value) => p.1 = q.1 /\ H q.2.1 = some (.tup (p.1.map kV)) /\ RelV p.2 q.2.2) kvs xs /\
   ∃ o es ep, h.get? a = some o /\ o.ExactDict /\ o.data = .dict es ep /\ es.toList = xs.map (entryOfKey (tupleKind (mixKind P w))) /\ (xs.map (·.1)).Nodup
 | .set S n => h.SetOf (intKind P w) a S n
 | .ins C dx fs => H dx = some (.own a) /\ fs.length <= 1000 /\ dx ≠ a /\ h.get? a = some (PySem.W.instObj C dx) /\
   ∃ mA, h.Ns1 dx mA /\ (∀ f, RelO (fs.lookup f) (mA f)) /\ PySem.Within mA (fs.map (·.1))
 | .own _ => ∃ o, h.get? a = some o
 | .xd fs => ∃ mA, h.Ns1 a mA /\ ∀ f, RelO (fs.lookup f) (mA f)
 | .rng lo hi => ∃ t u v, h.get? a = some { cls := .type "range", data := .fields #[.int lo t, .int hi u, .int 1 v] }
 | .frz o u => h.get? a = some o /\ ObjOk H h a u
 | .tbl ps => h.get? a = some { cls := .none, data := .fields ps }
 | .met f x => h.get? a = some (PySem.W.methodObj (.ref f) (.ref x))
 | .ext φ => φ h /\ (∃ o, h.get? a = some o) /\ ∀ h1 h2 : Heap, φ h1 -> (∀ o, h1.get? a = some o -> h2.get? a = some o) -> φ h2
noncomputable def HOk (H : Hp) (h : Heap) : Prop := ∀ a o, H a = some o -> ObjOk P w H h a o
end
section
variable {P : Program} {w : World} {H H' : Hp} {h h' : Heap} {a : Addr} {o : HO}
theorem ObjOk.lt (x : ObjOk P w H h a o) : a < h.objs.size := by
 cases o with
 | lst xs => obtain ⟨_, _, _, _, e⟩ := x; exact Heap.lt_size e
 | tup xs => obtain ⟨_, _, _, p⟩ := x; exact p.lt
 | dK kvs => obtain ⟨_, _, _, _, o, _, _, e, _⟩ := x; exact Heap.lt_size e
 | dT kvs => obtain ⟨_, _, _, _, o, _, _, e, _⟩ := x; exact Heap.lt_size e
 | set S n => obtain ⟨o, _, _, _, e, _⟩ := x; exact Heap.lt_size e
 | ins C dx fs => obtain ⟨_, _, _, e, _⟩ := x; exact Heap.lt_size e
 | own y => obtain ⟨_, e⟩ := x; exact Heap.lt_size e
 | xd fs => obtain ⟨_, ⟨_, _, _, e, _⟩, _⟩ := x; exact Heap.lt_size e
 | rng lo hi => obtain ⟨_, _, _, e⟩ := x; exact Heap.lt_size e
 | frz ob u => obtain ⟨e, _⟩ := x; exact Heap.lt_size e
 | tbl ps => exact Heap.lt_size (show h.get? a = some _ from x)
 | met f y => exact Heap.lt_size (show h.get? a = some _ from x)
 | ext φ => obtain ⟨_, ⟨_, e⟩, _⟩ := x; exact Heap.lt_size e
theorem Paired.mapP {α β : Type} {F G : α -> β -> Prop} : ∀ {l₁ : List α} {l₂ : List β}, Paired F l₁ l₂ -> (∀ a b, F a b -> G a b) -> Paired G l₁ l₂
 | _, _, .nil, _ => .nil
 | _, _, .cons r t, f => .cons (f _ _ r) (Paired.mapP t f)
theorem ObjOk.stay (x : ObjOk P w H h a o) (k : ∀ b u, (b = a \/ H b = some (.own a)) -> h.get? b = some u -> h'.get? b = some u)
  (ho : ∀ b, H b = some (.own a) -> H' b = some (.own a)) (ht : ∀ b xs, H b = some (.tup xs) -> H' b = some (.tup xs)) : ObjOk P w H' h' a o := by
 induction o with
 | lst xs => obtain ⟨z, its, n, r, e⟩ := x; exact ⟨z, its, n, r, k _ _ (.inl rfl) e⟩
 | tup xs => obtain ⟨z, its, r, ob, e, c⟩ := x; exact ⟨z, its, r, ob, k _ _ (.inl rfl) e, c⟩
 | dK kvs => obtain ⟨z, y, vs, r, ob, es, ep, e, c⟩ := x; exact ⟨z, y, vs, r, ob, es, ep, k _ _ (.inl rfl) e, c⟩
 | dT kvs =>
  obtain ⟨z, y, xs, r, ob, es, ep, e, c⟩ := x
  exact ⟨z, y, xs, Paired.mapP r fun p q z => ⟨z.1, ht _ _ z.2.1, z.2.2⟩, ob, es, ep, k _ _ (.inl rfl) e, c⟩
 | set S n => obtain ⟨ob, es, ep, t, e, c⟩ := x; exact ⟨ob, es, ep, t, k _ _ (.inl rfl) e, c⟩
 | ins C dx fs =>
  obtain ⟨d, z, ne, e, mA, ⟨od, es, ep, e2, c⟩, r⟩ := x
  exact ⟨ho _ d, z, ne, k _ _ (.inl rfl) e, mA, ⟨od, es, ep, k _ _ (.inr d) e2, c⟩, r⟩
 | own y => obtain ⟨ob, e⟩ := x; exact ⟨ob, k _ _ (.inl rfl) e⟩
 | xd fs => obtain ⟨mA, ⟨od, es, ep, e, c⟩, r⟩ := x; exact ⟨mA, ⟨od, es, ep, k _ _ (.inl rfl) e, c⟩, r⟩
 | rng lo hi => obtain ⟨t, u, v, e⟩ := x; exact ⟨t, u, v, k _ _ (.inl rfl) e⟩
 | frz ob u ih => obtain ⟨e, q⟩ := x; exact ⟨k _ _ (.inl rfl) e, ih q⟩
 | tbl ps =>
  have e : h.get? a = some { cls := .none, data := .fields ps } := x
  show h'.get? a = some { cls := .none, data := .fields ps }
  exact k a _ (.inl rfl) e
 | met f y =>
  have e : h.get? a = some (PySem.W.methodObj (.ref f) (.ref y)) := x
  show h'.get? a = some (PySem.W.methodObj (.ref f) (.ref y))
  exact k a _ (.inl rfl) e
 | ext φ => obtain ⟨p, ⟨o, e⟩, st⟩ := x; exact ⟨st _ _ p fun o q => k _ _ (.inl rfl) q, ⟨o, k _ _ (.inl rfl) e⟩, st⟩
theorem HOk.lt (x : HOk P w H h) (e : H a = some o) : a < h.objs.size := (x a o e).lt
theorem HOk.fresh (x : HOk P w H h) (e : h.objs.size <= a) : H a = none := by
 cases q : H a with
 | none => rfl
 | some u => exact absurd (Nat.lt_of_lt_of_le (x.lt q) e) (Nat.lt_irrefl _)
theorem HOk.kept (x : HOk P w H h) (k : ∀ b u, h.get? b = some u -> h'.get? b = some u) : HOk P w H h' := fun a o e =>
 (x a o e).stay (fun b u _ q => k b u q) (fun _ q => q) fun _ _ q => q
theorem HOk.laid (x : HOk P w H h) (k : ∀ b u, h.get? b = some u -> h'.get? b = some u) (hp : h.objs.size <= a) (new : ObjOk P w (upd H a o) h' a o) : HOk P w (upd H a o) h' := fun b u e => by
 have hn := x.fresh hp
 by_cases hb : b = a
 ·subst hb; rw [upd_same] at e; cases e; exact new
 ·rw [upd_ne hb] at e
  exact (x b u e).stay (fun c v _ q => k c v q) (fun c q => by rw [upd_ne (ne_of_none q hn)]; exact q) fun c xs q => by rw [upd_ne (ne_of_none q hn)]; exact q
end
noncomputable def Rd (H : Hp) (a : Addr) (u : HO) : Prop := H a = some u \/ ∃ o, H a = some (.frz o u)
theorem Rd.ok {P : Program} {w : World} {H : Hp} {h : Heap} {a : Addr} {u : HO} (r : Rd H a u) (x : HOk P w H h) : ObjOk P w H h a u := by
 rcases r with r | ⟨o, r⟩
 ·exact x a u r
 ·obtain ⟨_, q⟩ := x a _ r
  exact q
noncomputable def Mut : Option HO -> Prop
 | some (.lst _) => True
 | some (.dK _) => True
 | some (.dT _) => True
 | some (.set _ _) => True
 | some (.ins _ _ _) => True
 | some (.ext _) => True
 | _ => False
section
variable {P : Program} {w : World} {H : Hp} {h h' : Heap} {x e : Addr} {o' : HO}
theorem HOk.write (ok : HOk P w H h) (mu : Mut (H x)) (he : e = x \/ H e = some (.own x)) (k : ∀ b u, b ≠ e -> h.get? b = some u -> h'.get? b = some u) (heo : ∃ u, h'.get? e = some u)
  (new : ObjOk P w (upd H x o') h' x o') : HOk P w (upd H x o') h' := fun b u q => by
 have nown : ∀ c y, H c = some (.own y) -> c ≠ x := fun c y r z => by subst z; rw [r] at mu; exact mu
 have ntup : ∀ c xs, H c = some (.tup xs) -> c ≠ x := fun c xs r z => by subst z; rw [r] at mu; exact mu
 by_cases hb : b = x
 ·subst hb; rw [upd_same] at q; cases q; exact new
 ·rw [upd_ne hb] at q
  by_cases hbe : b = e
  ·have q' : H b = some (.own x) := by
    rcases he with z | z
    ·exact absurd (hbe.trans z) hb
    ·rw [hbe]; exact z
   rw [q] at q'; cases q'
   obtain ⟨v, hv⟩ := heo
   exact ⟨v, by rw [hbe]; exact hv⟩
  ·refine (ok b u q).stay (fun c v hc r => k c v ?_ r) (fun c r => by rw [upd_ne (nown c b r)]; exact r) fun c xs r => by rw [upd_ne (ntup c xs r)]; exact r
   rcases hc with rfl | hc
   ·exact hbe
   ·rintro rfl
    rcases he with z | z
    ·exact nown c b hc z
    ·rw [hc] at z; cases z; exact hb rfl
end
structure Un (fs ex : List Addr) (H H' : Hp) (h h' : Heap) : Prop where
 keep : ∀ b o, h.get? b = some o -> H b = none -> b ∉ fs -> b ∉ ex -> h'.get? b = some o
 slot : ∀ b o, h.get? b = some o -> H b = none -> b ∈ fs -> b ∉ ex -> ∃ sl, h'.get? b = some { o with slots := sl }
 free : ∀ b o, h.get? b = some o -> H b = none -> b ∉ ex -> H' b = none
 there : ∀ b o, h.get? b = some o -> b ∉ ex -> ∃ o', h'.get? b = some o'
 tups : ∀ b xs, H b = some (.tup xs) -> H' b = some (.tup xs)
 frzs : ∀ b o u, H b = some (.frz o u) -> H' b = some (.frz o u)
 tbls : ∀ b ps, H b = some (.tbl ps) -> ∃ more, H' b = some (.tbl (ps ++ more))
section
variable {fs fs' ex ex' : List Addr} {H H1 H2 : Hp} {h h1 h2 h' : Heap} {a x e : Addr} {o : HO}
theorem Un.any (u : Un fs ex H H1 h h1) {b : Addr} {ob : Obj} (q : h.get? b = some ob) (n : H b = none) (hx : b ∉ ex) : ∃ sl, h1.get? b = some { ob with slots := sl } := by
 by_cases hb : b ∈ fs
 ·exact u.slot b ob q n hb hx
 ·exact ⟨ob.slots, u.keep b ob q n hb hx⟩
theorem Un.kept (k : ∀ b u, h.get? b = some u -> h'.get? b = some u) : Un fs ex H H h h' :=
 ⟨fun b ob q _ _ _ => k b ob q, fun b ob q _ _ _ => ⟨ob.slots, k b ob q⟩, fun _ _ _ n _ => n, fun b ob q _ => ⟨ob, k b ob q⟩, fun _ _ q => q, fun _ _ _ q => q, fun _ ps q => ⟨#[], by rw [q]; simp⟩⟩
theorem Un.refl : Un fs ex H H h h := Un.kept fun _ _ q => q
theorem Un.laid (k : ∀ b u, h.get? b = some u -> h'.get? b = some u) (hp : h.objs.size <= a) (hn : H a = none) : Un fs ex H (upd H a o) h h' where
 keep := fun b u q _ _ _ => k b u q
 slot := fun b u q _ _ _ => ⟨u.slots, k b u q⟩
 free := fun b u q n _ => by rw [upd_ne (Nat.ne_of_lt (Nat.lt_of_lt_of_le (Heap.lt_size q) hp))]; exact n
 there := fun b u q _ => ⟨u, k b u q⟩
 tups := fun b xs q => by rw [upd_ne (ne_of_none q hn)]; exact q
 frzs := fun b u xs q => by rw [upd_ne (ne_of_none q hn)]; exact q
 tbls := fun b ps q => ⟨#[], by rw [upd_ne (ne_of_none q hn), q]; simp⟩
theorem Un.write (mu : Mut (H x)) (he : e = x \/ H e = some (.own x)) (k : ∀ b u, b ≠ e -> h.get? b = some u -> h'.get? b = some u) (heo : ∃ u, h'.get? e = some u) : Un fs ex H (upd H x o) h h' := by
 have hx : ∀ b, H b = none -> b ≠ x := fun b n z => by subst z; rw [n] at mu; exact mu
 have hb : ∀ b, H b = none -> b ≠ e := fun b n z => by
  subst z
  rcases he with r | r
  ·exact hx b n r
  ·rw [n] at r; cases r
 have hm : ∀ b u, H b = some u -> ¬ Mut (some u) -> b ≠ x := fun b u q nm z => by subst z; rw [q] at mu; exact nm mu
 refine ⟨fun b u q n _ _ => k b u (hb b n) q, fun b u q n _ _ => ⟨u.slots, k b u (hb b n) q⟩, fun b u q n _ => by rw [upd_ne (hx b n)]; exact n, fun b u q _ => ?_,
  fun b xs q => by rw [upd_ne (hm b _ q fun z => z)]; exact q, fun b u xs q => by rw [upd_ne (hm b _ q fun z => z)]; exact q, fun b ps q => ⟨#[], by rw [upd_ne (hm b _ q fun z => z), q]; simp⟩⟩
 by_cases hbe : b = e
 ·subst hbe; exact heo
 ·exact ⟨u, k b u hbe q⟩
end
noncomputable def trk (h : Heap) (H : Hp) : List Addr := (List.range h.objs.size).filter fun a => (H a).isSome
noncomputable def hidT (h : Heap) (H : Hp) : Heap := PySem.W.hideAll h (trk h H)
theorem hidT_size (h : Heap) (H : Hp) : (hidT h H).objs.size = h.objs.size := PySem.W.hideAll_size _ _
theorem hidT_get {h : Heap} {H : Hp} {b : Addr} {o : Obj} (e : h.get? b = some o) (n : H b = none) : (hidT h H).get? b = some o :=
 PySem.W.hideAll_get _ e fun hm => by
  have q : (H b).isSome = true := (List.mem_filter.mp hm).2
  rw [n] at q; simp at q
theorem of_hidT {h : Heap} {H : Hp} {b : Addr} {o : Obj} (e : (hidT h H).get? b = some o) : h.get? b = some o /\ H b = none := by
 have e' : h.get? b = some o := PySem.W.of_hideAll (trk h H) e
 refine ⟨e', ?_⟩
 cases q : H b with
 | none => rfl
 | some x =>
  have hm : b ∈ trk h H := List.mem_filter.mpr ⟨List.mem_range.mpr (Heap.lt_size e'), by simp [q]⟩
  have z : (hidT h H).get? b = none := PySem.W.hideAll_none (trk h H) hm
  rw [z] at e; cases e
noncomputable def allNews (g h : Heap) (L : Addr) : List (Addr × Obj) := (List.range h.objs.size).filterMap fun a => if a = L \/ (g.get? a).isSome = true then none else (h.get? a).map fun o => (a, o)
theorem mem_allNews {g h : Heap} {L a : Addr} {o : Obj} (h1 : a ≠ L) (h2 : g.get? a = none) (h3 : h.get? a = some o) : (a, o) ∈ allNews g h L :=
 List.mem_filterMap.mpr ⟨a, List.mem_range.mpr (Heap.lt_size h3), by simp [h1, h2, h3]⟩
set_option tactic.hygienic true in
theorem of_mem_allNews {g h : Heap} {L : Addr} {p : Addr × Obj} (hp : p ∈ allNews g h L) : p.1 ≠ L /\ g.get? p.1 = none /\ h.get? p.1 = some p.2 := by
 obtain ⟨b, _, e⟩ := List.mem_filterMap.mp hp
 split at e
 ·cases e
 ·rename_i hn
  cases q : h.get? b with
  | none => rw [q] at e; simp at e
  | some u =>
   rw [q] at e
   simp only [Option.map_some, Option.some.injEq] at e
   subst e
   refine ⟨fun z => hn (.inl z), ?_, q⟩
   show g.get? b = none
   cases r : g.get? b with
   | none => rfl
   | some v => exact (hn (.inr (by simp [r]))).elim
noncomputable def rest (g h : Heap) (L d : Addr) : List (Addr × Obj) := (allNews g h L).filter fun p => decide (p.1 ≠ d)
theorem news_all {g h : Heap} {L : Addr} : News g L h (allNews g h L) := fun p hp => let ⟨a, b, c⟩ := of_mem_allNews hp; ⟨c, a, b⟩
end L2
namespace L2
open PySem PySem.Spec PyProof.Rows
structure Mod (K : PySem.W.Frag) (mg : Str -> Option Value) (base : Heap) : Prop where
 kin : K.In base
 glob : base.Ns mainGlobals mg
 blt : ∃ mb, base.Ns builtinsNs mb /\ ∀ x : Str, x ≠ "__name__" -> mb x = bootBuiltins x
 nolimit : base.NoLimit
structure Cx where
 prog : Program
 w : World
 K : PySem.W.Frag
 mg : Str -> Option Value
 base : Heap
 A : Around
 N : List Str
 s₀ : Shared
 H₀ : Hp
 env : Env
 outer : List Env
 stack : List Env
 ex : List Addr
 fn : Str -> Bool
 calm : Bool
 pn : List (Addr × Obj)
 xe : Value -> Shared -> Prop
noncomputable def frs (l : List Env) : List Addr := l.filterMap (·.frame)
noncomputable abbrev Cx.fs (X : Cx) : List Addr := frs X.outer
noncomputable def Vis (sc : Scope) (x : Str) : Prop := sc.names.lookup x = some .local \/ sc.names.lookup x = some .cell \/ sc.names.lookup x = some .free
noncomputable def Loc (sc : Scope) (x : Str) : Prop := sc.names.lookup x = some .local \/ sc.names.lookup x = some .cell
noncomputable def Look (env : Env) (h : Heap) (m : Str -> Option Value) (x : Str) (u : Value) : Prop :=
 (env.kindOf x = some .local /\ m x = some u) \/ ((env.kindOf x = some .cell \/ env.kindOf x = some .free) /\ ∃ c, env.cells.lookup x = some c /\ h.IsCell c (some u))
structure Cx.Ok (X : Cx) : Prop where
 mod : Mod X.K X.mg X.base
 kind : X.env.scope.kind = .function
 glob : X.env.globals = mainGlobals
 blt : X.env.builtins = builtinsNs
 above : X.s₀.heap.objs.size <= X.env.locals
 inj : ∀ x y c, X.env.cells.lookup x = some c -> X.env.cells.lookup y = some c -> x = y
 has : ∀ x, (X.env.kindOf x = some .cell \/ X.env.kindOf x = some .free) -> ∃ c, X.env.cells.lookup x = some c
 cab : ∀ x c, X.fn x = true -> X.env.cells.lookup x = some c -> X.s₀.heap.objs.size <= c
 hd : X.calm = true -> X.A.handled = none
 frames : X.A.frames = some X.stack
 stk : X.stack = X.outer \/ (X.stack = X.env :: X.outer /\ X.env.frame = some X.env.locals)
 exf : ∀ b ∈ X.ex, b ≠ X.env.locals /\ ∀ x c, X.env.cells.lookup x = some c -> c ≠ b
 bs : ∀ b o, X.base.get? b = some o -> X.s₀.heap.get? b = some o /\ X.H₀ b = none
 bsz : X.base.objs.size <= X.s₀.heap.objs.size
 noex : ∀ b o, X.base.get? b = some o -> b ∉ X.ex
 exfs : ∀ b ∈ X.ex, b ∉ X.fs
 funs : X.s₀.heap.FunFrames X.base X.outer
 frf : ∀ b ∈ X.fs, X.H₀ b = none
structure Inv (X : Cx) (pins : List (Addr × Obj)) (σ : List (Option V)) (H : Hp) (s : Shared) : Prop where
 ok : X.Ok
 os : s.os = X.s₀.os
 bare : AllBare s.gens
 base : Un X.fs X.ex X.H₀ H X.s₀.heap s.heap
 loc : ∃ m, s.heap.Ns X.env.locals m /\ ∀ (i : Nat) (x : Str) (v : V), X.N[i]? = some x -> σ[i]? = some (some v) -> Vis X.env.scope x -> ∃ u, RelV v u /\ Look X.env s.heap m x u
 cell : ∀ x c, X.env.cells.lookup x = some c -> ∃ v, s.heap.IsCell c v
 free : H X.env.locals = none
 freeC : ∀ x c, X.env.cells.lookup x = some c -> H c = none
 pin : ∀ p ∈ X.pn ++ pins, s.heap.get? p.1 = some p.2 /\ H p.1 = none /\ p.1 ≠ X.env.locals /\ p.1 ∉ X.fs /\ ∀ v, p.2.data ≠ .cell v
 hok : HOk X.prog X.w H s.heap
 len : σ.length = X.N.length
section
variable {X : Cx} {pins : List (Addr × Obj)} {σ : List (Option V)} {H H' : Hp} {s : Shared} {h' : Heap}
theorem Cx.Ok.nofr (ok : X.Ok) {b : Addr} {o : Obj} (e : X.base.get? b = some o) : b ∉ X.fs := fun hb => by
 have := (ok.funs.mem hb).1
 rw [e] at this; cases this
theorem Inv.bs (I : Inv X pins σ H s) : ∀ b o, X.base.get? b = some o -> s.heap.get? b = some o /\ H b = none := fun b o e =>
 ⟨I.base.keep b o (I.ok.bs b o e).1 (I.ok.bs b o e).2 (I.ok.nofr e) (I.ok.noex b o e), I.base.free b o (I.ok.bs b o e).1 (I.ok.bs b o e).2 (I.ok.noex b o e)⟩
theorem Inv.bk (I : Inv X pins σ H s) : ∀ b o, X.base.get? b = some o -> s.heap.get? b = some o := fun b o e => (I.bs b o e).1
theorem Inv.mod (I : Inv X pins σ H s) : Mod X.K X.mg X.base := I.ok.mod
theorem Inv.kIn (I : Inv X pins σ H s) : X.K.In s.heap := I.ok.mod.kin.keeps I.bk
theorem Inv.lt (I : Inv X pins σ H s) : X.env.locals < s.heap.objs.size := let ⟨_, hn, _⟩ := I.loc; hn.lt
theorem Inv.sz (I : Inv X pins σ H s) : X.s₀.heap.objs.size <= s.heap.objs.size := Nat.le_trans I.ok.above (Nat.le_of_lt I.lt)
theorem Inv.nofs (I : Inv X pins σ H s) {a : Addr} (h : s.heap.objs.size <= a) : a ∉ X.fs := fun hb => by
 obtain ⟨_, o, ho, _⟩ := I.ok.funs.mem hb
 exact absurd (Nat.lt_of_lt_of_le (Heap.lt_size ho) (Nat.le_trans I.sz h)) (Nat.lt_irrefl _)
theorem Inv.cne (I : Inv X pins σ H s) : ∀ x c, X.env.cells.lookup x = some c -> c ≠ X.env.locals := fun x c e z => by
 obtain ⟨v, o, ho, hd⟩ := I.cell x c e
 obtain ⟨m, ⟨o', es, ep, ho', hd', _⟩, _⟩ := I.loc
 rw [z, ho'] at ho; cases ho; rw [hd'] at hd; cases hd
theorem Inv.funs (I : Inv X pins σ H s) : s.heap.FunFrames X.base X.outer := by
 have all : ∀ (l : List Env), (∀ b ∈ frs l, b ∈ X.fs) -> X.s₀.heap.FunFrames X.base l -> s.heap.FunFrames X.base l := by
  intro l
  induction l with
  | nil => intro _ _; trivial
  | cons env r ih =>
   intro hs hl
   obtain ⟨hk, ⟨L, o, hf, hn, ho, hd⟩, hr⟩ := hl
   have hL : L ∈ X.fs := hs L (by unfold frs; rw [List.filterMap_cons, hf]; exact List.mem_cons_self)
   obtain ⟨sl, e⟩ := I.base.slot L o ho (I.ok.frf L hL) hL fun z => I.ok.exfs L z hL
   exact ⟨hk, ⟨L, _, hf, hn, e, hd⟩, ih (fun b hb => hs b (by unfold frs; rw [List.filterMap_cons, hf]; exact List.mem_cons_of_mem _ hb)) hr⟩
 exact all X.outer (fun _ hb => hb) I.ok.funs
theorem Inv.stack (I : Inv X pins σ H s) : s.heap.FunFrames X.base X.stack := by
 rcases I.ok.stk with e | ⟨e, hf⟩
 ·rw [e]; exact I.funs
 ·rw [e]
  obtain ⟨m, hn, _⟩ := I.loc
  refine .cons (by rw [I.ok.kind]; decide) hf hn ?_ I.funs
  exact Heap.get?_none_of_le (Nat.le_trans I.ok.bsz I.ok.above)
theorem Inv.stkSub (I : Inv X pins σ H s) : ∀ b ∈ frs X.stack, b ∈ X.env.locals :: X.fs := fun b hb => by
 rcases I.ok.stk with e | ⟨e, hf⟩
 ·rw [e] at hb; exact List.mem_cons_of_mem _ hb
 ·rw [e] at hb
  unfold frs at hb
  rw [List.filterMap_cons, hf] at hb
  exact hb
theorem Inv.stkFree (I : Inv X pins σ H s) : ∀ b ∈ frs X.stack, H b = none := fun b hb => by
 rcases List.mem_cons.mp (I.stkSub b hb) with e | hb
 ·rw [e]; exact I.free
 ·obtain ⟨_, o, ho, _⟩ := I.ok.funs.mem hb
  exact I.base.free b o ho (I.ok.frf b hb) fun z => I.ok.exfs b z hb
theorem Inv.step {g' : Array GenState} {t' : Nat} {d' : Drawn} {ch : List Addr} (I : Inv X pins σ H s)
  (hch : ∀ b ∈ ch, (b ∈ X.ex \/ X.s₀.heap.objs.size <= b) /\ b ≠ X.env.locals /\ (∀ x c, X.env.cells.lookup x = some c -> c ≠ b) /\ ∀ p ∈ X.pn ++ pins, p.1 ≠ b)
  (keep : ∀ b o, b ≠ X.env.locals -> b ∉ X.fs -> b ∉ ch -> s.heap.get? b = some o -> H b = none -> h'.get? b = some o)
  (slot : ∀ b o, b ≠ X.env.locals -> b ∈ X.fs -> b ∉ ch -> s.heap.get? b = some o -> H b = none -> ∃ sl, h'.get? b = some { o with slots := sl }) (free : ∀ b o, b ∉ ch -> s.heap.get? b = some o -> H b = none -> H' b = none)
  (there : ∀ b o, b ∉ ch -> s.heap.get? b = some o -> ∃ o', h'.get? b = some o')
  (tups : ∀ b xs, H b = some (.tup xs) -> H' b = some (.tup xs)) (frzs : ∀ b o u, H b = some (.frz o u) -> H' b = some (.frz o u)) (tbls : ∀ b ps, H b = some (.tbl ps) -> ∃ more, H' b = some (.tbl (ps ++ more)))
  (ns : ∀ m, s.heap.Ns X.env.locals m -> h'.Ns X.env.locals m) (hok : HOk X.prog X.w H' h') (hg : AllBare g') :
  Inv X pins σ H' { s with heap := h', gens := g', drawn := d', toks := t' } := by
 have neL : ∀ b o, X.s₀.heap.get? b = some o -> b ≠ X.env.locals := fun b o e => Nat.ne_of_lt (Nat.lt_of_lt_of_le (Heap.lt_size e) I.ok.above)
 have neC : ∀ b o, X.s₀.heap.get? b = some o -> b ∉ X.ex -> b ∉ ch := fun b o e hx hb => by
  rcases (hch b hb).1 with z | z
  ·exact hx z
  ·exact absurd (Nat.lt_of_lt_of_le (Heap.lt_size e) z) (Nat.lt_irrefl _)
 have cellK : ∀ x c, X.env.cells.lookup x = some c -> ∀ v, s.heap.IsCell c v -> h'.IsCell c v := fun x c e v ⟨o, ho, hd⟩ => by
  have nch : c ∉ ch := fun z => (hch c z).2.2.1 x c e rfl
  by_cases hc : c ∈ X.fs
  ·obtain ⟨sl, q⟩ := slot c o (I.cne x c e) hc nch ho (I.freeC x c e)
   exact ⟨_, q, hd⟩
  ·exact ⟨o, keep c o (I.cne x c e) hc nch ho (I.freeC x c e), hd⟩
 refine ⟨I.ok, I.os, hg, ⟨fun b o e n hb hx => ?_, fun b o e n hb hx => ?_, fun b o e n hx => ?_, fun b o e hx => ?_, fun b xs e => tups b xs (I.base.tups b xs e), fun b o xs e => frzs b o xs (I.base.frzs b o xs e), fun b ps e => ?_⟩, ?_, fun x c e => ?_, ?_, fun x c e => ?_, fun p hp => ?_, hok, I.len⟩
 ·exact keep b o (neL b o e) hb (neC b o e hx) (I.base.keep b o e n hb hx) (I.base.free b o e n hx)
 ·obtain ⟨sl, e1⟩ := I.base.slot b o e n hb hx
  obtain ⟨sl', e2⟩ := slot b _ (neL b o e) hb (neC b o e hx) e1 (I.base.free b o e n hx)
  exact ⟨sl', e2⟩
 ·obtain ⟨o', e1⟩ := I.base.there b o e hx
  exact free b o' (neC b o e hx) e1 (I.base.free b o e n hx)
 ·obtain ⟨o', e1⟩ := I.base.there b o e hx
  exact there b o' (neC b o e hx) e1
 ·obtain ⟨m1, e1⟩ := I.base.tbls b ps e
  obtain ⟨m2, e2⟩ := tbls b _ e1
  exact ⟨m1 ++ m2, by rw [e2, Array.append_assoc]⟩
 ·obtain ⟨m, hn, hl⟩ := I.loc
  refine ⟨m, ns m hn, fun i x v e1 e2 e3 => ?_⟩
  obtain ⟨u, r, l⟩ := hl i x v e1 e2 e3
  refine ⟨u, r, ?_⟩
  rcases l with l | ⟨k, c, e, z⟩
  ·exact .inl l
  ·exact .inr ⟨k, c, e, cellK x c e _ z⟩
 ·obtain ⟨v, z⟩ := I.cell x c e
  exact ⟨v, cellK x c e v z⟩
 ·obtain ⟨m, ⟨o, _, _, ho, _⟩, _⟩ := I.loc
  exact free _ o (fun z => (hch _ z).2.1 rfl) ho I.free
 ·obtain ⟨v, o, ho, hd⟩ := I.cell x c e
  exact free c o (fun z => (hch c z).2.2.1 x c e rfl) ho (I.freeC x c e)
 ·obtain ⟨e, n, ne, nf, d⟩ := I.pin p hp
  have nch : p.1 ∉ ch := fun z => (hch p.1 z).2.2.2 p hp rfl
  exact ⟨keep p.1 p.2 ne nf nch e n, free p.1 p.2 nch e n, ne, nf, d⟩
theorem Inv.un {t' : Nat} (I : Inv X pins σ H s) (u : Un X.fs [] H H' s.heap h') (hok : HOk X.prog X.w H' h') : Inv X pins σ H' { s with heap := h', toks := t' } := by
 obtain ⟨m, ⟨o, es, ep, ho, r⟩, _⟩ := id I.loc
 obtain ⟨sl, hL⟩ := u.any ho I.free (by simp)
 exact I.step (g' := s.gens) (d' := s.drawn) (ch := []) (fun _ z => nomatch z) (fun b o _ hb _ e n => u.keep b o e n hb (by simp)) (fun b o _ hb _ e n => u.slot b o e n hb (by simp)) (fun b o _ e n => u.free b o e n (by simp)) (fun b o _ e => u.there b o e (by simp)) u.tups u.frzs u.tbls (fun m' hm => by
  obtain ⟨o', es', ep', ho', r'⟩ := hm
  rw [ho] at ho'; cases ho'
  exact ⟨_, es', ep', hL, r'⟩) hok I.bare
theorem Inv.call {g' : Array GenState} {t' : Nat} {d' : Drawn} {ch : List Addr} (I : Inv X pins σ H s) (u : Un (frs X.stack) ch H H' s.heap h') (hok : HOk X.prog X.w H' h') (hg : AllBare g')
  (hch : ∀ b ∈ ch, (b ∈ X.ex \/ X.s₀.heap.objs.size <= b) /\ b ≠ X.env.locals /\ (∀ x c, X.env.cells.lookup x = some c -> c ≠ b) /\ ∀ p ∈ X.pn ++ pins, p.1 ≠ b) :
  Inv X pins σ H' { s with heap := h', gens := g', drawn := d', toks := t' } := by
 obtain ⟨m, ⟨o, es, ep, ho, r⟩, _⟩ := id I.loc
 obtain ⟨sl, hL⟩ := u.any ho I.free fun z => (hch _ z).2.1 rfl
 exact I.step (ch := ch) hch (fun b o hL hb hc e n => u.keep b o e n (fun z => (List.mem_cons.mp (I.stkSub b z)).elim hL hb) hc) (fun b o _ _ hc e n => u.any e n hc) (fun b o hc e n => u.free b o e n hc) (fun b o hc e => u.there b o e hc) u.tups u.frzs u.tbls (fun m' hm => by
  obtain ⟨o', es', ep', ho', r'⟩ := hm
  rw [ho] at ho'; cases ho'
  exact ⟨_, es', ep', hL, r'⟩) hok hg
theorem Inv.turned {t' : Nat} {it : Addr} (I : Inv X pins σ H s) (k : ∀ b o, b ≠ it -> s.heap.get? b = some o -> h'.get? b = some o) (hn : H it = none) (hL : it ≠ X.env.locals)
  (h1 : it ∈ X.ex \/ X.s₀.heap.objs.size <= it) (h2 : ∀ x c, X.env.cells.lookup x = some c -> c ≠ it) (h3 : ∀ p ∈ X.pn ++ pins, p.1 ≠ it) : Inv X pins σ H { s with heap := h', toks := t' } := by
 have nit : ∀ b u, H b = some u -> b ≠ it := fun b u e z => by rw [z, hn] at e; cases e
 refine I.step (g' := s.gens) (d' := s.drawn) (ch := [it]) (fun b hb => ?_) (fun b o _ _ hc e _ => k b o (fun z => hc (by simp [z])) e) (fun b o _ _ hc e _ => ⟨o.slots, k b o (fun z => hc (by simp [z])) e⟩) (fun _ _ _ _ n => n)
  (fun b o hc e => ⟨o, k b o (fun z => hc (by simp [z])) e⟩) (fun _ _ e => e) (fun _ _ _ e => e) (fun b ps e => ⟨#[], by rw [e]; simp⟩) (fun m hm => ?_) (fun b u e => ?_) I.bare
 ·have e : b = it := by simpa using hb
  subst e
  exact ⟨h1, hL, h2, h3⟩
 ·obtain ⟨o, es, ep, ho, r⟩ := hm
  exact ⟨o, es, ep, k _ o (Ne.symm hL) ho, r⟩
 ·refine (I.hok b u e).stay (fun c v hc q => k c v ?_ q) (fun _ q => q) fun _ _ q => q
  rcases hc with z | z
  ·rw [z]; exact nit b u e
  ·exact nit c _ z
theorem Inv.tok (I : Inv X pins σ H s) (t : Nat) : Inv X pins σ H { s with toks := t } := I.un (h' := s.heap) (t' := t) Un.refl I.hok
theorem Inv.kept {t' : Nat} (I : Inv X pins σ H s) (k : ∀ b u, s.heap.get? b = some u -> h'.get? b = some u) : Inv X pins σ H { s with heap := h', toks := t' } := I.un (Un.kept k) (I.hok.kept k)
theorem Inv.laid {a : Addr} {o : HO} {t' : Nat} (I : Inv X pins σ H s) (k : ∀ b u, s.heap.get? b = some u -> h'.get? b = some u) (hp : s.heap.objs.size <= a) (new : ObjOk X.prog X.w (upd H a o) h' a o) :
  Inv X pins σ (upd H a o) { s with heap := h', toks := t' } := I.un (Un.laid k hp (I.hok.fresh hp)) (I.hok.laid k hp new)
theorem Inv.write {x e : Addr} {o : HO} {t' : Nat} (I : Inv X pins σ H s) (mu : Mut (H x)) (he : e = x \/ H e = some (.own x)) (k : ∀ b u, b ≠ e -> s.heap.get? b = some u -> h'.get? b = some u) (heo : ∃ u, h'.get? e = some u)
  (new : ObjOk X.prog X.w (upd H x o) h' x o) : Inv X pins σ (upd H x o) { s with heap := h', toks := t' } := I.un (Un.write mu he k heo) (I.hok.write mu he k heo new)
theorem Inv.weak {σ' : List (Option V)} (I : Inv X pins σ H s) (hl : σ'.length = σ.length) (w : ∀ (i : Nat) v, σ'[i]? = some (some v) -> σ[i]? = some (some v)) : Inv X pins σ' H s :=
 ⟨I.ok, I.os, I.bare, I.base, let ⟨m, hn, hl'⟩ := I.loc; ⟨m, hn, fun i x v e1 e2 e3 => hl' i x v e1 (w i v e2) e3⟩, I.cell, I.free, I.freeC, I.pin, I.hok, hl.trans I.len⟩
theorem Inv.pins_of {pins' : List (Addr × Obj)} (I : Inv X pins σ H s) (h : ∀ p ∈ pins', s.heap.get? p.1 = some p.2 /\ H p.1 = none /\ p.1 ≠ X.env.locals /\ p.1 ∉ X.fs /\ ∀ v, p.2.data ≠ .cell v) : Inv X pins' σ H s :=
 ⟨I.ok, I.os, I.bare, I.base, I.loc, I.cell, I.free, I.freeC, fun p hp => (List.mem_append.mp hp).elim (fun z => I.pin p (List.mem_append_left _ z)) (h p), I.hok, I.len⟩
theorem nodup_ix {N : List Str} (hN : N.Nodup) {i j : Nat} {x : Str} (a : N[i]? = some x) (b : N[j]? = some x) : i = j := by
 obtain ⟨h1, e1⟩ := List.getElem?_eq_some_iff.mp a
 obtain ⟨h2, e2⟩ := List.getElem?_eq_some_iff.mp b
 exact (List.getElem_inj hN).mp (e1.trans e2.symm)
theorem store_ok2 {M : Model} {A : Around} {E : Value -> Shared -> Prop} {i : Nat} {x : Str} {v : V} {u : Value} {Q : Unit -> Shared -> Prop} (I : Inv X pins σ H s) (hN : X.N.Nodup) (hi : X.N[i]? = some x) (hx : Loc X.env.scope x) (r : RelV v u)
  (h : ∀ s', Inv X pins (σ.set i (some v)) H s' -> (∃ a, Heap.SameBut a s.heap s'.heap /\ (a = X.env.locals \/ X.env.cells.lookup x = some a)) -> Q () s') (hf : X.fn x = true \/ X.env.scope.names.lookup x = some .local := by first | exact .inl rfl | exact .inr rfl | assumption) : wpAny M A (storeName X.env x u) Q E s := by
 obtain ⟨m, hn, hl⟩ := id I.loc
 have hcls : (X.env.scope.kind == .class || (X.env.scope.kind == .module && X.env.locals != X.env.globals)) = false := by rw [I.ok.kind]; rfl
 have hiσ : i < σ.length := by rw [I.len]; exact (List.getElem?_eq_some_iff.mp hi).1
 have cne := I.cne
 have tracked : ∀ {a : Addr} {h' : Heap}, (∃ o, s.heap.get? a = some o /\ H a = none) -> Heap.SameBut a s.heap h' -> HOk X.prog X.w H h' := fun {a h'} ha hs b ob e => by
  obtain ⟨_, _, hfree⟩ := ha
  refine (I.hok b ob e).stay (fun c w' hc q => (hs.2 c ?_).trans q) (fun _ q => q) fun _ _ q => q
  rintro rfl
  rcases hc with rfl | hc
  ·rw [hfree] at e; cases e
  ·rw [hfree] at hc; cases hc
 rcases hx with hk | hk
 ·refine wpAny_storeName_local hk hn (fun h' hn' hs => ?_) hcls
  obtain ⟨oL, _, _, hoL, _⟩ := id hn
  refine h _ ⟨I.ok, I.os, I.bare, ⟨fun b o e n hb hx => ?_, fun b o e n hb hx => ?_, I.base.free, fun b o e hx => ?_, I.base.tups, I.base.frzs, I.base.tbls⟩, ⟨_, hn', fun j y v' e1 e2 e3 => ?_⟩, fun y c e => ?_, I.free, I.freeC, fun p hp => ?_, tracked ⟨oL, hoL, I.free⟩ hs, by simpa using I.len⟩ ⟨_, hs, .inl rfl⟩
  ·exact (hs.2 b (Nat.ne_of_lt (Nat.lt_of_lt_of_le (Heap.lt_size e) I.ok.above))).trans (I.base.keep b o e n hb hx)
  ·obtain ⟨sl, e1⟩ := I.base.slot b o e n hb hx
   exact ⟨sl, (hs.2 b (Nat.ne_of_lt (Nat.lt_of_lt_of_le (Heap.lt_size e) I.ok.above))).trans e1⟩
  ·obtain ⟨o', e1⟩ := I.base.there b o e hx
   exact ⟨o', (hs.2 b (Nat.ne_of_lt (Nat.lt_of_lt_of_le (Heap.lt_size e) I.ok.above))).trans e1⟩
  ·by_cases hj : j = i
   ·subst hj
    rw [hi] at e1; cases e1
    rw [List.getElem?_set_self hiσ] at e2
    cases e2
    exact ⟨u, r, .inl ⟨hk, by simp⟩⟩
   ·rw [List.getElem?_set_ne (Ne.symm hj)] at e2
    obtain ⟨u', r', q⟩ := hl j y v' e1 e2 e3
    refine ⟨u', r', ?_⟩
    rcases q with ⟨k, e⟩ | ⟨k, c, e, z⟩
    ·refine .inl ⟨k, ?_⟩
     have : y ≠ x := fun e => hj (nodup_ix hN e1 (e ▸ hi))
     simp [this, e]
    ·exact .inr ⟨k, c, e, z.sameBut hs (cne y c e)⟩
  ·obtain ⟨w', z⟩ := I.cell y c e
   exact ⟨w', z.sameBut hs (cne y c e)⟩
  ·obtain ⟨e, n, ne, nf, d⟩ := I.pin p hp
   exact ⟨(hs.2 p.1 ne).trans e, n, ne, nf, d⟩
 ·have hfn : X.fn x = true := by
   rcases hf with z | z
   ·exact z
   ·rw [z] at hk; cases hk
  obtain ⟨c, hc⟩ := I.ok.has x (.inl hk)
  obtain ⟨w', z⟩ := I.cell x c hc
  refine wpAny_storeName_cell I.ok.kind hk hc z (fun h' hc' hs => ?_)
  obtain ⟨oc, hoc, hocd⟩ := id z
  refine h { s with heap := h' } ⟨I.ok, I.os, I.bare, ⟨fun b o e n hb hx => ?_, fun b o e n hb hx => ?_, I.base.free, fun b o e hx => ?_, I.base.tups, I.base.frzs, I.base.tbls⟩, ⟨m, hn.sameBut hs (Ne.symm (cne x c hc)), fun j y v' e1 e2 e3 => ?_⟩, fun y c' e => ?_, I.free, I.freeC, fun p hp => ?_, tracked ⟨oc, hoc, I.freeC x c hc⟩ hs, by simpa using I.len⟩ ⟨c, hs, .inr hc⟩
  ·exact (hs.2 b (Nat.ne_of_lt (Nat.lt_of_lt_of_le (Heap.lt_size e) (I.ok.cab x c hfn hc)))).trans (I.base.keep b o e n hb hx)
  ·obtain ⟨sl, e1⟩ := I.base.slot b o e n hb hx
   exact ⟨sl, (hs.2 b (Nat.ne_of_lt (Nat.lt_of_lt_of_le (Heap.lt_size e) (I.ok.cab x c hfn hc)))).trans e1⟩
  ·obtain ⟨o', e1⟩ := I.base.there b o e hx
   exact ⟨o', (hs.2 b (Nat.ne_of_lt (Nat.lt_of_lt_of_le (Heap.lt_size e) (I.ok.cab x c hfn hc)))).trans e1⟩
  ·by_cases hj : j = i
   ·subst hj
    rw [hi] at e1; cases e1
    rw [List.getElem?_set_self hiσ] at e2
    cases e2
    exact ⟨u, r, .inr ⟨.inl hk, c, hc, hc'⟩⟩
   ·rw [List.getElem?_set_ne (Ne.symm hj)] at e2
    obtain ⟨u', r', q⟩ := hl j y v' e1 e2 e3
    refine ⟨u', r', ?_⟩
    rcases q with q | ⟨k, c', e, z'⟩
    ·exact .inl q
    ·refine .inr ⟨k, c', e, z'.sameBut hs ?_⟩
     rintro rfl
     exact hj (nodup_ix hN e1 (I.ok.inj _ _ _ e hc ▸ hi))
  ·by_cases hcc : c' = c
   ·subst hcc; exact ⟨_, hc'⟩
   ·obtain ⟨w2, z2⟩ := I.cell y c' e
    exact ⟨w2, z2.sameBut hs hcc⟩
  ·obtain ⟨e, n, ne, nf, d⟩ := I.pin p hp
   refine ⟨(hs.2 p.1 ?_).trans e, n, ne, nf, d⟩
   intro q
   rw [q, hoc] at e
   have q' : oc = p.2 := Option.some.inj e
   exact d w' (by rw [<- q']; exact hocd)
theorem store_ok {M : Model} {A : Around} {E : Value -> Shared -> Prop} {i : Nat} {x : Str} {v : V} {u : Value} {Q : Unit -> Shared -> Prop} (I : Inv X pins σ H s) (hN : X.N.Nodup) (hi : X.N[i]? = some x) (hx : Loc X.env.scope x) (r : RelV v u)
  (h : ∀ s', Inv X pins (σ.set i (some v)) H s' -> Q () s') (hf : X.fn x = true \/ X.env.scope.names.lookup x = some .local := by first | exact .inl rfl | exact .inr rfl | assumption) : wpAny M A (storeName X.env x u) Q E s :=
 store_ok2 I hN hi hx r (fun s' I' _ => h s' I') hf
theorem Inv.call' {s' : Shared} {ch : List Addr} (I : Inv X pins σ H s) (ho : s'.os = s.os) (u : Un (frs X.stack) ch H H' s.heap s'.heap) (hok : HOk X.prog X.w H' s'.heap) (hg : AllBare s'.gens)
  (hch : ∀ b ∈ ch, (b ∈ X.ex \/ X.s₀.heap.objs.size <= b) /\ b ≠ X.env.locals /\ (∀ x c, X.env.cells.lookup x = some c -> c ≠ b) /\ ∀ p ∈ X.pn ++ pins, p.1 ≠ b) : Inv X pins σ H' s' := by
 obtain ⟨h', g', d', t', o'⟩ := s'
 have e : o' = s.os := ho
 subst e
 exact I.call (g' := g') (t' := t') (d' := d') u hok hg hch
end
noncomputable abbrev XK := Value -> Option Addr -> Hp -> Prop
noncomputable abbrev St := List (Option V)
noncomputable abbrev VK := V -> Hp -> Prop
noncomputable abbrev TE := St -> Hp -> VK -> Prop
noncomputable abbrev TT := St -> Hp -> (Bool -> Hp -> Prop) -> Prop
noncomputable abbrev TA := St -> Hp -> (List V -> Hp -> Prop) -> Prop
structure Ends where
 nx : St -> Hp -> Prop
 rt : VK
 bk : St -> Hp -> Prop := fun _ _ => False
 ct : St -> Hp -> Prop := fun _ _ => False
noncomputable abbrev TS := Ends -> St -> Hp -> Prop
inductive EP (X : Cx) (pins : List (Addr × Obj)) (σ : St) (Q : VK) (u : Value) (s' : Shared)  : Prop
 | mk (v : _) (H' : _) (c0 : Inv X pins σ H' s') (c1 : RelV v u) (c2 : Q v H') : EP X pins σ Q u s'
inductive TP (X : Cx) (pins : List (Addr × Obj)) (σ : St) (Q : Bool -> Hp -> Prop) (b : Bool) (s' : Shared)  : Prop
 | mk (H' : _) (c0 : Inv X pins σ H' s') (c1 : Q b H') : TP X pins σ Q b s'
inductive AP (X : Cx) (pins : List (Addr × Obj)) (σ : St) (Q : List V -> Hp -> Prop) (us : List Value) (s' : Shared)  : Prop
 | mk (vs : _) (H' : _) (c0 : Inv X pins σ H' s') (c1 : Vals vs us) (c2 : Q vs H') : AP X pins σ Q us s'
set_option tactic.hygienic true in
noncomputable def SP (X : Cx) (pins : List (Addr × Obj)) (D : Ends) (f : Flow) (s' : Shared) : Prop :=
 match f with
 | .next => ∃ σ' H', Inv X pins σ' H' s' /\ D.nx σ' H'
 | .brk => ∃ σ' H', Inv X pins σ' H' s' /\ D.bk σ' H'
 | .cont => ∃ σ' H', Inv X pins σ' H' s' /\ D.ct σ' H'
 | .ret u => ∃ v σ' H', Inv X pins σ' H' s' /\ RelV v u /\ D.rt v H'
noncomputable def PE (X : Cx) (e : Expr) (t : TE) : Prop :=
 ∀ (pins : List (Addr × Obj)) (s : Shared) (σ : St) (H : Hp) (Q : VK), Inv X pins σ H s -> t σ H Q -> wpAny (model X.prog X.w) X.A (eval e X.env) (EP X pins σ Q) X.xe s
noncomputable def PT (X : Cx) (e : Expr) (t : TT) : Prop :=
 ∀ (pins : List (Addr × Obj)) (s : Shared) (σ : St) (H : Hp) (Q : Bool -> Hp -> Prop), Inv X pins σ H s -> t σ H Q -> wpAny (model X.prog X.w) X.A (isTrue e X.env (eval e X.env)) (TP X pins σ Q) X.xe s
noncomputable def PW (X : Cx) (e : Expr) (t : TT) : Prop :=
 ∀ (whole : Sem Value) (pins : List (Addr × Obj)) (s : Shared) (σ : St) (H : Hp) (Q : Bool -> Hp -> Prop), Inv X pins σ H s -> t σ H Q -> wpAny (model X.prog X.w) X.A (isTrue e X.env whole) (TP X pins σ Q) X.xe s
theorem PW.pt {X : Cx} {e : Expr} {t : TT} (h : PW X e t) : PT X e t := h _
noncomputable def PA (X : Cx) (es : List Expr) (t : TA) : Prop :=
 ∀ (pos : Pos) (pins : List (Addr × Obj)) (s : Shared) (σ : St) (H : Hp) (Q : List V -> Hp -> Prop), Inv X pins σ H s -> t σ H Q -> wpAny (model X.prog X.w) X.A (spliced (backTo pos (starEach es X.env))) (AP X pins σ Q) X.xe s
noncomputable def PS (X : Cx) (st : Stmt) (t : TS) : Prop :=
 ∀ (pins : List (Addr × Obj)) (s : Shared) (σ : St) (H : Hp) (D : Ends), Inv X pins σ H s -> t D σ H -> wpAny (model X.prog X.w) X.A (exec st X.env) (SP X pins D) X.xe s
noncomputable def PSs (X : Cx) (st : List Stmt) (t : TS) : Prop :=
 ∀ (pins : List (Addr × Obj)) (s : Shared) (σ : St) (H : Hp) (D : Ends), Inv X pins σ H s -> t D σ H -> wpAny (model X.prog X.w) X.A (execs st X.env) (SP X pins D) X.xe s
theorem thn {α : Type} {t : Sem α} {Q Q' : α -> Shared -> Prop} {M : Model} {A : Around} {E : Value -> Shared -> Prop} {s : Shared} (h : wpAny M A t Q E s) (hQ : ∀ a s, Q a s -> Q' a s) : wpAny M A t Q' E s := wpAny_mono h hQ fun _ _ x => x
end L2
namespace L2
open PySem PySem.Spec PyProof.Rows
section
variable {X : Cx}
inductive tVar (i : Nat) (σ : St) (H : Hp) (Q : VK) : Prop
 | mk (v : _) (c0 : σ[i]? = some (some v)) (c1 : Q v H) : tVar i σ H Q
noncomputable def tC (v : V) : TE := fun _ H Q => Q v H
theorem pe_var {i : Nat} {x : Str} {pos : Pos} (hN : X.N[i]? = some x) (hv : Vis X.env.scope x) (hd : (x == ("__debug__" : Str)) = false := by decide) (hcd : (x == ("__classdict__" : Str)) = false := by decide) : PE X (.Name x pos) (tVar i) := by
 intro pins s σ H Q I h
 obtain ⟨v, e, h⟩ := h
 obtain ⟨m, hn, hl⟩ := I.loc
 obtain ⟨u, r, l⟩ := hl i x v hN e hv
 have fin : EP X pins σ Q u s := ⟨v, H, I, r, h⟩
 rcases l with ⟨hk, hm⟩ | ⟨hk, c, hc, hcell⟩
 ·exact wpAny_Name (wpAny_loadName_local I.ok.kind hk hn hm fin) hd
 ·rcases hk with hk | hk
  ·exact wpAny_Name (wpAny_loadName_cell I.ok.kind hk hc hcell fin) hd
  ·exact wpAny_Name (wpAny_loadName_free I.ok.kind hk hc hcell fin hcd) hd
theorem pe_int {i j pos} : PE X (.Constant (.int i) j pos) (tC (.int i)) := fun _ _ _ H _ I h => wpAny_Constant_int ⟨.int i, H, I.tok _, ⟨_, rfl⟩, h⟩
theorem pe_bl {b j pos} : PE X (.Constant (.bool b) j pos) (tC (.bl b)) := fun _ _ _ H _ I h => Constant_bool ⟨.bl b, H, I, rfl, h⟩
theorem pe_non {j pos} : PE X (.Constant .none j pos) (tC .non) := fun _ _ _ H _ I h => Constant_none ⟨.non, H, I, rfl, h⟩
theorem pe_str {x j pos} : PE X (.Constant (.str x) j pos) (tC (.str x)) := fun _ _ _ H _ I h => Calls.Constant_str ⟨.str x, H, I.tok _, ⟨_, rfl⟩, h⟩
noncomputable def Gl (X : Cx) (x : Str) : Prop := X.env.kindOf x = some .globalImplicit
theorem ld_glob {E : Value -> Shared -> Prop} {pins : List (Addr × Obj)} {s : Shared} {σ : St} {H : Hp} {x : Str} {u : Value} {pos : Pos} {Q : Value -> Shared -> Prop} (I : Inv X pins σ H s) (hg : Gl X x) (hm : X.mg x = some u) (h : Q u s)
  (hd : (x == ("__debug__" : Str)) = false := by decide) : wpAny (model X.prog X.w) X.A (eval (.Name x pos) X.env) Q E s :=
 Calls.Name_function_global I.ok.kind hg (Calls.loadGlobal_global (by rw [I.ok.glob]; exact I.mod.glob.keeps I.bk) hm h) hd
theorem ld_blt {E : Value -> Shared -> Prop} {pins : List (Addr × Obj)} {s : Shared} {σ : St} {H : Hp} {x : Str} {u : Value} {pos : Pos} {Q : Value -> Shared -> Prop} (I : Inv X pins σ H s) (hg : Gl X x) (hm : X.mg x = none) (hv : bootBuiltins x = some u) (h : Q u s)
  (hn : x ≠ "__name__" := by decide) (hd : (x == ("__debug__" : Str)) = false := by decide) : wpAny (model X.prog X.w) X.A (eval (.Name x pos) X.env) Q E s := by
 obtain ⟨mb, h1, h2⟩ := I.mod.blt
 exact Calls.Name_function_global I.ok.kind hg (Calls.loadGlobal_builtin (by rw [I.ok.glob]; exact I.mod.glob.keeps I.bk) hm (by rw [I.ok.blt]; exact h1.keeps I.bk) ((h2 x hn).trans hv) h) hd
theorem pe_glob {x : Str} {v : V} {u : Value} {pos : Pos} (hg : Gl X x) (hm : X.mg x = some u) (r : RelV v u) (hd : (x == ("__debug__" : Str)) = false := by decide) : PE X (.Name x pos) (tC v) :=
 fun _ _ _ H _ I h => ld_glob I hg hm ⟨v, H, I, r, h⟩ hd
theorem pe_bltn {x : Str} {v : V} {u : Value} {pos : Pos} (hg : Gl X x) (hm : X.mg x = none) (hv : bootBuiltins x = some u) (r : RelV v u) (hn : x ≠ "__name__" := by decide) (hd : (x == ("__debug__" : Str)) = false := by decide) : PE X (.Name x pos) (tC v) :=
 fun _ _ _ H _ I h => ld_blt I hg hm hv ⟨v, H, I, r, h⟩ hn hd
noncomputable def t2I (ta tb : TE) (k : Int -> Int -> Hp -> Prop) : St -> Hp -> Prop := fun σ H => ta σ H fun x H1 => tb σ H1 fun y H2 => ∃ i j, x = .int i /\ y = .int j /\ k i j H2
noncomputable def tAdd (ta tb : TE) : TE := fun σ H Q => t2I ta tb (fun i j H2 => Q (.int (i + j)) H2) σ H
noncomputable def tSub (ta tb : TE) : TE := fun σ H Q => t2I ta tb (fun i j H2 => Q (.int (i - j)) H2) σ H
noncomputable def tMul (ta tb : TE) : TE := fun σ H Q => t2I ta tb (fun i j H2 => (-(2 ^ 64) < i /\ i < 2 ^ 64) /\ Q (.int (i * j)) H2) σ H
variable {a b : Expr} {ta tb : TE} {pos : Pos}
noncomputable def PC (X : Cx) (op : CmpOp) (a b : Expr) (t : TE) : Prop :=
 ∀ (pins : List (Addr × Obj)) (s : Shared) (σ : St) (H : Hp) (Q : VK), Inv X pins σ H s -> t σ H Q ->
  wpAny (model X.prog X.w) X.A (eval a X.env) (fun v s₁ => wpAny (model X.prog X.w) X.A (eval b X.env) (fun u s₂ => wpAny (model X.prog X.w) X.A (compareOp op v u) (EP X pins σ Q) X.xe s₂) X.xe s₁) X.xe s
noncomputable def tCmp (p : Int -> Int -> Bool) (ta tb : TE) : TE := fun σ H Q => t2I ta tb (fun i j H2 => Q (.bl (p i j)) H2) σ H
noncomputable abbrev tLt : TE -> TE -> TE := tCmp fun i j => decide (i < j)
noncomputable abbrev tLe : TE -> TE -> TE := tCmp fun i j => decide (i <= j)
noncomputable abbrev tGt : TE -> TE -> TE := tCmp fun i j => decide (j < i)
noncomputable abbrev tGe : TE -> TE -> TE := tCmp fun i j => decide (j <= i)
noncomputable abbrev tEqI : TE -> TE -> TE := tCmp fun i j => decide (i = j)
noncomputable abbrev tNeI : TE -> TE -> TE := tCmp fun i j => !decide (i = j)
noncomputable def tIsN (ta : TE) : TE := fun σ H Q => ta σ H fun x H1 => Q (.bl (decide (x = .non))) H1
noncomputable def tNotN (ta : TE) : TE := fun σ H Q => ta σ H fun x H1 => Q (.bl (!decide (x = .non))) H1
inductive BlOf (x : V) (H : Hp) (Q : Bool -> Hp -> Prop) : Prop
 | mk (c : Bool) (c0 : x = .bl c) (c1 : Q c H) : BlOf x H Q
noncomputable def tB (t : TE) : TT := fun σ H Q => t σ H fun x H1 => BlOf x H1 Q
theorem pt_val {e : Expr} {t : TE} (h : PE X e t) (he : ∀ whole, isTrue e X.env whole = (do let v <- whole; standAt e.pos; holding [v] (truthy v)) := by intro _; rfl) : PT X e (tB t) := by
 intro pins s σ H Q I hw
 refine isTrue_plain (thn (h pins s σ H _ I hw) fun v s1 ⟨x, H1, I1, r1, q1⟩ => ?_) (he _)
 obtain ⟨d, rfl, q⟩ := q1
 cases r1
 exact wpAny_truthy_bool ⟨H1, I1, q⟩
variable {tA tB' : TT} {rest : List Expr}
noncomputable def tAnd (t u : TT) : TT := fun σ H Q => t σ H fun c H1 => if c = true then u σ H1 Q else Q false H1
noncomputable def tOr (t u : TT) : TT := fun σ H Q => t σ H fun c H1 => if c = true then Q true H1 else u σ H1 Q
noncomputable def tNot (t : TT) : TT := fun σ H Q => t σ H fun c H1 => Q (!c) H1
theorem pw_and1 (ha : PT X a tA) : PW X (.BoolOp .And [a] pos) tA := by
 intro wh pins s σ H Q I h
 refine isTrue_and (thn (ha pins s σ H Q I h) fun c s1 e => ?_)
 cases c with
 | true => exact isTrue_and_nil e
 | false => exact e
theorem pw_or1 (ha : PT X a tA) : PW X (.BoolOp .Or [a] pos) tA := by
 intro wh pins s σ H Q I h
 refine isTrue_or (thn (ha pins s σ H Q I h) fun c s1 e => ?_)
 cases c with
 | false => exact isTrue_or_nil e
 | true => exact e
theorem pw_and (ha : PT X a tA) (hb : PW X (.BoolOp .And (b :: rest) pos) tB') : PW X (.BoolOp .And (a :: b :: rest) pos) (tAnd tA tB') := by
 intro wh pins s σ H Q I h
 refine isTrue_and (thn (ha pins s σ H _ I h) fun c s1 ⟨H1, I1, q1⟩ => ?_)
 cases c with
 | true => exact hb wh pins s1 σ H1 Q I1 q1
 | false => exact ⟨H1, I1, q1⟩
theorem pw_or (ha : PT X a tA) (hb : PW X (.BoolOp .Or (b :: rest) pos) tB') : PW X (.BoolOp .Or (a :: b :: rest) pos) (tOr tA tB') := by
 intro wh pins s σ H Q I h
 refine isTrue_or (thn (ha pins s σ H _ I h) fun c s1 ⟨H1, I1, q1⟩ => ?_)
 cases c with
 | true => exact ⟨H1, I1, q1⟩
 | false => exact hb wh pins s1 σ H1 Q I1 q1
theorem pt_not (ha : PT X a tA) : PT X (.UnaryOp .Not a pos) (tNot tA) := by
 intro pins s σ H Q I h
 exact isTrue_not (thn (ha pins s σ H (fun c H1 => Q (!c) H1) I h) fun c s1 ⟨H1, I1, q⟩ => ⟨H1, I1, q⟩)
noncomputable def tAndV (ta tb : TE) : TE := fun σ H Q => ta σ H fun x H1 => ∃ c, x = .bl c /\ if c = true then tb σ H1 Q else Q (.bl false) H1
noncomputable def tOrV (ta tb : TE) : TE := fun σ H Q => ta σ H fun x H1 => ∃ c, x = .bl c /\ if c = true then Q (.bl true) H1 else tb σ H1 Q
noncomputable def tNotV (ta : TE) : TE := fun σ H Q => ta σ H fun x H1 => ∃ c, x = .bl c /\ Q (.bl (!c)) H1
theorem pe_one {op} {t : TE} (h : PE X a t) : PE X (.BoolOp op [a] pos) t := fun pins s σ H Q I hw => BoolOp_one (h pins s σ H Q I hw)
theorem pe_and (ha : PE X a ta) (hb : PE X (.BoolOp .And (b :: rest) pos) tb) : PE X (.BoolOp .And (a :: b :: rest) pos) (tAndV ta tb) := by
 intro pins s σ H Q I h
 refine BoolOp_and (thn (ha pins s σ H _ I h) fun v s1 ⟨x, H1, I1, r1, q1⟩ => ?_)
 obtain ⟨c, rfl, q1⟩ := q1
 cases r1
 refine wpAny_truthy_bool ?_
 cases c with
 | true => exact hb pins s1 σ H1 Q I1 q1
 | false => exact ⟨.bl false, H1, I1, rfl, q1⟩
theorem pe_or (ha : PE X a ta) (hb : PE X (.BoolOp .Or (b :: rest) pos) tb) : PE X (.BoolOp .Or (a :: b :: rest) pos) (tOrV ta tb) := by
 intro pins s σ H Q I h
 refine BoolOp_or (thn (ha pins s σ H _ I h) fun v s1 ⟨x, H1, I1, r1, q1⟩ => ?_)
 obtain ⟨c, rfl, q1⟩ := q1
 cases r1
 refine wpAny_truthy_bool ?_
 cases c with
 | false => exact hb pins s1 σ H1 Q I1 q1
 | true => exact ⟨.bl true, H1, I1, rfl, q1⟩
noncomputable def tIf (t : TT) (ta tb : TE) : TE := fun σ H Q => t σ H fun c H1 => if c = true then ta σ H1 Q else tb σ H1 Q
end
end L2
namespace L2
open PySem PySem.Spec PyProof.Rows
noncomputable def SqL (K : PySem.W.Frag) (H : Hp) (a : Addr) (xs : List V) : Prop :=
 Rd H a (.lst xs) \/
  ∃ (o : Obj) (its : Array Value) (n : Nat), K.lookup a = some o /\ o.cls = .type "list" /\ o.dict = none /\ o.data = .seq its n /\ its.size <= sizeLine /\ Vals xs its.toList
noncomputable def SqT (K : PySem.W.Frag) (H : Hp) (a : Addr) (xs : List V) : Prop :=
 Rd H a (.tup xs) \/
  ∃ (o : Obj) (its : Array Value) (n : Nat), K.lookup a = some o /\ o.cls = .type "tuple" /\ o.data = .seq its n /\ its.size <= sizeLine /\ Vals xs its.toList
noncomputable def absV : Value -> Option V
 | .none => some .non
 | .bool b => some (.bl b)
 | .int i _ => some (.int i)
 | .str x _ => some (.str x)
 | .bytes b _ => some (.byt b)
 | .float b _ => some (.flt b)
 | .ref a => some (.ref a)
 | .type n => some (.ty n)
 | _ => none
theorem RelV.abs {x : V} {u : Value} (r : RelV x u) : absV u = some x := by
 cases x with
 | non => cases r; rfl
 | bl _ => cases r; rfl
 | int _ => obtain ⟨t, rfl⟩ := r; rfl
 | str _ => obtain ⟨t, rfl⟩ := r; rfl
 | byt _ => obtain ⟨t, rfl⟩ := r; rfl
 | flt _ => obtain ⟨t, rfl⟩ := r; rfl
 | ref _ => cases r; rfl
 | ty _ => cases r; rfl
theorem RelV.inj {x y : V} {u : Value} (r : RelV x u) (q : RelV y u) : x = y := Option.some.inj (r.abs.symm.trans q.abs)
theorem Vals.inj {xs ys : List V} {us : List Value} (h : Vals xs us) (h' : Vals ys us) : xs = ys := by
 induction h generalizing ys with
 | nil => cases h'; rfl
 | cons r t ih => cases h' with | cons r' t' => rw [r.inj r', ih t']
section
variable {X : Cx} {pins : List (Addr × Obj)} {σ : St} {H : Hp} {s : Shared} {a : Addr} {xs ys : List V}
theorem SqL.of {K : PySem.W.Frag} (h : H a = some (.lst xs)) : SqL K H a xs := .inl (.inl h)
theorem SqT.of {K : PySem.W.Frag} (h : H a = some (.tup xs)) : SqT K H a xs := .inl (.inl h)
theorem Inv.list (I : Inv X pins σ H s) (h : SqL X.K H a xs) : ∃ its : List Value, Vals xs its /\ PlainL s.heap a its.toArray /\ xs.length <= sizeLine := by
 rcases h with h | ⟨o, its, n, hk, hc, hd, hs, hz, r⟩
 ·obtain ⟨z, its, n, r, e⟩ := h.ok I.hok
  exact ⟨its, r, ⟨_, n, e, rfl, rfl, rfl⟩, z⟩
 ·refine ⟨its.toList, r, ⟨o, n, I.kIn a o hk, hc, hd, by simpa using hs⟩, ?_⟩
  have e := r.length
  simp only [Array.length_toList] at e
  omega
theorem Inv.tuple (I : Inv X pins σ H s) (h : SqT X.K H a xs) : ∃ its : List Value, Vals xs its /\ IsTup s.heap a its.toArray /\ xs.length <= sizeLine := by
 rcases h with h | ⟨o, its, n, hk, hc, hs, hz, r⟩
 ·obtain ⟨z, its, r, p⟩ := h.ok I.hok
  exact ⟨its, r, p, z⟩
 ·refine ⟨its.toList, r, ⟨o, I.kIn a o hk, hc, n, by simpa using hs⟩, ?_⟩
  have e := r.length
  simp only [Array.length_toList] at e
  omega
theorem Inv.list_inj (I : Inv X pins σ H s) (h : SqL X.K H a xs) (h' : SqL X.K H a ys) : xs = ys := by
 obtain ⟨its, r, ⟨o, n, e, _, _, d⟩, _⟩ := I.list h
 obtain ⟨its', r', ⟨o', n', e', _, _, d'⟩, _⟩ := I.list h'
 rw [e] at e'; cases e'
 rw [d] at d'
 injection d' with d1 _
 have : its = its' := by simpa using congrArg Array.toList d1
 subst this
 exact r.inj r'
end
noncomputable abbrev Cx.wish (X : Cx) (E : Value -> Shared -> Prop) : Cx := { X with xe := E }
noncomputable abbrev Cx.nox (X : Cx) : Cx := X.wish fun _ _ => False
theorem Cx.Ok.wish {X : Cx} (ok : X.Ok) (E : Value -> Shared -> Prop) : (X.wish E).Ok :=
 ⟨ok.mod, ok.kind, ok.glob, ok.blt, ok.above, ok.inj, ok.has, ok.cab, ok.hd, ok.frames, ok.stk, ok.exf, ok.bs, ok.bsz, ok.noex, ok.exfs, ok.funs, ok.frf⟩
theorem Cx.Ok.unwish {X : Cx} {E : Value -> Shared -> Prop} (ok : (X.wish E).Ok) : X.Ok :=
 ⟨ok.mod, ok.kind, ok.glob, ok.blt, ok.above, ok.inj, ok.has, ok.cab, ok.hd, ok.frames, ok.stk, ok.exf, ok.bs, ok.bsz, ok.noex, ok.exfs, ok.funs, ok.frf⟩
section
variable {X : Cx} {pins : List (Addr × Obj)} {σ : St} {H : Hp} {s : Shared} {E : Value -> Shared -> Prop}
theorem Inv.wish (I : Inv X pins σ H s) (E : Value -> Shared -> Prop) : Inv (X.wish E) pins σ H s := ⟨I.ok.wish E, I.os, I.bare, I.base, I.loc, I.cell, I.free, I.freeC, I.pin, I.hok, I.len⟩
theorem Inv.unwish (I : Inv (X.wish E) pins σ H s) : Inv X pins σ H s := ⟨I.ok.unwish, I.os, I.bare, I.base, I.loc, I.cell, I.free, I.freeC, I.pin, I.hok, I.len⟩
set_option tactic.hygienic true in
theorem SP.unwish {D : Ends} {f : Flow} {s' : Shared} (h : SP (X.wish E) pins D f s') : SP X pins D f s' := by
 cases f with
 | next => obtain ⟨σ', H', I, q⟩ := h; exact ⟨σ', H', I.unwish, q⟩
 | brk => obtain ⟨σ', H', I, q⟩ := h; exact ⟨σ', H', I.unwish, q⟩
 | cont => obtain ⟨σ', H', I, q⟩ := h; exact ⟨σ', H', I.unwish, q⟩
 | ret u => obtain ⟨v, σ', H', I, r, q⟩ := h; exact ⟨v, σ', H', I.unwish, r, q⟩
theorem PSs.nox {st : List Stmt} {t : TS} (h : PSs X.nox st t) : PSs X st t := fun pins s σ H D I hw =>
 wpAny_mono (h pins s σ H D (I.wish _) hw) (fun _ _ q => q.unwish) fun _ _ z => False.elim z
end
section
variable {X : Cx} {st : Stmt} {rest : List Stmt} {t u : TS} {e : Expr} {te : TE} {pos : Pos}
noncomputable def tNext : TS := fun D σ H => D.nx σ H
noncomputable def tSeq (t u : TS) : TS := fun D σ H => t { D with nx := u D } σ H
theorem pss_nil : PSs X [] tNext := fun _ _ σ H _ I h => wpAny_execs_nil ⟨σ, H, I, h⟩
set_option tactic.hygienic true in
theorem pss_cons (h1 : PS X st t) (h2 : PSs X rest u) : PSs X (st :: rest) (tSeq t u) := by
 intro pins s σ H D I h
 refine wpAny_execs_cons (thn (h1 pins s σ H { D with nx := u D } I h) fun f s1 q => ?_)
 cases f with
 | next =>
  obtain ⟨σ', H', I', q⟩ := q
  exact h2 pins s1 σ' H' D I' q
 | ret v => exact q
 | brk => exact q
 | cont => exact q
set_option tactic.hygienic true in
theorem pss_one (h1 : PS X st t) : PSs X [st] t := by
 intro pins s σ H D I h
 refine wpAny_execs_cons (thn (h1 pins s σ H D I h) fun f s1 q => ?_)
 cases f with
 | next => exact wpAny_execs_nil q
 | ret v => exact q
 | brk => exact q
 | cont => exact q
noncomputable def tBreak : TS := fun D σ H => D.bk σ H
noncomputable def tCont : TS := fun D σ H => D.ct σ H
theorem ps_break : PS X (.Break pos) tBreak := fun _ _ σ H _ I h => wpAny_Break ⟨σ, H, I, h⟩
theorem Inv.quiet {pins : List (Addr × Obj)} {σ : St} {H : Hp} {s : Shared} (I : Inv X pins σ H s) : interactive X.env = false := by simp [interactive, I.ok.kind]
noncomputable def tDrop (te : TE) : TS := fun D σ H => te σ H fun _ H1 => D.nx σ H1
theorem ps_expr (he : PE X e te) (hs : swapsWith e none pos.line X.env = pure false := by rfl) : PS X (.Expr e pos) (tDrop te) := by
 intro pins s σ H D I h
 exact wpAny_Expr_any (thn (he pins s σ H _ I h) fun v s1 ⟨x, H1, I1, r1, q1⟩ => ⟨σ, H1, I1, q1⟩) I.quiet hs
noncomputable def tRet (te : TE) : TS := fun D σ H => te σ H D.rt
theorem ps_ret (he : PE X e te) : PS X (.Return (some e) pos) (tRet te) := by
 intro pins s σ H D I h
 exact wpAny_Return_some (thn (he pins s σ H _ I h) fun v s1 ⟨x, H1, I1, r1, q1⟩ => ⟨x, σ, H1, I1, r1, q1⟩)
noncomputable def tRetN : TS := fun D _ H => D.rt .non H
noncomputable def tIfS (c : TT) (t u : TS) : TS := fun D σ H => c σ H fun b H1 => if b = true then t D σ H1 else u D σ H1
theorem ps_if {c : Expr} {a b : List Stmt} {tc : TT} (hc : PT X c tc) (ha : PSs X a t) (hb : PSs X b u) : PS X (.If c a b pos) (tIfS tc t u) := by
 intro pins s σ H D I h
 refine wpAny_If (thn (hc pins s σ H _ I h) fun d s1 ⟨H1, I1, q1⟩ => ?_)
 cases d with
 | true => exact ha pins s1 σ H1 D I1 q1
 | false => exact hb pins s1 σ H1 D I1 q1
noncomputable def tNever : TS := fun _ _ _ => False
theorem pss_never {sts : List Stmt} : PSs X sts tNever := fun _ _ _ _ _ _ h => h.elim
end
noncomputable abbrev TG := V -> St -> Hp -> (St -> Hp -> Prop) -> Prop
noncomputable abbrev TGs := List V -> St -> Hp -> (St -> Hp -> Prop) -> Prop
noncomputable def PG (X : Cx) (target : Expr) (t : TG) : Prop :=
 ∀ (pins : List (Addr × Obj)) (s : Shared) (σ : St) (H : Hp) (v : V) (u : Value) (Q : St -> Hp -> Prop), Inv X pins σ H s -> RelV v u -> t v σ H Q ->
  wpAny (model X.prog X.w) X.A (assign target X.env u) (fun _ s' => ∃ σ' H', Inv X pins σ' H' s' /\ Q σ' H') X.xe s
noncomputable def PGs (X : Cx) (ts : List Expr) (t : TGs) : Prop :=
 ∀ (pins : List (Addr × Obj)) (s : Shared) (σ : St) (H : Hp) (vs : List V) (us : List Value) (Q : St -> Hp -> Prop), Inv X pins σ H s -> Vals vs us -> t vs σ H Q ->
  wpAny (model X.prog X.w) X.A (assignInOrder ((assignEach ts X.env).map (·.2)) us) (fun _ s' => ∃ σ' H', Inv X pins σ' H' s' /\ Q σ' H') X.xe s
noncomputable abbrev TSet := V -> V -> V -> Hp -> (Hp -> Prop) -> Prop
noncomputable def PSet (X : Cx) (t : TSet) : Prop :=
 ∀ (pins : List (Addr × Obj)) (s : Shared) (σ : St) (H : Hp) (o i v : V) (ov iv u : Value) (Q : Hp -> Prop), Inv X pins σ H s -> RelV o ov -> RelV i iv -> RelV v u -> t o i v H Q ->
  wpAny (model X.prog X.w) X.A (setItem ov iv u) (fun _ s' => ∃ H', Inv X pins σ H' s' /\ Q H') X.xe s
noncomputable abbrev TIp := V -> V -> Hp -> VK -> Prop
noncomputable def PIp (X : Cx) (op : Operator) (t : TIp) : Prop :=
 ∀ (pins : List (Addr × Obj)) (s : Shared) (σ : St) (H : Hp) (x y : V) (v u : Value) (Q : VK), Inv X pins σ H s -> RelV x v -> RelV y u -> t x y H Q ->
  wpAny (model X.prog X.w) X.A (inplaceOp op v u) (EP X pins σ Q) X.xe s
section
variable {X : Cx} {pos : Pos}
noncomputable def gName (i : Nat) : TG := fun v σ H Q => Q (σ.set i (some v)) H
theorem pg_name {i : Nat} {x : Str} (hN : X.N.Nodup) (hi : X.N[i]? = some x) (hx : Loc X.env.scope x) (hf : X.fn x = true \/ X.env.scope.names.lookup x = some .local := by first | exact .inl rfl | exact .inr rfl | assumption) : PG X (.Name x pos) (gName i) := by
 intro pins s σ H v u Q I r h
 exact wpAny_assign_Name (store_ok I hN hi hx r (fun s' I' => ⟨_, H, I', h⟩) hf)
noncomputable def gNil : TGs := fun vs σ H Q => vs = [] /\ Q σ H
inductive gCons (t : TG) (u : TGs) (vs : List V) (σ : St) (H : Hp) (Q : St -> Hp -> Prop) : Prop
 | mk (v : _) (r : _) (c0 : vs = v :: r) (c1 : t v σ H fun σ' H' => u r σ' H' Q) : gCons t u vs σ H Q
theorem pgs_nil : PGs X [] gNil := by
 intro pins s σ H vs us Q I r h
 obtain ⟨e, h⟩ := h
 subst e
 cases r
 exact assignInOrder_nil ⟨σ, H, I, h⟩
theorem pgs_cons {e : Expr} {es : List Expr} {t : TG} {u : TGs} (h1 : PG X e t) (h2 : PGs X es u)
  (hs : (assignEach (e :: es) X.env).map (·.2) = assign e X.env :: (assignEach es X.env).map (·.2) := by rfl) : PGs X (e :: es) (gCons t u) := by
 intro pins s σ H vs us Q I r h
 obtain ⟨v, vr, e1, h⟩ := h
 subst e1
 cases r with
 | cons r rr =>
  rw [hs]
  refine assignInOrder_cons (thn (h1 pins s σ H _ _ _ I r h) fun _ s1 ⟨σ1, H1, I1, q1⟩ => ?_)
  exact h2 pins s1 σ1 H1 _ _ Q I1 rr q1
inductive gTup (K : PySem.W.Frag) (n : Nat) (t : TGs) (v : V) (σ : St) (H : Hp) (Q : St -> Hp -> Prop) : Prop
 | mk (a : _) (xs : _) (c0 : v = .ref a) (c1 : SqT K H a xs) (c2 : xs.length = n) (c3 : t xs σ H Q) : gTup K n t v σ H Q
theorem pg_tup {es : List Expr} {k : Nat} {t : TGs} {n : Nat} (hc : X.calm = true) (h : PGs X es t)
  (hn : (assignEach es X.env).length = n := by rfl) (hst : (assignEach es X.env).findIdx? (·.1) = none := by rfl) : PG X (.Tuple es k pos) (gTup X.K n t) := by
 intro pins s σ H v u Q I r hw
 obtain ⟨a, xs, e1, hq, hl, hw⟩ := hw
 subst e1
 cases r
 obtain ⟨its, rv, ht, hz⟩ := I.tuple hq
 refine assign_Tuple_tuple (I.ok.hd hc) ht (by simp [hn, <- hl, rv.length]) hst fun h' hx => ?_
 have I1 : Inv X pins σ H { s with heap := h' } := I.kept (t' := s.toks) fun b o e => hx b o (Nat.ne_of_lt (Heap.lt_size e)) e
 exact h pins _ σ H xs _ Q I1 (by simpa using rv) hw
noncomputable def gSub (to ti : TE) (t : TSet) : TG := fun v σ H Q => to σ H fun o H1 => ti σ H1 fun i H2 => t o i v H2 fun H3 => Q σ H3
theorem pg_sub {o i : Expr} {to ti : TE} {t : TSet} (ho : PE X o to) (hi : PE X i ti) (hs : PSet X t)
  (ha : ∀ v, assign (.Subscript o i pos) X.env v = (do
   let ov <- holding [v] (eval o X.env)
   let iv <- holding [v, ov] (eval i X.env)
   standAt pos
   holding [v, ov, iv] (setItem ov iv v)
   release [v, ov, iv] []) := by intro _; rfl) : PG X (.Subscript o i pos) (gSub to ti t) := by
 intro pins s σ H v u Q I r h
 rw [ha]
 refine wpAny_bind (wpAny_holding (thn (ho pins s σ H _ I h) fun ov s1 ⟨x, H1, I1, r1, q1⟩ => ?_))
 refine wpAny_bind (wpAny_holding (thn (hi pins s1 σ H1 _ I1 q1) fun iv s2 ⟨y, H2, I2, r2, q2⟩ => ?_))
 refine wpAny_bind (wpAny_standAt (wpAny_bind (wpAny_holding (thn (hs pins s2 σ H2 x y v ov iv u _ I2 r1 r2 r q2) fun _ s3 ⟨H3, I3, q3⟩ => ?_))))
 exact wpAny_release ⟨σ, H3, I3, q3⟩
noncomputable def tAsg (te : TE) (g : TG) : TS := fun D σ H => te σ H fun x H1 => g x σ H1 D.nx
theorem ps_asg {tg e : Expr} {te : TE} {g : TG} (he : PE X e te) (hg : PG X tg g) (hs : swapsWithSole [tg] e pos.line X.env = pure false := by rfl) (hw : swappedStores [tg] e X.env = pure none := by rfl)
  (h1 : (assignEach [tg] X.env).map (·.2) = [assign tg X.env] := by rfl) : PS X (.Assign [tg] e pos) (tAsg te g) := by
 intro pins s σ H D I h
 refine wpAny_Assign_stores (thn (he pins s σ H _ I h) fun v s1 ⟨x, H1, I1, r1, q1⟩ => ?_) hs hw
 rw [h1]
 exact thn (hg pins s1 σ H1 x v _ I1 r1 q1) fun _ s2 q => q
theorem ps_set {i : Nat} {x : Str} {e : Expr} {te : TE} {pos' : Pos} (hN : X.N.Nodup) (hi : X.N[i]? = some x) (hx : Loc X.env.scope x) (he : PE X e te) (hs : swapsWith e (some (.Name x pos')) pos.line X.env = pure false := by rfl) (hf : X.fn x = true \/ X.env.scope.names.lookup x = some .local := by first | exact .inl rfl | exact .inr rfl | assumption) :
  PS X (.Assign [.Name x pos'] e pos) (tAsg te (gName i)) := by
 intro pins s σ H D I h
 refine wpAny_Assign_Name (thn (he pins s σ H _ I h) fun v s1 ⟨y, H1, I1, r1, q1⟩ => ?_) hs
 exact store_ok I1 hN hi hx r1 (fun s2 I2 => ⟨_, H1, I2, q1⟩) hf
noncomputable def tPar (i j : Nat) (ta : TA) : TS := fun D σ H => ta σ H fun vs H1 => ∃ v w, vs = [v, w] /\ D.nx ((σ.set i (some v)).set j (some w)) H1
noncomputable def tAug (i : Nat) (te : TE) (ti : TIp) : TS := fun D σ H => ∃ x, σ[i]? = some (some x) /\ te σ H fun y H1 => ti x y H1 fun z H2 => D.nx (σ.set i (some z)) H2
set_option tactic.hygienic true in
theorem ps_aug {i : Nat} {x : Str} {e : Expr} {te : TE} {op : Operator} {ti : TIp} {pos' : Pos} (hN : X.N.Nodup) (hi : X.N[i]? = some x) (hx : Loc X.env.scope x) (he : PE X e te) (ho : PIp X op ti) (hf : X.fn x = true \/ X.env.scope.names.lookup x = some .local := by first | exact .inl rfl | exact .inr rfl | assumption) :
  PS X (.AugAssign (.Name x pos') op e pos) (tAug i te ti) := by
 intro pins s σ H D I h
 obtain ⟨v, e1, h⟩ := h
 obtain ⟨m, hn, hl⟩ := I.loc
 have vis : Vis X.env.scope x := by rcases hx with k | k; exact .inl k; exact .inr (.inl k)
 obtain ⟨u, r, l⟩ := hl i x v hi e1 vis
 refine wpAny_AugAssign_Name ?_
 have go : wpAny (model X.prog X.w) X.A (eval e X.env) (fun w s₂ => wpAny (model X.prog X.w) X.A (inplaceOp op u w) (fun r s₃ => wpAny (model X.prog X.w) X.A (storeName X.env x r) (fun _ => SP X pins D .next) X.xe s₃) X.xe s₂) X.xe s := by
  refine thn (he pins s σ H _ I h) fun w s1 ⟨y, H1, I1, r1, q1⟩ => ?_
  refine thn (ho pins s1 σ H1 v y u w _ I1 r r1 q1) fun z s2 ⟨zv, H2, I2, r2, q2⟩ => ?_
  exact store_ok I2 hN hi hx r2 (fun s3 I3 => ⟨_, H2, I3, q2⟩) hf
 rcases l with ⟨hk, hm⟩ | ⟨hk, c, hc, hcell⟩
 ·exact wpAny_loadName_local I.ok.kind hk hn hm go
 ·rcases hk with hk | hk
  ·exact wpAny_loadName_cell I.ok.kind hk hc hcell go
  ·rcases hx with k | k
   ·have : X.env.scope.names.lookup x = some .free := hk
    rw [k] at this; cases this
   ·have : X.env.scope.names.lookup x = some .free := hk
    rw [k] at this; cases this
noncomputable def tAugS (to ti te : TE) (tget : V -> V -> Hp -> VK -> Prop) (tip : TIp) (tset : TSet) : TS := fun D σ H => to σ H fun o H1 => ti σ H1 fun i H2 => tget o i H2 fun x H3 => te σ H3 fun y H4 => tip x y H4 fun z H5 => tset o i z H5 fun H6 => D.nx σ H6
noncomputable def PGet (X : Cx) (t : V -> V -> Hp -> VK -> Prop) : Prop :=
 ∀ (pins : List (Addr × Obj)) (s : Shared) (σ : St) (H : Hp) (o i : V) (ov iv : Value) (Q : VK), Inv X pins σ H s -> RelV o ov -> RelV i iv -> t o i H Q ->
  wpAny (model X.prog X.w) X.A (getItem ov iv) (EP X pins σ Q) X.xe s
noncomputable def ipI (f : Int -> Int -> Int) : TIp := fun x y H Q => ∃ i j, x = .int i /\ y = .int j /\ Q (.int (f i j)) H
theorem ip_add : PIp X .Add (ipI fun i j => i + j) := by
 intro pins s σ H x y v u Q I r1 r2 h
 obtain ⟨i, j, e1, e2, q⟩ := h
 subst e1; subst e2
 obtain ⟨t, rfl⟩ := r1
 obtain ⟨t', rfl⟩ := r2
 exact iadd_int ⟨.int _, H, I.tok _, ⟨_, rfl⟩, q⟩
end
section
variable {X : Cx} {pos : Pos}
noncomputable def tWhile (c : TT) (tb : TS) : TS := fun D σ H => ∃ W : Nat -> St -> Hp -> Prop, (∃ m, W m σ H) /\ ∀ m σ H, W m σ H ->
 c σ H fun b H1 => if b = true then ∃ N : St -> Hp -> Prop, (∀ σ' H', N σ' H' -> ∃ m', m' < m /\ W m' σ' H') /\ tb { D with nx := N, ct := N, bk := D.nx } σ H1 else D.nx σ H1
set_option tactic.hygienic true in
theorem ps_while {c : Expr} {body : List Stmt} {tc : TT} {tb : TS} (hp : PassesOwn (model X.prog X.w) X.A X.env X.xe) (hc : PT X c tc) (hb : PSs X body tb) : PS X (.While c body [] pos) (tWhile tc tb) := by
 intro pins s σ H D I h
 obtain ⟨W, ⟨m0, w0⟩, turn⟩ := h
 refine wpAny_While (codeAny_whileLoop (fun n s' => ∃ σ' H', Inv X pins σ' H' s' /\ W n σ' H') ?_ m0 ⟨σ, H, I, w0⟩)
 rintro n s1 ⟨σ1, H1, I1, w1⟩
 refine wpAny_passesOwn hp (thn (hc pins s1 σ1 H1 _ I1 (turn n σ1 H1 w1)) fun b s2 ⟨H2, I2, q2⟩ => ?_)
 cases b with
 | true =>
  obtain ⟨N, hN, q2⟩ := q2
  rw [if_pos rfl]
  refine wpAny_passesOwn hp (thn (hb pins s2 σ1 H2 _ I2 q2) fun f s3 q3 => ?_)
  cases f with
  | next =>
   obtain ⟨σ3, H3, I3, n3⟩ := q3
   obtain ⟨m', hm, w3⟩ := hN σ3 H3 n3
   exact ⟨m', hm, σ3, H3, I3, w3⟩
  | cont =>
   obtain ⟨σ3, H3, I3, n3⟩ := q3
   obtain ⟨m', hm, w3⟩ := hN σ3 H3 n3
   exact ⟨m', hm, σ3, H3, I3, w3⟩
  | brk => exact q3
  | ret v => exact q3
 | false =>
  rw [if_neg Bool.false_ne_true]
  exact wpAny_execs_nil ⟨σ1, H2, I2, q2⟩
end
structure It where
 go : Nat -> Hp -> Prop
 yld : Nat -> Hp -> V -> Hp -> Prop
 stop : Nat -> Hp -> Prop
noncomputable def FpOk (X : Cx) (pins : List (Addr × Obj)) (H : Hp) (b : Addr) : Prop :=
 H b = none /\ b ≠ X.env.locals /\ b ∉ X.fs /\ (b ∈ X.ex \/ X.s₀.heap.objs.size <= b) /\ (∀ x c, X.env.cells.lookup x = some c -> c ≠ b) /\ ∀ p ∈ X.pn ++ pins, p.1 ≠ b
theorem Inv.fpOk {X : Cx} {pins : List (Addr × Obj)} {σ : St} {H H' : Hp} {s : Shared} {b : Addr} (I : Inv X pins σ H s) (hb : s.heap.objs.size <= b) (hn : H' b = none) : FpOk X pins H' b := by
 refine ⟨hn, Nat.ne_of_gt (Nat.lt_of_lt_of_le I.lt hb), I.nofs hb, .inr (Nat.le_trans I.sz hb), fun x c e z => ?_, fun p hp z => ?_⟩
 ·obtain ⟨v, q⟩ := I.cell x c e
  exact absurd (Nat.lt_of_lt_of_le q.lt (by rw [z]; exact hb)) (Nat.lt_irrefl _)
 ·exact absurd (Nat.lt_of_lt_of_le (Heap.lt_size (I.pin p hp).1) (by rw [z]; exact hb)) (Nat.lt_irrefl _)
structure Turn (P : Program) (w : World) (K : PySem.W.Frag) (tg : Expr) (J : It) (fp : List Addr) (it : Addr) (tn : Nat -> Heap -> Prop) : Prop where
 mem : it ∈ fp
 obj : ∀ i h, tn i h -> ∀ b ∈ fp, ∃ o, h.get? b = some o /\ ∀ v, o.data ≠ .cell v
 keep : ∀ i h h', tn i h -> (∀ b ∈ fp, ∀ o, h.get? b = some o -> h'.get? b = some o) -> tn i h'
 item : ∀ (X : Cx), X.prog = P -> X.w = w -> X.K = K -> X.calm = true -> ∀ (i : Nat) (pins : List (Addr × Obj)) (s : Shared) (σ : St) (H : Hp) (E : Value -> Shared -> Prop), Inv X pins σ H s -> (∀ b ∈ fp, FpOk X pins H b) -> tn i s.heap -> J.go i H ->
  wpAny (model P w) X.A (pyNext (.ref it)) (fun r s1 => ∃ u, r = some u /\
   wpAny (model P w) X.A (letOwnedTupleGo tg (.ref it) u) (fun _ s2 => ∃ x H', Inv X pins σ H' s2 /\ RelV x u /\ J.yld i H x H' /\ tn (i + 1) s2.heap /\ ∀ b ∈ fp, H' b = none) E s1) E s
 done : ∀ (X : Cx), X.prog = P -> X.w = w -> X.K = K -> X.calm = true -> ∀ (i : Nat) (pins : List (Addr × Obj)) (s : Shared) (σ : St) (H : Hp) (E : Value -> Shared -> Prop), Inv X pins σ H s -> (∀ b ∈ fp, FpOk X pins H b) -> tn i s.heap -> J.stop i H ->
  wpAny (model P w) X.A (pyNext (.ref it)) (fun r s1 => r = none /\ Inv X pins σ H s1) E s
 self : ∀ (A : Around) (i : Nat) (s : Shared) (Q : Value -> Shared -> Prop) (E : Value -> Shared -> Prop), tn i s.heap -> Q (.ref it) s -> wpAny (model P w) A (pyIter (.ref it)) Q E s
noncomputable abbrev TI := St -> Hp -> (It -> Hp -> Prop) -> Prop
noncomputable def PIE (X : Cx) (pins : List (Addr × Obj)) (σ : St) (tg : Expr) (R : It -> Hp -> Prop) (itv : Value) (s2 : Shared) : Prop :=
 ∃ (it : Addr) (fp : List Addr) (tn : Nat -> Heap -> Prop) (J : It) (H' : Hp), itv = .ref it /\ Inv X pins σ H' s2 /\ Turn X.prog X.w X.K tg J fp it tn /\ tn 0 s2.heap /\ (∀ b ∈ fp, FpOk X pins H' b) /\ R J H'
noncomputable def PI (X : Cx) (tg iter : Expr) (wi : TI) : Prop :=
 ∀ (pins : List (Addr × Obj)) (s : Shared) (σ : St) (H : Hp) (R : It -> Hp -> Prop), Inv X pins σ H s -> wi σ H R ->
  wpAny (model X.prog X.w) X.A (eval iter X.env) (fun v s1 => wpAny (model X.prog X.w) X.A (pyIter v) (PIE X pins σ tg R) X.xe s1) X.xe s
theorem go_of {M : Model} {A : Around} {E : Value -> Shared -> Prop} {s : Shared} {tg : Expr} {it : Addr} {u : Value} {o : Obj} {n : String} {vs : Array Value} {Q : Unit -> Shared -> Prop} (ho : s.heap.get? it = some o) (hc : o.cls = .type n) (hd : o.data = .fields vs)
    (hn : ["enumerate", "zip", "dict_itemiterator", "dict_reverseitemiterator", "odict_iterator", "itertools.zip_longest", "itertools.pairwise"].contains n = false) (hQ : Q () s) : wpAny M A (letOwnedTupleGo tg (.ref it) u) Q E s := by
  unfold letOwnedTupleGo
  cases tg <;> first
    | exact wpAny_pure hQ
    | (cases u <;> first
        | exact wpAny_pure hQ
        | (refine wpAny_bind (wpAny_load ho ?_)
           rw [hc, hd]
           show wpAny M A (if (["enumerate", "zip", "dict_itemiterator", "dict_reverseitemiterator", "odict_iterator", "itertools.zip_longest", "itertools.pairwise"].contains n && vs[0]? == some (rawInt _)) = true then _ else _) Q E s
           rw [if_neg (by intro h; rw [hn, Bool.false_and] at h; cases h)]
           exact wpAny_pure hQ))
noncomputable def Itl (K : PySem.W.Frag) (a : Addr) : It :=
 ⟨fun i H => ∃ xs x, SqL K H a xs /\ xs[i]? = some x, fun i H x H' => H' = H /\ ∀ xs, SqL K H a xs -> xs[i]? = some x, fun i H => ∃ xs, SqL K H a xs /\ xs.length <= i⟩
noncomputable def Itt (K : PySem.W.Frag) (a : Addr) : It :=
 ⟨fun i H => ∃ xs x, SqT K H a xs /\ xs[i]? = some x, fun i H x H' => H' = H /\ ∀ xs, SqT K H a xs -> xs[i]? = some x, fun i H => ∃ xs, SqT K H a xs /\ xs.length <= i⟩
noncomputable def Itr (lo : Int) (n : Nat) : It := ⟨fun i _ => i < n, fun i H x H' => H' = H /\ x = .int (lo + i), fun i _ => n <= i⟩
theorem turn_list {P : Program} {w : World} {K : PySem.W.Frag} {tg : Expr} (a it : Addr) : Turn P w K tg (Itl K a) [it] it (fun i h => h.IsListIter it a i) where
 mem := by simp
 obj := fun i h st b hb => by
  have e : b = it := by simpa using hb
  subst e
  obtain ⟨o, e, c, d⟩ := st
  exact ⟨o, e, fun v z => by rw [d] at z; cases z⟩
 keep := fun i h h' st k => st.at fun o e => k it (by simp) o e
 item := by
  intro X hP hw hK hc i pins s σ H E I hf st hg
  subst hP hw hK
  obtain ⟨xs, x, hq, hx⟩ := hg
  obtain ⟨its, rv, p, hz⟩ := I.list hq
  obtain ⟨u, hu, ru⟩ := rv.get hx
  obtain ⟨f0, f1, f2, f3, f4, f5⟩ := hf it (by simp)
  refine wpAny_pyNext_list_item st p.isList (x := u) (by simpa using hu) fun h' st' sb => ?_
  have I1 : Inv X pins σ H { s with heap := h' } := I.turned (t' := s.toks) (fun b o hb e => (sb.2 b hb).trans e) f0 f1 f3 f4 f5
  obtain ⟨o, e, c, d⟩ := id st'
  exact ⟨u, rfl, go_of (s := { s with heap := h' }) e c d (by decide) ⟨x, H, I1, ru, ⟨rfl, fun ys hy => by rw [I.list_inj hy hq]; exact hx⟩, st', fun b hb => (hf b hb).1⟩⟩
 done := by
  intro X hP hw hK hc i pins s σ H E I hf st hg
  subst hP hw hK
  obtain ⟨xs, hq, hx⟩ := hg
  obtain ⟨its, rv, p, hz⟩ := I.list hq
  obtain ⟨f0, f1, f2, f3, f4, f5⟩ := hf it (by simp)
  have hl := rv.length
  exact wpAny_pyNext_list_end (I.ok.hd hc) st p.isList (by simp; omega) fun h' eb => ⟨rfl, I.turned (t' := s.toks) (fun b o hb e => eb b o hb e) f0 f1 f3 f4 f5⟩
 self := fun _ _ _ _ _ st h => wpAny_pyIter_listiter st h
theorem turn_range {P : Program} {w : World} {K : PySem.W.Frag} {tg : Expr} (it : Addr) (lo : Int) (n : Nat) : Turn P w K tg (Itr lo n) [it] it (fun i h => IsRangeIter h it (lo + (i : Nat) * 1) ((n : Int) - (i : Nat)) 1) where
 mem := by simp
 obj := fun i h st b hb => by
  have e : b = it := by simpa using hb
  subst e
  exact ⟨_, st, fun v z => by
   have z' : Data.fields _ = Data.cell v := z
   cases z'⟩
 keep := fun i h h' st k => k it (by simp) _ st
 item := by
  intro X hP hw hK hc i pins s σ H E I hf st hg
  subst hP hw hK
  obtain ⟨f0, f1, f2, f3, f4, f5⟩ := hf it (by simp)
  have W := Walks.range (prog := X.prog) (w := X.w) (I.ok.hd hc) it lo 1 n
  refine W.item i s _ _ hg st fun v h' tk hv st' kk => ?_
  obtain ⟨t, rfl⟩ := hv
  have I1 : Inv X pins σ H { s with heap := h', toks := tk } := I.turned (fun b o hb e => kk b o (by simpa using hb) e) f0 f1 f3 f4 f5
  refine ⟨_, rfl, go_of (s := { s with heap := h', toks := tk }) (n := "range_iterator") st' rfl rfl (by decide) ⟨.int (lo + i), H, I1, ⟨t, ?_⟩, ⟨rfl, rfl⟩, st', fun b hb => (hf b hb).1⟩⟩
  rw [Int.mul_one]
 done := by
  intro X hP hw hK hc i pins s σ H E I hf st hg
  subst hP hw hK
  obtain ⟨f0, f1, f2, f3, f4, f5⟩ := hf it (by simp)
  exact wpAny_pyNext_range_end (I.ok.hd hc) st (by have : n <= i := hg; omega) fun h' eb => ⟨rfl, I.turned (t' := s.toks) (fun b o hb e => eb b o hb e) f0 f1 f3 f4 f5⟩
 self := fun _ _ _ _ _ st h => wpAny_pyIter_rangeiter st h
end L2
namespace L2
open PySem PySem.Spec PyProof.Rows
section
variable {X : Cx} {tg : Expr}
noncomputable def iList (K : PySem.W.Frag) (tl : TE) : TI := fun σ H R => tl σ H fun x H1 => ∃ a, x = .ref a /\ (∃ xs, SqL K H1 a xs) /\ R (Itl K a) H1
noncomputable def iTup (K : PySem.W.Frag) (tl : TE) : TI := fun σ H R => tl σ H fun x H1 => ∃ a, x = .ref a /\ (∃ xs, SqT K H1 a xs) /\ R (Itt K a) H1
theorem pi_list {l : Expr} {tl : TE} (hl : PE X l tl) : PI X tg l (iList X.K tl) := by
 intro pins s σ H R I h
 refine thn (hl pins s σ H _ I h) fun v s1 ⟨x, H1, I1, r1, q1⟩ => ?_
 obtain ⟨a, e, ⟨xs, hq⟩, q⟩ := q1
 subst e
 cases r1
 obtain ⟨its, rv, p, hz⟩ := I1.list hq
 refine wpAny_pyIter_list p.isList ?_
 refine ⟨s1.heap.objs.size, [s1.heap.objs.size], _, _, H1, rfl, I1.kept (t' := s1.toks) fun b o e => Heap.get?_push_of_some _ e, turn_list a _, ⟨_, Heap.get?_push_size _ rfl, rfl, rfl⟩, fun b hb => ?_, q⟩
 have e : b = s1.heap.objs.size := by simpa using hb
 subst e
 exact I1.fpOk (Nat.le_refl _) (I1.hok.fresh (Nat.le_refl _))
theorem range_it {pins : List (Addr × Obj)} {σ : St} {H : Hp} {s : Shared} {R : It -> Hp -> Prop} {E : Value -> Shared -> Prop} {lo hi : Int} {t u v : Tok} {tk : Nat} (I : Inv X pins σ H s) (h1 : -(2 ^ 62) <= lo) (h2 : lo < 2 ^ 62) (h3 : -(2 ^ 62) <= hi) (h4 : hi < 2 ^ 62)
  (q : R (Itr lo (hi - lo).toNat) H) : wpAny (model X.prog X.w) X.A (pyIter (.ref s.heap.objs.size)) (PIE X pins σ tg R) E { s with heap := s.heap.push { cls := .type "range", data := .fields #[.int lo t, .int hi u, .int 1 v] }, toks := tk } := by
 refine wpAny_pyIter_range (IsRange.new ..) (small_one h1 h2 h3 h4) ?_
 have I1 : Inv X pins σ H { s with heap := s.heap.push { cls := .type "range", data := .fields #[.int lo t, .int hi u, .int 1 v] }, toks := tk } := I.kept fun b o e => Heap.get?_push_of_some _ e
 refine ⟨(s.heap.push { cls := .type "range", data := .fields #[.int lo t, .int hi u, .int 1 v] }).objs.size, [(s.heap.push { cls := .type "range", data := .fields #[.int lo t, .int hi u, .int 1 v] }).objs.size], _, _, H, rfl,
  I1.kept (t' := tk) fun b o e => Heap.get?_push_of_some _ e, turn_range _ lo (hi - lo).toNat, ?_, fun b hb => ?_, q⟩
 ·have e1 : lo + ((0 : Nat) : Int) * 1 = lo := by simp
  have e2 : (((hi - lo).toNat : Nat) : Int) - ((0 : Nat) : Int) = Builtin.Range.rangeSize lo hi 1 := by rw [rangeSize_one]; split <;> omega
  show IsRangeIter _ _ (lo + ((0 : Nat) : Int) * 1) ((((hi - lo).toNat : Nat) : Int) - ((0 : Nat) : Int)) 1
  rw [e1, e2]
  exact Heap.get?_push_size _ rfl
 ·have e : b = (s.heap.push { cls := .type "range", data := .fields #[.int lo t, .int hi u, .int 1 v] }).objs.size := by simpa using hb
  subst e
  exact I1.fpOk (Nat.le_refl _) (I1.hok.fresh (Nat.le_refl _))
noncomputable def iRng1 (ta : TA) : TI := fun σ H R => ta σ H fun vs H1 => ∃ j : Int, vs = [.int j] /\ -(2 ^ 62) <= j /\ j < 2 ^ 62 /\ R (Itr 0 j.toNat) H1
noncomputable def iRng2 (ta : TA) : TI := fun σ H R => ta σ H fun vs H1 => ∃ i j : Int, vs = [.int i, .int j] /\ (-(2 ^ 62) <= i /\ i < 2 ^ 62 /\ -(2 ^ 62) <= j /\ j < 2 ^ 62) /\ R (Itr i (j - i).toNat) H1
theorem pi_range1 {a : Expr} {ta : TA} {p pos : Pos} (hg : Gl X "range") (hm : X.mg "range" = none) (ha : PA X [a] ta) (hs : starEach [a] X.env = [(false, eval a X.env)] := by rfl) : PI X tg (.Call (.Name "range" p) [a] [] pos) (iRng1 ta) := by
 intro pins s σ H R I h
 refine Call_ (ld_blt I hg hm boot_range (PyProof.Rows.callWith_type1 (thn (ha pos pins s σ H _ I h) fun us s1 ⟨vs, H1, I1, r1, q1⟩ => ?_) hs rfl))
 obtain ⟨j, e, q1, q2, q⟩ := q1
 subst e
 cases r1 with
 | cons r rr =>
  cases rr
  obtain ⟨t, rfl⟩ := r
  exact call_range_1 (range_it I1 (by omega) (by omega) q1 q2 (by simpa using q))
noncomputable def tFor (wi : TI) (g : TG) (tb : TS) : TS := fun D σ H => wi σ H fun J H1 => ∃ W : Nat -> Nat -> St -> Hp -> Prop, (∃ m, W 0 m σ H1) /\ ∀ i m σ H, W i m σ H ->
 (J.stop i H /\ D.nx σ H) \/ (J.go i H /\ ∃ N : St -> Hp -> Prop, (∀ σ' H', N σ' H' -> ∃ m', m' < m /\ W (i + 1) m' σ' H') /\ ∀ x H', J.yld i H x H' -> g x σ H' fun σ2 H2 => tb { D with nx := N, ct := N, bk := D.nx } σ2 H2)
noncomputable def pinsAt (fp : List Addr) (h : Heap) : List (Addr × Obj) := fp.filterMap fun b => (h.get? b).map fun o => (b, o)
theorem mem_pinsAt {fp : List Addr} {h : Heap} {b : Addr} {o : Obj} (hb : b ∈ fp) (e : h.get? b = some o) : (b, o) ∈ pinsAt fp h := List.mem_filterMap.mpr ⟨b, hb, by rw [e]; rfl⟩
theorem of_pinsAt {fp : List Addr} {h : Heap} {p : Addr × Obj} (hp : p ∈ pinsAt fp h) : p.1 ∈ fp /\ h.get? p.1 = some p.2 := by
 obtain ⟨b, hb, e⟩ := List.mem_filterMap.mp hp
 cases q : h.get? b with
 | none => rw [q] at e; cases e
 | some o =>
  rw [q] at e
  have e' : (b, o) = p := Option.some.inj e
  subst e'
  exact ⟨hb, q⟩
theorem Inv.pinned {pins : List (Addr × Obj)} {σ : St} {H : Hp} {s : Shared} {fp : List Addr} (I : Inv X pins σ H s) (hf : ∀ b ∈ fp, FpOk X pins H b) (ho : ∀ b ∈ fp, ∃ o, s.heap.get? b = some o /\ ∀ v, o.data ≠ .cell v) : Inv X (pins ++ pinsAt fp s.heap) σ H s :=
 I.pins_of fun p hp => (List.mem_append.mp hp).elim (fun z => I.pin p (List.mem_append_right _ z)) fun z => by
  obtain ⟨hb, e⟩ := of_pinsAt z
  obtain ⟨f0, f1, f2, _⟩ := hf p.1 hb
  obtain ⟨o, e', d⟩ := ho p.1 hb
  rw [e] at e'; cases e'
  exact ⟨e, f0, f1, f2, d⟩
theorem Inv.unpinned {pins pl : List (Addr × Obj)} {σ : St} {H : Hp} {s : Shared} (I : Inv X (pins ++ pl) σ H s) : Inv X pins σ H s := I.pins_of fun p hp => I.pin p (List.mem_append_right _ (List.mem_append_left _ hp))
set_option tactic.hygienic true in
theorem ps_for {iter : Expr} {body : List Stmt} {wi : TI} {g : TG} {tb : TS} {pos : Pos} (hp : PassesOwn (model X.prog X.w) X.A X.env X.xe) (hc : X.calm = true) (hi : PI X tg iter wi) (hg : PG X tg g) (hb : PSs X body tb)
  (hs : ∀ x, foldedSetIterable iter X.env x = pure x := by intro _; rfl) : PS X (.For tg iter body [] pos) (tFor wi g tb) := by
 intro pins s σ H D I h
 refine wpAny_For (thn (hi pins s σ H _ I h) fun v s1 h1 => thn h1 fun itv s2 h2 => ?_) hs
 obtain ⟨it, fp, tn, J, H2, e, I2, T, st2, f2, W, ⟨m0, w0⟩, turn⟩ := h2
 subst e
 have stat : ∀ {H' : Hp}, (∀ b ∈ fp, H' b = none) -> ∀ b ∈ fp, FpOk X pins H' b := fun hn b hb => ⟨hn b hb, (f2 b hb).2⟩
 refine codeAny_forLoop_any (fun n s' => ∃ i σ' H', Inv X pins σ' H' s' /\ tn i s'.heap /\ (∀ b ∈ fp, H' b = none) /\ W i n σ' H') ?_ m0 ⟨0, σ, H2, I2, st2, fun b hb => (f2 b hb).1, w0⟩
 rintro n s3 ⟨i, σ3, H3, I3, st3, fr3, w3⟩
 rcases turn i n σ3 H3 w3 with ⟨stop, qn⟩ | ⟨go, N, hN, step⟩
 ·refine wpAny_passesOwn hp (thn (T.done X rfl rfl rfl hc i pins s3 σ3 H3 X.xe I3 (stat fr3) st3 stop) fun r s4 ⟨hr, I4⟩ => ?_)
  subst hr
  exact wpAny_execs_nil ⟨σ3, H3, I4, qn⟩
 ·refine wpAny_passesOwn hp (thn (T.item X rfl rfl rfl hc i pins s3 σ3 H3 X.xe I3 (stat fr3) st3 go) fun r s4 ⟨u, hr, h4⟩ => ?_)
  subst hr
  refine wpAny_passesOwn hp (thn h4 fun _ s5 ⟨x, H5, I5, r5, y5, st5, fr5⟩ => ?_)
  have I5' := I5.pinned (stat fr5) (T.obj _ _ st5)
  refine wpAny_passesOwn hp (thn (hg _ s5 σ3 H5 x u _ I5' r5 (step x H5 y5)) fun _ s6 ⟨σ6, H6, I6, q6⟩ => ?_)
  refine wpAny_passesOwn hp (thn (hb _ s6 σ6 H6 _ I6 q6) fun f s7 q7 => ?_)
  have again : ∀ {σ7 : St} {H7 : Hp}, Inv X (pins ++ pinsAt fp s5.heap) σ7 H7 s7 -> N σ7 H7 -> ∃ m, m < n /\ ∃ i σ' H', Inv X pins σ' H' s7 /\ tn i s7.heap /\ (∀ b ∈ fp, H' b = none) /\ W i m σ' H' := fun {σ7 H7} I7 n7 => by
   obtain ⟨m', hm, w7⟩ := hN σ7 H7 n7
   refine ⟨m', hm, i + 1, σ7, H7, I7.unpinned, T.keep _ _ _ st5 fun b hb o e => (I7.pin (b, o) (List.mem_append_right _ (List.mem_append_right _ (mem_pinsAt hb e)))).1, fun b hb => ?_, w7⟩
   obtain ⟨o, e, d⟩ := T.obj _ _ st5 b hb
   exact (I7.pin (b, o) (List.mem_append_right _ (List.mem_append_right _ (mem_pinsAt hb e)))).2.1
  cases f with
  | next => obtain ⟨σ7, H7, I7, n7⟩ := q7; exact again I7 n7
  | cont => obtain ⟨σ7, H7, I7, n7⟩ := q7; exact again I7 n7
  | brk => obtain ⟨σ7, H7, I7, q7⟩ := q7; exact ⟨σ7, H7, I7.unpinned, q7⟩
  | ret v => obtain ⟨x7, σ7, H7, I7, r7, q7⟩ := q7; exact ⟨x7, σ7, H7, I7.unpinned, r7, q7⟩
end
theorem for_list {K : PySem.W.Frag} {a : Addr} {xs : List V} {g : TG} {tb : TS} {D : Ends} {σ : St} {H : Hp} (Pv : Nat -> St -> Hp -> Prop) (h0 : Pv 0 σ H) (hl : ∀ i σ H, i <= xs.length -> Pv i σ H -> SqL K H a xs)
  (hs : ∀ i x σ H, xs[i]? = some x -> Pv i σ H -> g x σ H fun σ2 H2 => tb { D with nx := Pv (i + 1), ct := Pv (i + 1), bk := D.nx } σ2 H2) (hd : ∀ σ H, Pv xs.length σ H -> D.nx σ H) :
  ∃ W : Nat -> Nat -> St -> Hp -> Prop, (∃ m, W 0 m σ H) /\ ∀ i m σ H, W i m σ H ->
   ((Itl K a).stop i H /\ D.nx σ H) \/ ((Itl K a).go i H /\ ∃ N : St -> Hp -> Prop, (∀ σ' H', N σ' H' -> ∃ m', m' < m /\ W (i + 1) m' σ' H') /\ ∀ x H', (Itl K a).yld i H x H' -> g x σ H' fun σ2 H2 => tb { D with nx := N, ct := N, bk := D.nx } σ2 H2) := by
 refine ⟨fun i m σ H => m = xs.length - i /\ i <= xs.length /\ Pv i σ H, ⟨xs.length, by simp, Nat.zero_le _, h0⟩, ?_⟩
 rintro i m σ H ⟨rfl, hi, p⟩
 have q := hl i σ H hi p
 by_cases hlt : i < xs.length
 ·refine .inr ⟨⟨xs, xs[i], q, by simp [hlt]⟩, Pv (i + 1), fun σ' H' p' => ⟨xs.length - (i + 1), by omega, rfl, hlt, p'⟩, fun x H' y => ?_⟩
  obtain ⟨e, y⟩ := y
  subst e
  exact hs i x σ _ (y xs q) p
 ·have e : i = xs.length := by omega
  subst e
  exact .inl ⟨⟨xs, q, Nat.le_refl _⟩, hd σ H p⟩
theorem for_range {lo : Int} {n : Nat} {g : TG} {tb : TS} {D : Ends} {σ : St} {H : Hp} (Pv : Nat -> St -> Hp -> Prop) (h0 : Pv 0 σ H)
  (hs : ∀ i σ H, i < n -> Pv i σ H -> g (.int (lo + i)) σ H fun σ2 H2 => tb { D with nx := Pv (i + 1), ct := Pv (i + 1), bk := D.nx } σ2 H2) (hd : ∀ σ H, Pv n σ H -> D.nx σ H) :
  ∃ W : Nat -> Nat -> St -> Hp -> Prop, (∃ m, W 0 m σ H) /\ ∀ i m σ H, W i m σ H ->
   ((Itr lo n).stop i H /\ D.nx σ H) \/ ((Itr lo n).go i H /\ ∃ N : St -> Hp -> Prop, (∀ σ' H', N σ' H' -> ∃ m', m' < m /\ W (i + 1) m' σ' H') /\ ∀ x H', (Itr lo n).yld i H x H' -> g x σ H' fun σ2 H2 => tb { D with nx := N, ct := N, bk := D.nx } σ2 H2) := by
 refine ⟨fun i m σ H => m = n - i /\ i <= n /\ Pv i σ H, ⟨n, by simp, Nat.zero_le _, h0⟩, ?_⟩
 rintro i m σ H ⟨rfl, hi, p⟩
 by_cases hlt : i < n
 ·refine .inr ⟨hlt, Pv (i + 1), fun σ' H' p' => ⟨n - (i + 1), by omega, rfl, hlt, p'⟩, fun x H' y => ?_⟩
  obtain ⟨e, y⟩ := y
  subst e y
  exact hs i σ _ hlt p
 ·have e : i = n := by omega
  subst e
  exact .inl ⟨Nat.le_refl _, hd σ H p⟩
end L2
namespace L2
open PySem PySem.Spec PyProof.Rows
noncomputable abbrev R2 := V -> V -> Hp -> VK -> Prop
noncomputable def OpR (X : Cx) (f : Value -> Value -> Sem Value) (r : R2) : Prop :=
 ∀ (pins : List (Addr × Obj)) (s : Shared) (σ : St) (H : Hp) (x y : V) (v u : Value) (Q : VK), Inv X pins σ H s -> RelV x v -> RelV y u -> r x y H Q ->
  wpAny (model X.prog X.w) X.A (f v u) (EP X pins σ Q) X.xe s
noncomputable def UnR (X : Cx) (f : Value -> Sem Value) (r : V -> Hp -> VK -> Prop) : Prop :=
 ∀ (pins : List (Addr × Obj)) (s : Shared) (σ : St) (H : Hp) (x : V) (v : Value) (Q : VK), Inv X pins σ H s -> RelV x v -> r x H Q ->
  wpAny (model X.prog X.w) X.A (f v) (EP X pins σ Q) X.xe s
noncomputable def CallR (X : Cx) (f : Value) (r : List V -> Hp -> VK -> Prop) : Prop :=
 ∀ (pins : List (Addr × Obj)) (s : Shared) (σ : St) (H : Hp) (xs : List V) (us : List Value) (Q : VK), Inv X pins σ H s -> Vals xs us -> r xs H Q ->
  wpAny (model X.prog X.w) X.A (call f us) (EP X pins σ Q) X.xe s
noncomputable def TruR (X : Cx) (r : V -> Hp -> (Bool -> Hp -> Prop) -> Prop) : Prop :=
 ∀ (pins : List (Addr × Obj)) (s : Shared) (σ : St) (H : Hp) (x : V) (v : Value) (Q : Bool -> Hp -> Prop), Inv X pins σ H s -> RelV x v -> r x H Q ->
  wpAny (model X.prog X.w) X.A (truthy v) (TP X pins σ Q) X.xe s
noncomputable def tOp (r : R2) (ta tb : TE) : TE := fun σ H Q => ta σ H fun x H1 => tb σ H1 fun y H2 => r x y H2 Q
noncomputable def tUn (r : V -> Hp -> VK -> Prop) (ta : TE) : TE := fun σ H Q => ta σ H fun x H1 => r x H1 Q
inductive rI (C : Int -> Int -> Prop) (g : Int -> Int -> V) (x : V) (y : V) (H : Hp) (Q : VK) : Prop
 | mk (i : _) (j : _) (c0 : x = .int i) (c1 : y = .int j) (c2 : C i j) (c3 : Q (g i j) H) : rI C g x y H Q
inductive rI0 (g : Int -> Int -> V) (x : V) (y : V) (H : Hp) (Q : VK) : Prop
 | mk (i : _) (j : _) (c0 : x = .int i) (c1 : y = .int j) (c2 : Q (g i j) H) : rI0 g x y H Q
inductive rU (g : Int -> V) (x : V) (H : Hp) (Q : VK) : Prop
 | mk (i : _) (c0 : x = .int i) (c1 : Q (g i) H) : rU g x H Q
section
variable {X : Cx} {a b c : Expr} {ta tb tc : TE} {pos : Pos}
theorem binT (ha : PE X a ta) (hb : PE X b tb) {pins : List (Addr × Obj)} {s : Shared} {σ : St} {H : Hp} {R : V -> V -> Hp -> Prop} (I : Inv X pins σ H s)
  (h : ta σ H fun x H1 => tb σ H1 fun y H2 => R x y H2) {Q : Value -> Shared -> Prop} {f : Value -> Value -> Sem Value}
  (hf : ∀ v u s2 x y H2, Inv X pins σ H2 s2 -> RelV x v -> RelV y u -> R x y H2 -> wpAny (model X.prog X.w) X.A (f v u) Q X.xe s2) :
  wpAny (model X.prog X.w) X.A (eval a X.env) (fun v s₁ => wpAny (model X.prog X.w) X.A (eval b X.env) (fun u s₂ => wpAny (model X.prog X.w) X.A (f v u) Q X.xe s₂) X.xe s₁) X.xe s := by
 refine thn (ha pins s σ H _ I h) fun v s1 ⟨x, H1, I1, r1, q1⟩ => ?_
 refine thn (hb pins s1 σ H1 _ I1 q1) fun u s2 ⟨y, H2, I2, r2, q2⟩ => ?_
 exact hf v u s2 x y H2 I2 r1 r2 q2
theorem pe_op {op : Operator} {r : R2} (ho : OpR X (binaryOp op) r) (ha : PE X a ta) (hb : PE X b tb) : PE X (.BinOp a op b pos) (tOp r ta tb) := by
 intro pins s σ H Q I h
 exact wpAny_BinOp (binT ha hb I h fun v u s2 x y H2 I2 rx ry q => ho pins s2 σ H2 x y v u Q I2 rx ry q)
theorem pe_un {op : UnaryOp} {r : V -> Hp -> VK -> Prop} (ho : UnR X (unaryOp op) r) (ha : PE X a ta) : PE X (.UnaryOp op a pos) (tUn r ta) := by
 intro pins s σ H Q I h
 exact UnaryOp_ (thn (ha pins s σ H _ I h) fun v s1 ⟨x, H1, I1, r1, q1⟩ => ho pins s1 σ H1 x v Q I1 r1 q1)
theorem opI {f : Value -> Value -> Sem Value} {C : Int -> Int -> Prop} {g : Int -> Int -> Int}
  (rule : ∀ (i j : Int) (t u : Tok) (s : Shared) (Q : Value -> Shared -> Prop) (E : Value -> Shared -> Prop), C i j -> Q (.int (g i j) s.toks) { s with toks := s.toks + 1 } -> wpAny (model X.prog X.w) X.A (f (.int i t) (.int j u)) Q E s) :
  OpR X f (rI C fun i j => .int (g i j)) := by
 intro pins s σ H x y v u Q I rx ry h
 obtain ⟨i, j, rfl, rfl, hc, q⟩ := h
 obtain ⟨t, rfl⟩ := rx
 obtain ⟨t', rfl⟩ := ry
 exact rule i j t t' s _ _ hc ⟨.int (g i j), H, I.tok _, ⟨_, rfl⟩, q⟩
theorem opI0 {f : Value -> Value -> Sem Value} {g : Int -> Int -> Int}
  (rule : ∀ (i j : Int) (t u : Tok) (s : Shared) (Q : Value -> Shared -> Prop) (E : Value -> Shared -> Prop), Q (.int (g i j) s.toks) { s with toks := s.toks + 1 } -> wpAny (model X.prog X.w) X.A (f (.int i t) (.int j u)) Q E s) :
  OpR X f (rI0 fun i j => .int (g i j)) := by
 intro pins s σ H x y v u Q I rx ry h
 obtain ⟨i, j, rfl, rfl, q⟩ := h
 obtain ⟨t, rfl⟩ := rx
 obtain ⟨t', rfl⟩ := ry
 exact rule i j t t' s _ _ ⟨.int (g i j), H, I.tok _, ⟨_, rfl⟩, q⟩
theorem opB0 {f : Value -> Value -> Sem Value} {g : Int -> Int -> Bool}
  (rule : ∀ (i j : Int) (t u : Tok) (s : Shared) (Q : Value -> Shared -> Prop) (E : Value -> Shared -> Prop), Q (.bool (g i j)) s -> wpAny (model X.prog X.w) X.A (f (.int i t) (.int j u)) Q E s) :
  OpR X f (rI0 fun i j => .bl (g i j)) := by
 intro pins s σ H x y v u Q I rx ry h
 obtain ⟨i, j, rfl, rfl, q⟩ := h
 obtain ⟨t, rfl⟩ := rx
 obtain ⟨t', rfl⟩ := ry
 exact rule i j t t' s _ _ ⟨.bl (g i j), H, I, rfl, q⟩
noncomputable def CDiv (i j : Int) : Prop := 0 < j /\ j < 1073741824
noncomputable def CDivN (i j : Int) : Prop := j ≠ 0 /\ j.natAbs < 1073741824
noncomputable def CPow (i j : Int) : Prop := 0 <= j /\ j <= 1000000 /\ i.natAbs < 2 ^ 64
noncomputable def CMul (i j : Int) : Prop := (-(2 ^ 64) < i /\ i < 2 ^ 64) \/ (-(2 ^ 64) < j /\ j < 2 ^ 64)
theorem CMul.ok {i j : Int} (h : CMul i j) : IntMulOk i j := by
 rcases h with ⟨h1, h2⟩ | ⟨h1, h2⟩
 ·exact .of_left (intBits_le_64 h1 h2)
 ·exact .of_right (intBits_le_64 h1 h2)
theorem op_add : OpR X (binaryOp .Add) (rI0 fun i j => .int (i + j)) := opI0 fun _ _ _ _ _ _ _ q => add_int q
theorem op_sub : OpR X (binaryOp .Sub) (rI0 fun i j => .int (i - j)) := opI0 fun _ _ _ _ _ _ _ q => sub_int q
theorem op_mul : OpR X (binaryOp .Mult) (rI CMul fun i j => .int (i * j)) := opI fun _ _ _ _ _ _ _ hc q => mul_int q hc.ok
theorem op_fdiv : OpR X (binaryOp .FloorDiv) (rI CDiv fun i j => .int (i / j)) := opI fun i j _ _ _ _ _ hc q => by
 have h1 : (0 : Int) < j := hc.1
 have h2 : j < 1073741824 := hc.2
 exact floordiv_int (by omega) (by rw [Int.fdiv_eq_ediv_of_nonneg i (by omega)]; exact q) (.inl (PyProof.noPylong_small (by omega)))
theorem op_mod : OpR X (binaryOp .Mod) (rI (fun _ j => 0 < j) fun i j => .int (i % j)) := opI fun i j _ _ _ _ _ hc q => by
 have h1 : (0 : Int) < j := hc
 exact mod_int' (by omega) (by rw [Int.fmod_eq_emod_of_nonneg i (by omega)]; exact q)
theorem op_pow : OpR X (binaryOp .Pow) (rI CPow fun i j => .int (i ^ j.toNat)) := opI fun _ _ _ _ _ _ _ hc q => pow_int_small hc.1 hc.2.1 hc.2.2 q
theorem unI {f : Value -> Sem Value} {g : Int -> Int}
  (rule : ∀ (i : Int) (t : Tok) (s : Shared) (Q : Value -> Shared -> Prop) (E : Value -> Shared -> Prop), Q (.int (g i) s.toks) { s with toks := s.toks + 1 } -> wpAny (model X.prog X.w) X.A (f (.int i t)) Q E s) :
  UnR X f (rU fun i => .int (g i)) := by
 intro pins s σ H x v Q I rx h
 obtain ⟨i, rfl, q⟩ := h
 obtain ⟨t, rfl⟩ := rx
 exact rule i t s _ _ ⟨.int (g i), H, I.tok _, ⟨_, rfl⟩, q⟩
theorem un_neg : UnR X (unaryOp .USub) (rU fun i => .int (-i)) := unI fun _ _ _ _ _ q => neg_int q
end
noncomputable def scal : V -> V -> Bool
 | .non, .non => true | .non, .int _ => true | .int _, .non => true | .non, .bl _ => true | .bl _, .non => true | .non, .str _ => true | .str _, .non => true
 | .int _, .int _ => true | .bl _, .bl _ => true | .str _, .str _ => true | .byt _, .byt _ => true
 | .int _, .str _ => true | .str _, .int _ => true | .bl _, .str _ => true | .str _, .bl _ => true
 | _, _ => false
noncomputable def rEq : R2 := fun x y H Q => scal x y = true /\ Q (.bl (decide (x = y))) H
noncomputable def rNe : R2 := fun x y H Q => scal x y = true /\ Q (.bl (!decide (x = y))) H
theorem dec_int {i j : Int} : decide (V.int i = V.int j) = (i == j) := by
 rw [Bool.eq_iff_iff]
 simp
theorem dec_bl {i j : Bool} : decide (V.bl i = V.bl j) = (i == j) := by
 rw [Bool.eq_iff_iff]
 simp
theorem dec_str {i j : Str} : decide (V.str i = V.str j) = (i == j) := by
 rw [Bool.eq_iff_iff]
 simp
theorem dec_byt {i j : Array UInt8} : decide (V.byt i = V.byt j) = (i.toList == j.toList) := by
 rw [Bool.eq_iff_iff]
 cases i
 cases j
 simp
section
variable {X : Cx} {a b c : Expr} {ta tb tc : TE} {pos : Pos}
theorem fin_bl {pins : List (Addr × Obj)} {σ : St} {H : Hp} {s : Shared} {Q : VK} {k k' : Bool} (I : Inv X pins σ H s) (q : Q (.bl k) H) (e : k = k') : EP X pins σ Q (.bool k') s := by
 subst e
 exact ⟨.bl k, H, I, rfl, q⟩
theorem op_eq : OpR X (compareOp .Eq) rEq := by
 intro pins s σ H x y v u Q I rx ry h
 obtain ⟨hs, q⟩ := h
 cases x with
 | non =>
  cases rx
  cases y with
  | non => cases ry; exact PySem.EqNone.eq_none_none (fin_bl I q (by simp))
  | bl j => cases ry; exact PySem.EqNone.eq_none_bool (fin_bl I q (by simp))
  | int j => obtain ⟨t', rfl⟩ := ry; exact PySem.EqNone.eq_none_int (fin_bl I q (by simp))
  | str j => obtain ⟨t', rfl⟩ := ry; exact PySem.EqNone.eq_none_str (fin_bl I q (by simp))
  | _ => exact absurd (show false = true from hs) Bool.false_ne_true
 | bl i =>
  cases rx
  cases y with
  | non => cases ry; exact PySem.EqNone.eq_bool_none (fin_bl I q (by simp))
  | bl j => cases ry; exact eq_bool (fin_bl I q dec_bl)
  | str j => obtain ⟨t', rfl⟩ := ry; exact PySem.EqMixed.eq_bool_str (fin_bl I q (by simp))
  | _ => exact absurd (show false = true from hs) Bool.false_ne_true
 | int i =>
  obtain ⟨t, rfl⟩ := rx
  cases y with
  | non => cases ry; exact PySem.EqNone.eq_int_none (fin_bl I q (by simp))
  | int j => obtain ⟨t', rfl⟩ := ry; exact eq_int (fin_bl I q dec_int)
  | str j => obtain ⟨t', rfl⟩ := ry; exact PySem.EqMixed.eq_int_str (fin_bl I q (by simp))
  | _ => exact absurd (show false = true from hs) Bool.false_ne_true
 | str i =>
  obtain ⟨t, rfl⟩ := rx
  cases y with
  | non => cases ry; exact PySem.EqNone.eq_str_none (fin_bl I q (by simp))
  | bl j => cases ry; exact PySem.EqMixed.eq_str_bool (fin_bl I q (by simp))
  | int j => obtain ⟨t', rfl⟩ := ry; exact PySem.EqMixed.eq_str_int (fin_bl I q (by simp))
  | str j => obtain ⟨t', rfl⟩ := ry; exact eq_str (fin_bl I q dec_str)
  | _ => exact absurd (show false = true from hs) Bool.false_ne_true
 | byt i =>
  obtain ⟨t, rfl⟩ := rx
  cases y with
  | byt j => obtain ⟨t', rfl⟩ := ry; exact PySem.W.eq_bytes (fin_bl I q dec_byt)
  | _ => exact absurd (show false = true from hs) Bool.false_ne_true
 | _ => cases y <;> exact absurd (show false = true from hs) Bool.false_ne_true
theorem op_ne : OpR X (compareOp .NotEq) rNe := by
 intro pins s σ H x y v u Q I rx ry h
 obtain ⟨hs, q⟩ := h
 cases x with
 | non =>
  cases rx
  cases y with
  | non => cases ry; exact PySem.EqNone.ne_none_none (fin_bl I q (by simp))
  | bl j => cases ry; exact PySem.EqNone.ne_none_bool (fin_bl I q (by simp))
  | int j => obtain ⟨t', rfl⟩ := ry; exact PySem.EqNone.ne_none_int (fin_bl I q (by simp))
  | str j => obtain ⟨t', rfl⟩ := ry; exact PySem.EqNone.ne_none_str (fin_bl I q (by simp))
  | _ => exact absurd (show false = true from hs) Bool.false_ne_true
 | bl i =>
  cases rx
  cases y with
  | non => cases ry; exact PySem.EqNone.ne_bool_none (fin_bl I q (by simp))
  | bl j => cases ry; exact ne_bool (fin_bl I q (congrArg not dec_bl))
  | str j => obtain ⟨t', rfl⟩ := ry; exact PySem.EqMixed.ne_bool_str (fin_bl I q (by simp))
  | _ => exact absurd (show false = true from hs) Bool.false_ne_true
 | int i =>
  obtain ⟨t, rfl⟩ := rx
  cases y with
  | non => cases ry; exact PySem.EqNone.ne_int_none (fin_bl I q (by simp))
  | int j => obtain ⟨t', rfl⟩ := ry; exact ne_int (fin_bl I q (congrArg not dec_int))
  | str j => obtain ⟨t', rfl⟩ := ry; exact PySem.EqMixed.ne_int_str (fin_bl I q (by simp))
  | _ => exact absurd (show false = true from hs) Bool.false_ne_true
 | str i =>
  obtain ⟨t, rfl⟩ := rx
  cases y with
  | non => cases ry; exact PySem.EqNone.ne_str_none (fin_bl I q (by simp))
  | bl j => cases ry; exact PySem.EqMixed.ne_str_bool (fin_bl I q (by simp))
  | int j => obtain ⟨t', rfl⟩ := ry; exact PySem.EqMixed.ne_str_int (fin_bl I q (by simp))
  | str j => obtain ⟨t', rfl⟩ := ry; exact ne_str (fin_bl I q (congrArg not dec_str))
  | _ => exact absurd (show false = true from hs) Bool.false_ne_true
 | byt i =>
  obtain ⟨t, rfl⟩ := rx
  cases y with
  | byt j => obtain ⟨t', rfl⟩ := ry; exact PySem.W.ne_bytes (fin_bl I q (congrArg not dec_byt))
  | _ => exact absurd (show false = true from hs) Bool.false_ne_true
 | _ => cases y <;> exact absurd (show false = true from hs) Bool.false_ne_true
theorem op_lt : OpR X (compareOp .Lt) (rI0 fun i j => .bl (decide (i < j))) := opB0 fun _ _ _ _ _ _ _ q => lt_int q
theorem op_le : OpR X (compareOp .LtE) (rI0 fun i j => .bl (decide (i <= j))) := opB0 fun _ _ _ _ _ _ _ q => le_int q
theorem op_gt : OpR X (compareOp .Gt) (rI0 fun i j => .bl (decide (j < i))) := opB0 fun _ _ _ _ _ _ _ q => gt_int q
noncomputable def isObj : HO -> Bool
 | .lst _ => true
 | .ins _ _ _ => true
 | _ => false
theorem nomark (b : Expr) {op : CmpOp} (h : op ≠ .In := by decide) (h2 : op ≠ .NotIn := by decide) : behindInMarks op b = false := by
 have e1 : (op == CmpOp.In) = false := by cases op <;> first | rfl | exact absurd rfl h
 have e2 : (op == CmpOp.NotIn) = false := by cases op <;> first | rfl | exact absurd rfl h2
 cases b <;> simp [behindInMarks, e1, e2]
theorem pe_cmpR {op : CmpOp} {r : R2} (ho : OpR X (compareOp op) r) (ha : PE X a ta) (hb : PE X b tb) (hm : behindInMarks op b = false) : PE X (.Compare a [op] [b] pos) (tOp r ta tb) := by
 intro pins s σ H Q I h
 exact wpAny_Compare1 (binT ha hb I h fun v u s2 x y H2 I2 rx ry q => ho pins s2 σ H2 x y v u Q I2 rx ry q) hm
noncomputable def tTest (t : TE) : TT := fun σ H Q => t σ H fun x H' => BlOf x H' Q
theorem pt_cmpR {op : CmpOp} {r : R2} (ho : OpR X (compareOp op) r) (ha : PE X a ta) (hb : PE X b tb) (hm : behindInMarks op b = false) : PT X (.Compare a [op] [b] pos) (tTest (tOp r ta tb)) := by
 intro pins s σ H Q I h
 refine wpAny_isTrue_Compare1 (thn (ha pins s σ H _ I h) fun v s1 ⟨x, H1, I1, r1, q1⟩ => thn (hb pins s1 σ H1 _ I1 q1) fun u s2 ⟨y, H2, I2, r2, q2⟩ =>
  thn (ho pins s2 σ H2 x y v u _ I2 r1 r2 q2) fun c s3 ⟨z, H3, I3, r3, k, e, q3⟩ => ?_) hm
 subst e
 cases r3
 exact wpAny_truthy_bool ⟨H3, I3, q3⟩
noncomputable def tChain (r r' : R2) (ta tb tc : TE) : TE := fun σ H Q => ta σ H fun x H1 => tb σ H1 fun y H2 => r x y H2 fun z H3 => ∃ k, z = .bl k /\
 (if k = true then tc σ H3 fun w' H4 => r' y w' H4 Q else Q (.bl false) H3)
theorem pt_chain {op op' : CmpOp} {r r' : R2} (ho : OpR X (compareOp op) r) (ho' : OpR X (compareOp op') r') (ha : PE X a ta) (hb : PE X b tb) (hc : PE X c tc)
  (hm : lastMarks [op, op'] [b, c] = false := by with_unfolding_all rfl) : PT X (.Compare a [op, op'] [b, c] pos) (tTest (tChain r r' ta tb tc)) := by
 intro pins s σ H Q I h
 refine isTrue_chain (thn (ha pins s σ H _ I h) fun v s1 ⟨x, H1, I1, r1, q1⟩ => test_link (thn (hb pins s1 σ H1 _ I1 q1) fun u s2 ⟨y, H2, I2, r2, q2⟩ =>
  thn (ho pins s2 σ H2 x y v u _ I2 r1 r2 q2) fun d s3 ⟨z, H3, I3, r3, k, e, q3⟩ => ?_)) hm
 subst e
 cases r3
 refine wpAny_truthy_bool ?_
 cases k with
 | false =>
  obtain ⟨k', e', q'⟩ := q3
  cases e'
  exact ite_ff ⟨H3, I3, q'⟩
 | true =>
  refine ite_tt (test_last (thn (hc pins s3 σ H3 _ I3 q3) fun w' s4 ⟨z', H4, I4, r4, q4⟩ => thn (ho' pins s4 σ H4 y z' u w' _ I4 r2 r4 q4) fun d' s5 ⟨z2, H5, I5, r5, k2, e2, q5⟩ => ?_))
  subst e2
  cases r5
  exact wpAny_truthy_bool ⟨H5, I5, q5⟩
noncomputable def TruV (K : PySem.W.Frag) (x : V) (H : Hp) (k : Bool) : Prop :=
 match x with
 | .non => k = false
 | .bl b => k = b
 | .int i => k = (i != 0)
 | .str y => y.length <= sizeLine /\ k = ((y.length : Int) != 0)
 | .byt y => y.size <= sizeLine /\ k = ((y.size : Int) != 0)
 | .ref p => (∃ xs, SqL K H p xs /\ k = !xs.isEmpty) \/ (∃ xs, SqT K H p xs /\ k = !xs.isEmpty) \/ ∃ kvs, H p = some (.dK kvs) /\ k = !kvs.isEmpty
 | _ => False
theorem line63 : (sizeLine : Nat) < 2 ^ 63 := by rw [sizeLine_eq]; decide
noncomputable def PlainIxT (b : Expr) : Prop := ∀ o i, subscripted b false o i = operate [o, i] (getItem o i)
theorem vals1 {x : V} {us : List Value} (r : Vals [x] us) : ∃ u, us = [u] /\ RelV x u := by
 cases r with
 | cons r1 r2 => cases r2; exact ⟨_, rfl, r1⟩
theorem call_abs : CallR X (.builtin "abs") (fun xs H Q => ∃ i, xs = [.int i] /\ Q (.int (if i < 0 then -i else i)) H) := by
 intro pins s σ H xs us Q I r h
 obtain ⟨i, rfl, q⟩ := h
 obtain ⟨u, rfl, t, rfl⟩ := vals1 r
 exact call_abs_int fun u tk => ⟨.int (if i < 0 then -i else i), H, I.tok _, ⟨_, rfl⟩, q⟩
noncomputable def LenV (K : PySem.W.Frag) (x : V) (H : Hp) (n : Nat) : Prop :=
 match x with
 | .str y => y.length <= sizeLine /\ n = y.length
 | .byt y => y.size <= sizeLine /\ n = y.size
 | .ref p => (∃ xs, SqL K H p xs /\ n = xs.length) \/ ∃ xs, SqT K H p xs /\ n = xs.length
 | _ => False
end
end L2
namespace L2
open PySem PySem.Spec PyProof.Rows
structure ObjM (h : Heap) (x dx C : Addr) (mA : Str -> Option Value) : Prop where
 obj : h.get? x = some (PySem.W.instObj C dx)
 ns : h.Ns1 dx mA
 ne : dx ≠ x
section
variable {prog : Program} {w : World} {A : Around} {E : Value -> Shared -> Prop} {s : Shared} {K : PySem.W.Frag} {x dx C f : Addr} {mA : Str -> Option Value} {name : Str} {v : Value}
end
noncomputable def putF (f : Str) (v : V) : List (Str × V) -> List (Str × V)
 | [] => [(f, v)]
 | (g, x) :: r => if g = f then (g, v) :: r else (g, x) :: putF f v r
section
variable {P : Program} {w : World} {H H' : Hp} {h h' : Heap} {a C dx : Addr} {fs fs' : List (Str × V)}
end
structure Cls (K : PySem.W.Frag) (C : Addr) : Prop where
 pg : PySem.W.plainGet K C Str.empty = true
 hd : PySem.W.hasDictIn K C = true
 po : PySem.W.plainOver K C = true
 sa : PySem.W.findIn K (.ref C) "__setattr__" = some (some (.builtin "object.__setattr__"))
noncomputable def NoAttr (K : PySem.W.Frag) (C : Addr) (f : Str) : Prop := PySem.W.findIn K (.ref C) f = some none
structure Con (K : PySem.W.Frag) (C : Addr) (f : Str) (v : V) (u : Value) : Prop where
 at_ : PySem.W.findIn K (.ref C) f = some (some u)
 rel : RelV v u
 get : PySem.W.specialIn K u "__get__" = some none
 cp : PySem.W.copiedNames.contains f = false
structure Meth (K : PySem.W.Frag) (C : Addr) (m : Str) (f : Addr) : Prop where
 at_ : PySem.W.findIn K (.ref C) m = some (some (.ref f))
 fn : PySem.W.isFn K (.ref f) = true
 kp : PySem.W.keepIn K (.ref f) = true
section
variable {X : Cx} {pins : List (Addr × Obj)} {σ : St} {H : Hp} {s : Shared} {a C dx : Addr} {fs : List (Str × V)} {f : Str} {v : V} {A : Around} {E : Value -> Shared -> Prop}
end
noncomputable def tFld (K : PySem.W.Frag) (ta : TE) (f : Str) : TE := fun σ H Q => ta σ H fun x H1 => ∃ a C dx fs v, x = .ref a /\ H1 a = some (.ins C dx fs) /\ Cls K C /\ NoAttr K C f /\ fs.lookup f = some v /\ Q v H1
noncomputable def tCon (K : PySem.W.Frag) (ta : TE) (f : Str) : TE := fun σ H Q => ta σ H fun x H1 => ∃ a C dx fs v u, x = .ref a /\ H1 a = some (.ins C dx fs) /\ Cls K C /\ Con K C f v u /\ fs.lookup f = none /\ Q v H1
noncomputable def sFld (K : PySem.W.Frag) (ta tv : TE) (f : Str) : TS := fun D σ H => tv σ H fun y H1 => ta σ H1 fun x H2 => ∃ a C dx fs, x = .ref a /\ H2 a = some (.ins C dx fs) /\ Cls K C /\ NoAttr K C f /\ fs.length < 1000 /\
 D.nx σ (upd H2 a (.ins C dx (putF f y fs)))
noncomputable def InOp (X : Cx) (op : Operator) (rd : V -> V -> Hp -> VK -> Prop) : Prop :=
 ∀ (pins : List (Addr × Obj)) (s : Shared) (σ : St) (H : Hp) (x y : V) (u v : Value) (Q : VK), Inv X pins σ H s -> RelV x u -> RelV y v -> rd x y H Q -> wpAny (model X.prog X.w) X.A (inplaceOp op u v) (EP X pins σ Q) X.xe s
noncomputable def sFldAug (K : PySem.W.Frag) (ta tv : TE) (rd : V -> V -> Hp -> VK -> Prop) (f : Str) : TS := fun D σ H => ta σ H fun x H1 => ∃ a C dx fs v, x = .ref a /\ H1 a = some (.ins C dx fs) /\ Cls K C /\ NoAttr K C f /\ fs.lookup f = some v /\
 tv σ H1 fun y H2 => rd v y H2 fun z H3 => ∃ dx' fs', H3 a = some (.ins C dx' fs') /\ fs'.length < 1000 /\ D.nx σ (upd H3 a (.ins C dx' (putF f z fs')))
section
variable {X : Cx} {o e value : Expr} {f : Str} {pos pos' tpos : Pos} {ta tv : TE}
noncomputable def rAdd : V -> V -> Hp -> VK -> Prop := fun x y H Q => ∃ i j, x = .int i /\ y = .int j /\ Q (.int (i + j)) H
noncomputable def rSub : V -> V -> Hp -> VK -> Prop := fun x y H Q => ∃ i j, x = .int i /\ y = .int j /\ Q (.int (i - j)) H
end
section
variable {X : Cx} {pins : List (Addr × Obj)} {σ : St} {H : Hp} {s : Shared} {A : Around} {E : Value -> Shared -> Prop} {Q : Value -> Shared -> Prop} {c : Value} {b : Bool}
inductive TyOf (K : PySem.W.Frag) (H : Hp) : V -> Value -> Prop where
 | non : TyOf K H .non (.type "NoneType")
 | bl (x : Bool) : TyOf K H (.bl x) (.type "bool")
 | int (i : Int) : TyOf K H (.int i) (.type "int")
 | str (x : Str) : TyOf K H (.str x) (.type "str")
 | flt (x : UInt64) : TyOf K H (.flt x) (.type "float")
 | lst {a : Addr} {xs : List V} (e : H a = some (.lst xs)) : TyOf K H (.ref a) (.type "list")
 | frz {a : Addr} {o : Obj} {xs : List V} (e : H a = some (.frz o (.lst xs))) : TyOf K H (.ref a) (.type "list")
 | tup {a : Addr} {xs : List V} (e : H a = some (.tup xs)) : TyOf K H (.ref a) (.type "tuple")
 | dK {a : Addr} {kvs : List (Key × V)} (e : H a = some (.dK kvs)) : TyOf K H (.ref a) (.type "dict")
 | dT {a : Addr} {kvs : List (List Key × V)} (e : H a = some (.dT kvs)) : TyOf K H (.ref a) (.type "dict")
 | ins {a C dx : Addr} {fs : List (Str × V)} (e : H a = some (.ins C dx fs)) (cl : Cls K C) (ha : PySem.W.findIn K (.ref C) "__class__" = some (some (.builtin "object.__class__")))
   (hn : PySem.W.specialIn K (.builtin "object.__class__") "__get__" = some (some (.builtin "getset_descriptor.__get__"))) (htk : PySem.W.takesIn K (.builtin "object.__class__") = some true)
   (hm : PySem.W.mroIn K C (.type "object") = some true) : TyOf K H (.ref a) (.ref C)
end
end L2
namespace L2
open PySem PySem.Spec PyProof.Rows
structure Room (k : Nat) (A : Around) : Prop where
 hd : A.handled = none
 dp : A.depth + 3 * k + 5 < recursionLimit
 un : A.units + 16 * k + 200 < cLine
theorem Room.mono {j k : Nat} {A : Around} (r : Room k A) (h : j <= k) : Room j A := ⟨r.hd, by have := r.dp; omega, by have := r.un; omega⟩
theorem Room.deeper {k : Nat} {A : Around} (r : Room (k + 1) A) (env : Env) : Room k (A.deeper env) :=
 ⟨r.hd, by have := r.dp; show A.depth + 1 + 3 * k + 5 < _; omega, by have := r.un; show A.units + 3 + 16 * k + 200 < _; omega⟩
theorem Room.depth {k : Nat} {A : Around} (r : Room k A) : A.depth < recursionLimit := by have := r.dp; omega
theorem Room.units {k : Nat} {A : Around} (r : Room k A) : A.units + 64 < cLine := by have := r.un; omega
noncomputable def tNil : TA := fun _ H Q => Q [] H
noncomputable def tCons (ta : TE) (tr : TA) : TA := fun σ H Q => ta σ H fun x H1 => tr σ H1 fun xs H2 => Q (x :: xs) H2
section
variable {X : Cx} {e : Expr} {es : List Expr} {te : TE} {t : TA} {pos : Pos}
theorem pa_nil : PA X [] tNil := fun _ _ _ _ H Q I h => Calls.spliced_nil ⟨[], H, I, .nil, h⟩
theorem pa_cons (ha : PE X e te) (hr : PA X es t) (hs : starEach (e :: es) X.env = (false, eval e X.env) :: starEach es X.env := by rfl) : PA X (e :: es) (tCons te t) := by
 intro pos pins s σ H Q I h
 rw [hs]
 show wpAny _ _ (spliced ((false, eval e X.env) :: backTo pos (starEach es X.env))) _ _ s
 refine Calls.spliced_cons (thn (ha pins s σ H _ I h) fun u s1 ⟨x, H1, I1, r1, q1⟩ => ?_)
 exact thn (hr pos pins s1 σ H1 _ I1 q1) fun us s2 ⟨xs, H2, I2, r2, q2⟩ => ⟨x :: xs, H2, I2, .cons r1 r2, q2⟩
noncomputable def tTup (t : TA) : TE := fun σ H Q => t σ H fun xs H1 => xs.length <= sizeLine /\ ∀ p, H1 p = none -> Q (.ref p) (upd H1 p (.tup xs))
noncomputable def tLst (t : TA) : TE := fun σ H Q => t σ H fun xs H1 => xs.length <= sizeLine /\ ∀ p, H1 p = none -> Q (.ref p) (upd H1 p (.lst xs))
theorem pe_tup {x1} (h : PA X es t) : PE X (.Tuple es x1 pos) (tTup t) := by
 intro pins s σ H Q I hq
 refine wpAny_Tuple_spliced (thn (h pos pins s σ H _ I hq) fun us s1 ⟨xs, H1, I1, r, z, q⟩ => ⟨by rw [<- r.length]; exact z, ?_⟩)
 have hf : H1 s1.heap.objs.size = none := I1.hok.fresh (Nat.le_refl _)
 refine ⟨.ref s1.heap.objs.size, upd H1 s1.heap.objs.size (.tup xs), I1.laid (t' := s1.toks) (fun b u e => Heap.get?_push_of_some _ e) (Nat.le_refl _) ?_, rfl, q _ hf⟩
 exact ⟨z, us, r, ⟨_, Heap.get?_push_size _ rfl, rfl, _, rfl⟩⟩
theorem pe_lst (h : PA X es t) : PE X (.List es pos) (tLst t) := by
 intro pins s σ H Q I hq
 refine wpAny_List_spliced (thn (h pos pins s σ H _ I hq) fun us s1 ⟨xs, H1, I1, r, z, q⟩ => ⟨by rw [<- r.length]; exact z, ?_⟩)
 have hf : H1 s1.heap.objs.size = none := I1.hok.fresh (Nat.le_refl _)
 refine ⟨.ref s1.heap.objs.size, upd H1 s1.heap.objs.size (.lst xs), I1.laid (t' := s1.toks) (fun b u e => Heap.get?_push_of_some _ e) (Nat.le_refl _) ?_, rfl, q _ hf⟩
 exact ⟨z, us, 0, r, Heap.get?_push_size _ rfl⟩
end
noncomputable abbrev Sp := List V -> Hp -> VK -> XK -> Prop
noncomputable abbrev CXT := List Env -> Hp -> Shared -> XK -> Value -> Shared -> Prop
structure Env0 (P : Program) (w : World) (K : PySem.W.Frag) (mg : Str -> Option Value) (base : Heap) (A : Around) (outer : List Env) (s : Shared) (H : Hp) : Prop where
 frames : A.frames = some outer
 mod : Mod K mg base
 bs : ∀ b o, base.get? b = some o -> s.heap.get? b = some o /\ H b = none
 bsz : base.objs.size <= s.heap.objs.size
 funs : s.heap.FunFrames base outer
 frf : ∀ b ∈ frs outer, H b = none
 hok : HOk P w H s.heap
 bare : AllBare s.gens
noncomputable def CE (outer : List Env) (P : Program) (w : World) (H : Hp) (s : Shared) (Q : VK) (u : Value) (s' : Shared) : Prop :=
 ∃ v H', s'.os = s.os /\ AllBare s'.gens /\ Un (frs outer) [] H H' s.heap s'.heap /\ HOk P w H' s'.heap /\ RelV v u /\ Q v H'
noncomputable def CR (CX : CXT) (outer : List Env) (P : Program) (w : World) (H : Hp) (s : Shared) (Q : VK) (E : XK) (r : Result) (s' : Shared) : Prop :=
 match r with
 | .ok (.ret u) => CE outer P w H s Q u s'
 | .ok _ => False
 | .error e => CX outer H s E e s'
structure FnOk (P : Program) (w : World) (K : PySem.W.Frag) (mg : Str -> Option Value) (base : Heap) (CX : CXT) (k : Nat) (f : Addr) (fd : FuncData) (ps : List Str) (sp : Sp) : Prop where
 len : ∀ vs H Q E, sp vs H Q E -> vs.length = ps.length
 run : ∀ (A : Around) (outer : List Env) (s : Shared) (H : Hp) (args : Args) (us : List Value) (vs : List V) (Q : VK) (E : XK), Room k A -> Env0 P w K mg base A outer s H -> BindsTo s fd args (ps.zip us) -> Vals vs us -> sp vs H Q E ->
  codeAny (model P w) A (.call (.ref f) args) (CR CX outer P w H s Q E) s
theorem FnOk.mono {P : Program} {w : World} {K : PySem.W.Frag} {mg : Str -> Option Value} {base : Heap} {CX : CXT} {j k : Nat} {f : Addr} {fd : FuncData} {ps : List Str} {sp : Sp} (F : FnOk P w K mg base CX j f fd ps sp) (h : j <= k) :
  FnOk P w K mg base CX k f fd ps sp := ⟨F.len, fun A outer s H args us vs Q E hr => F.run A outer s H args us vs Q E (hr.mono h)⟩
section
variable {X : Cx} {pins : List (Addr × Obj)} {σ : St} {H : Hp} {s s' : Shared}
theorem Inv.env0 (I : Inv X pins σ H s) : Env0 X.prog X.w X.K X.mg X.base X.A X.stack s H :=
 ⟨I.ok.frames, I.ok.mod, I.bs, Nat.le_trans I.ok.bsz I.sz, I.stack, I.stkFree, I.hok, I.bare⟩
theorem Inv.after {Q : VK} {u : Value} (I : Inv X pins σ H s) (h : CE X.stack X.prog X.w H s Q u s') : EP X pins σ Q u s' := by
 obtain ⟨v, H', os, bare, un, hok, r, q⟩ := h
 obtain ⟨hh, g, d, t, os'⟩ := s'
 obtain rfl : os' = s.os := os
 exact ⟨v, H', I.call (h' := hh) (g' := g) (d' := d) (t' := t) (ch := []) un hok bare (fun b z => absurd z (by simp)), r, q⟩
end
noncomputable def tCall (sp : Sp) (dvs : List V) (E : XK) (t : TA) : TE := fun σ H Q => t σ H fun vs H1 => sp (vs ++ dvs) H1 Q E
noncomputable def tMeth (C : Addr) (m : Str) (sp : Sp) (dvs : List V) (E : XK) (ta : TE) (t : TA) : TE := fun σ H Q => ta σ H fun x H1 => ∃ a dx fs, x = .ref a /\ H1 a = some (.ins C dx fs) /\ fs.lookup m = none /\
 t σ H1 fun vs H2 => sp (x :: (vs ++ dvs)) H2 Q E
noncomputable def tMake (C : Addr) (sp : Sp) (dvs : List V) (E : XK) (t : TA) : TE := fun σ H Q => t σ H fun vs H1 => ∀ x dx, H1 x = none -> H1 dx = none -> dx ≠ x ->
 sp (.ref x :: (vs ++ dvs)) (upd (upd H1 dx (.own x)) x (.ins C dx [])) (fun v H2 => v = .non /\ Q (.ref x) H2) E
noncomputable def Binds (K : PySem.W.Frag) (fd : FuncData) (ps : List Str) (ds : List Value) : Prop :=
 ∀ (s : Shared) (us : List Value), K.In s.heap -> (us ++ ds).length = ps.length -> BindsTo s fd ⟨us, []⟩ (ps.zip (us ++ ds))
theorem Binds.all {K : PySem.W.Frag} {fd : FuncData} {ps : List Str} (h : ∀ us : List Value, us.length = ps.length -> bindArgs fd ⟨us, []⟩ = pure (ps.zip us)) : Binds K fd ps [] := fun s us _ hl => by
 rw [List.append_nil] at hl ⊢
 exact .of_eq (h us hl)
noncomputable def Passes (CX : CXT) (X : Cx) (E : XK) : Prop := ∀ (pins : List (Addr × Obj)) (σ : St) (H : Hp) (s : Shared) (e : Value) (s' : Shared), Inv X pins σ H s -> CX X.stack H s E e s' -> X.xe e s'
section
variable {X : Cx} {CX : CXT} {k : Nat} {f C : Addr} {fd : FuncData} {ps : List Str} {sp : Sp} {dvs : List V} {ds : List Value} {E : XK} {x m : Str} {p pos apos : Pos} {e o : Expr} {es : List Expr} {ta : TE} {t : TA}
set_option tactic.hygienic true in
theorem run_fn {pins : List (Addr × Obj)} {σ : St} {H : Hp} {s : Shared} {Q : VK} {us : List Value} {vs : List V} (F : FnOk X.prog X.w X.K X.mg X.base CX k f fd ps sp) (hr : Room k X.A) (hb : Binds X.K fd ps ds) (hd : Vals dvs ds) (hx : Passes CX X E)
  (I : Inv X pins σ H s) (r : Vals vs us) (h : sp (vs ++ dvs) H Q E) : wpAny (model X.prog X.w) X.A (call (.ref f) us) (EP X pins σ Q) X.xe s := by
 have r2 : Vals (vs ++ dvs) (us ++ ds) := r.append hd
 have hl : (us ++ ds).length = ps.length := by rw [<- r2.length]; exact F.len _ _ _ _ h
 refine wpAny_call (codeAny_mono (F.run X.A X.stack s H ⟨us, []⟩ (us ++ ds) (vs ++ dvs) Q E hr I.env0 (hb s us I.kIn hl) r2 h) fun r s' hq => ?_)
 cases r with
 | error e => exact hx pins σ H s e s' I hq
 | ok fl =>
  cases fl with
  | ret u => exact I.after hq
  | next => exact False.elim hq
  | brk => exact False.elim hq
  | cont => exact False.elim hq
theorem pe_call (F : FnOk X.prog X.w X.K X.mg X.base CX k f fd ps sp) (hr : Room k X.A) (hg : Gl X x) (hm : X.mg x = some (.ref f)) (hk : PySem.W.keepIn X.K (.ref f) = true) (hb : Binds X.K fd ps ds) (hd : Vals dvs ds) (hx : Passes CX X E)
  (ha : PA X (e :: es) t) (hdb : (x == ("__debug__" : Str)) = false := by decide) (he : starEach (e :: es) X.env = (false, eval e X.env) :: starEach es X.env := by rfl) (hpl : (backTo pos (starEach es X.env)).any (·.1) = false := by rfl) :
  PE X (.Call (.Name x p) (e :: es) [] pos) (tCall sp dvs E t) := by
 intro pins s σ H Q I h
 refine wpAny_Call_Name_kw (ld_glob I hg hm ?_ hdb)
 refine PySem.W.callWith_K (h₀ := X.base) I.ok.mod.kin hk (thn (ha pos pins s σ H _ I h) fun us s1 ⟨vs, H1, I1, r, q⟩ => ⟨I1.kIn, ?_⟩) he hpl
 exact run_fn F hr hb hd hx I1 r q
structure Mk (K : PySem.W.Frag) (C f : Addr) : Prop where
 makes : PySem.W.makesIn K C = true
 init : PySem.W.findIn K (.ref C) "__init__" = some (some (.ref f))
 fn : PySem.W.isFn K (.ref f) = true
 kp : PySem.W.keepIn K (.ref C) = true
end
noncomputable def PK (X : Cx) (kws : List Keyword) (t : TA) : Prop :=
 ∀ (pos : Pos) (pins : List (Addr × Obj)) (s : Shared) (σ : St) (H : Hp) (Q : List V -> Hp -> Prop), Inv X pins σ H s -> t σ H Q -> wpAny (model X.prog X.w) X.A (evalAll ((backToKw pos (keywordEach kws X.env)).map (·.2))) (AP X pins σ Q) X.xe s
section
variable {X : Cx} {CX : CXT} {k : Nat} {f C : Addr} {fd : FuncData} {ps ks : List Str} {sp : Sp} {E : XK} {x m : Str} {p pos apos kpos : Pos} {e o : Expr} {es : List Expr} {kws : List Keyword} {te ta : TE} {t tk : TA} {nm : Option Str}
structure KBinds (K : PySem.W.Frag) (fd : FuncData) (ps ks : List Str) (g : List Value -> List Value -> List Value) (gV : List V -> List V -> List V) : Prop where
 to : ∀ (s : Shared) (us ws : List Value), K.In s.heap -> (g us ws).length = ps.length -> BindsTo s fd ⟨us, ks.zip ws⟩ (ps.zip (g us ws))
 rel : ∀ {vs : List V} {us : List Value} {zs : List V} {ws : List Value}, Vals vs us -> Vals zs ws -> Vals (gV vs zs) (g us ws)
noncomputable def tCallK (sp : Sp) (gV : List V -> List V -> List V) (E : XK) (t tk : TA) : TE := fun σ H Q => t σ H fun vs H1 => tk σ H1 fun zs H2 => sp (gV vs zs) H2 Q E
variable {g : List Value -> List Value -> List Value} {gV : List V -> List V -> List V}
end
structure FnScope (N P : List Str) (sc : Scope) : Prop where
 kind : sc.kind = .function
 co : sc.isCoroutine = false
 gen : sc.isGenerator = false
 nd : N.Nodup
 pre : N.take P.length = P
 par : ∀ x ∈ P, sc.names.lookup x = some .local \/ sc.names.lookup x = some .cell
 nofree : ∀ y ∈ sc.names, y.2 ≠ .free
theorem bindL_out {kindOf : Str -> Option NameKind} {x : Str} : ∀ {binds : List (Str × Value)} {m : Str -> Option Value}, (∀ v, (x, v) ∉ binds) -> bindL kindOf binds m x = m x
 | [], _, _ => rfl
 | (n, v) :: r, m, h => by
  unfold bindL
  rw [bindL_out fun w hw => h w (List.mem_cons_of_mem _ hw)]
  split
  ·have : x ≠ n := by rintro rfl; exact h v List.mem_cons_self
   simp [this]
  ·rfl
theorem bindC_out {kindOf : Str -> Option NameKind} {x : Str} : ∀ {binds : List (Str × Value)} {m : Str -> Option Value}, (∀ v, (x, v) ∉ binds) -> bindC kindOf binds m x = m x
 | [], _, _ => rfl
 | (n, v) :: r, m, h => by
  unfold bindC
  rw [bindC_out fun w hw => h w (List.mem_cons_of_mem _ hw)]
  split
  ·rfl
  ·have : x ≠ n := by rintro rfl; exact h v List.mem_cons_self
   simp [this]
theorem bindL_get {kindOf : Str -> Option NameKind} {x : Str} {v : Value} : ∀ {P : List Str} {vs : List Value} {i : Nat} {m : Str -> Option Value}, P.Nodup -> P[i]? = some x -> vs[i]? = some v -> kindOf x = some .local ->
  bindL kindOf (P.zip vs) m x = some v
 | [], _, _, _, _, h, _, _ => by simp at h
 | _ :: _, [], _, _, _, _, h, _ => by simp at h
 | p :: P, w :: vs, 0, m, nd, h1, h2, hk => by
  simp at h1 h2; subst h1; subst h2
  show bindL kindOf ((p, w) :: P.zip vs) m p = _
  unfold bindL
  rw [bindL_out fun v hv => (List.nodup_cons.mp nd).1 (List.of_mem_zip hv).1, if_pos hk]
  simp
 | p :: P, w :: vs, i + 1, m, nd, h1, h2, hk => by
  show bindL kindOf ((p, w) :: P.zip vs) m x = _
  unfold bindL
  exact bindL_get (i := i) (List.nodup_cons.mp nd).2 (by simpa using h1) (by simpa using h2) hk
theorem bindC_get {kindOf : Str -> Option NameKind} {x : Str} {v : Value} : ∀ {P : List Str} {vs : List Value} {i : Nat} {m : Str -> Option Value}, P.Nodup -> P[i]? = some x -> vs[i]? = some v -> kindOf x ≠ some .local ->
  bindC kindOf (P.zip vs) m x = some v
 | [], _, _, _, _, h, _, _ => by simp at h
 | _ :: _, [], _, _, _, _, h, _ => by simp at h
 | p :: P, w :: vs, 0, m, nd, h1, h2, hk => by
  simp at h1 h2; subst h1; subst h2
  show bindC kindOf ((p, w) :: P.zip vs) m p = _
  unfold bindC
  rw [bindC_out fun v hv => (List.nodup_cons.mp nd).1 (List.of_mem_zip hv).1, if_neg hk]
  simp
 | p :: P, w :: vs, i + 1, m, nd, h1, h2, hk => by
  show bindC kindOf ((p, w) :: P.zip vs) m x = _
  unfold bindC
  exact bindC_get (i := i) (List.nodup_cons.mp nd).2 (by simpa using h1) (by simpa using h2) hk
noncomputable def start (N : List Str) (vs : List V) : St := vs.map some ++ List.replicate (N.length - vs.length) none
noncomputable def cxOf (CX : CXT) (P : Program) (w : World) (K : PySem.W.Frag) (mg : Str -> Option Value) (base : Heap) (N : List Str) (qual : Str) (scope : Scope) (f : Addr) (cd : Value) (A : Around) (outer : List Env) (s : Shared) (H : Hp) (E : XK) : Cx where
 prog := P
 w := w
 K := K
 mg := mg
 base := base
 A := A.deeper (envOfC qual scope s.heap.objs.size f cd)
 N := N
 s₀ := s
 H₀ := H
 env := envOfC qual scope s.heap.objs.size f cd
 outer := outer
 stack := envOfC qual scope s.heap.objs.size f cd :: outer
 ex := []
 calm := true
 fn := fun _ => true
 pn := []
 xe := fun e s' => wpAny (model P w) (A.deeper (envOfC qual scope s.heap.objs.size f cd)) (leaving (envOfC qual scope s.heap.objs.size f cd) e) (fun _ s'' => CX outer H s E e s'') (fun e' s'' => CX outer H s E e' s'') s'
theorem cell_has {sc : Scope} {n : Nat} {x : Str} (h : sc.names.lookup x = some .cell) : ∃ c, (cellsFrom n sc.names []).lookup x = some c := by
 have q := PySem.W.cellsFrom_some sc.names n [] (.inl h)
 exact Option.isSome_iff_exists.mp q
theorem inv_start {CX : CXT} {P : Program} {w : World} {K : PySem.W.Frag} {mg : Str -> Option Value} {base : Heap} {N ps : List Str} {qual : Str} {scope : Scope} {f : Addr} {cd : Value} {A : Around} {outer : List Env} {s s1 : Shared} {H : Hp} {E : XK} {us : List Value} {vs : List V}
  (S : FnScope N ps scope) (hd : A.handled = none) (e0 : Env0 P w K mg base A outer s H) (hl : vs.length = ps.length) (r : Vals vs us)
  (x : InCallC s s.heap.objs.size (bindL (envOfC qual scope s.heap.objs.size f cd).kindOf (ps.zip us) fun _ => none) (cellsFrom (s.heap.objs.size + 1) scope.names []) (bindC (envOfC qual scope s.heap.objs.size f cd).kindOf (ps.zip us) fun _ => none) s1) :
  Inv (cxOf CX P w K mg base N qual scope f cd A outer s H E) [] (start N vs) H s1 := by
 have hpl : ps.length <= N.length := by have := congrArg List.length S.pre; rw [List.length_take] at this; omega
 obtain ⟨h1, tk, rfl, hk⟩ := x.done
 have noA : ∀ b : Addr, b ∉ (cxOf CX P w K mg base N qual scope f cd A outer s H E).ex := fun b z => absurd (show b ∈ ([] : List Addr) from z) (by simp)
 refine ⟨⟨e0.mod, S.kind, rfl, rfl, Nat.le_refl _, fun y z c h1 h2 => ?_, fun y hy => ?_, fun y c _ h => ?_, fun _ => hd, Around.frames_deeper e0.frames, .inr ⟨rfl, rfl⟩, fun b z => absurd z (noA b), e0.bs, e0.bsz, fun b _ _ => noA b, fun b z => absurd z (noA b), e0.funs, e0.frf⟩,
  rfl, e0.bare, Un.kept hk, ⟨_, x.toInCall.ns, fun i y v h1 h2 h3 => ?_⟩, fun y c h => ⟨_, x.cell y c h⟩, e0.hok.fresh (Nat.le_refl _), fun y c h => ?_, fun p hp => absurd (show p ∈ ([] : List (Addr × Obj)) from hp) (by simp), e0.hok.kept hk, ?_⟩
 ·exact name_of_addr x.apart (PySem.mem_of_lookup h1) (PySem.mem_of_lookup h2)
 ·have hy : scope.names.lookup y = some .cell \/ scope.names.lookup y = some .free := hy
  rcases hy with hy | hy
  ·exact cell_has hy
  ·exact absurd rfl (S.nofree _ (PySem.mem_of_lookup hy))
 ·exact Nat.le_of_lt (x.above y c (PySem.mem_of_lookup h))
 ·have hi : i < vs.length := by
   unfold start at h2
   by_cases hi : i < vs.length
   ·exact hi
   ·rw [List.getElem?_append_right (by simpa using hi)] at h2
    rw [List.getElem?_replicate] at h2
    split at h2 <;> cases h2
  have ha : vs[i]? = some v := by
   unfold start at h2
   rw [List.getElem?_append_left (by simpa using hi), List.getElem?_map] at h2
   cases e : vs[i]? with
   | none => rw [e] at h2; cases h2
   | some a => rw [e] at h2; cases h2; rfl
  obtain ⟨u, hu, rv⟩ := r.get ha
  have hp : ps[i]? = some y := by
   rw [<- S.pre, List.getElem?_take_of_lt (by omega)]; exact h1
  have ndP : ps.Nodup := by rw [<- S.pre]; exact S.nd.sublist (List.take_sublist _ _)
  refine ⟨u, rv, ?_⟩
  rcases S.par y (List.mem_of_getElem? hp) with k | k
  ·exact .inl ⟨k, bindL_get ndP hp hu k⟩
  ·obtain ⟨c, e⟩ := cell_has (n := s.heap.objs.size + 1) k
   refine .inr ⟨.inl k, c, e, ?_⟩
   have q := x.cell y c e
   rw [bindC_get ndP hp hu (by show scope.names.lookup y ≠ _; rw [k]; decide)] at q
   exact q
 ·exact e0.hok.fresh (Nat.le_of_lt (x.above y c (PySem.mem_of_lookup h)))
 ·unfold start
  show _ = N.length
  rw [List.length_append, List.length_map, List.length_replicate]
  omega
set_option tactic.hygienic true in
theorem fn_of {CX : CXT} {P : Program} {w : World} {K : PySem.W.Frag} {mg : Str -> Option Value} {base : Heap} {k : Nat} {f : Addr} {name qual : Str} {params : Arguments} {body : List Stmt} {scope : Scope} {dV kV doc pm cdv ct oc : Value} {an od : Option Addr}
  {osl : Array (Option Value)} {N ps : List Str} {sp : Sp} (lk : K.lookup f = some ⟨oc, od, .func (PySem.W.fnOf name qual params body scope dV kV doc pm an cdv ct), osl⟩) (hcd : PySem.W.codeIn K cdv qual = true) (S : FnScope N ps scope)
  (len : ∀ vs H Q E, sp vs H Q E -> vs.length = ps.length)
  (hbody : ∀ (A : Around) (outer : List Env) (s : Shared) (H : Hp) (vs : List V) (Q : VK) (E : XK), Room k (A.deeper (envOfC qual scope s.heap.objs.size f cdv)) -> sp vs H Q E ->
   ∃ t, PSs (cxOf CX P w K mg base N qual scope f cdv A outer s H E) body t /\ t { nx := fun _ H' => Q .non H', rt := Q } (start N vs) H) :
  FnOk P w K mg base CX (k + 1) f (PySem.W.fnOf name qual params body scope dV kV doc pm an cdv ct) ps sp := by
 refine ⟨len, fun A outer s H args us vs Q E hr e0 hb r hsp => ?_⟩
 have hl := len _ _ _ _ hsp
 have KX : K.In s.heap := e0.mod.kin.keeps fun b o e => (e0.bs b o e).1
 have lim : s.heap.NoLimit := e0.mod.nolimit.keeps fun b o e => (e0.bs b o e).1
 have hkind : ∀ y ∈ ps.zip us, scope.names.lookup y.1 = some .local \/ (scope.names.lookup y.1 = some .cell /\ ((cellsFrom (s.heap.objs.size + 1) scope.names []).lookup y.1).isSome = true) := fun ⟨n, v⟩ hy => by
  rcases S.par n (List.of_mem_zip hy).1 with q | q
  ·exact .inl q
  ·exact .inr ⟨q, PySem.W.cellsFrom_some _ _ _ (.inl q)⟩
 refine codeAny_call_function hr.depth (KX _ _ lk) rfl S.co S.gen rfl (PySem.W.codeRec_of KX hcd) (hb _ _ _ _ ?_)
 refine wpAny_newFunctionEnv_cells S.kind hkind fun env he s1 x => ?_
 subst he
 refine ⟨lim.keeps x.toInCall.keep, codeAny_func ?_⟩
 obtain ⟨t, ht, hq⟩ := hbody A outer s H vs Q E (hr.deeper _) hsp
 have I : Inv (cxOf CX P w K mg base N qual scope f cdv A outer s H E) [] (start N vs) H s1 := inv_start S hr.hd e0 hl r x
 refine wpAny_mono (ht [] s1 (start N vs) H _ I hq) (fun fl s' hs => ?_) fun e s' hs => hs
 have fin : ∀ {σ' : St} {H' : Hp} {v : V} {u : Value}, Inv (cxOf CX P w K mg base N qual scope f cdv A outer s H E) [] σ' H' s' -> RelV v u -> Q v H' -> CE outer P w H s Q u s' :=
  fun {σ' H' v u} J rv q => ⟨v, H', J.os, J.bare, J.base, J.hok, rv, q⟩
 cases fl with
 | ret u =>
  obtain ⟨v, σ', H', J, rv, q⟩ := hs
  exact fin J rv q
 | next =>
  obtain ⟨σ', H', J, q⟩ := hs
  exact fin (v := V.non) (u := Value.none) J rfl q
 | brk =>
  obtain ⟨_, _, _, q⟩ := hs
  exact False.elim q
 | cont =>
  obtain ⟨_, _, _, q⟩ := hs
  exact False.elim q
end L2
namespace L2
open PySem PySem.Spec PyProof.Rows
section
variable {X : Cx} {x : Str} {p pos : Pos} {e : Expr} {es : List Expr} {t : TA} {id T : String} {r : List V -> Hp -> VK -> Prop}
noncomputable def tCB (r : List V -> Hp -> VK -> Prop) (t : TA) : TE := fun σ H Q => t σ H fun vs H1 => r vs H1 Q
theorem pe_callB (hc : CallR X (.builtin id) r) (hg : Gl X x) (hm : X.mg x = none) (hv : bootBuiltins x = some (.builtin id)) (ha : PA X (e :: es) t) (hn : x ≠ "__name__" := by decide) (hdb : (x == ("__debug__" : Str)) = false := by decide)
  (he : starEach (e :: es) X.env = (false, eval e X.env) :: starEach es X.env := by rfl) (hpl : (backTo pos (starEach es X.env)).any (·.1) = false := by rfl) : PE X (.Call (.Name x p) (e :: es) [] pos) (tCB r t) := by
 intro pins s σ H Q I h
 refine wpAny_Call_Name_kw (ld_blt I hg hm hv ?_ hn hdb)
 exact PyProof.Rows.callWith_builtin1 (thn (ha pos pins s σ H _ I h) fun us s1 ⟨vs, H1, I1, r1, q1⟩ => hc pins s1 σ H1 vs us Q I1 r1 q1) he hpl
theorem pe_callTy (hc : CallR X (.type T) r) (hg : Gl X x) (hm : X.mg x = none) (hv : bootBuiltins x = some (.type T)) (ha : PA X (e :: es) t) (hn : x ≠ "__name__" := by decide) (hdb : (x == ("__debug__" : Str)) = false := by decide)
  (he : starEach (e :: es) X.env = (false, eval e X.env) :: starEach es X.env := by rfl) (hpl : (backTo pos (starEach es X.env)).any (·.1) = false := by rfl) : PE X (.Call (.Name x p) (e :: es) [] pos) (tCB r t) := by
 intro pins s σ H Q I h
 refine wpAny_Call_Name_kw (ld_blt I hg hm hv ?_ hn hdb)
 exact PyProof.Rows.callWith_type1 (thn (ha pos pins s σ H _ I h) fun us s1 ⟨vs, H1, I1, r1, q1⟩ => hc pins s1 σ H1 vs us Q I1 r1 q1) he hpl
end
end L2
namespace HT
open PySem PyProof.Rows
noncomputable def lexLt : List Int -> List Int -> Bool
 | [], [] => false
 | [], _ :: _ => true
 | _ :: _, [] => false
 | x :: xs, y :: ys => if x = y then lexLt xs ys else decide (x < y)
section
open PySem.SeqAt
open PySem.AutoSeq1 (wpAny_loadPart')
open PySem.MeetsSeq PySem.MeetsSeq2 PySem.MeetsSeq3
end
section
variable {prog : Program} {w : World} {A : Around} {E : Value -> Shared -> Prop} {s : Shared}
noncomputable def sIx (n d : Nat) : Option Int -> Nat
 | none => d
 | some v => if v < 0 then (v + (n : Int)).toNat else min v.toNat n
theorem sIx_none (n d : Nat) : sIx n d none = d := rfl
theorem sIx_nat (n d k : Nat) : sIx n d (some (k : Int)) = min k n := by
 show (if (k : Int) < 0 then ((k : Int) + (n : Int)).toNat else min (k : Int).toNat n) = min k n
 rw [if_neg (by omega), Int.toNat_natCast]
end
end HT
namespace L2
open PySem PySem.Spec PyProof.Rows
noncomputable abbrev TO := St -> Hp -> (Option Int -> Hp -> Prop) -> Prop
noncomputable def PO (X : Cx) (e : Option Expr) (t : TO) : Prop :=
 ∀ (pins : List (Addr × Obj)) (s : Shared) (σ : St) (H : Hp) (Q : Option Int -> Hp -> Prop), Inv X pins σ H s -> t σ H Q ->
  wpAny (model X.prog X.w) X.A (evalPart e X.env) (fun u s' => ∃ o H', Inv X pins σ H' s' /\ IsPart u o /\ Q o H') X.xe s
noncomputable def tNoPart : TO := fun _ H Q => Q none H
noncomputable def tPart (t : TE) : TO := fun σ H Q => t σ H fun x H1 => ∃ i, x = .int i /\ Q (some i) H1
section
variable {X : Cx} {e : Expr} {te : TE} {lo hi : Option Expr} {tl th : TO} {pos p2 : Pos}
theorem po_none : PO X none tNoPart := by
 intro pins s σ H Q I h
 rw [evalPart_none]
 exact wpAny_pure ⟨none, H, I, .none, h⟩
theorem po_some (h : PE X e te) : PO X (some e) (tPart te) := by
 intro pins s σ H Q I hw
 rw [evalPart_some]
 refine thn (h pins s σ H _ I hw) fun u s1 ⟨x, H1, I1, r1, q1⟩ => ?_
 obtain ⟨i, rfl, q⟩ := q1
 obtain ⟨t, rfl⟩ := r1
 exact ⟨some i, H1, I1, .int i t, q⟩
noncomputable def SlR (X : Cx) (r : V -> Option Int -> Option Int -> Hp -> VK -> Prop) : Prop :=
 ∀ (pins : List (Addr × Obj)) (s : Shared) (σ : St) (H : Hp) (x : V) (v vl vu : Value) (lo hi : Option Int) (sl : Addr) (Q : VK), Inv X pins σ H s -> RelV x v -> s.heap.IsSliceOf sl vl vu .none -> IsPart vl lo -> IsPart vu hi -> r x lo hi H Q ->
  ∃ T id, typeLookup (.type T) "__getitem__" = pure (some (.builtin id)) /\ s.TypeIs v T /\ wpAny (model X.prog X.w) X.A (getItem v (.ref sl)) (EP X pins σ Q) X.xe s
noncomputable def tSl (r : V -> Option Int -> Option Int -> Hp -> VK -> Prop) (te : TE) (tl th : TO) : TE := fun σ H Q => te σ H fun x H1 => tl σ H1 fun l H2 => th σ H2 fun u H3 => r x l u H3 Q
theorem pe_slice {r : V -> Option Int -> Option Int -> Hp -> VK -> Prop} (hr : SlR X r) (he : PE X e te) (hl : PO X lo tl) (hu : PO X hi th) : PE X (.Subscript e (.Slice lo hi none p2) pos) (tSl r te tl th) := by
 intro pins s σ H Q I h
 refine Subscript_ (thn (he pins s σ H _ I h) fun v s1 ⟨x, H1, I1, r1, q1⟩ => ?_)
 refine wpAny_Slice (thn (hl pins s1 σ H1 _ I1 q1) fun vl s2 ⟨l, H2, I2, pl, q2⟩ => thn (hu pins s2 σ H2 _ I2 q2) fun vu s3 ⟨u, H3, I3, pu, q3⟩ => ?_)
 rw [evalPart_none]
 refine wpAny_pure ?_
 have I4 : Inv X pins σ H3 { s3 with heap := s3.heap.push { cls := .type "slice", data := .fields #[vl, vu, .none] } } := I3.kept (t' := s3.toks) fun b ob q => Heap.get?_push_of_some _ q
 obtain ⟨T, id, hT, ht, hg⟩ := hr pins { s3 with heap := s3.heap.push { cls := .type "slice", data := .fields #[vl, vu, .none] } } σ H3 x v vl vu l u s3.heap.objs.size Q I4 r1 (Heap.IsSliceOf.new ..) pl pu q3
 show wpAny (model X.prog X.w) X.A (subscriptTail e (.Slice lo hi none p2) v (.ref s3.heap.objs.size)) (EP X pins σ Q) X.xe { s3 with heap := s3.heap.push { cls := .type "slice", data := .fields #[vl, vu, .none] } }
 exact tail_any (ops := [.ref s3.heap.objs.size, v]) ht hT hg (by with_unfolding_all rfl)
noncomputable def cutV (xs : List V) (lo hi : Option Int) : List V := (xs.drop (HT.sIx xs.length 0 lo)).take (HT.sIx xs.length xs.length hi - HT.sIx xs.length 0 lo)
theorem cutV_length (xs : List V) (lo hi : Option Int) : (cutV xs lo hi).length <= xs.length := by
 unfold cutV
 rw [List.length_take, List.length_drop]
 omega
noncomputable def rSlT (K : PySem.W.Frag) : V -> Option Int -> Option Int -> Hp -> VK -> Prop := fun x lo hi H Q => ∃ a xs, x = .ref a /\ SqT K H a xs /\
 ¬ (HT.sIx xs.length 0 lo = 0 /\ HT.sIx xs.length xs.length hi = xs.length) /\ ∀ p, H p = none -> Q (.ref p) (upd H p (.tup (cutV xs lo hi)))
noncomputable def rLtT (K : PySem.W.Frag) : R2 := fun x y H Q => ∃ a b ns ms, x = .ref a /\ y = .ref b /\ SqT K H a (ns.map V.int) /\ SqT K H b (ms.map V.int) /\ Q (.bl (HT.lexLt ns ms)) H
noncomputable def rCatT (K : PySem.W.Frag) : R2 := fun x y H Q => ∃ a b xs ys, x = .ref a /\ y = .ref b /\ SqT K H a xs /\ SqT K H b ys /\ xs ≠ [] /\ xs.length + ys.length <= sizeLine /\
 (ys = [] -> Q (.ref a) H) /\ (ys ≠ [] -> ∀ p, H p = none -> Q (.ref p) (upd H p (.tup (xs ++ ys))))
end
end L2
namespace L2
open PySem PySem.Spec PyProof.Rows
noncomputable def ixN (n : Nat) (i : Int) : Option Nat := if 0 <= i then (if i < n then some i.toNat else none) else if -(n : Int) <= i then some (i + n).toNat else none
noncomputable def atI {α : Type} (xs : List α) (i : Int) : Option α := (ixN xs.length i).bind fun j => xs[j]?
theorem ixN_seq {n : Nat} {i : Int} {j : Nat} (h : ixN n i = some j) : seqIndex? i n = some j /\ j < n /\ -(n : Int) <= i /\ i < n := by
 unfold ixN at h
 by_cases h0 : 0 <= i
 ·rw [if_pos h0] at h
  by_cases h1 : i < n
  ·rw [if_pos h1] at h
   have e : i.toNat = j := Option.some.inj h
   exact ⟨by rw [seqIndex_of h0 h1, e], by omega, by omega, h1⟩
  ·rw [if_neg h1] at h; cases h
 ·rw [if_neg h0] at h
  by_cases h1 : -(n : Int) <= i
  ·rw [if_pos h1] at h
   have e : (i + n).toNat = j := Option.some.inj h
   exact ⟨by rw [seqIndex_neg (by omega) h1, e], by omega, h1, by omega⟩
  ·rw [if_neg h1] at h; cases h
theorem atI_get {α : Type} {xs : List α} {i : Int} {v : α} (h : atI xs i = some v) : ∃ j, seqIndex? i xs.length = some j /\ xs[j]? = some v /\ j < xs.length /\ -(xs.length : Int) <= i /\ i < xs.length := by
 unfold atI at h
 cases e : ixN xs.length i with
 | none => rw [e] at h; cases h
 | some j =>
  rw [e] at h
  obtain ⟨h1, h2, h3, h4⟩ := ixN_seq e
  exact ⟨j, h1, h, h2, h3, h4⟩
theorem atI_nat {α : Type} {xs : List α} {j : Nat} {v : α} (h : xs[j]? = some v) : atI xs (j : Int) = some v := by
 have hj : j < xs.length := (List.getElem?_eq_some_iff.mp h).1
 have e : ixN xs.length (j : Int) = some j := by
  unfold ixN
  rw [if_pos (by omega), if_pos (by omega)]; simp
 unfold atI; rw [e]; exact h
theorem atI_last {α : Type} (xs : List α) (v : α) : atI (xs ++ [v]) (-1) = some v := by
 have hl : (xs ++ [v]).length = xs.length + 1 := by simp
 have e : ixN (xs ++ [v]).length (-1) = some xs.length := by
  unfold ixN
  rw [hl, if_neg (by decide), if_pos (by omega)]
  congr 1
  omega
 unfold atI
 rw [e]
 show (xs ++ [v])[xs.length]? = some v
 simp
noncomputable def PlainIx (b : Expr) : Prop := ∀ o i, subscripted b false o i = operate [o, i] (getItem o i)
noncomputable def IxR (X : Cx) (r : R2) : Prop :=
 ∀ (value slice : Expr) (pins : List (Addr × Obj)) (s : Shared) (σ : St) (H : Hp) (x y : V) (v u : Value) (Q : VK), Inv X pins σ H s -> RelV x v -> RelV y u -> r x y H Q ->
  subscripted slice false v u = operate [v, u] (getItem v u) -> wpAny (model X.prog X.w) X.A (subscriptTail value slice v u) (EP X pins σ Q) X.xe s
noncomputable def MtR (X : Cx) (id : String) (r : V -> List V -> Hp -> VK -> Prop) : Prop :=
 ∀ (pins : List (Addr × Obj)) (s : Shared) (σ : St) (H : Hp) (x : V) (xs : List V) (v : Value) (us : List Value) (Q : VK), Inv X pins σ H s -> RelV x v -> Vals xs us -> r x xs H Q ->
  wpAny (model X.prog X.w) X.A (call (.builtin id) (v :: us)) (EP X pins σ Q) X.xe s
section
variable {X : Cx} {a b : Expr} {ta tb : TE} {pos : Pos}
theorem pe_ix {r : R2} (hr : IxR X r) (ha : PE X a ta) (hb : PE X b tb) (hs : PlainIx b) : PE X (.Subscript a b pos) (tOp r ta tb) := by
 intro pins s σ H Q I h
 exact Subscript_ (binT ha hb I h fun v u s2 x y H2 I2 rx ry q => hr a b pins s2 σ H2 x y v u Q I2 rx ry q (hs _ _))
inductive rIxL (K : PySem.W.Frag) (x : V) (y : V) (H : Hp) (Q : VK) : Prop
 | mk (p : _) (xs : _) (i : _) (v : _) (c0 : x = .ref p) (c1 : y = .int i) (c2 : SqL K H p xs) (c3 : atI xs i = some v) (c4 : Q v H) : rIxL K x y H Q
inductive rIxT (K : PySem.W.Frag) (x : V) (y : V) (H : Hp) (Q : VK) : Prop
 | mk (p : _) (xs : _) (i : _) (v : _) (c0 : x = .ref p) (c1 : y = .int i) (c2 : SqT K H p xs) (c3 : atI xs i = some v) (c4 : Q v H) : rIxT K x y H Q
noncomputable def rIxS : R2 := fun x y H Q => ∃ z i c, x = .str z /\ y = .int i /\ z.length <= sizeLine /\ atI z.cps.toList i = some c /\ Q (.str ⟨#[c]⟩) H
theorem ix_list : IxR X (rIxL X.K) := by
 intro value slice pins s σ H x y v u Q I rx ry h hs
 obtain ⟨p, xs, i, z, rfl, rfl, hq, he, q⟩ := h
 cases rx
 obtain ⟨t, rfl⟩ := ry
 obtain ⟨its, r, pl, hz⟩ := I.list hq
 obtain ⟨j, h1, h2, h3, h4, h5⟩ := atI_get he
 obtain ⟨w, ew, rw'⟩ := r.get h2
 have hl := r.length
 have hn := line63
 have fin : EP X pins σ Q w s := ⟨z, H, I, rw', q⟩
 by_cases h0 : 0 <= i
 ·have hj : i.toNat = j := by
   rw [seqIndex_of h0 h5] at h1
   exact Option.some.inj h1
  exact item_listR pl.isList h0 (by omega) (by rw [hj]; simpa using ew) fin hs
 ·have hj : (i + (its.toArray.size : Int)).toNat = j := by
   rw [seqIndex_neg (by omega) h4] at h1
   rw [List.size_toArray, <- hl]
   exact Option.some.inj h1
  exact subscriptTail_builtinR (x := w) pl.isList.typeIs slot_list_getitem.lookup
   (wpAny_getItem_list_neg (Q := fun r s' => r = w /\ EP X pins σ Q r s') pl.isList (by omega) (by rw [List.size_toArray] <;> omega) (by omega) (by rw [hj]; simpa using ew) ⟨rfl, fin⟩) hs
theorem ix_tup : IxR X (rIxT X.K) := by
 intro value slice pins s σ H x y v u Q I rx ry h hs
 obtain ⟨p, xs, i, z, rfl, rfl, hq, he, q⟩ := h
 cases rx
 obtain ⟨t, rfl⟩ := ry
 obtain ⟨its, r, pl, hz⟩ := I.tuple hq
 obtain ⟨j, h1, h2, h3, h4, h5⟩ := atI_get he
 obtain ⟨w, ew, rw'⟩ := r.get h2
 have hl := r.length
 have hn := line63
 have fin : EP X pins σ Q w s := ⟨z, H, I, rw', q⟩
 exact subscriptTail_builtinR (x := w) pl.typeIs slot_tuple_getitem.lookup
  (getItem_tuple (j := j) (Q := fun r s' => r = w /\ EP X pins σ Q r s') pl (by omega) (by omega) (by rw [List.size_toArray, <- hl]; exact h1) (by simpa using ew) ⟨rfl, fin⟩) hs
noncomputable def rIx (K : PySem.W.Frag) : R2 := fun x y H Q => rIxL K x y H Q \/ rIxT K x y H Q \/ rIxS x y H Q
theorem mapSeq_set (its : List Value) (n j : Nat) (u : Value) : Obj.mapSeq (·.setIfInBounds j u) { cls := .type "list", data := .seq its.toArray n } = { cls := .type "list", data := .seq (its.set j u).toArray n } := by
 simp [Obj.mapSeq]
theorem Inv.lst {pins : List (Addr × Obj)} {σ : St} {H : Hp} {s : Shared} {p : Addr} {xs : List V} (I : Inv X pins σ H s) (h : H p = some (.lst xs)) :
  ∃ (its : List Value) (n : Nat), Vals xs its /\ s.heap.get? p = some { cls := .type "list", data := .seq its.toArray n } /\ xs.length <= sizeLine := by
 obtain ⟨z, its, n, r, e⟩ := I.hok p _ h
 exact ⟨its, n, r, e, z⟩
theorem Inv.lstUpd {pins : List (Addr × Obj)} {σ : St} {H : Hp} {s : Shared} {p : Addr} {xs ys : List V} {its its' : List Value} {n n' : Nat} {f : Obj -> Obj} (I : Inv X pins σ H s) (h : H p = some (.lst xs))
  (ho : s.heap.get? p = some { cls := .type "list", data := .seq its.toArray n }) (hf : f { cls := .type "list", data := .seq its.toArray n } = { cls := .type "list", data := .seq its'.toArray n' }) (r : Vals ys its') (hz : ys.length <= sizeLine) (t : Nat) :
  Inv X pins σ (upd H p (.lst ys)) { s with heap := s.heap.update p f, toks := t } := by
 have e : (s.heap.update p f).get? p = some { cls := .type "list", data := .seq its'.toArray n' } := by
  rw [Heap.get?_update_self f ho (by rw [hf] <;> rfl), hf]
 refine I.write (x := p) (e := p) (by rw [h]; trivial) (.inl rfl) (fun b u hb q => (Heap.get?_update_other _ _ (Ne.symm hb)).trans q) ⟨_, e⟩ ?_
 exact ⟨hz, its', n', r, e⟩
noncomputable def rSetL : V -> V -> V -> Hp -> (Hp -> Prop) -> Prop := fun o i v H Q => ∃ p xs k j, o = .ref p /\ i = .int k /\ H p = some (.lst xs) /\ ixN xs.length k = some j /\ Q (upd H p (.lst (xs.set j v)))
theorem set_list : PSet X rSetL := by
 intro pins s σ H o i v ov iv u Q I ro ri rv h
 obtain ⟨p, xs, k, j, rfl, rfl, hp, hj, q⟩ := h
 cases ro
 obtain ⟨t, rfl⟩ := ri
 obtain ⟨its, n, r, ho, hz⟩ := I.lst hp
 obtain ⟨h1, h2, h3, h4⟩ := ixN_seq hj
 have hl := r.length
 have hn := line63
 have I' : Inv X pins σ (upd H p (.lst (xs.set j v))) { s with heap := s.heap.update p (Obj.mapSeq (·.setIfInBounds j u)) } :=
  I.lstUpd hp ho (mapSeq_set its n j u) (r.set rv j) (by rw [List.length_set]; exact hz) s.toks
 by_cases h0 : 0 <= k
 ·have hk : k.toNat = j := by
   rw [seqIndex_of h0 h4] at h1
   exact Option.some.inj h1
  exact PySem.W.ki_setAt ho h0 (by omega) (by rw [List.size_toArray, <- hl]; exact h4) (by rw [hk]; exact ⟨_, I', q⟩)
 ·have hk : (k + (its.toArray.size : Int)).toNat = j := by
   rw [seqIndex_neg (by omega) h3] at h1
   rw [List.size_toArray, <- hl]
   exact Option.some.inj h1
  exact PySem.W.ki_setBack ho (by omega) (by rw [List.size_toArray, <- hl]; exact h3) (by omega) (by rw [hk]; exact ⟨_, I', q⟩)
theorem slice_bounds (lo hi : Option Int) (n : Nat) : (sliceBounds lo hi none n).1 = ((HT.sIx n 0 lo : Nat) : Int) /\ (sliceBounds lo hi none n).2.1 = ((HT.sIx n n hi : Nat) : Int) /\ (sliceBounds lo hi none n).2.2 = 1 := by
 refine ⟨?_, ?_, rfl⟩
 ·cases lo with
  | none => simp [sliceBounds, HT.sIx]
  | some i =>
   simp only [sliceBounds, HT.sIx, Option.getD_none, show (1 : Int) > 0 by decide, if_true]
   by_cases h : i < 0
   ·simp only [h, if_true] <;> omega
   ·simp only [h, if_false] <;> omega
 ·cases hi with
  | none => simp [sliceBounds, HT.sIx]
  | some i =>
   simp only [sliceBounds, HT.sIx, Option.getD_none, show (1 : Int) > 0 by decide, if_true]
   by_cases h : i < 0
   ·simp only [h, if_true] <;> omega
   ·simp only [h, if_false] <;> omega
theorem slicePick_cut (its : List Value) (lo hi : Option Int) : slicePick its.toArray lo hi none = ((its.drop (HT.sIx its.length 0 lo)).take (HT.sIx its.length its.length hi - HT.sIx its.length 0 lo)).toArray := by
 obtain ⟨h1, h2, h3⟩ := slice_bounds lo hi its.toArray.size
 unfold slicePick
 rw [h1, h2, h3]
 simp only [sliceRange_one, pick_run, List.size_toArray] <;> rfl
noncomputable def rSlL (K : PySem.W.Frag) : V -> Option Int -> Option Int -> Hp -> VK -> Prop := fun x lo hi H Q => ∃ a xs, x = .ref a /\ SqL K H a xs /\ ∀ p, H p = none -> Q (.ref p) (upd H p (.lst (cutV xs lo hi)))
theorem sl_list : SlR X (rSlL X.K) := by
 intro pins s σ H x v vl vu lo hi sl Q I rx hs pl pu h
 obtain ⟨a, xs, rfl, hx, q⟩ := h
 cases rx
 obtain ⟨its, r, ht, hz⟩ := I.list hx
 have hlen := r.length
 refine ⟨"list", _, slot_list_getitem.lookup, ht.isList.typeIs, ?_⟩
 refine wpAny_getItem_list_slice ht.isList hs pl pu .none (by simp) ?_ (by rw [List.size_toArray] <;> omega)
 rw [slicePick_cut, <- hlen]
 refine ⟨.ref s.heap.objs.size, _, I.laid (t' := s.toks) (o := .lst (cutV xs lo hi)) (fun b ob q => Heap.get?_push_of_some _ q) (Nat.le_refl _) ?_, rfl, q _ (I.hok.fresh (Nat.le_refl _))⟩
 exact ⟨Nat.le_trans (cutV_length xs lo hi) hz, _, 0, (r.drop (HT.sIx xs.length 0 lo)).take (HT.sIx xs.length xs.length hi - HT.sIx xs.length 0 lo), Heap.get?_push_size _ rfl⟩
noncomputable def flatV : V -> Bool
 | .non => true
 | .bl _ => true
 | .int _ => true
 | .str _ => true
 | _ => false
noncomputable def eqV : V -> V -> Bool
 | .non, .non => true
 | .bl a, .bl b => a == b
 | .bl a, .int b => (if a then 1 else 0) == b
 | .int a, .bl b => a == (if b then 1 else 0)
 | .int a, .int b => a == b
 | .str a, .str b => a == b
 | _, _ => false
noncomputable def eqU (x : V) (u : Value) : Bool := match u with
 | .none => eqV .non x
 | .bool b => eqV (.bl b) x
 | .int i _ => eqV (.int i) x
 | .str z _ => eqV (.str z) x
 | _ => false
noncomputable def inV (x : V) (xs : List V) : Bool := xs.any fun y => eqV y x
noncomputable def rIn (K : PySem.W.Frag) (neg : Bool) : R2 := fun x y H Q => ∃ p xs, y = .ref p /\ (SqL K H p xs \/ SqT K H p xs) /\ flatV x = true /\ xs.all flatV = true /\ Q (.bl (if neg then !inV x xs else inV x xs)) H
theorem call_len_seq : CallR X (.builtin "len") (fun xs H Q => ∃ p ys, xs = [.ref p] /\ (SqL X.K H p ys \/ SqT X.K H p ys) /\ Q (.int ys.length) H) := by
 intro pins s σ H xs us Q I r h
 obtain ⟨p, ys, rfl, hq, q⟩ := h
 obtain ⟨u, rfl, rx⟩ := vals1 r
 cases rx
 have hn := line63
 rcases hq with hq | hq
 ·obtain ⟨its, r', pl, hz⟩ := I.list hq
  have hlen := r'.length
  exact Calls.call_len_list pl.isList (by simp only [List.size_toArray] <;> omega) ⟨.int ys.length, H, I.tok _, ⟨s.toks + 1, by rw [List.size_toArray, hlen]⟩, q⟩
 ·obtain ⟨its, r', pl, hz⟩ := I.tuple hq
  have hlen := r'.length
  exact len_tuple pl (by simp only [List.size_toArray] <;> omega) ⟨.int ys.length, H, I.tok _, ⟨s.toks + 1, by rw [List.size_toArray, hlen]⟩, q⟩
theorem call_list_of : CallR X (.type "list") (fun xs H Q => ∃ p ys, xs = [.ref p] /\ (SqL X.K H p ys \/ SqT X.K H p ys) /\ ∀ l, H l = none -> Q (.ref l) (upd H l (.lst ys))) := by
 intro pins s σ H xs us Q I r h
 obtain ⟨p, ys, rfl, hq, q⟩ := h
 obtain ⟨u, rfl, rx⟩ := vals1 r
 cases rx
 have fin : ∀ (its : List Value), Vals ys its -> ys.length <= sizeLine -> ∀ (h' : Heap) (c' : Nat), (∀ b o', s.heap.get? b = some o' -> h'.get? b = some o') ->
   h'.get? s.heap.objs.size = some { cls := .type "list", dict := none, data := .seq its.toArray c', slots := #[] } -> EP X pins σ Q (.ref s.heap.objs.size) { s with heap := h' } := fun its r' hz h' c' kp e =>
  ⟨.ref s.heap.objs.size, _, I.laid (t' := s.toks) kp (Nat.le_refl _) (show ObjOk X.prog X.w _ h' _ (.lst ys) from ⟨hz, its, c', r', e⟩), rfl, q _ (I.hok.fresh (Nat.le_refl _))⟩
 rcases hq with hq | hq
 ·obtain ⟨its, r', pl, hz⟩ := I.list hq
  have hlen := r'.length
  obtain ⟨o, ho, hc, n, hd⟩ := pl.isList
  exact call_list_seq p (.inl rfl) ho hc hd (fun h' c' kp e => fin its r' hz h' c' kp e) (by simp only [List.size_toArray] <;> omega)
 ·obtain ⟨its, r', pl, hz⟩ := I.tuple hq
  have hlen := r'.length
  obtain ⟨o, ho, hc, n, hd⟩ := pl
  exact call_list_seq p (.inr rfl) ho hc hd (fun h' c' kp e => fin its r' hz h' c' kp e) (by simp only [List.size_toArray] <;> omega)
noncomputable def tyV (K : PySem.W.Frag) (T : String) (x : V) (H : Hp) : Prop := match x with
 | .str _ => T = "str"
 | .int _ => T = "int"
 | .ref p => (T = "list" /\ ∃ xs, SqL K H p xs) \/ (T = "tuple" /\ ∃ o, K.lookup p = some o /\ o.cls = .type "tuple" /\ o.dict = none) \/
   (T = "dict" /\ ((∃ kvs, H p = some (.dK kvs)) \/ ∃ kvs, H p = some (.dT kvs))) \/ (T = "set" /\ ∃ S n, H p = some (.set S n))
 | _ => False
theorem tyV_is {pins : List (Addr × Obj)} {σ : St} {H : Hp} {s : Shared} {T : String} {x : V} {v : Value} (I : Inv X pins σ H s) (r : RelV x v) (ty : tyV X.K T x H) :
  s.TypeIs v T /\ ∀ a, v = .ref a -> ∃ ob, s.heap.get? a = some ob /\ ob.dict = none := by
 cases x with
 | str z =>
  obtain ⟨t, rfl⟩ := r
  cases (show T = "str" from ty)
  exact ⟨typeIs_str s z t, fun _ e => nomatch e⟩
 | int i =>
  obtain ⟨t, rfl⟩ := r
  cases (show T = "int" from ty)
  exact ⟨typeIs_int s i t, fun _ e => nomatch e⟩
 | ref p =>
  cases r
  rcases ty with ⟨rfl, xs, hq⟩ | ⟨rfl, o, hk, hc, hd⟩ | ⟨rfl, hk⟩ | ⟨rfl, S, n, hk⟩
  ·obtain ⟨its, _, pl, _⟩ := I.list hq
   refine ⟨pl.isList.typeIs, fun a e => ?_⟩
   cases e
   obtain ⟨o, n, e, c, hd, _⟩ := pl
   exact ⟨o, e, hd⟩
  ·refine ⟨⟨o, I.kIn p o hk, hc⟩, fun a e => ?_⟩
   cases e
   exact ⟨o, I.kIn _ o hk, hd⟩
  ·have z : ∃ o, s.heap.get? p = some o /\ o.ExactDict := by
    rcases hk with ⟨kvs, hk⟩ | ⟨kvs, hk⟩
    ·obtain ⟨_, _, _, _, o, _, _, e, ex, _⟩ := I.hok p _ hk
     exact ⟨o, e, ex⟩
    ·obtain ⟨_, _, _, _, o, _, _, e, ex, _⟩ := I.hok p _ hk
     exact ⟨o, e, ex⟩
   obtain ⟨o, e, ex⟩ := z
   refine ⟨⟨o, e, ex.1⟩, fun a e2 => ?_⟩
   cases e2
   exact ⟨o, e, ex.2.1⟩
  ·obtain ⟨o, _, _, _, e, ex, _⟩ := I.hok p _ hk
   refine ⟨⟨o, e, ex.1⟩, fun a e2 => ?_⟩
   cases e2
   exact ⟨o, e, ex.2.1⟩
 | _ => exact False.elim ty
noncomputable def tBM0 (K : PySem.W.Frag) (T : String) (r : V -> List V -> Hp -> VK -> Prop) (to : TE) : TE := fun σ H Q => to σ H fun x H1 => tyV K T x H1 /\ r x [] H1 Q
noncomputable def tBM (K : PySem.W.Frag) (T : String) (r : V -> List V -> Hp -> VK -> Prop) (to : TE) (t : TA) : TE := fun σ H Q => to σ H fun x H1 => tyV K T x H1 /\ t σ H1 fun xs H2 => r x xs H2 Q
variable {o e : Expr} {es : List Expr} {to : TE} {t : TA} {name : Str} {apos cpos : Pos} {T id : String} {r : V -> List V -> Hp -> VK -> Prop}
theorem pe_bm0 (pa : PlainAttrs T) (slot : Slot T name id) (hty : typeOf (.builtin id) = pure (.type "method_descriptor")) (hm : MtR X id r) (ho : PE X o to)
  (hbase : attributeBase o name X.env (eval o X.env) = eval o X.env := by rfl) (hline : (apos.endLine == cpos.line) = true := by rfl) : PE X (.Call (.Attribute o name apos) [] [] cpos) (tBM0 X.K T r to) := by
 intro pins s σ H Q I h
 refine wpAny_Call_method0_late hbase hline (thn (ho pins s σ H _ I h) fun v s1 ⟨x, H1, I1, r1, ty, q1⟩ => ?_)
 obtain ⟨h1, h2⟩ := tyV_is I1 r1 ty
 exact ⟨T, id, pa, slot, hty, h1, h2, Calls.callWith_builtin rfl (PySem.evalArgs_none (hm pins s1 σ H1 x [] v [] Q I1 r1 .nil q1))⟩
theorem pe_bm (pa : PlainAttrs T) (slot : Slot T name id) (hty : typeOf (.builtin id) = pure (.type "method_descriptor")) (hm : MtR X id r) (ho : PE X o to) (ha : PA X (e :: es) t)
  (hbase : attributeBase o name X.env (eval o X.env) = eval o X.env := by rfl)
  (hfew : ((backTo cpos (starEach (e :: es) X.env)).all (fun x => !x.1) && (backToKw cpos (keywordEach [] X.env)).all (fun x => x.1.isSome)
   && decide ((e :: es).length + ([] : List Keyword).length + (if ([] : List Keyword).isEmpty then 0 else 1) < 30)) = true := by rfl)
  (hline : (apos.endLine == cpos.line) = true := by rfl) (hs : starEach (e :: es) X.env = (false, eval e X.env) :: starEach es X.env := by rfl) (hplain : (backTo cpos (starEach es X.env)).any (·.1) = false := by rfl) :
  PE X (.Call (.Attribute o name apos) (e :: es) [] cpos) (tBM X.K T r to t) := by
 intro pins s σ H Q I h
 refine wpAny_Call_method_late hbase hfew hline rfl (thn (ho pins s σ H _ I h) fun v s1 ⟨x, H1, I1, r1, ty, q1⟩ => ?_)
 obtain ⟨h1, h2⟩ := tyV_is I1 r1 ty
 refine ⟨T, id, pa, slot, hty, h1, h2, ?_⟩
 have hA := ha cpos pins s1 σ H1 _ I1 q1
 rw [hs] at hA ⊢
 refine Calls.callWith_builtin (by show (false || (backTo cpos (starEach es X.env)).any (·.1)) = false; rw [hplain] <;> rfl) (Calls.evalArgs_plain ?_)
 exact thn hA fun us s2 ⟨vs, H2, I2, r2, q2⟩ => hm pins s2 σ H2 x vs v us Q I2 r1 r2 q2
end
end L2
namespace L2
open PySem PySem.Spec PyProof.Rows
noncomputable def MtM (X : Cx) (id : String) (r : V -> List V -> Hp -> VK -> Prop) : Prop :=
 ∀ (pins : List (Addr × Obj)) (s : Shared) (σ : St) (H : Hp) (x : V) (xs : List V) (v : Value) (us : List Value) (Q : VK), Inv X pins σ H s -> RelV x v -> Vals xs us -> r x xs H Q ->
  wpAny (model X.prog X.w) X.A (call (.builtin id) (v :: us)) (EP X pins σ Q) X.xe s
theorem Vals.hd {x : V} {xs : List V} {us : List Value} (h : Vals (x :: xs) us) : ∃ u vs, us = u :: vs /\ RelV x u /\ Vals xs vs := by
 cases h with | cons r t => exact ⟨_, _, rfl, r, t⟩
theorem Vals.no {us : List Value} (h : Vals [] us) : us = [] := by
 cases h
 rfl
theorem Vals.one {x : V} {us : List Value} (h : Vals [x] us) : ∃ u, us = [u] /\ RelV x u := by
 obtain ⟨u, vs, rfl, r, t⟩ := h.hd
 rw [t.no]
 exact ⟨u, rfl, r⟩
theorem Vals.two {x y : V} {us : List Value} (h : Vals [x, y] us) : ∃ u v, us = [u, v] /\ RelV x u /\ RelV y v := by
 obtain ⟨u, vs, rfl, r, t⟩ := h.hd
 obtain ⟨v, rfl, q⟩ := t.one
 exact ⟨u, v, rfl, r, q⟩
theorem Vals.zero : ∀ {us : List Value}, Vals [] us -> us = []
 | _, .nil => rfl
theorem Vals.dropLast {xs : List V} {us : List Value} (h : Vals xs us) : Vals xs.dropLast us.dropLast := by
 induction h with
 | nil => exact .nil
 | cons r t ih =>
  cases t with
  | nil => exact .nil
  | cons q t' => exact .cons r ih
theorem Vals.reverse {xs : List V} {us : List Value} (h : Vals xs us) : Vals xs.reverse us.reverse := by
 induction h with
 | nil => exact .nil
 | cons r t ih => rw [List.reverse_cons, List.reverse_cons]; exact Vals.append ih (.cons r .nil)
theorem Vals.rep {xs : List V} {us : List Value} (h : Vals xs us) : ∀ k : Nat, Vals (List.replicate k xs).flatten (List.replicate k us).flatten
 | 0 => .nil
 | k + 1 => by
  rw [List.replicate_succ, List.replicate_succ, List.flatten_cons, List.flatten_cons]
  exact Vals.append h (Vals.rep h k)
theorem erase_last {α : Type} (l : List α) : l.eraseIdx (l.length - 1) = l.dropLast := by
 induction l with
 | nil => rfl
 | cons a r ih =>
  cases r with
  | nil => rfl
  | cons b r =>
   have e : (a :: b :: r).length - 1 = ((b :: r).length - 1) + 1 := by
    have h1 : (a :: b :: r).length = r.length + 2 := rfl
    have h2 : (b :: r).length = r.length + 1 := rfl
    omega
   rw [e, List.eraseIdx_cons_succ, ih]
   all_goals rfl
theorem foldl_rep (its : List Value) : ∀ (k : Nat) (acc : List Value),
  List.foldl (fun x1 x2 => x1 ++ x2) acc.toArray (List.replicate k its.toArray) = (acc ++ (List.replicate k its).flatten).toArray
 | 0, acc => by simp
 | k + 1, acc => by
  have e : acc.toArray ++ its.toArray = (acc ++ its).toArray := by simp
  have e2 : (acc ++ its) ++ (List.replicate k its).flatten = acc ++ (List.replicate (k + 1) its).flatten := by
   rw [List.replicate_succ, List.flatten_cons, List.append_assoc]
  rw [<- e2, <- foldl_rep its k (acc ++ its), <- e, List.replicate_succ, List.foldl_cons]
section
variable {X : Cx} {pins : List (Addr × Obj)} {σ : St} {H : Hp} {s : Shared} {l b : Addr} {xs ys zs : List V}
theorem Inv.lset {its its' : List Value} {n : Nat} {f : Array Value -> Array Value} {t' : Nat} (I : Inv X pins σ H s) (hH : H l = some (.lst xs))
  (e : s.heap.get? l = some { cls := .type "list", data := .seq its.toArray n }) (hf : f its.toArray = its'.toArray) (hv : Vals ys its') (hz : ys.length <= sizeLine) :
  Inv X pins σ (upd H l (.lst ys)) { s with heap := s.heap.update l (Obj.mapSeq f), toks := t' } := by
 have q := PySem.IsL.update e f
 rw [hf] at q
 refine I.write (x := l) (e := l) (by rw [hH]; exact trivial) (.inl rfl) (fun b' u hb hu => (Heap.get?_update_other s.heap (Obj.mapSeq f) (Ne.symm hb)).trans hu) ⟨_, q⟩ ?_
 exact ⟨hz, its', _, hv, q⟩
theorem Inv.lnew {its : List Value} {t' : Nat} (I : Inv X pins σ H s) (hv : Vals ys its) (hz : ys.length <= sizeLine) :
  Inv X pins σ (upd H s.heap.objs.size (.lst ys)) { s with heap := s.heap.push { cls := .type "list", data := .seq its.toArray }, toks := t' } :=
 I.laid (fun _ _ q => Heap.get?_push_of_some _ q) (Nat.le_refl _) ⟨hz, its, 0, hv, Heap.get?_push_size _ rfl⟩
theorem Inv.fresh (I : Inv X pins σ H s) : H s.heap.objs.size = none := I.hok.fresh (Nat.le_refl _)
theorem Inv.lstM (I : Inv X pins σ H s) (hH : H l = some (.lst xs)) : xs.length <= sizeLine /\ ∃ (its : List Value) (n : Nat), Vals xs its /\ xs.length = its.length /\ s.heap.get? l = some { cls := .type "list", data := .seq its.toArray n } := by
 obtain ⟨z, its, n, r, e⟩ := I.hok l _ hH
 exact ⟨z, its, n, r, r.length, e⟩
theorem notLongL {n : Nat} (h : n <= sizeLine) : Builtin.List.listTooLong n = false := by
 unfold Builtin.List.listTooLong
 exact decide_eq_false (by omega)
end
section
variable {X : Cx}
inductive rAppend (x : V) (vs : List V) (H : Hp) (Q : VK) : Prop
 | mk (l : _) (xs : _) (y : _) (c0 : x = .ref l) (c1 : vs = [y]) (c2 : H l = some (.lst xs)) (c3 : xs.length < sizeLine) (c4 : Q .non (upd H l (.lst (xs ++ [y])))) : rAppend  x vs H Q
theorem mt_append : MtM X "list.append" rAppend := by
 intro pins s σ H x vs v us Q I rx rv h
 obtain ⟨l, xs, y, rfl, rfl, hH, hz, q⟩ := h
 cases rx
 obtain ⟨u, rfl, ru⟩ := rv.one
 obtain ⟨z, its, n, r, hl, e⟩ := I.lstM hH
 refine call_meets F.slot_list_append ⟨_, e, rfl⟩ F.entry_list_append (F.args_list_append_2 _ _) (PySem.list_append l its.toArray n u (by rw [List.size_toArray]; omega)) ⟨e, ?_⟩
 refine ⟨.non, _, I.lset (its' := its ++ [u]) hH e (by simp) (r.append (.cons ru .nil)) ?_, rfl, q⟩
 rw [List.length_append, List.length_singleton]
 omega
noncomputable def rExtend : V -> List V -> Hp -> VK -> Prop := fun x vs H Q => ∃ l b xs zs, x = .ref l /\ vs = [.ref b] /\ H l = some (.lst xs) /\ H b = some (.lst zs) /\ xs.length + zs.length <= sizeLine /\ Q .non (upd H l (.lst (xs ++ zs)))
theorem mt_extend : MtM X "list.extend" rExtend := by
 intro pins s σ H x vs v us Q I rx rv h
 obtain ⟨l, b, xs, zs, rfl, rfl, hH, hB, hz, q⟩ := h
 cases rx
 obtain ⟨u, rfl, ru⟩ := rv.one
 cases ru
 obtain ⟨z, its, n, r, hl, e⟩ := I.lstM hH
 obtain ⟨z2, its2, n2, r2, hl2, e2⟩ := I.lstM hB
 have hsz : its.toArray.size + its2.toArray.size <= sizeLine := by rw [List.size_toArray, List.size_toArray]; omega
 have hlong : ¬ (!its.toArray.isEmpty && Builtin.List.listTooLong (its.toArray.size + its2.toArray.size)) = true := by
  rw [notLongL hsz, Bool.and_false]
  exact Bool.false_ne_true
 refine call_meets F.slot_list_extend ⟨_, e, rfl⟩ F.entry_list_extend (F.args_list_extend_2 _ _)
  (AutoSeq1.list_extend_list_list_0 l its.toArray n b its2.toArray n2 hlong (by rw [List.size_toArray]; omega) (by omega)) ⟨e, e2, ?_⟩
 refine ⟨.non, _, I.lset (its' := its ++ its2) hH e (by simp) (r.append r2) ?_, rfl, q⟩
 rw [List.length_append]
 omega
noncomputable def rPop : V -> List V -> Hp -> VK -> Prop := fun x vs H Q => ∃ l xs y, x = .ref l /\ vs = [] /\ H l = some (.lst xs) /\ xs[xs.length - 1]? = some y /\ Q y (upd H l (.lst xs.dropLast))
theorem mt_pop : MtM X "list.pop" rPop := by
 intro pins s σ H x vs v us Q I rx rv h
 obtain ⟨l, xs, y, rfl, rfl, hH, hy, q⟩ := h
 cases rx
 have hus := rv.zero
 subst hus
 obtain ⟨z, its, n, r, hl, e⟩ := I.lstM hH
 obtain ⟨u, hu, ru⟩ := r.get hy
 have hy' : its.toArray[its.toArray.size - 1]? = some u := by
  show its.toArray[its.length - 1]? = some u
  rw [<- Array.getElem?_toList, <- hl]
  exact hu
 refine call_meets F.slot_list_pop ⟨_, e, rfl⟩ F.entry_list_pop (F.args_list_pop_1 _) (MeetsSeq.list_pop_last l its.toArray n u hy' (by rw [List.size_toArray]; omega)) ⟨e, ?_⟩
 refine ⟨y, _, I.lset (its' := its.dropLast) hH e ?_ r.dropLast ?_, ru, q⟩
 ·show its.toArray.eraseIdxIfInBounds (its.toArray.size - 1) = its.dropLast.toArray
  rw [List.size_toArray, List.eraseIdxIfInBounds_toArray, erase_last]
 ·rw [List.length_dropLast]
  omega
noncomputable def rPopAt : V -> List V -> Hp -> VK -> Prop := fun x vs H Q => ∃ l xs i k y, x = .ref l /\ vs = [.int i] /\ H l = some (.lst xs) /\ -(2 ^ 63) <= i /\ i < 2 ^ 63 /\ seqIndex? i xs.length = some k /\ xs[k]? = some y /\ Q y (upd H l (.lst (xs.eraseIdx k)))
noncomputable def rReverse : V -> List V -> Hp -> VK -> Prop := fun x vs H Q => ∃ l xs, x = .ref l /\ vs = [] /\ H l = some (.lst xs) /\ Q .non (upd H l (.lst xs.reverse))
noncomputable def rClear : V -> List V -> Hp -> VK -> Prop := fun x vs H Q => ∃ l xs, x = .ref l /\ vs = [] /\ H l = some (.lst xs) /\ Q .non (upd H l (.lst []))
inductive rCat (x : V) (y : V) (H : Hp) (Q : VK) : Prop
 | mk (l : _) (b : _) (xs : _) (zs : _) (c0 : x = .ref l) (c1 : y = .ref b) (c2 : H l = some (.lst xs)) (c3 : H b = some (.lst zs)) (c4 : xs.length + zs.length <= sizeLine) (c5 : ∀ p, H p = none -> Q (.ref p) (upd H p (.lst (xs ++ zs)))) : rCat  x y H Q
theorem op_cat : OpR X (binaryOp .Add) rCat := by
 intro pins s σ H x y v u Q I rx ry h
 obtain ⟨l, b, xs, zs, rfl, rfl, hH, hB, hz, q⟩ := h
 cases rx
 cases ry
 obtain ⟨z, its, n, r, hl, e⟩ := I.lstM hH
 obtain ⟨z2, its2, n2, r2, hl2, e2⟩ := I.lstM hB
 refine PySem.P.add_list e e2 ?_ (by rw [List.size_toArray, List.size_toArray]; omega)
 have ea : its.toArray ++ its2.toArray = (its ++ its2).toArray := by simp
 rw [ea]
 exact ⟨.ref _, _, I.lnew (t' := s.toks) (r.append r2) (by rw [List.length_append]; omega), rfl, q _ I.fresh⟩
noncomputable def rRep : R2 := fun x y H Q => ∃ l k xs, x = .ref l /\ y = .int k /\ H l = some (.lst xs) /\ -(2 ^ 63) <= k /\ k < 2 ^ 63 /\ xs.length * k.toNat <= sizeLine /\
 ∀ p, H p = none -> Q (.ref p) (upd H p (.lst (List.replicate k.toNat xs).flatten))
theorem len_rep {α : Type} (xs : List α) (k : Nat) : (List.replicate k xs).flatten.length = k * xs.length := by
 induction k with
 | zero => simp
 | succ k ih => rw [List.replicate_succ, List.flatten_cons, List.length_append, ih, Nat.succ_mul, Nat.add_comm]
theorem op_rep : OpR X (binaryOp .Mult) rRep := by
 intro pins s σ H x y v u Q I rx ry h
 obtain ⟨l, k, xs, rfl, rfl, hH, h1, h2, hz, q⟩ := h
 cases rx
 obtain ⟨t, rfl⟩ := ry
 obtain ⟨z, its, n, r, hl, e⟩ := I.lstM hH
 have hlen : its.toArray.size * k.toNat <= sizeLine := by rw [List.size_toArray, <- hl]; exact hz
 have hcap : ¬ its.toArray.size * k.toNat > (2 ^ 63 - 1) / 8 := by
  have : (sizeLine : Nat) <= (2 ^ 63 - 1) / 8 := by decide
  omega
 have hfit : ¬ (!Builtin.List.listFitsIndex k) = true := by
  rw [fitsIndex_both h1 h2]
  exact Bool.false_ne_true
 have hlong : ¬ Builtin.List.listTooLong (its.toArray.size * k.toNat) = true := by
  rw [notLongL hlen]
  exact Bool.false_ne_true
 have hnew : List.foldl (fun x1 x2 => x1 ++ x2) #[] (List.replicate (if its.toArray.isEmpty = true then 0 else k.toNat) its.toArray) = (List.replicate k.toNat its).flatten.toArray := by
  have f0 : ∀ m : Nat, List.foldl (fun x1 x2 => x1 ++ x2) #[] (List.replicate m its.toArray) = (List.replicate m its).flatten.toArray := fun m => by
   have := foldl_rep its m []
   rw [List.nil_append] at this
   exact this
  rw [f0]
  cases its with
  | nil => simp
  | cons a r' => rw [if_neg (by simp)]
 refine wpAny_binaryOp_repeat_ref (T := "list") (U := "int") (by decide) ⟨_, e, rfl⟩ (fun s' => typeIs_int s' k t) noFill_list_mul F.fills_int_mul F.slot_int_rmul repeat_list F.slot_int_index.lookup
  (call_meets F.slot_int_rmul (typeIs_int s k t) F.entry_int_rmul (F.args_int_rmul_2 _ _) (int___rmul___int_list k t l its.toArray n)
   ⟨e, rfl, ⟨_, e, rfl⟩, call_meets F.slot_list_mul ⟨_, e, rfl⟩ F.entry_list_mul (F.args_list_mul_2 _ _) (AutoListH.list___mul___list_int_3 l its.toArray n k t hfit hcap hlong) ⟨e, ?_⟩⟩)
 rw [hnew]
 exact ⟨.ref _, _, I.lnew (t' := s.toks) (r.rep k.toNat) (by rw [len_rep, Nat.mul_comm]; exact hz), rfl, q _ I.fresh⟩
end
section
variable {prog : Program} {w : World} {A : Around} {E : Value -> Shared -> Prop} {s : Shared}
end
section
variable {X : Cx}
end
end L2
namespace Att
open PySem PySem.W PySem.Calls PyProof.Rows
theorem ints_of_wellAll {P : Params} {h : Heap} : ∀ (ns : List Int) (vs : List Value), WellAll P h vs (ns.map WData.int) -> IntsAre vs ns := by
 intro ns
 induction ns with
 | nil =>
  intro vs w
  rw [List.map_nil] at w
  cases w
  exact .nil
 | cons n ns ih =>
  intro vs w
  rw [List.map_cons] at w
  cases w with
  | cons a b =>
   cases a
   exact .cons _ _ (ih _ b)
theorem script_of {l : OpenLaw} {n : Nat} (hn : l.most = some n) {P : Params} {h : Heap} {args : List WData} {vals : List Value}
  (hpre : l.row.toRowW.claim.pre args = true) (hwl : WellAll P h vals args) :
  ∃ a vs ns, vals = [Value.ref a] /\ args = [WData.list (ns.map WData.int)] /\ h.get? a = some { cls := .type "list", data := .seq vs.toArray } /\ IntsAre vs ns /\ ns.length <= n := by
 have hsh : WShape.hasAll [] args [.list .int] = true := (pre_splitW hpre).1
 have hc : l.pre.holds [] { args := args } = true := (pre_splitW hpre).2
 obtain ⟨d, r, rfl, h1, h2⟩ := hasAllW_cons hsh
 obtain rfl := hasAllW_nil h2
 obtain ⟨xs, rfl, h3⟩ := hasW_list h1
 obtain ⟨ns, rfl⟩ := items_int h3
 have hlen : ns.length <= n := by
  unfold OpenLaw.pre at hc
  have h4 : (WTm.not (.lt (.lit (.int (n : Int))) (.len (.arg 0)))).holds [] { args := [.list (ns.map .int)] } = true := by
   have h4 := (holds_andW hc).1
   rw [hn] at h4
   exact h4
  have h5 := condW_of h4 (w_not (w_lt w_lit (w_len_list (w_arg rfl))))
  rw [List.length_map] at h5
  refine Nat.le_of_not_lt fun q => ?_
  have q' : (n : Int) < ((ns.length : Nat) : Int) := by omega
  first
   | (rw [decide_eq_true q'] at h5; exact absurd h5 (by decide))
   | (simp at h5; omega)
 cases hwl with
 | cons w1 w2 =>
  cases w2
  cases w1 with
  | list ho hall => exact ⟨_, _, ns, rfl, rfl, ho, ints_of_wellAll ns _ hall, hlen⟩
theorem post_true (l : OpenLaw) (args : List WData) : l.row.toRowW.claim.post args (.bool true) args = true :=
 postW_of (r := l.row.toRowW) (X := (true == true))
  (show WShape.has [] (.bool true) .bool = true by first | rfl | decide | simp [WShape.has, WShape.arms, WShape.armsAll])
  (show (WTm.eq .res (.lit (.bool true))).value [] { args := args, res := some (.bool true), after := args } = some (.bool (true == true)) from w_eq_bool (w_res rfl) w_lit) rfl
theorem attach_call {l : OpenLaw} {n : Nat} {q : Program} {loose : List Str} {XP : (Str -> Option Value) -> Heap -> Prop} {YP : World -> Heap -> Prop} {d : DefRec}
  (hn : l.most = some n) (hdf : d.params.defaults = [])
  (call : ∀ (w : World) (s₀ s₁ : Shared) (mg mb : Str -> Option Value) (fa : Addr) (o : Obj) (pm cd doc : Value) (a : Addr) (vs : List Value) (ns : List Int),
   Ground q loose [] XP w s₀ mg mb s₁.heap -> YP w s₁.heap ->
   s₁.heap.get? fa = some o -> o.data = .func (docDef d.name d.params d.body d.scope pm cd doc) -> s₁.heap.CodeRec cd d.name -> mg d.name = some (.ref fa) ->
   s₁.heap.get? a = some { cls := .type "list", data := .seq vs.toArray } -> IntsAre vs ns -> ns.length <= n -> s₁.gens = #[] ->
   codeAny (model l.prog w) callerA (.call (.ref fa) ⟨[.ref a], []⟩) (fun r s' => r = .ok (.ret (.bool true)) /\ OldK s₁.heap s'.heap /\ s'.os = s₁.os /\ AllBare s'.gens) s₁) :
  WalkO q loose XP YP l.row.toRowW d [] (fun f vs => PySem.call f vs) := by
 intro w s₀ s₁ mg mb G Y fa o pm cd doc dV kV ho hd hcd hD hmg hg args vals as hpre hlay hrd hwl hlo
 obtain rfl : dV = .none := Dflts.none hD hdf
 obtain rfl : kV = .none := Dflts.noKw hD
 obtain ⟨a, vs, ns, rfl, rfl, hobj, hints, hlen⟩ := script_of hn hpre hwl
 refine enter_call (codeAny_mono (call w s₀ s₁ mg mb fa o pm cd doc a vs ns G Y ho (fd_plain hd) hcd hmg hobj hints hlen hg) fun r s' hq => ?_)
 obtain ⟨rfl, h2, h3, h4⟩ := hq
 exact ⟨.inl ⟨.bool true, .bool true, [], rfl, fun _ => rfl, .bool true, post_true l _, fun _ => ⟨List.Pairwise.nil, fun _ hm => (nomatch hm)⟩⟩, h2, h3, h4⟩
section
variable {prog : Program} {w : World} {A : Around} {E : Value -> Shared -> Prop} {s : Shared} {K : Frag}
noncomputable def noObjs (h : Heap) : Heap := { h with objs := #[] }
noncomputable def ledger (h : Heap) (L d : Addr) : List (Addr × Obj) := (List.range h.objs.size).filterMap fun a => if a = L \/ a = d then none else (h.get? a).map fun o => (a, o)
end
end Att
namespace L2
open PySem PySem.Spec PyProof.Rows
theorem vals_ints : ∀ {vs : List Value} {ns : List Int}, IntsAre vs ns -> Vals (ns.map V.int) vs
 | _, _, .nil => .nil
 | _, _, .cons n t h => .cons ⟨t, rfl⟩ (vals_ints h)
noncomputable def Only (H : Hp) : Prop := ∀ b, H b = none \/ ∃ o xs, H b = some (.frz o (.lst xs))
set_option tactic.hygienic true in
theorem law_call {P : Program} {w : World} {K : PySem.W.Frag} {mg mb : Str -> Option Value} {CX : CXT} {k : Nat} {fa a : Addr} {fd : FuncData} {x : Str} {sp : Sp} {s₁ : Shared} {vs : List Value} {ns : List Int}
  (KX : K.In s₁.heap) (hns : s₁.heap.Ns mainGlobals mg) (hb : s₁.heap.Ns builtinsNs mb) (hbb : ∀ x : Str, x ≠ "__name__" -> mb x = bootBuiltins x) (hlim : s₁.heap.NoLimit) (hg : s₁.gens = #[])
  (ha : s₁.heap.get? a = some { cls := .type "list", data := .seq vs.toArray }) (hi : IntsAre vs ns) (hl : ns.length <= sizeLine) (hr : Room k callerA)
  (F : ∀ base : Heap, K.In base -> base.Ns mainGlobals mg -> FnOk P w K mg base CX k fa fd [x] sp) (hbind : ∀ (s : Shared) (u : Value), BindsTo s fd ⟨[u], []⟩ [(x, u)])
  (hsp : ∀ H : Hp, Only H -> SqL K H a (ns.map V.int) -> sp [.ref a] H (fun v _ => v = .bl true) fun _ _ _ => False)
  (hCX : ∀ H e s', CX [] H s₁ (fun _ _ _ => False) e s' -> False) :
  codeAny (model P w) callerA (.call (.ref fa) ⟨[.ref a], []⟩) (fun r s' => r = .ok (.ret (.bool true)) /\ OldK s₁.heap s'.heap /\ s'.os = s₁.os /\ AllBare s'.gens) s₁ := by
 have rv := vals_ints hi
 have lenV := hi.length
 have core : ∀ H : Hp, Only H -> SqL K H a (ns.map V.int) -> HOk P w H s₁.heap -> (∀ b, H b ≠ none -> b = a) -> (H a ≠ none -> K.lookup a = none) ->
   codeAny (model P w) callerA (.call (.ref fa) ⟨[.ref a], []⟩) (fun r s' => r = .ok (.ret (.bool true)) /\ OldK s₁.heap s'.heap /\ s'.os = s₁.os /\ AllBare s'.gens) s₁ := by
  intro H hO hS hok hA hK
  have base_of : ∀ {b : Addr} {o : Obj}, s₁.heap.get? b = some o -> H b = none -> (hidT s₁.heap H).get? b = some o := fun e n => hidT_get e n
  have noA : ∀ {b : Addr} {o : Obj} {es : Array DictEntry} {ep : Nat}, s₁.heap.get? b = some o -> o.data = .dict es ep -> H b = none := fun {b o es ep} e d => by
   cases q : H b with
   | none => rfl
   | some u =>
    have e' : b = a := hA b (by rw [q]; simp)
    subst e'
    rw [ha] at e; cases e
    have d' : Data.seq vs.toArray _ = Data.dict es ep := d
    cases d'
  have nsK : ∀ {b : Addr} {m : Str -> Option Value}, s₁.heap.Ns b m -> (hidT s₁.heap H).Ns b m := fun {b m} ⟨o, es, ep, e, d, r⟩ => ⟨o, es, ep, base_of e (noA e d), d, r⟩
  have hKb : K.In (hidT s₁.heap H) := fun b o e => base_of (KX b o e) (by
   cases q : H b with
   | none => rfl
   | some u =>
    have e' : b = a := hA b (by rw [q]; simp)
    subst e'
    rw [hK (by rw [q]; simp)] at e; cases e)
  have hM : Mod K mg (hidT s₁.heap H) := ⟨hKb, nsK hns, ⟨mb, nsK hb, hbb⟩, let ⟨mc, h1, h2⟩ := hlim; ⟨mc, nsK h1, h2⟩⟩
  have e0 : Env0 P w K mg (hidT s₁.heap H) callerA [] s₁ H := ⟨rfl, hM, fun b o e => of_hidT e, Nat.le_of_eq (hidT_size _ _), trivial, fun b hb => absurd (show b ∈ ([] : List Addr) from hb) (by simp), hok, .of_eq hg⟩
  refine codeAny_mono ((F _ hKb (nsK hns)).run callerA [] s₁ H ⟨[.ref a], []⟩ [.ref a] [.ref a] _ _ hr e0 (hbind s₁ (.ref a)) (.cons rfl .nil) (hsp H hO hS)) fun r s' h => ?_
  cases r with
  | error e => exact (hCX H e s' h).elim
  | ok fl =>
   cases fl with
   | next => exact False.elim h
   | brk => exact False.elim h
   | cont => exact False.elim h
   | ret u =>
    obtain ⟨v, H', os, bare, un, hok', r', q⟩ := h
    have q' : v = .bl true := q
    subst q'
    obtain rfl : u = Value.bool true := r'
    refine ⟨rfl, OldK.of_keep fun b o e => ?_, os, bare⟩
    cases q : H b with
    | none => exact un.keep b o e q (by intro z; exact absurd (show b ∈ ([] : List Addr) from z) (by simp)) (by simp)
    | some u =>
     rcases hO b with z | ⟨ob, xs, z⟩
     ·rw [q] at z; cases z
     ·have z2 := un.frzs b ob _ z
      obtain ⟨e1, _⟩ := hok b _ z
      obtain ⟨e2, _⟩ := hok' b _ z2
      rw [e] at e1; cases e1
      exact e2
 cases hk : K.lookup a with
 | some o =>
  have e := KX a o hk
  rw [ha] at e
  cases e
  refine core (fun _ => none) (fun _ => .inl rfl) (.inr ⟨_, vs.toArray, _, hk, rfl, rfl, rfl, by rw [List.size_toArray, lenV]; exact hl, by simpa using rv⟩) (fun b u z => by have z' : (none : Option HO) = some u := z; cases z') (fun b z => absurd rfl z) fun z => absurd rfl z
 | none =>
  refine core (fun b => if b = a then some (.frz { cls := .type "list", data := .seq vs.toArray } (.lst (ns.map V.int))) else none) (fun b => ?_) (.inl (.inr ⟨{ cls := .type "list", data := .seq vs.toArray }, if_pos rfl⟩)) (fun b u z => ?_) (fun b z => ?_) fun _ => hk
  ·by_cases hb : b = a
   ·exact .inr ⟨_, _, if_pos hb⟩
   ·exact .inl (if_neg hb)
  ·by_cases hb : b = a
   ·have z' := (if_pos hb).symm.trans z
    cases z'
    subst hb
    exact ⟨ha, by rw [List.length_map]; exact hl, vs, _, rv, ha⟩
   ·have z' := (if_neg hb).symm.trans z
    cases z'
  ·by_cases hb : b = a
   ·exact hb
   ·exact absurd (if_neg hb) z
end L2
namespace L2
open PySem PySem.Spec PyProof.Rows
noncomputable abbrev KOf {K : PySem.W.Frag} {h : Heap} (_ : K.In h) : PySem.W.Frag := K
theorem walk_of {l : PySem.W.OpenLaw} {n k : Nat} {q : Program} {loose : List Str} {XP : (Str -> Option Value) -> Heap -> Prop} {YP : World -> Heap -> Prop} {d : DefRec} {K : Params -> PySem.W.Frag} {CX : World -> CXT} {sp : World -> Sp} {x : Str}
  (hn : l.most = some n) (hn2 : n <= sizeLine) (hdf : d.params.defaults = []) (hr : Room k callerA)
  (hY : ∀ (w : World) (h : Heap), YP w h -> (K w.params).In h)
  (F : ∀ (w : World) (mg : Str -> Option Value) (fa : Addr) (h : Heap), (K w.params).In h -> h.Ns mainGlobals mg -> mg d.name = some (.ref fa) ->
   ∃ fd : FuncData, (∀ (s : Shared) (u : Value), BindsTo s fd ⟨[u], []⟩ [(x, u)]) /\
    ∀ base : Heap, (K w.params).In base -> base.Ns mainGlobals mg -> FnOk l.prog w (K w.params) mg base (CX w) k fa fd [x] (sp w))
  (hsp : ∀ (w : World) (H : Hp) (a : Addr) (ns : List Int), ns.length <= n -> Only H -> SqL (K w.params) H a (ns.map V.int) -> sp w [.ref a] H (fun v _ => v = .bl true) fun _ _ _ => False)
  (hCX : ∀ (w : World) (H : Hp) (s : Shared) (e : Value) (s' : Shared), CX w [] H s (fun _ _ _ => False) e s' -> False) :
  PySem.W.WalkO q loose XP YP l.row.toRowW d [] (fun f vs => PySem.call f vs) := by
 refine Att.attach_call hn hdf fun w s₀ s₁ mg mb fa o pm cd doc a vs ns G Y ho hd hcd hmg hobj hints hlen hg => ?_
 have KX := hY w _ Y
 obtain ⟨fd, hb, hF⟩ := F w mg fa _ KX G.T.g hmg
 exact law_call KX G.T.g G.T.b G.T.builtins G.T.nolimit hg hobj hints (Nat.le_trans hlen hn2) hr hF hb (fun H hO hS => hsp w H a ns hlen hO hS) fun H e s' => hCX w H s₁ e s'
end L2
namespace L2
open PySem PySem.Spec PyProof.Rows
noncomputable def inClass (s : Stmt) (j : Nat) : Stmt := match s with
 | .ClassDef _ _ _ body _ _ _ _ _ _ _ => body.getD j (.Pass ⟨0, 0, 0, 0⟩)
 | _ => .Pass ⟨0, 0, 0, 0⟩
noncomputable def defArgs (s : Stmt) : Arguments := match s with
 | .FunctionDef _ a _ _ _ _ _ _ _ _ => a
 | _ => { posonlyargs := [], args := [], vararg := none, kwonlyargs := [], kw_defaults := [], kwarg := none, defaults := [] }
noncomputable def defBody (s : Stmt) : List Stmt := match s with
 | .FunctionDef _ _ b _ _ _ _ _ _ _ => b
 | _ => []
noncomputable def defScope (s : Stmt) : Scope := match s with
 | .FunctionDef _ _ _ _ _ _ sc _ _ _ => sc
 | _ => { kind := .function, names := [], isGenerator := false, isCoroutine := false }
noncomputable abbrev CX0 : CXT := fun _ _ _ _ _ _ => False
noncomputable abbrev E0 : XK := fun _ _ _ => False
theorem pass0 {X : Cx} : Passes CX0 X E0 := fun _ _ _ _ _ _ _ h => h.elim
structure Fun (K : PySem.W.Frag) (x qual : Str) (st : Stmt) (f : Addr) (fd : FuncData) : Prop where
 ex : ∃ (oc : Value) (od : Option Addr) (kV doc pm : Value) (an : Option Addr) (cdv ct : Value) (osl : Array (Option Value)),
  fd = PySem.W.fnOf x qual (defArgs st) (defBody st) (defScope st) .none kV doc pm an cdv ct /\ K.lookup f = some ⟨oc, od, .func fd, osl⟩ /\ PySem.W.codeIn K cdv qual = true
 kp : PySem.W.keepIn K (.ref f) = true
section
variable {P : Program} {w : World} {K : PySem.W.Frag} {mg : Str -> Option Value} {base : Heap}
theorem Fun.ok {x qual : Str} {st : Stmt} {f : Addr} {fd : FuncData} {N ps : List Str} {k : Nat} {sp : Sp} (F : Fun K x qual st f fd) (S : FnScope N ps (defScope st)) (len : ∀ vs H Q E, sp vs H Q E -> vs.length = ps.length)
  (hbody : ∀ (cdv : Value) (A : Around) (outer : List Env) (s : Shared) (H : Hp) (vs : List V) (Q : VK) (E : XK), Room k (A.deeper (envOfC qual (defScope st) s.heap.objs.size f cdv)) -> sp vs H Q E ->
   ∃ t, PSs (cxOf CX0 P w K mg base N qual (defScope st) f cdv A outer s H E).nox (defBody st) t /\ t { nx := fun _ H' => Q .non H', rt := Q } (start N vs) H) : FnOk P w K mg base CX0 (k + 1) f fd ps sp := by
 obtain ⟨oc, od, kV, doc, pm, an, cdv, ct, osl, rfl, lk, hcd⟩ := F.ex
 refine fn_of lk hcd S len fun A outer s H vs Q E hr hsp => ?_
 obtain ⟨t, h, q⟩ := hbody cdv A outer s H vs Q E hr hsp
 exact ⟨t, h.nox, q⟩
theorem Fun.binds {x qual : Str} {st : Stmt} {f : Addr} {fd : FuncData} {ps : List Str} (F : Fun K x qual st f fd)
  (h : ∀ (kV doc pm : Value) (an : Option Addr) (cdv ct : Value) (us : List Value), us.length = ps.length -> bindArgs (PySem.W.fnOf x qual (defArgs st) (defBody st) (defScope st) .none kV doc pm an cdv ct) ⟨us, []⟩ = pure (ps.zip us)) : Binds K fd ps [] := by
 obtain ⟨oc, od, kV, doc, pm, an, cdv, ct, osl, rfl, lk, hcd⟩ := F.ex
 exact .all (h kV doc pm an cdv ct)
theorem fun_mk {x qual : Str} {st : Stmt} {f : Addr} {oc : Value} {od an : Option Addr} {osl : Array (Option Value)} {kV doc pm cdv ct : Value} (l : K.lookup f = some ⟨oc, od, .func (PySem.W.fnOf x qual (defArgs st) (defBody st) (defScope st) .none kV doc pm an cdv ct), osl⟩)
  (c : PySem.W.codeIn K cdv qual = true) (k : PySem.W.keepIn K (.ref f) = true) : Fun K x qual st f (PySem.W.fnOf x qual (defArgs st) (defBody st) (defScope st) .none kV doc pm an cdv ct) := ⟨⟨oc, od, kV, doc, pm, an, cdv, ct, osl, rfl, l, c⟩, k⟩
end
theorem hu_of {A : Around} {k : Nat} (hr : Room k A) : A.units + 1 < cLine := Nat.lt_of_le_of_lt (Nat.add_le_add_left (by decide : 1 <= 64) _) hr.units
theorem small1000 {n : Nat} (h : n <= 1000) : n < sizeLine := Nat.lt_of_le_of_lt h (by decide)
section
variable {X : Cx}
theorem pv (i : Nat) {x : Str} {pos : Pos} (hN : X.N[i]? = some x := by rfl) (hv : Vis X.env.scope x := by first | exact Or.inl rfl | exact Or.inr (Or.inl rfl) | exact Or.inr (Or.inr rfl)) (hd : (x == ("__debug__" : Str)) = false := by decide)
  (hcd : (x == ("__classdict__" : Str)) = false := by decide) : PE X (.Name x pos) (tVar i) := pe_var hN hv hd hcd
end
theorem iteF {A B : Prop} (h : B) : if false = true then A else B := by
 rw [if_neg Bool.false_ne_true]
 exact h
theorem iteT {A B : Prop} (h : A) : if true = true then A else B := by
 rw [if_pos rfl]
 exact h
theorem ite2 {c A B : Prop} [Decidable c] (h1 : c -> A) (h2 : ¬ c -> B) : if c then A else B := by
 by_cases h : c
 ·rw [if_pos h]
  exact h1 h
 ·rw [if_neg h]
  exact h2 h
theorem iteNS {c A B : Prop} [Decidable c] (hc : c) (h : B) : if (!decide c) = true then A else B := by
 rw [decide_eq_true hc]
 exact iteF h
noncomputable def Same (H H' : Hp) : Prop := ∀ b o, H b = some o -> H' b = some o
theorem Same.refl (H : Hp) : Same H H := fun _ _ h => h
theorem Same.trans {H H1 H2 : Hp} (a : Same H H1) (b : Same H1 H2) : Same H H2 := fun c o h => b c o (a c o h)
theorem Same.free {H H' : Hp} (e : Same H H') {l : Addr} (h : H' l = Option.none) : H l = Option.none := by
 cases q : H l with
 | none => rfl
 | some o =>
  rw [e l o q] at h
  cases h
theorem Same.seq {K : PySem.W.Frag} {H H' : Hp} {a : Addr} {xs : List V} (e : Same H H') (h : SqL K H a xs) : SqL K H' a xs := by
 rcases h with (h | ⟨o, h⟩) | h
 ·exact .inl (.inl (e _ _ h))
 ·exact .inl (.inr ⟨o, e _ _ h⟩)
 ·exact .inr h
end L2
namespace L2
open PySem PySem.Spec PyProof.Rows
section
variable {prog : Program} {w : World} {A : Around} {R : Result -> Shared -> Prop} {s : Shared}
set_option tactic.hygienic true in
theorem compLoop_all {elt tg iter : Expr} {ifs : List Expr} {scope : Scope} {pos : Pos} {it acc : Value} {env : Env} {N : Value -> Shared -> Prop} (hN : N = notedBy (model prog w) A env fun e s' => R (.error e) s') (I : Nat -> Shared -> Prop)
  (turn : ∀ n s, I n s -> wpAny (model prog w) A (pyNext it) (fun r s1 => match r with
   | none => R (.ok .next) s1
   | some v => wpAny (model prog w) A (letOwnedTupleGo tg it v) (fun _ s2 => wpAny (model prog w) A (assign tg env v) (fun _ s3 =>
     wpAny (model prog w) A (forIn ifs true fun c r => if r = true then do let ok <- isTrue c env (eval c env); pure (ForInStep.yield ok) else pure (ForInStep.yield r)) (fun ok s4 =>
      if ok = true then wpAny (model prog w) A (eval elt env) (fun x s5 => wpAny (model prog w) A (call (.builtin "list.append") [acc, x]) (fun _ s6 => ∃ m, m < n /\ I m s6) N s5) N s4
      else ∃ m, m < n /\ I m s4) N s3) N s2) N s1) N s)
  (n : Nat) (h : I n s) : codeAny (model prog w) A (.compLoop (.ListComp elt [⟨tg, iter, ifs, 0⟩] scope pos) 0 it acc env) R s := by
 subst hN
 refine codeAny_loop rfl I (fun n s hI => ?_) n h
 show wpAny _ A ((compTurn (.ListComp elt [⟨tg, iter, ifs, 0⟩] scope pos) 0 it acc env).onRaise (fun x => do noteFrame x env; theTreesLotGoes x)) _ _ s
 refine wpAny_noted ?_
 rw [compTurn_list]
 refine wpAny_bind (wpAny_standAt (wpAny_bind (wpAny_mono (turn n s hI) (fun r s1 h1 => ?_) fun _ _ z => z)))
 cases r with
 | none => exact wpAny_pure h1
 | some v =>
  refine wpAny_bind (wpAny_mono h1 (fun _ s2 h2 => ?_) fun _ _ z => z)
  refine wpAny_bind (wpAny_mono h2 (fun _ s3 h3 => wpAny_bind (wpAny_mono h3 (fun ok s4 h4 => ?_) fun _ _ z => z)) fun _ _ z => z)
  cases ok with
  | false => exact wpAny_pure ⟨rfl, h4⟩
  | true => exact wpAny_bind (wpAny_bind (wpAny_mono h4 (fun x s5 h5 => wpAny_bind (wpAny_mono h5 (fun _ s6 h6 => wpAny_pure (wpAny_pure ⟨rfl, h6⟩)) fun _ _ z => z)) fun _ _ z => z))
end
noncomputable def cxComp (X : Cx) (N : List Str) (scope : Scope) (cl : List (Str × Addr)) (C : Addr) (s₀ : Shared) (H₀ : Hp) (fp : List Addr) (xe : Value -> Shared -> Prop) : Cx where
 prog := X.prog
 w := X.w
 K := X.K
 mg := X.mg
 base := X.base
 A := X.A
 N := N
 s₀ := s₀
 H₀ := H₀
 env := compEnvC scope cl C X.env
 outer := X.stack
 stack := X.stack
 ex := fp
 calm := X.calm
 fn := fun _ => false
 pn := []
 xe := xe
structure Caps (X : Cx) (scope : Scope) (cl : List (Str × Addr)) (cs : List (Str × Nat)) : Prop where
 clos : closureFor scope X.env = pure cl
 sub : ∀ x c, cl.lookup x = some c -> X.env.cells.lookup x = some c
 cap : ∀ p ∈ cs, X.N[p.2]? = some p.1 /\ X.env.scope.names.lookup p.1 = some .cell /\ (relabel scope X.env).names.lookup p.1 = some .cell /\ ∃ c, cl.lookup p.1 = some c
 has : ∀ x, ((relabel scope X.env).names.lookup x = some .cell \/ (relabel scope X.env).names.lookup x = some .free) -> ∃ c, cl.lookup x = some c
 kind : scope.kind = .function
 nocell : ∀ y ∈ scope.names, y.2 ≠ .cell
 names : ∀ y ∈ scope.names, y.2 = .local -> scope.names.lookup y.1 = some .local
noncomputable def capSt (n : Nat) (cs : List (Str × Nat)) (σ : St) : St := List.replicate n none ++ cs.map fun p => (σ[p.2]?).getD none
noncomputable def PTs (X : Cx) (ifs : List Expr) (t : TT) : Prop :=
 ∀ (pins : List (Addr × Obj)) (s : Shared) (σ : St) (H : Hp) (Q : Bool -> Hp -> Prop), Inv X pins σ H s -> t σ H Q ->
  wpAny (model X.prog X.w) X.A (forIn ifs true fun c r => if r = true then do let ok <- isTrue c X.env (eval c X.env); pure (ForInStep.yield ok) else pure (ForInStep.yield r)) (TP X pins σ Q) X.xe s
noncomputable def tYes : TT := fun _ H Q => Q true H
theorem pts_nil {X : Cx} : PTs X [] tYes := fun _ _ _ H _ I h => wpAny_tests_nil ⟨H, I, h⟩
theorem pts_one {X : Cx} {c : Expr} {t : TT} (h : PT X c t) : PTs X [c] t := fun pins s σ H Q I q => wpAny_tests_one (h pins s σ H Q I q)
noncomputable def LcGo (J : It) (D : Addr) (g : TG) (tt : TT) (te : TE) (Fin : Hp -> Prop) (W : Nat -> Nat -> St -> Hp -> Prop) : Prop :=
 ∀ i m σ H, W i m σ H -> (J.stop i H /\ Fin H) \/ (J.go i H /\ ∃ N : St -> Hp -> Prop, (∀ σ' H', N σ' H' -> ∃ m', m' < m /\ W (i + 1) m' σ' H') /\ ∀ x H1, J.yld i H x H1 -> g x σ H1 fun σ2 H2 => tt σ2 H2 fun b H3 =>
  if b = true then te σ2 H3 fun y H4 => ∃ ys, H4 D = some (.lst ys) /\ ys.length < sizeLine /\ N σ2 (upd H4 D (.lst (ys ++ [y]))) else N σ2 H3)
noncomputable def tLc (wi : TI) (n : Nat) (cs : List (Str × Nat)) (g : TG) (tt : TT) (te : TE) : TE := fun σ H Q => wi σ H fun J H1 => ∀ D, H1 D = none -> ∃ W : Nat -> Nat -> St -> Hp -> Prop, (∃ m, W 0 m (capSt n cs σ) (upd H1 D (.lst []))) /\ LcGo J D g tt te (Q (.ref D)) W
section
variable {X : Cx} {elt tg iter : Expr} {ifs : List Expr} {scope : Scope} {pos : Pos} {cl : List (Str × Addr)} {cs : List (Str × Nat)} {tn : List Str} {wi : TI} {g : TG} {tt : TT} {te : TE}
noncomputable def BlockEnd (X : Cx) (pins : List (Addr × Obj)) (σ : St) (C D : Addr) (Q : VK) (s' : Shared) : Prop :=
 ∃ H', Inv X pins σ H' s' /\ Q (.ref D) H' /\ H' C = none /\ C ≠ X.env.locals /\ X.s₀.heap.objs.size <= C /\ (∀ x c, X.env.cells.lookup x = some c -> c ≠ C) /\ (∀ p ∈ X.pn ++ pins, p.1 ≠ C) /\ ∃ m, s'.heap.Ns C m
set_option tactic.hygienic true in
theorem lc_block (K : Caps X scope cl cs) (hcalm : X.calm = true)
    (hg : ∀ C s₀ H₀ fp xe, PG (cxComp X (tn ++ cs.map (·.1)) scope cl C s₀ H₀ fp xe) tg g) (ht : ∀ C s₀ H₀ fp xe, PTs (cxComp X (tn ++ cs.map (·.1)) scope cl C s₀ H₀ fp xe) ifs tt) (he : ∀ C s₀ H₀ fp xe, PE (cxComp X (tn ++ cs.map (·.1)) scope cl C s₀ H₀ fp xe) elt te)
    {pins : List (Addr × Obj)} {σ : St} {s2 : Shared} {Q : VK} {itv : Value} {RR : Value -> Addr -> Result -> Shared -> Prop} {E : Value -> Shared -> Prop}
    (h : PIE X pins σ tg (fun J H1 => ∀ D, H1 D = none -> ∃ W : Nat -> Nat -> St -> Hp -> Prop, (∃ m, W 0 m (capSt tn.length cs σ) (upd H1 D (.lst []))) /\ LcGo J D g tt te (Q (.ref D)) W) itv s2)
    (hR : ∀ C D s', BlockEnd X pins σ C D Q s' -> RR (.ref D) C (.ok .next) s') :
    wpAny (model X.prog X.w) X.A (newList []) (fun acc s3 => wpAny (model X.prog X.w) X.A (newFunctionEnv scope X.env.globals cl [] X.env.qual none .none (some X.env)) (fun cenv s4 =>
      codeAny (model X.prog X.w) X.A (.compStart (.ListComp elt [⟨tg, iter, ifs, 0⟩] scope pos) 0 itv acc { cenv with scope := relabel scope X.env }) (RR acc cenv.locals) s4) E s3) E s2 := by
  obtain ⟨it, fp, tnf, J, H1, rfl, I1, T, st1, f1, q1⟩ := h
  refine wpAny_newObj_type (wpAny_newFunctionEnv K.nocell (by intro y hy; simp at hy) (fun h4 hns4 hsb4 => ?_) K.kind)
  dsimp only at hns4 hsb4 ⊢
  have hD : H1 s2.heap.objs.size = none := I1.hok.fresh (Nat.le_refl _)
  obtain ⟨W, ⟨m0, w0⟩, go⟩ := q1 _ hD
  have I3 : Inv X pins σ (upd H1 s2.heap.objs.size (.lst [])) { s2 with heap := s2.heap.push { cls := .type "list", dict := none, data := .seq ([] : List Value).toArray } } :=
    I1.laid (t' := s2.toks) (fun b o e => Heap.get?_push_of_some _ e) (Nat.le_refl _) ⟨Nat.zero_le _, [], 0, .nil, Heap.get?_push_size _ rfl⟩
  generalize hh3 : s2.heap.push { cls := .type "list", dict := none, data := .seq ([] : List Value).toArray } = h3 at I3 hns4 hsb4 ⊢
  have sz3 : h3.objs.size = s2.heap.objs.size + 1 := by rw [<- hh3, Heap.size_push]
  generalize hH3 : upd H1 s2.heap.objs.size (.lst []) = H3 at I3 w0
  have old4 : ∀ b o, h3.get? b = some o -> h4.get? b = some o := fun b o e => hsb4.extBut b o (Nat.ne_of_lt (Heap.lt_size e)) (Heap.get?_push_of_some _ e)
  have fpne : ∀ b ∈ fp, b < s2.heap.objs.size := fun b hb => by
    obtain ⟨o, e, _⟩ := T.obj _ _ st1 b hb
    exact Heap.lt_size e
  have H3fp : ∀ b ∈ fp, H3 b = none := fun b hb => by
    rw [<- hH3, upd_ne (Nat.ne_of_lt (fpne b hb))]
    exact (f1 b hb).1
  have HC : H3 h3.objs.size = none := I3.hok.fresh (Nat.le_refl _)
  have cellEnv : ∀ x c, (compEnvC scope cl h3.objs.size X.env).cells.lookup x = some c -> X.env.cells.lookup x = some c := fun x c e => K.sub x c e
  have hnd : ∀ xe, Cx.Ok (cxComp X (tn ++ cs.map (·.1)) scope cl h3.objs.size { s2 with heap := h3 } H3 fp xe) := fun xe =>
    { mod := I3.ok.mod
      kind := K.kind
      glob := I3.ok.glob
      blt := I3.ok.blt
      above := Nat.le_refl _
      inj := fun x y c e1 e2 => I3.ok.inj x y c (K.sub x c e1) (K.sub y c e2)
      has := fun x hx => K.has x hx
      cab := fun x c hf _ => by cases hf
      hd := I3.ok.hd
      frames := I3.ok.frames
      stk := .inl rfl
      exf := fun b hb => ⟨Nat.ne_of_lt (by rw [sz3]; exact Nat.lt_succ_of_lt (fpne b hb)), fun x c e => (f1 b hb).2.2.2.2.1 x c (K.sub x c e)⟩
      bs := I3.bs
      bsz := Nat.le_trans I3.ok.bsz I3.sz
      noex := fun b o e hb => by
        have hn := (f1 b hb).2.2.2.1
        rcases hn with z | z
        . exact I3.ok.noex b o e z
        . exact absurd (Nat.lt_of_lt_of_le (Heap.lt_size e) (Nat.le_trans I3.ok.bsz z)) (Nat.lt_irrefl _)
      exfs := fun b hb hf => by
        rcases List.mem_cons.mp (I3.stkSub b hf) with z | z
        . exact (f1 b hb).2.1 z
        . exact (f1 b hb).2.2.1 z
      funs := I3.stack
      frf := I3.stkFree }
  have Istart : ∀ xe tk, Inv (cxComp X (tn ++ cs.map (·.1)) scope cl h3.objs.size { s2 with heap := h3 } H3 fp xe) [] (capSt tn.length cs σ) H3 { s2 with heap := h4, toks := tk } := fun xe tk =>
    { ok := hnd xe
      os := rfl
      bare := I3.bare
      base := Un.kept old4
      loc := ⟨_, hns4, fun i x v e1 e2 e3 => by
        have hi : tn.length <= i := by
          refine Nat.not_lt.mp fun hlt => ?_
          unfold capSt at e2
          rw [List.getElem?_append_left (by rw [List.length_replicate]; exact hlt), List.getElem?_replicate, if_pos hlt] at e2
          cases e2
        have e1' : (tn ++ cs.map (·.1))[i]? = some x := e1
        rw [List.getElem?_append_right hi, List.getElem?_map] at e1'
        unfold capSt at e2
        rw [List.getElem?_append_right (by rw [List.length_replicate]; exact hi), List.length_replicate, List.getElem?_map] at e2
        cases ep : cs[i - tn.length]? with
        | none => rw [ep] at e1'; cases e1'
        | some p =>
          rw [ep] at e1' e2
          have ex : p.1 = x := Option.some.inj e1'
          have ev : (σ[p.2]?).getD none = some v := Option.some.inj e2
          obtain ⟨c1, c2, c3, c, c4⟩ := K.cap p (List.mem_of_getElem? ep)
          have es : σ[p.2]? = some (some v) := by
            cases q : σ[p.2]? with
            | none => rw [q] at ev; cases ev
            | some z =>
              rw [q] at ev
              have z' : z = some v := ev
              rw [z']
          obtain ⟨m, hn, hl⟩ := I3.loc
          obtain ⟨u, ru, lk⟩ := hl p.2 p.1 v c1 es (.inr (.inl c2))
          refine ⟨u, ru, .inr ⟨.inl (by rw [<- ex]; exact c3), c, by rw [<- ex]; exact c4, ?_⟩⟩
          rcases lk with ⟨k, _⟩ | ⟨_, c', e', z⟩
          . have k' : X.env.scope.names.lookup p.1 = some .local := k
            rw [c2] at k'
            cases k'
          . have := K.sub p.1 c c4
            rw [this] at e'
            cases e'
            obtain ⟨o, ho, hd⟩ := z
            exact ⟨o, old4 _ _ ho, hd⟩⟩
      cell := fun x c e => by
        obtain ⟨v, o, ho, hd⟩ := I3.cell x c (K.sub x c e)
        exact ⟨v, o, old4 _ _ ho, hd⟩
      free := HC
      freeC := fun x c e => I3.freeC x c (K.sub x c e)
      pin := fun p hp => nomatch (show p ∈ ([] : List (Addr × Obj)) from hp)
      hok := I3.hok.kept old4
      len := by
        show (capSt tn.length cs σ).length = (tn ++ cs.map (·.1)).length
        unfold capSt
        simp }
  have loop : ∀ xe, xe = notedBy (model X.prog X.w) X.A (compEnvC scope cl h3.objs.size X.env) (fun e s' => RR (.ref s2.heap.objs.size) h3.objs.size (.error e) s') ->
      codeAny (model X.prog X.w) X.A (.compLoop (.ListComp elt [⟨tg, iter, ifs, 0⟩] scope pos) 0 (.ref it) (.ref s2.heap.objs.size) (compEnvC scope cl h3.objs.size X.env)) (RR (.ref s2.heap.objs.size) h3.objs.size) { s2 with heap := h4, toks := s2.toks + ([] : List (Str × Value)).length } := by
    intro xe hxe
    have stat : ∀ {H' : Hp}, (∀ b ∈ fp, H' b = none) -> ∀ b ∈ fp, FpOk (cxComp X (tn ++ cs.map (·.1)) scope cl h3.objs.size { s2 with heap := h3 } H3 fp xe) [] H' b := fun {H'} hn b hb =>
      ⟨hn b hb, ((hnd xe).exf b hb).1, (hnd xe).exfs b hb, .inl hb, fun x c e => ((hnd xe).exf b hb).2 x c e, fun p hp => nomatch (show p ∈ ([] : List (Addr × Obj)) from hp)⟩
    refine compLoop_all hxe (fun n s' => ∃ i σ' H', Inv (cxComp X (tn ++ cs.map (·.1)) scope cl h3.objs.size { s2 with heap := h3 } H3 fp xe) [] σ' H' s' /\ tnf i s'.heap /\ (∀ b ∈ fp, H' b = none) /\ W i n σ' H') ?_ m0
      ⟨0, _, H3, Istart xe _, T.keep _ _ _ st1 fun b _ o e => old4 b o (by rw [<- hh3]; exact Heap.get?_push_of_some _ e), H3fp, w0⟩
    rintro n s5 ⟨i, σ5, H5, I5, st5, fr5, w5⟩
    rcases go i n σ5 H5 w5 with ⟨stop, fin⟩ | ⟨goes, Nx, hNx, step⟩
    . refine thn (T.done (cxComp X (tn ++ cs.map (·.1)) scope cl h3.objs.size { s2 with heap := h3 } H3 fp xe) rfl rfl rfl hcalm i [] s5 σ5 H5 xe I5 (stat fr5) st5 stop) fun r s6 ⟨hr, I6⟩ => ?_
      subst hr
      refine hR _ _ s6 ⟨H5, ?_, fin, I6.free, ?_, ?_, fun x c e => ?_, fun p hp => ?_, ?_⟩
      . refine Inv.call' (s := { s2 with heap := h3 }) (ch := fp) I3 I6.os I6.base I6.hok I6.bare fun b hb => ?_
        obtain ⟨a0, a1, a2, a3, a4, a5⟩ := f1 b hb
        exact ⟨a3, a1, a4, a5⟩
      . exact Nat.ne_of_gt I3.lt
      . exact I3.sz
      . obtain ⟨v, o, ho, _⟩ := I3.cell x c e
        exact Nat.ne_of_lt (Heap.lt_size ho)
      . exact Nat.ne_of_lt (Heap.lt_size (I3.pin p hp).1)
      . obtain ⟨m, hn, _⟩ := I6.loc
        exact ⟨m, hn⟩
    . refine thn (T.item (cxComp X (tn ++ cs.map (·.1)) scope cl h3.objs.size { s2 with heap := h3 } H3 fp xe) rfl rfl rfl hcalm i [] s5 σ5 H5 xe I5 (stat fr5) st5 goes) fun r s6 ⟨u, hr, h6⟩ => ?_
      subst hr
      refine thn h6 fun _ s7 ⟨x, H7, I7, r7, y7, st7, fr7⟩ => ?_
      have I7' := I7.pinned (stat fr7) (T.obj _ _ st7)
      have keepT : ∀ {σ' : St} {H' : Hp} {s' : Shared}, Inv (cxComp X (tn ++ cs.map (·.1)) scope cl h3.objs.size { s2 with heap := h3 } H3 fp xe) ([] ++ pinsAt fp s7.heap) σ' H' s' -> tnf (i + 1) s'.heap /\ ∀ b ∈ fp, H' b = none := fun {σ' H' s'} J =>
        ⟨T.keep _ _ _ st7 fun b hb o e => (J.pin (b, o) (List.mem_append_right _ (List.mem_append_right _ (mem_pinsAt hb e)))).1, fun b hb => by
          obtain ⟨o, e, d⟩ := T.obj _ _ st7 b hb
          exact (J.pin (b, o) (List.mem_append_right _ (List.mem_append_right _ (mem_pinsAt hb e)))).2.1⟩
      refine thn (hg _ _ _ _ xe _ s7 σ5 H7 x u _ I7' r7 (step x H7 y7)) fun _ s8 ⟨σ8, H8, I8, q8⟩ => ?_
      refine thn (ht _ _ _ _ xe _ s8 σ8 H8 _ I8 q8) fun ok s9 ⟨H9, I9, q9⟩ => ?_
      cases ok with
      | false =>
        rw [if_neg Bool.false_ne_true] at q9 ⊢
        obtain ⟨m', hm, w'⟩ := hNx _ _ q9
        exact ⟨m', hm, i + 1, σ8, H9, I9.unpinned, (keepT I9).1, (keepT I9).2, w'⟩
      | true =>
        rw [if_pos rfl] at q9 ⊢
        refine thn (he _ _ _ _ xe _ s9 σ8 H9 _ I9 q9) fun y s10 ⟨v, H10, I10, r10, ys, hys, hz, n10⟩ => ?_
        refine thn (mt_append _ s10 σ8 H10 (.ref s2.heap.objs.size) [v] (.ref s2.heap.objs.size) [y] (fun _ H => H = upd H10 s2.heap.objs.size (.lst (ys ++ [v]))) I10 rfl (.cons r10 .nil) ⟨_, ys, v, rfl, rfl, hys, hz, rfl⟩) fun _ s11 ⟨_, H11, I11, _, e11⟩ => ?_
        subst e11
        obtain ⟨m', hm, w'⟩ := hNx _ _ n10
        exact ⟨m', hm, i + 1, σ8, _, I11.unpinned, (keepT I11).1, (keepT I11).2, w'⟩
  exact codeAny_compStart_list (loop _ rfl) (T.self _ 0 _ _ _ (T.keep _ _ _ st1 fun b _ o e => old4 b o (by rw [<- hh3]; exact Heap.get?_push_of_some _ e)) (loop _ rfl))
theorem pe_lc (K : Caps X scope cl cs) (hcalm : X.calm = true) (hi : PI X tg iter wi)
  (hg : ∀ C s₀ H₀ fp xe, PG (cxComp X (tn ++ cs.map (·.1)) scope cl C s₀ H₀ fp xe) tg g) (ht : ∀ C s₀ H₀ fp xe, PTs (cxComp X (tn ++ cs.map (·.1)) scope cl C s₀ H₀ fp xe) ifs tt) (he : ∀ C s₀ H₀ fp xe, PE (cxComp X (tn ++ cs.map (·.1)) scope cl C s₀ H₀ fp xe) elt te)
  (hs : ∀ x, foldedSetIterable iter X.env x = pure x := by intro _; rfl) : PE X (.ListComp elt [⟨tg, iter, ifs, 0⟩] scope pos) (tLc wi tn.length cs g tt te) := by
 intro pins s σ H Q I h
 rw [eval_ListComp]
 refine wpAny_comprehension_free (use := none) rfl hs K.clos K.kind K.names (thn (hi pins s σ H _ I h) fun v s1 h1 => thn h1 fun itv s2 h2 => ?_)
 refine lc_block (tn := tn) K hcalm hg ht he h2 fun C D s' ⟨H', I', q, c1, c2, c3, c4, c5, m, hn⟩ => ?_
 exact ⟨m, hn, fun h' hs' => ⟨.ref D, H', I'.turned (t' := s'.toks) (fun b o hb e => hs'.extBut b o hb e) c1 c2 (.inr c3) c4 c5, rfl, q⟩⟩
set_option tactic.hygienic true in
theorem ps_lc {y : Str} {py spos : Pos} {j : Nat} (K : Caps X scope cl cs) (hcalm : X.calm = true) (hi : PI X tg iter wi)
  (hg : ∀ C s₀ H₀ fp xe, PG (cxComp X (tn ++ cs.map (·.1)) scope cl C s₀ H₀ fp xe) tg g) (ht : ∀ C s₀ H₀ fp xe, PTs (cxComp X (tn ++ cs.map (·.1)) scope cl C s₀ H₀ fp xe) ifs tt) (he : ∀ C s₀ H₀ fp xe, PE (cxComp X (tn ++ cs.map (·.1)) scope cl C s₀ H₀ fp xe) elt te)
  (hN : X.N.Nodup) (hy : X.N[j]? = some y) (hl : X.env.scope.names.lookup y = some .local) (hsw : swapsWith (.ListComp elt [⟨tg, iter, ifs, 0⟩] scope pos) (some (.Name y py)) spos.line X.env = pure true)
  (hs : ∀ x, foldedSetIterable iter X.env x = pure x := by intro _; rfl) : PS X (.Assign [.Name y py] (.ListComp elt [⟨tg, iter, ifs, 0⟩] scope pos) spos) (tAsg (tLc wi tn.length cs g tt te) (gName j)) := by
 intro pins s σ H D0 I h
 rw [exec_Assign_Name_used _ _ _ _ hsw]
 refine wpAny_bind (wpAny_standAt (wpAny_bind ?_))
 show wpAny _ X.A (do let _ <- comprehension (.ListComp elt [⟨tg, iter, ifs, 0⟩] scope pos) scope X.env _ (newList []) false (eval iter X.env) (some (assign (.Name y py) X.env))) _ _ s
 refine wpAny_bind (wpAny_mono (wpAny_comprehension_free (use := some (assign (.Name y py) X.env)) (Q := fun _ s' => SP X pins D0 .next s') rfl hs K.clos K.kind K.names
  (thn (hi pins s σ H _ I h) fun v s1 h1 => thn h1 fun itv s2 h2 => ?_)) (fun _ s' hq => wpAny_pure (wpAny_pure hq)) fun _ _ e => e)
 refine lc_block (tn := tn) (pins := pins) (σ := σ) (Q := fun x H1 => gName j x σ H1 D0.nx) K hcalm hg ht he h2 fun C D s' ⟨H', I', q, c1, c2, c3, c4, c5, m, hn⟩ => ?_
 show wpAny _ X.A (assign (.Name y py) X.env (.ref D)) _ _ _
 refine wpAny_assign_Name (store_ok2 I' hN hy (.inl hl) (show RelV (.ref D) (.ref D) from rfl) (fun s'' I'' ⟨a, hsb, ha⟩ => ?_) (.inr hl))
 have hne : C ≠ a := by
  rcases ha with rfl | ha
  ·exact c2
  ·exact Ne.symm (c4 _ _ ha)
 exact ⟨m, hn.sameBut hsb hne, fun h' hs' => ⟨_, H', I''.turned (t' := s''.toks) (fun b o hb e => hs'.extBut b o hb e) c1 c2 (.inr c3) c4 c5, q⟩⟩
end
theorem lc_list {K : PySem.W.Frag} {a D : Addr} {xs : List V} {g : TG} {tt : TT} {te : TE} {Fin : Hp -> Prop} {σ0 : St} {H0 : Hp} (Pv : Nat -> St -> Hp -> Prop) (h0 : Pv 0 σ0 H0) (hl : ∀ i σ H, i <= xs.length -> Pv i σ H -> SqL K H a xs)
  (hs : ∀ i x σ H, xs[i]? = some x -> Pv i σ H -> g x σ H fun σ2 H2 => tt σ2 H2 fun b H3 => if b = true then te σ2 H3 fun y H4 => ∃ ys, H4 D = some (.lst ys) /\ ys.length < sizeLine /\ Pv (i + 1) σ2 (upd H4 D (.lst (ys ++ [y]))) else Pv (i + 1) σ2 H3)
  (hd : ∀ σ H, Pv xs.length σ H -> Fin H) :
  ∃ W : Nat -> Nat -> St -> Hp -> Prop, (∃ m, W 0 m σ0 H0) /\ LcGo (Itl K a) D g tt te Fin W := by
 refine ⟨fun i m σ H => m = xs.length - i /\ i <= xs.length /\ Pv i σ H, ⟨xs.length, by simp, Nat.zero_le _, h0⟩, ?_⟩
 rintro i m σ H ⟨rfl, hi, p⟩
 have q := hl i σ H hi p
 by_cases hlt : i < xs.length
 ·refine .inr ⟨⟨xs, xs[i], q, by simp [hlt]⟩, Pv (i + 1), fun σ' H' p' => ⟨xs.length - (i + 1), by omega, rfl, hlt, p'⟩, fun x H' y => ?_⟩
  obtain ⟨e, y⟩ := y
  subst e
  exact hs i x σ _ (y xs q) p
 ·have e : i = xs.length := by lia
  subst e
  exact .inl ⟨⟨xs, q, Nat.le_refl _⟩, hd σ H p⟩
end L2
namespace L2
open PySem PySem.Spec PyProof.Rows
noncomputable def Itz (K : PySem.W.Frag) (a b : Addr) : It :=
  ⟨fun i H => ∃ xs ys x y, SqL K H a xs /\ SqL K H b ys /\ xs[i]? = some x /\ ys[i]? = some y,
   fun i H v H' => ∃ t x y, H t = none /\ v = .ref t /\ H' = upd H t (.tup [x, y]) /\ (∀ xs, SqL K H a xs -> xs[i]? = some x) /\ ∀ ys, SqL K H b ys -> ys[i]? = some y,
   fun i H => ∃ xs ys, SqL K H a xs /\ SqL K H b ys /\ (xs.length <= i \/ ys.length <= i)⟩
theorem Inv.turnedL {X : Cx} {pins : List (Addr × Obj)} {σ : St} {H : Hp} {s : Shared} {h' : Heap} {t' : Nat} {fp : List Addr} (I : Inv X pins σ H s) (k : ∀ b o, b ∉ fp -> s.heap.get? b = some o -> h'.get? b = some o) (hf : ∀ b ∈ fp, FpOk X pins H b) :
  Inv X pins σ H { s with heap := h', toks := t' } := by
 have nit : ∀ b u, H b = some u -> b ∉ fp := fun b u e z => by have := (hf b z).1; rw [this] at e; cases e
 refine I.step (g' := s.gens) (d' := s.drawn) (ch := fp) (fun b hb => ?_) (fun b o _ _ hc e _ => k b o hc e) (fun b o _ _ hc e _ => ⟨o.slots, k b o hc e⟩) (fun _ _ _ _ n => n)
  (fun b o hc e => ⟨o, k b o hc e⟩) (fun _ _ e => e) (fun _ _ _ e => e) (fun b ps e => ⟨#[], by rw [e]; simp⟩) (fun m hm => ?_) (fun b u e => ?_) I.bare
 ·obtain ⟨_, a1, _, a3, a4, a5⟩ := hf b hb
  exact ⟨a3, a1, a4, a5⟩
 ·obtain ⟨o, es, ep, ho, r⟩ := hm
  exact ⟨o, es, ep, k _ o (fun z => (hf _ z).2.1 rfl) ho, r⟩
 ·refine (I.hok b u e).stay (fun c v hc q => k c v ?_ q) (fun _ q => q) fun _ _ q => q
  rcases hc with z | z
  ·rw [z]; exact nit b u e
  ·exact nit c _ z
theorem turn_zip {P : Program} {w : World} {K : PySem.W.Frag} {elts : List Expr} {k1 : Nat} {tp : Pos} {z TI TO i1 i2 a b : Addr} (D : ZipApart z TI TO i1 i2 a b) :
  Turn P w K (.Tuple elts k1 tp) (Itz K a b) [z, TI, TO, i1, i2] z (fun i h => IsZip h z TI TO .none /\ IsPair h TI (.ref i1) (.ref i2) /\ (∃ u v, IsPair h TO u v) /\ h.IsListIter i1 a i /\ h.IsListIter i2 b i) where
 mem := by simp
 obj := fun i h ⟨s1, s2, ⟨u, v, s3⟩, s4, s5⟩ c hc => by
  simp only [List.mem_cons, List.not_mem_nil, or_false] at hc
  rcases hc with rfl | rfl | rfl | rfl | rfl
  ·exact ⟨_, s1, fun v q => by cases q⟩
  ·exact ⟨_, s2, fun v q => by cases q⟩
  ·exact ⟨_, s3, fun v q => by cases q⟩
  ·obtain ⟨o, e, _, d⟩ := s4
   exact ⟨o, e, fun v q => by rw [d] at q; cases q⟩
  ·obtain ⟨o, e, _, d⟩ := s5
   exact ⟨o, e, fun v q => by rw [d] at q; cases q⟩
 keep := fun i h h' ⟨s1, s2, ⟨u, v, s3⟩, s4, s5⟩ kk => ⟨kk z (by simp) _ s1, kk TI (by simp) _ s2, ⟨u, v, kk TO (by simp) _ s3⟩, s4.at fun o e => kk i1 (by simp) o e, s5.at fun o e => kk i2 (by simp) o e⟩
 item := by
  intro X hP hw hK hc i pins s σ H E I hf st hg
  subst hP hw hK
  obtain ⟨xs, ys, x, y, hx, hy, ex, ey⟩ := hg
  obtain ⟨its, rv, p1, hz1⟩ := I.list hx
  obtain ⟨jts, rw', p2, hz2⟩ := I.list hy
  obtain ⟨u, hu, ru⟩ := rv.get ex
  obtain ⟨v, hv, rv'⟩ := rw'.get ey
  obtain ⟨s1, s2, ⟨o1, o2, s3⟩, s4, s5⟩ := st
  refine wpAny_pyNext_zip_item D s1 s2 s3 s4 s5 p1.isList p2.isList (x := u) (y := v) (by simpa using hu) (by simpa using hv) fun h' t1 t2 t3 t4 t5 t6 t7 => ?_
  refine ⟨_, rfl, wpAny_letOwnedTupleGo_zip t1 fun h2 g1 g2 => ?_⟩
  have hT : s.heap.objs.size ≠ z := Nat.ne_of_gt (Heap.lt_size s1)
  have kk : ∀ c o, c ∉ [z, TI, TO, i1, i2] -> s.heap.get? c = some o -> h2.get? c = some o := fun c o hc e => by
   simp only [List.mem_cons, List.not_mem_nil, or_false, not_or] at hc
   exact (g2.2 c hc.1).trans (t7 c o hc.1 hc.2.2.1 hc.2.2.2.1 hc.2.2.2.2 e)
  have hTI : h2.get? TI = some { cls := .type "tuple", data := .seq #[.ref i1, .ref i2] } := (g2.2 TI D.TIz).trans (t7 TI _ D.TIz D.TITO D.TIi1 D.TIi2 s2)
  have I1 : Inv X pins σ H { s with heap := h2 } := I.turnedL (t' := s.toks) kk hf
  have hn : H s.heap.objs.size = none := I.hok.fresh (Nat.le_refl _)
  have hTn : h2.get? s.heap.objs.size = some { cls := .type "tuple", data := .seq #[u, v] } := (g2.2 _ hT).trans t5
  have ok2 : HOk X.prog X.w (upd H s.heap.objs.size (.tup [x, y])) h2 := fun c q e => by
   by_cases hcs : c = s.heap.objs.size
   ·subst hcs
    rw [upd_same] at e
    cases e
    exact ⟨by show 2 <= sizeLine; decide, [u, v], .cons ru (.cons rv' .nil), _, hTn, rfl, 0, rfl⟩
   ·rw [upd_ne hcs] at e
    exact (I1.hok c q e).stay (fun _ _ _ q => q) (fun d q => by rw [upd_ne (ne_of_none q hn)]; exact q) fun d xs q => by rw [upd_ne (ne_of_none q hn)]; exact q
  have I2 : Inv X pins σ (upd H s.heap.objs.size (.tup [x, y])) { s with heap := h2 } := by
   refine I.step (h' := h2) (g' := s.gens) (d' := s.drawn) (t' := s.toks) (ch := [z, TI, TO, i1, i2]) (fun c hcm => ?_) (fun c o _ _ hc e _ => kk c o hc e) (fun c o _ _ hc e _ => ⟨o.slots, kk c o hc e⟩)
    (fun c o _ e n => by rw [upd_ne (Nat.ne_of_lt (Heap.lt_size e))]; exact n) (fun c o hc e => ⟨o, kk c o hc e⟩) (fun c q e => by rw [upd_ne (ne_of_none e hn)]; exact e) (fun c o q e => by rw [upd_ne (ne_of_none e hn)]; exact e)
    (fun c ps e => ⟨#[], by rw [upd_ne (ne_of_none e hn), e]; simp⟩) (fun m hm => ?_) ok2 I.bare
   ·obtain ⟨_, a1, _, a3, a4, a5⟩ := hf c hcm
    exact ⟨a3, a1, a4, a5⟩
   ·obtain ⟨o, es, ep, ho, r⟩ := hm
    exact ⟨o, es, ep, kk _ o (fun q => (hf _ q).2.1 rfl) ho, r⟩
  refine ⟨.ref s.heap.objs.size, _, I2, rfl, ⟨s.heap.objs.size, x, y, hn, rfl, rfl, fun q hq => by rw [I.list_inj hq hx]; exact ex, fun q hq => by rw [I.list_inj hq hy]; exact ey⟩,
   ⟨g1, hTI, ⟨u, v, (g2.2 TO D.TOz).trans t2⟩, t3.at fun o e => (g2.2 _ D.i1z).trans e, t4.at fun o e => (g2.2 _ D.i2z).trans e⟩, fun c hcm => ?_⟩
  have hlt : c < s.heap.objs.size := by
   simp only [List.mem_cons, List.not_mem_nil, or_false] at hcm
   rcases hcm with rfl | rfl | rfl | rfl | rfl
   ·exact Heap.lt_size s1
   ·exact Heap.lt_size s2
   ·exact Heap.lt_size s3
   ·obtain ⟨o, e, _⟩ := s4; exact Heap.lt_size e
   ·obtain ⟨o, e, _⟩ := s5; exact Heap.lt_size e
  rw [upd_ne (Nat.ne_of_lt hlt)]
  exact (hf c hcm).1
 done := by
  intro X hP hw hK hc i pins s σ H E I hf st hg
  subst hP hw hK
  obtain ⟨xs, ys, hx, hy, hl⟩ := hg
  obtain ⟨its, rv, p1, hz1⟩ := I.list hx
  obtain ⟨jts, rw', p2, hz2⟩ := I.list hy
  obtain ⟨s1, s2, ⟨o1, o2, s3⟩, s4, s5⟩ := st
  have e1 := rv.length
  have e2 := rw'.length
  refine wpAny_pyNext_zip_end (I.ok.hd hc) D s1 s2 s3 s4 s5 p1.isList p2.isList (by simp; lia) fun h' hk => ⟨rfl, I.turnedL (t' := s.toks) (fun c o hc e => ?_) hf⟩
  simp only [List.mem_cons, List.not_mem_nil, or_false, not_or] at hc
  exact hk c o hc.1 hc.2.2.1 hc.2.2.2.1 hc.2.2.2.2 e
 self := fun _ _ _ _ _ st h => wpAny_pyIter_zip st.1 h
section
variable {X : Cx} {elts : List Expr} {k1 : Nat} {tp : Pos}
noncomputable def iZip (K : PySem.W.Frag) (ta : TA) : TI := fun σ H R => ta σ H fun vs H1 => ∃ a b, vs = [.ref a, .ref b] /\ (∃ xs, SqL K H1 a xs) /\ (∃ ys, SqL K H1 b ys) /\ R (Itz K a b) H1
theorem pi_zip {a b : Expr} {ta : TA} {p pos : Pos} (hg : Gl X "zip") (hm : X.mg "zip" = none) (ha : PA X [a, b] ta) (hs : starEach [a, b] X.env = [(false, eval a X.env), (false, eval b X.env)] := by rfl) (hs2 : starEach [b] X.env = [(false, eval b X.env)] := by rfl) :
  PI X (.Tuple elts k1 tp) (.Call (.Name "zip" p) [a, b] [] pos) (iZip X.K ta) := by
 intro pins s σ H R I h
 refine Call_ (ld_blt I hg hm boot_zip (PyProof.Rows.callWith_type1 (thn (ha pos pins s σ H _ I h) fun us s1 ⟨vs, H1, I1, r1, q1⟩ => ?_) (by rw [hs, hs2]) (by rw [hs2]; rfl)))
 obtain ⟨l1, l2, e, ⟨xs, hx⟩, ⟨ys, hy⟩, q⟩ := q1
 subst e
 cases r1 with
 | cons r rr =>
  cases rr with
  | cons r' rr =>
   cases rr
   cases r
   cases r'
   obtain ⟨its, rv, p1, hz1⟩ := I1.list hx
   obtain ⟨jts, rw', p2, hz2⟩ := I1.list hy
   obtain ⟨oa, hoa, _⟩ := p1.isList
   obtain ⟨ob, hob, _⟩ := p2.isList
   have hlt1 := Heap.lt_size hoa
   have hlt2 := Heap.lt_size hob
   refine call_zip_2 p1.isList p2.isList fun h' t1 t2 t3 t4 t5 t6 t7 => ?_
   refine wpAny_pyIter_zip t1 ?_
   have I2 : Inv X pins σ H1 { s1 with heap := h' } := I1.kept (t' := s1.toks) t7
   refine ⟨s1.heap.objs.size + 4, [s1.heap.objs.size + 4, s1.heap.objs.size + 2, s1.heap.objs.size + 3, s1.heap.objs.size, s1.heap.objs.size + 1], _, _, H1, rfl, I2, turn_zip (PySem.W.ktu_apart _ _ _ hlt1 hlt2), ⟨t1, t2, ⟨_, _, t3⟩, t4, t5⟩, fun c hc => ?_, q⟩
   refine I1.fpOk ?_ (I1.hok.fresh ?_) <;>
   ·simp only [List.mem_cons, List.not_mem_nil, or_false] at hc
    rcases hc with rfl | rfl | rfl | rfl | rfl <;> lia
end
end L2
namespace L2
open PySem PySem.Spec PyProof.Rows PySem.W
open RS (Pt kk dedP lexLt SetAt SetEx Tab Led Ents moreAll)
noncomputable def Tp (H : Hp) (a : Addr) (p : Pt) : Prop := H a = some (.tup [.int p.1, .int p.2])
noncomputable abbrev Ats (H : Hp) : List Addr -> List Pt -> Prop := Paired (Tp H)
noncomputable def Pts (H : Hp) (l : Addr) (ps : List Pt) : Prop := ∃ as : List Addr, H l = some (.lst (as.map V.ref)) /\ Ats H as ps
theorem vals_refs : ∀ {as : List Addr} {us : List Value}, Vals (as.map V.ref) us -> us = as.map Value.ref
 | [], _, h => by cases h; rfl
 | a :: as, _, h => by
  cases h with
  | cons r t =>
   rw [vals_refs t]
   have e := r
   cases e
   rfl
theorem refs_vals : ∀ (as : List Addr), Vals (as.map V.ref) (as.map Value.ref)
 | [] => .nil
 | _ :: as => .cons rfl (refs_vals as)
theorem ObjOk.obj {P : Program} {w : World} {H : Hp} {h : Heap} {a : Addr} {o : HO} (x : ObjOk P w H h a o) : ∃ ob, h.get? a = some ob := by
 cases o with
 | lst xs => obtain ⟨_, _, _, _, e⟩ := x; exact ⟨_, e⟩
 | tup xs => obtain ⟨_, _, _, ob, e, _⟩ := x; exact ⟨_, e⟩
 | dK kvs => obtain ⟨_, _, _, _, ob, _, _, e, _⟩ := x; exact ⟨_, e⟩
 | dT kvs => obtain ⟨_, _, _, _, ob, _, _, e, _⟩ := x; exact ⟨_, e⟩
 | set S n => obtain ⟨ob, _, _, _, e, _⟩ := x; exact ⟨_, e⟩
 | ins C dx fs => obtain ⟨_, _, _, e, _⟩ := x; exact ⟨_, e⟩
 | own y => exact x
 | xd fs => obtain ⟨_, ⟨_, _, _, e, _⟩, _⟩ := x; exact ⟨_, e⟩
 | rng lo hi => obtain ⟨_, _, _, e⟩ := x; exact ⟨_, e⟩
 | frz ob u => exact ⟨ob, x.1⟩
 | tbl ps => exact ⟨_, x⟩
 | met f y => exact ⟨_, x⟩
 | ext φ => exact x.2.1
section
variable {X : Cx} {pins : List (Addr × Obj)} {σ : St} {H : Hp} {s : Shared}
theorem Inv.key {a : Addr} {p : Pt} (I : Inv X pins σ H s) (h : Tp H a p) : IsTupleKey (intKind X.prog X.w) s.heap (kk p) a := by
 obtain ⟨_, its, r, o, ho, hc, n, hd⟩ := I.hok a _ h
 refine ⟨o, its.toArray, n, ho, hc, hd, ?_⟩
 cases r with
 | cons r1 r =>
  cases r with
  | cons r2 r =>
   cases r
   obtain ⟨t1, rfl⟩ := r1
   obtain ⟨t2, rfl⟩ := r2
   exact .cons (intKind_is _ _ _ _) (.cons (intKind_is _ _ _ _) .nil)
theorem Inv.grown {h' : Heap} {D : Addr} {o : HO} {t' : Nat} (I : Inv X pins σ H s) (k : ∀ b u, b ≠ X.env.locals -> s.heap.get? b = some u -> h'.get? b = some u) (ns : ∀ m, s.heap.Ns X.env.locals m -> h'.Ns X.env.locals m)
  (hD : H D = none) (hs : s.heap.get? D = none) (new : ObjOk X.prog X.w (upd H D o) h' D o) : Inv X pins σ (upd H D o) { s with heap := h', toks := t' } := by
 have tr : ∀ b u, H b = some u -> b ≠ X.env.locals := fun b u e z => by rw [z, I.free] at e; cases e
 refine I.step (h' := h') (g' := s.gens) (d' := s.drawn) (ch := []) (fun _ z => nomatch z) (fun b u hb _ _ e _ => k b u hb e) (fun b u hb _ _ e _ => ⟨u.slots, k b u hb e⟩)
  (fun b u _ e n => by rw [upd_ne (fun z => by rw [z, hs] at e; cases e)]; exact n) (fun b u _ e => ?_) (fun b xs e => by rw [upd_ne (ne_of_none e hD)]; exact e) (fun b u xs e => by rw [upd_ne (ne_of_none e hD)]; exact e)
  (fun b ps e => ⟨#[], by rw [upd_ne (ne_of_none e hD), e]; simp⟩) ns (fun b u e => ?_) I.bare
 ·by_cases hb : b = X.env.locals
  ·obtain ⟨m, hn, _⟩ := I.loc
   obtain ⟨o', _, _, ho', _⟩ := ns m hn
   exact ⟨o', by rw [hb]; exact ho'⟩
  ·exact ⟨u, k b u hb e⟩
 ·by_cases hb : b = D
  ·subst hb
   rw [upd_same] at e
   cases e
   exact new
  ·rw [upd_ne hb] at e
   refine (I.hok b u e).stay (fun c v hc q => k c v ?_ q) (fun c q => by rw [upd_ne (ne_of_none q hD)]; exact q) fun c xs q => by rw [upd_ne (ne_of_none q hD)]; exact q
   rcases hc with z | z
   ·rw [z]; exact tr b u e
   ·exact tr c _ z
theorem ns_uniq {h : Heap} {L : Addr} {m m' : Str -> Option Value} (a : h.Ns L m) (b : h.Ns L m') : m' = m := by
 obtain ⟨o, es, ep, ho, hd, _, hm⟩ := a
 obtain ⟨o', es', ep', ho', hd', _, hm'⟩ := b
 rw [ho] at ho'
 cases ho'
 rw [hd] at hd'
 injection hd' with e1 _
 subst e1
 funext x
 rw [<- hm x, <- hm' x]
theorem Inv.news {h' : Heap} {m : Str -> Option Value} (I : Inv X pins σ H s) (F : Fr X.base X.env.locals h' m) (N : News X.base X.env.locals h' (allNews X.base s.heap X.env.locals)) :
  ∀ b u, b ≠ X.env.locals -> s.heap.get? b = some u -> h'.get? b = some u := fun b u hb e => by
 cases q : X.base.get? b with
 | some v =>
  have := I.bk b v q
  rw [e] at this
  cases this
  exact F.keep b _ q
 | none => exact (N (b, u) (mem_allNews hb q e)).1
end
noncomputable def SetO (P : Program) (w : World) (S : Addr) (ents : List (Pt × Addr)) : HO :=
 .ext fun h => ∃ o es ep t, h.get? S = some o /\ o.ExactSet /\ o.data = .set es ep t /\ Tab t es /\ Led w t /\ es.toList.Perm (ents.map fun p => (tupleKeyHash (intKind P w) (kk p.1), Value.ref p.2))
theorem more_eq : ∀ (l xs : List (Pt × Addr)), moreAll (xs.map fun p => (kk p.1, p.2)) (l.map fun p => (kk p.1, p.2)) = (l.foldl RS.addP xs).map fun p => (kk p.1, p.2)
 | [], _ => rfl
 | p :: l, xs => by
  have e : RS.more (xs.map fun p => (kk p.1, p.2)) (kk p.1) p.2 = (RS.addP xs p).map fun p => (kk p.1, p.2) := by
   unfold RS.more RS.addP
   have hiff : kk p.1 ∈ (xs.map fun p => (kk p.1, p.2)).map (·.1) ↔ p.1 ∈ xs.map (·.1) := by
    rw [List.map_map, List.mem_map, List.mem_map]
    constructor
    ·rintro ⟨q, hq, e⟩
     exact ⟨q, hq, RS.kk_inj e⟩
    ·rintro ⟨q, hq, e⟩
     exact ⟨q, hq, by show kk q.1 = kk p.1; rw [e]⟩
   by_cases h : p.1 ∈ xs.map (·.1)
   ·rw [if_pos h, if_pos (hiff.mpr h)]
   ·rw [if_neg h, if_neg (fun z => h (hiff.mp z)), List.map_append]
    rfl
  show moreAll (RS.more (xs.map fun p => (kk p.1, p.2)) (kk p.1) p.2) (l.map fun p => (kk p.1, p.2)) = _
  rw [e]
  exact more_eq l (RS.addP xs p)
section
variable {X : Cx}
noncomputable def rSetP (X : Cx) : List V -> Hp -> VK -> Prop := fun xs H Q => ∃ l as ps, xs = [.ref l] /\ H l = some (.lst (as.map V.ref)) /\ Ats H as ps /\ as.length <= 150 /\ ∀ S, H S = none -> Q (.ref S) (upd H S (SetO X.prog X.w S (dedP (ps.zip as))))
theorem zip_snd : ∀ {as : List Addr} {ps : List Pt}, as.length = ps.length -> (ps.zip as).map (fun p => Value.ref p.2) = as.map Value.ref
 | [], [], _ => rfl
 | a :: as, p :: ps, h => by
  simp only [List.zip_cons_cons, List.map_cons]
  rw [zip_snd (by simpa using h)]
theorem zip_tp {H : Hp} {as : List Addr} {ps : List Pt} (z : Ats H as ps) : ∀ q ∈ ps.zip as, Tp H q.2 q.1 := by
 induction z with
 | nil => exact fun q h => by cases h
 | cons r _ ih =>
  intro q h
  rcases List.mem_cons.mp h with rfl | h
  ·exact r
  ·exact ih q h
theorem call_set_pts (hc : X.calm = true) (hu : X.A.units + 8 < cLine) : CallR X (.type "set") (rSetP X) := by
 intro pins s σ H xs us Q I r h
 obtain ⟨l, as, ps, rfl, hl, ha, hn, q⟩ := h
 obtain ⟨u, rfl, ru⟩ := vals1 r
 cases ru
 obtain ⟨its, rv, p1, _⟩ := I.list (SqL.of hl)
 have e := vals_refs rv
 subst e
 have hlen : as.length = ps.length := Paired.length ha
 have el := zip_snd (as := as) (ps := ps) hlen
 have ezl : ((ps.zip as).map fun p => (kk p.1, p.2)).map (fun p => Value.ref p.2) = as.map Value.ref := by rw [List.map_map]; exact el
 refine RS.call_set_tups (its := (ps.zip as).map fun p => (kk p.1, p.2)) (I.ok.hd hc) hu (by rw [ezl]; exact p1.isList) (fun p hp => ?_) (by rw [List.length_map, List.length_zip]; lia) fun h' tk hS hk => ?_
 ·obtain ⟨z, hz, rfl⟩ := List.mem_map.mp hp
  exact I.key (zip_tp ha z hz)
 ·have em := more_eq (ps.zip as) []
  rw [List.map_nil] at em
  rw [em] at hS
  obtain ⟨o, es, ep, t, ho, he, hd, T, hle, E⟩ := hS
  refine ⟨.ref s.heap.objs.size, _, I.laid (h' := h') (t' := tk) (o := SetO X.prog X.w s.heap.objs.size (dedP (ps.zip as))) (fun b u e => hk b u e) (Nat.le_refl _) ⟨⟨o, es, ep, t, ho, he, hd, T, hle, ?_⟩, ⟨o, ho⟩, fun h1 h2 ⟨o, es, ep, t, x, y⟩ k => ⟨o, es, ep, t, k o x, y⟩⟩, rfl, q _ (I.hok.fresh (Nat.le_refl _))⟩
  have := E.perm
  rw [List.map_map] at this
  exact this
noncomputable def rSortP (X : Cx) : List V -> Hp -> VK -> Prop := fun xs H Q => ∃ S ents, xs = [.ref S] /\ H S = some (SetO X.prog X.w S ents) /\ (∀ p ∈ ents, Tp H p.2 p.1) /\ (ents.map (·.1)).Nodup /\ ents.length < 64 /\
 ∀ (D : Addr) (srt : List (Pt × Addr)), H D = none -> srt.Perm ents -> srt.Pairwise (fun p q : Pt × Addr => lexLt p.1 q.1 = true) -> Q (.ref D) (upd H D (.lst (srt.map fun p => V.ref p.2)))
theorem call_sorted_pts (hc : X.calm = true) : CallR X (.builtin "sorted") (rSortP X) := by
 intro pins s σ H xs us Q I r h
 obtain ⟨S, ents, rfl, hS, hk, nd, hn, q⟩ := h
 obtain ⟨u, rfl, ru⟩ := vals1 r
 cases ru
 obtain ⟨⟨o, es, ep, t, ho, he, hd, T, Lw, hp⟩, _, _⟩ := I.hok S _ hS
 obtain ⟨m, hm, _⟩ := id I.loc
 have F : Fr X.base X.env.locals s.heap m := ⟨hm, I.bk, Nat.le_trans I.ok.bsz I.ok.above⟩
 have N : News X.base X.env.locals s.heap (allNews X.base s.heap X.env.locals) := news_all
 have hsz : es.size = ents.length := by
  have := hp.length_eq
  rw [List.length_map, Array.length_toList] at this
  exact this
 refine kdu_sorted (RS.src_set (ep := ep) T Lw) (I.ok.hd hc) F N ⟨o, ho, he.1, hd⟩ (by rw [hsz, sizeLine_eq]; lia) fun D h1 tk vs F1 N1 l1 hlen hv => ?_
 have hw := (RS.walk_perm X.w S es ep).trans hp
 obtain ⟨its, pi, ei⟩ := RS.perm_map (fun p : Pt × Addr => (tupleKeyHash (intKind X.prog X.w) (kk p.1), Value.ref p.2)) hw ents rfl
 have evs : vs = its.map fun p => Value.ref p.2 := by
  refine List.ext_getElem? fun j => ?_
  have elen : vs.length = its.length := by rw [hlen, hsz]; exact pi.length_eq.symm
  rcases Nat.lt_or_ge j vs.length with hj | hj
  ·obtain ⟨e, h2, h3⟩ := hv j vs[j] (by simp [hj])
   rw [<- Array.getElem?_toList, ei, List.getElem?_map] at h2
   rw [List.getElem?_map]
   cases z : its[j]? with
   | none => rw [z] at h2; cases h2
   | some p =>
    rw [z] at h2
    cases h2
    rw [List.getElem?_eq_getElem hj, h3]
    rfl
  ·rw [List.getElem?_eq_none hj, List.getElem?_eq_none (by rw [List.length_map]; lia)]
 subst evs
 have off : ∀ z ∈ allNews X.base s.heap X.env.locals, z.1 ≠ D := fun z hz => Nat.ne_of_lt (l1 z hz)
 have nDs : s.heap.get? D = none := by
  cases z : s.heap.get? D with
  | none => rfl
  | some od =>
   have hD := N1 (D, _) List.mem_cons_self
   exact absurd (l1 (D, od) (mem_allNews hD.2.1 hD.2.2 z)) (Nat.lt_irrefl _)
 have nDH : H D = none := by
  cases z : H D with
  | none => rfl
  | some od =>
   obtain ⟨od', ho'⟩ := (I.hok D od z).obj
   rw [nDs] at ho'
   cases ho'
 refine RS.sort_pairs (s := { s with heap := h1, toks := tk }) (its := its) F1 N1 off (by rw [pi.length_eq]; exact hn) ((pi.map (·.1)).nodup_iff.mpr nd) (fun h' F' N' p hp' => ?_) fun h2 c srt F2 N2 ps hs => ?_
 ·have hkp := I.key (hk p (pi.mem_iff.mp hp'))
  have hne : p.2 ≠ X.env.locals := fun z => by
   have hh := hk p (pi.mem_iff.mp hp')
   unfold Tp at hh
   rw [z, I.free] at hh
   cases hh
  exact RS.tupKey_keep hkp fun o e => I.news F' N' _ o hne e
 ·have N3 : News X.base X.env.locals h2 (allNews X.base s.heap X.env.locals) := fun z hz => N2 z (List.mem_cons_of_mem _ hz)
  have gD := (N2 (D, _) List.mem_cons_self).1
  refine ⟨.ref D, _, I.grown (h' := h2) (t' := tk) (o := .lst (srt.map fun p => V.ref p.2)) (I.news F2 N3) (fun m' hm' => by rw [ns_uniq hm hm']; exact F2.ns) nDH nDs ⟨?_, srt.map (fun p => Value.ref p.2), c, ?_, gD⟩, rfl, q D srt nDH (ps.trans pi) hs⟩
  ·rw [List.length_map, ps.length_eq, pi.length_eq, sizeLine_eq]; lia
  ·have := refs_vals (srt.map (·.2))
   rw [List.map_map, List.map_map] at this
   exact this
end
end L2
namespace L2
open PySem PySem.Spec PyProof.Rows PySem.SeqAt
open RS (Pt kk)
theorem items_any {P P' : Program} {w w' : World} {ks : List Int} {vs : List Value} (h : ItemsAre (intKind P w) ks vs) : ItemsAre (intKind P' w') ks vs := by
 induction h with
 | nil => exact .nil
 | cons h1 _ ih => exact .cons h1 ih
theorem key_any {P P' : Program} {w w' : World} {h : Heap} {ks : List Int} {a : Addr} (x : IsTupleKey (intKind P w) h ks a) : IsTupleKey (intKind P' w') h ks a :=
 let ⟨o, its, n, ho, hc, hd, hi⟩ := x; ⟨o, its, n, ho, hc, hd, items_any hi⟩
theorem kk_dec (p q : Pt) : decide (kk p = kk q) = decide (p = q) := by
 by_cases h : p = q
 ·rw [h]; simp
 ·rw [decide_eq_false h, decide_eq_false fun e => h (RS.kk_inj e)]
section
variable {X : Cx}
theorem Inv.eqAt {pins : List (Addr × Obj)} {σ : St} {H : Hp} {s : Shared} {A : Around} {a b : Addr} {p q : Pt} (I : Inv X pins σ H s) (hu : A.units < cLine) (ha : Tp H a p) (hb : Tp H b q) : EqAt A s (.ref a) (.ref b) (decide (p = q)) := fun prog w E Q h =>
 wpAny_eqBool_tuple (knd := intKind prog w) hu (key_any (I.key ha)) (key_any (I.key hb)) (by rw [kk_dec]; exact h)
theorem paired_get {α β : Type} {F : α -> β -> Prop} {l₁ : List α} {l₂ : List β} (q : Paired F l₁ l₂) : ∀ (i : Nat) (a : α), l₁[i]? = some a -> ∃ b, l₂[i]? = some b /\ F a b := by
 induction q with
 | nil => exact fun i a h => by cases h
 | cons r _ ih =>
  intro i a h
  cases i with
  | zero => cases h; exact ⟨_, rfl, r⟩
  | succ i => exact ih i a h
noncomputable def rEqPts : R2 := fun x y H Q => ∃ l b ps qs, x = .ref l /\ y = .ref b /\ Pts H l ps /\ Pts H b qs /\ Q (.bl (decide (ps = qs))) H
noncomputable def rEqPt : R2 := fun x y H Q => ∃ a b p q, x = .ref a /\ y = .ref b /\ Tp H a p /\ Tp H b q /\ Q (.bl (decide (p = q))) H
noncomputable def isAt (H : Hp) (p : Pt) (y : Value) : Bool := match y with
 | .ref b => (match H b with
  | some (.tup [.int u, .int v]) => decide ((u, v) = p)
  | _ => false)
 | _ => false
theorem isAt_tp {H : Hp} {p q : Pt} {b : Addr} (h : Tp H b q) : isAt H p (.ref b) = decide (q = p) := by
 unfold isAt
 simp only
 unfold Tp at h
 rw [h]
theorem any_at {H : Hp} {p : Pt} : ∀ {as : List Addr} {ps : List Pt}, Ats H as ps -> (as.map Value.ref).any (isAt H p) = decide (p ∈ ps)
 | _, _, .nil => by simp
 | _, _, .cons (a := a) (b := q) (l₂ := r) h t => by
  rw [List.map_cons, List.any_cons, any_at t, isAt_tp h]
  by_cases e : q = p
  ·subst e; simp
  ·have : (p ∈ q :: r) ↔ p ∈ r := by
    rw [List.mem_cons]
    exact ⟨fun z => z.elim (fun z => absurd z.symm e) id, .inr⟩
   simp [e, this]
noncomputable def rInPts : R2 := fun x y H Q => ∃ a l p ps, x = .ref a /\ y = .ref l /\ Tp H a p /\ Pts H l ps /\ Q (.bl (decide (p ∈ ps))) H
theorem op_inPts (hu : X.A.units + 1 < cLine) : OpR X (compareOp .In) rInPts := by
 intro pins s σ H x y v u Q I rx ry h
 obtain ⟨a, l, p, ps, rfl, rfl, tp, ⟨as, hl, ha⟩, q⟩ := h
 cases rx
 cases ry
 obtain ⟨its, r1, p1, _⟩ := I.list (SqL.of (K := X.K) hl)
 have e1 := vals_refs r1
 subst e1
 refine in_listAt (isAt H p) p1.isList (fun y hy => ?_) ⟨.bl _, H, I, rfl, ?_⟩
 ·have hy' : y ∈ as.map Value.ref := by simpa using hy
  obtain ⟨j, hj, e⟩ := List.getElem_of_mem hy'
  have hj' : j < as.length := by simpa using hj
  obtain ⟨p', _, tp'⟩ := paired_get ha j as[j] (by simp [hj'])
  have ey : y = .ref as[j] := by rw [<- e]; simp
  rw [ey, isAt_tp tp']
  exact I.eqAt (A := X.A.in1) (by show X.A.units + 1 < cLine; exact hu) tp' tp
 ·have e2 : (as.map Value.ref).toArray.any (isAt H p) = decide (p ∈ ps) := by rw [<- any_at ha]; simp
  rw [e2]
  exact q
theorem call_all_bls (hc : X.calm = true) : CallR X (.builtin "all") (fun xs H Q => ∃ (l : Addr) (bs : List Bool), xs = [.ref l] /\ SqL X.K H l (bs.map V.bl) /\ Q (.bl (bs.all id)) H) := by
 intro pins s σ H xs us Q I r h
 obtain ⟨l, bs, rfl, hl, q⟩ := h
 obtain ⟨u, rfl, ru⟩ := vals1 r
 cases ru
 obtain ⟨its, rv, p1, _⟩ := I.list hl
 have hb : ∀ (j : Nat) (v : Value), its[j]? = some v -> ∃ b, bs[j]? = some b /\ v = .bool b := fun j v hv => by
  have hlen := rv.length
  rw [List.length_map] at hlen
  have hj : j < bs.length := by have := (List.getElem?_eq_some_iff.mp hv).1; lia
  obtain ⟨u, hu, ru⟩ := rv.get (i := j) (x := V.bl bs[j]) (by simp [hj])
  rw [hv] at hu
  cases hu
  exact ⟨bs[j], by simp [hj], ru⟩
 have hlt : l < s.heap.objs.size := let ⟨_, e, _⟩ := p1.isList; Heap.lt_size e
 refine call_all_walkS (wpAny_pyIter_list p1.isList ?_)
 refine ⟨s.heap.objs.size, _, _, _, its.toArray.size, _, _, (fun i => bs.getD i false), rfl, (Walks.list (by exact I.ok.hd hc) s.heap.objs.size l (Nat.ne_of_lt hlt) its.toArray).toS, ⟨⟨_, Heap.get?_push_size _ rfl, rfl, rfl⟩, p1.isList.push _⟩, ?_, fun s' hm => ?_⟩
 ·intro i v s' Q' E' hv hq
  obtain ⟨b, hb1, rfl⟩ := hb i v (by rw [<- Array.getElem?_toList] at hv; simpa using hv)
  have e : bs.getD i false = b := by simp [hb1]
  have hq' : Q' (bs.getD i false) s' := hq
  rw [e] at hq'
  exact wpAny_truthy_bool hq'
 ·have e : (List.range its.toArray.size).all (fun i => bs.getD i false) = bs.all id := by
   have hlen := rv.length
   rw [List.length_map] at hlen
   have hsz : its.toArray.size = bs.length := by simp [hlen]
   rw [hsz]
   have e2 : bs = (List.range bs.length).map fun i => bs.getD i false := by
    refine List.ext_getElem (by simp) fun i h1 h2 => ?_
    simp [h1]
   conv => rhs; rw [e2]
   rw [List.all_map]
   rfl
  rw [e]
  obtain ⟨h', g', d', tk', os'⟩ := s'
  have eg : g' = s.gens := hm.gens
  have ed : d' = s.drawn := hm.drawn
  have eo : os' = s.os := hm.os
  subst eg; subst ed; subst eo
  refine ⟨.bl _, H, I.kept (h' := h') (t' := tk') (fun b o eb => hm.heap b o (fun z => ?_) (Heap.get?_push_of_some _ eb)), rfl, q⟩
  have z' : b = s.heap.objs.size := by simpa using z
  rw [z'] at eb
  exact absurd (Heap.lt_size eb) (Nat.lt_irrefl _)
noncomputable def rInsert : V -> List V -> Hp -> VK -> Prop := fun x vs H Q => ∃ (l : Addr) (xs : List V) (i : Nat) (y : V), x = .ref l /\ vs = [.int (i : Int), y] /\ H l = some (.lst xs) /\ i <= xs.length /\ xs.length < sizeLine /\ (i : Int) < 2 ^ 63 /\ Q .non (upd H l (.lst (xs.take i ++ y :: xs.drop i)))
noncomputable def tLRev (K : PySem.W.Frag) (te : TE) : TE := fun σ H Q => te σ H fun x H1 => ∃ l ys, x = .ref l /\ SqL K H1 l ys /\ ∀ D, H1 D = none -> Q (.ref D) (upd H1 D (.lst ys.reverse))
theorem pe_lrev {e : Expr} {te : TE} {p1 p2 q1 q2 : Pos} (hc : X.calm = true) (hg : Gl X "list") (hm : X.mg "list" = none) (hg2 : Gl X "reversed") (hm2 : X.mg "reversed" = none) (he : PE X e te)
  (hs : starEach [.Call (.Name "reversed" p2) [e] [] q2] X.env = [(false, eval (.Call (.Name "reversed" p2) [e] [] q2) X.env)] := by rfl) (hs2 : starEach [e] X.env = [(false, eval e X.env)] := by rfl) :
  PE X (.Call (.Name "list" p1) [.Call (.Name "reversed" p2) [e] [] q2] [] q1) (tLRev X.K te) := by
 intro pins s σ H Q I h
 refine wpAny_Call_Name_kw (ld_blt I hg hm boot_list ?_)
 refine PyProof.Rows.callWith_type1 ?_ (by rw [hs]; rfl) rfl
 rw [hs]
 show wpAny _ _ (spliced ((false, eval (.Call (.Name "reversed" p2) [e] [] q2) X.env) :: backTo q1 [])) _ _ s
 refine Calls.spliced_cons ?_
 refine wpAny_Call_Name_kw (ld_blt I hg2 hm2 boot_reversed ?_)
 refine PyProof.Rows.callWith_type1 ?_ (by rw [hs2]; rfl) rfl
 rw [hs2]
 show wpAny _ _ (spliced ((false, eval e X.env) :: backTo q2 [])) _ _ s
 refine Calls.spliced_cons (thn (he pins s σ H _ I h) fun u s1 ⟨x, H1, I1, r1, l, ys, ex, hl, q⟩ => ?_)
 subst ex
 cases r1
 refine Calls.spliced_nil ?_
 obtain ⟨its, rv, pl, hz⟩ := I1.list hl
 refine call_reversed_list pl.isList ?_
 refine Calls.spliced_nil ?_
 have hlt : l < s1.heap.objs.size := let ⟨_, e, _⟩ := pl.isList; Heap.lt_size e
 have sz : (s1.heap.push (revObj l (((its.toArray.size : Nat) : Int) - 1))).objs.size = s1.heap.objs.size + 1 := Heap.size_push ..
 refine RS.call_list_rev (s := { s1 with heap := s1.heap.push (revObj l (((its.toArray.size : Nat) : Int) - 1)) }) (a := s1.heap.objs.size) (l := l) (its := its.toArray) (I1.ok.hd hc) ⟨_, Heap.get?_push_size _ rfl, rfl, rfl⟩ (pl.isList.push _) (Nat.ne_of_lt hlt)
  (by rw [List.size_toArray, <- rv.length]; exact hz) fun h' tk acc c hk hS hacc => ?_
 have nD : H1 (s1.heap.push (revObj l (((its.toArray.size : Nat) : Int) - 1))).objs.size = none := I1.hok.fresh (by rw [sz]; exact Nat.le_succ _)
 have ea : acc = its.reverse.toArray := by
  apply Array.toList_inj.mp
  rw [hacc]
 subst ea
 refine ⟨.ref _, _, I1.laid (h' := h') (t' := tk) (o := .lst ys.reverse) (fun b o eb => hk b o (Nat.ne_of_lt (Heap.lt_size eb)) (Heap.get?_push_of_some _ eb)) (by rw [sz]; exact Nat.le_succ _) ?_, rfl, q _ nD⟩
 exact ⟨by rw [List.length_reverse]; exact hz, its.reverse, c, rv.reverse, hS⟩
end
end L2
namespace L2
open PySem PySem.Spec PyProof.Rows
open RS (Pt)
theorem bootAll : bootBuiltins "all" = some (.builtin "all") := by decide +kernel
theorem bootIsi : bootBuiltins "isinstance" = some (.builtin "isinstance") := by decide +kernel
theorem bootSorted : bootBuiltins "sorted" = some (.builtin "sorted") := by decide +kernel
theorem bootSet : bootBuiltins "set" = some (.type "set") := by decide +kernel
theorem bootList : bootBuiltins "list" = some (.type "list") := by decide +kernel
theorem cut_from {xs : List V} (k : Nat) : cutV xs (some (k : Int)) none = xs.drop k := by
 unfold cutV
 rw [HT.sIx_nat, HT.sIx_none]
 rcases Nat.le_total k xs.length with h | h
 ·rw [Nat.min_eq_left h]
  exact List.take_of_length_le (by rw [List.length_drop]; exact Nat.le_refl _)
 ·rw [Nat.min_eq_right h, List.drop_of_length_le (Nat.le_refl _), List.drop_of_length_le h]
  simp
theorem cut_to {xs : List V} (k : Nat) : cutV xs none (some (k : Int)) = xs.take k := by
 unfold cutV
 rw [HT.sIx_nat, HT.sIx_none, List.drop_zero, Nat.sub_zero]
 rcases Nat.le_total k xs.length with h | h
 ·rw [Nat.min_eq_left h]
 ·rw [Nat.min_eq_right h, List.take_of_length_le (Nat.le_refl _), List.take_of_length_le h]
theorem cut_from1 {xs : List V} : cutV xs (some 1) none = xs.drop 1 := cut_from 1
theorem cut_to1 {xs : List V} : cutV xs none (some 1) = xs.take 1 := cut_to 1
theorem cut_init {xs : List V} : cutV xs none (some (-1)) = xs.dropLast := by
 unfold cutV
 have e : HT.sIx xs.length xs.length (some (-1)) = xs.length - 1 := by
  show (if (-1 : Int) < 0 then ((-1 : Int) + (xs.length : Int)).toNat else min (-1 : Int).toNat xs.length) = _
  rw [if_pos (by decide)]
  lia
 rw [e, HT.sIx_none, List.drop_zero, Nat.sub_zero, List.dropLast_eq_take]
theorem Ats.same {H H' : Hp} (e : Same H H') : ∀ {as : List Addr} {ps : List Pt}, Ats H as ps -> Ats H' as ps
 | _, _, .nil => .nil
 | _, _, .cons r t => .cons (e _ _ r) (Ats.same e t)
theorem Pts.same {H H' : Hp} (e : Same H H') {l : Addr} {ps : List Pt} (h : Pts H l ps) : Pts H' l ps := let ⟨as, a, b⟩ := h; ⟨as, e _ _ a, Ats.same e b⟩
theorem Ats.put {H : Hp} {D : Addr} {ys : List V} {o : HO} (hD : H D = some (.lst ys)) : ∀ {as : List Addr} {ps : List Pt}, Ats H as ps -> Ats (upd H D o) as ps
 | _, _, .nil => .nil
 | _, _, .cons r t => .cons (by
   show upd H D o _ = _
   rw [upd_ne (ne_of r hD (by intro z; cases z))]
   exact r) (Ats.put hD t)
theorem Ats.app {H : Hp} {as bs : List Addr} {ps qs : List Pt} (r : Ats H as ps) (s : Ats H bs qs) : Ats H (as ++ bs) (ps ++ qs) := by
 induction r with
 | nil => exact s
 | cons r _ ih => exact .cons r ih
theorem Ats.drop {H : Hp} : ∀ {as : List Addr} {ps : List Pt} (n : Nat), Ats H as ps -> Ats H (as.drop n) (ps.drop n)
 | _, _, 0, r => r
 | _, _, _ + 1, .nil => .nil
 | _, _, n + 1, .cons _ t => Ats.drop n t
theorem Ats.take {H : Hp} : ∀ {as : List Addr} {ps : List Pt} (n : Nat), Ats H as ps -> Ats H (as.take n) (ps.take n)
 | _, _, 0, _ => .nil
 | _, _, _ + 1, .nil => .nil
 | _, _, n + 1, .cons r t => .cons r (Ats.take n t)
theorem Ats.rev {H : Hp} : ∀ {as : List Addr} {ps : List Pt}, Ats H as ps -> Ats H as.reverse ps.reverse
 | _, _, .nil => .nil
 | _, _, .cons r t => by
  rw [List.reverse_cons, List.reverse_cons]
  exact Ats.app (Ats.rev t) (.cons r .nil)
theorem Ats.init {H : Hp} {as : List Addr} {ps : List Pt} (h : Ats H as ps) : Ats H as.dropLast ps.dropLast := by
 rw [List.dropLast_eq_take, List.dropLast_eq_take, Paired.length h]
 exact Ats.take _ h
theorem Ats.get {H : Hp} {as : List Addr} {ps : List Pt} (h : Ats H as ps) {i : Nat} {p : Pt} (e : ps[i]? = some p) : ∃ a, as[i]? = some a /\ Tp H a p := by
 have hl := Paired.length h
 have hi : i < as.length := by have := (List.getElem?_eq_some_iff.mp e).1; lia
 obtain ⟨q, hq, tp⟩ := paired_get h i as[i] (by simp [hi])
 rw [e] at hq
 cases hq
 exact ⟨as[i], by simp [hi], tp⟩
theorem same_upd {H : Hp} {a : Addr} {o : HO} (h : H a = none) : Same H (upd H a o) := fun b u e => by rw [upd_ne (ne_of_none e h)]; exact e
theorem same_set {H0 H : Hp} {D : Addr} {o : HO} (s : Same H0 H) (h : H0 D = none) : Same H0 (upd H D o) := fun b u e => by rw [upd_ne (ne_of_none e h)]; exact s b u e
theorem pts_push {H1 H4 : Hp} {D r : Addr} {vs : List Pt} {v : Pt} (hD : H1 D = none) (s : Same H1 H4) (p : Pts H4 D vs) (t : Tp H4 r v) (hl : vs.length < sizeLine) :
  ∃ ys, H4 D = some (.lst ys) /\ ys.length < sizeLine /\ Same H1 (upd H4 D (.lst (ys ++ [.ref r]))) /\ Pts (upd H4 D (.lst (ys ++ [.ref r]))) D (vs ++ [v]) := by
 obtain ⟨ds, h1, h2⟩ := p
 have hlen : ds.length = vs.length := Paired.length h2
 refine ⟨_, h1, by rw [List.length_map, hlen]; exact hl, same_set s hD, ds ++ [r], by rw [upd_same, List.map_append]; rfl, ?_⟩
 refine Ats.app (Ats.put h1 h2) (.cons ?_ .nil)
 show upd H4 D _ r = _
 rw [upd_ne (ne_of t h1 (by intro z; cases z))]
 exact t
theorem yes_go {σ : St} {H : Hp} {A B : Hp -> Prop} (h : A H) : tYes σ H (fun b H3 => if b = true then A H3 else B H3) := by
 show (if true = true then A H else B H)
 rw [if_pos rfl]
 exact h
theorem take_next {α : Type} {l : List α} {i : Nat} {x : α} (h : l[i]? = some x) : l.take (i + 1) = l.take i ++ [x] := by
 rw [List.take_add_one, h]
 rfl
theorem map_ref {as : List Addr} {i : Nat} {x : V} (h : (as.map V.ref)[i]? = some x) : ∃ a, as[i]? = some a /\ x = .ref a := by
 rw [List.getElem?_map] at h
 cases e : as[i]? with
 | none => rw [e] at h; cases h
 | some a => rw [e] at h; cases h; exact ⟨a, rfl, rfl⟩
theorem Caps.none {X : Cx} {scope : Scope} (hn : ∀ y ∈ scope.names, y.2 ≠ .free /\ y.2 ≠ .cell) (hk : scope.kind = .function) (hl : ∀ y ∈ scope.names, y.2 = .local -> scope.names.lookup y.1 = some .local) (hc : closureFor scope X.env = pure [] := by rfl) : Caps X scope [] [] where
 clos := hc
 sub := fun x c h => by cases h
 cap := fun p hp => by cases hp
 has := fun x hx => by
  have key : ∀ (names : List (Str × NameKind)), (∀ y ∈ names, y.2 ≠ .free /\ y.2 ≠ .cell) -> ∀ k, (names.map fun (n, k) => if (k == NameKind.free && X.env.scope.kind == .function && X.env.kindOf n == some .cell) then (n, NameKind.cell) else (n, k)).lookup x = some k -> k ≠ .free /\ k ≠ .cell := by
   intro names
   induction names with
   | nil => intro _ k h; cases h
   | cons y r ih =>
    intro hy k h
    obtain ⟨n, kd⟩ := y
    have h0 := hy (n, kd) List.mem_cons_self
    have hf : (kd == NameKind.free) = false := by cases kd <;> first | rfl | exact absurd rfl h0.1
    rw [List.map_cons] at h
    simp only [hf, Bool.false_and, Bool.false_eq_true, if_false] at h
    rw [List.lookup_cons] at h
    split at h
    ·cases h; exact h0
    ·exact ih (fun z hz => hy z (List.mem_cons_of_mem _ hz)) k h
  rcases hx with hx | hx
  ·exact absurd rfl (key scope.names hn _ hx).2
  ·exact absurd rfl (key scope.names hn _ hx).1
 kind := hk
 nocell := fun y hy => (hn y hy).2
 names := hl
theorem lc_zip {K : PySem.W.Frag} {a b D : Addr} {xs ys : List V} {g : TG} {tt : TT} {te : TE} {Fin : Hp -> Prop} {σ0 : St} {H0 : Hp} (Pv : Nat -> St -> Hp -> Prop) (h0 : Pv 0 σ0 H0) (hl : ∀ i σ H, Pv i σ H -> SqL K H a xs /\ SqL K H b ys)
  (hs : ∀ i x y σ H t, xs[i]? = some x -> ys[i]? = some y -> H t = none -> Pv i σ H -> g (.ref t) σ (upd H t (.tup [x, y])) fun σ2 H2 => tt σ2 H2 fun b H3 => if b = true then te σ2 H3 fun v H4 => ∃ zs, H4 D = some (.lst zs) /\ zs.length < sizeLine /\ Pv (i + 1) σ2 (upd H4 D (.lst (zs ++ [v]))) else Pv (i + 1) σ2 H3)
  (hd : ∀ i σ H, (i = xs.length \/ i = ys.length) -> i <= xs.length -> i <= ys.length -> Pv i σ H -> Fin H) :
  ∃ W : Nat -> Nat -> St -> Hp -> Prop, (∃ m, W 0 m σ0 H0) /\ LcGo (Itz K a b) D g tt te Fin W := by
 refine ⟨fun i m σ H => m = xs.length - i /\ i <= xs.length /\ i <= ys.length /\ Pv i σ H, ⟨xs.length, by simp, Nat.zero_le _, Nat.zero_le _, h0⟩, ?_⟩
 rintro i m σ H ⟨rfl, hi, hj, p⟩
 obtain ⟨q1, q2⟩ := hl i σ H p
 by_cases hlt : i < xs.length /\ i < ys.length
 ·refine .inr ⟨⟨xs, ys, xs[i]'hlt.1, ys[i]'hlt.2, q1, q2, by simp [hlt.1], by simp [hlt.2]⟩, Pv (i + 1), fun σ' H' p' => ⟨xs.length - (i + 1), by omega, rfl, hlt.1, hlt.2, p'⟩, fun v H' y => ?_⟩
  obtain ⟨t, x, y, ht, ev, eH, e1, e2⟩ := y
  subst ev eH
  exact hs i x y σ H t (e1 xs q1) (e2 ys q2) ht p
 ·refine .inl ⟨⟨xs, ys, q1, q2, by lia⟩, hd i σ H (by lia) hi hj p⟩
end L2
namespace RS
noncomputable def cellAt (ns : List Int) (k : Int) : Int := if k < ns.length then ns.getD k.toNat 0 else 0
noncomputable def stir (seed : Int) : Int := ((seed + 7919) % 2147483647 * ((seed + 7919) % 2147483647) + 48271 * ((seed + 7919) % 2147483647) + 12345) % 2147483629
noncomputable def popW : List Pt -> Pt -> List Pt
 | b :: a :: r, p => if 0 < cross (arrow a b) (arrow b p) then b :: a :: r else popW (a :: r) p
 | st, _ => st
noncomputable def chainR (ps : List Pt) : List Pt := ps.foldl (fun st p => p :: popW st p) []
noncomputable def chain (ps : List Pt) : List Pt := (chainR ps).reverse
noncomputable def swap (p : Pt) : Pt := (p.2, p.1)
noncomputable def order (ps : List Pt) : List Pt := (sortD (ps.map swap)).map swap
noncomputable def hull (ps : List Pt) : List Pt := if (order ps).length = 1 then order ps else (chain (order ps)).dropLast ++ (chain (order ps).reverse).dropLast
theorem popW_sub : ∀ (st : List Pt) (p : Pt), ∀ x ∈ popW st p, x ∈ st
 | [], _, x, h => h
 | [_], _, x, h => h
 | b :: a :: r, p, x, h => by
  unfold popW at h
  split at h
  ·exact h
  ·exact List.mem_cons_of_mem _ (popW_sub (a :: r) p x h)
theorem popW_len : ∀ (st : List Pt) (p : Pt), (popW st p).length <= st.length
 | [], _ => Nat.le_refl _
 | [_], _ => Nat.le_refl _
 | b :: a :: r, p => by
  unfold popW
  split
  ·exact Nat.le_refl _
  ·exact Nat.le_succ_of_le (popW_len (a :: r) p)
theorem chain_go : ∀ (ps st : List Pt), (∀ x ∈ ps.foldl (fun st p => p :: popW st p) st, x ∈ st \/ x ∈ ps) /\ (ps.foldl (fun st p => p :: popW st p) st).length <= st.length + ps.length
 | [], st => ⟨fun x h => .inl h, by simp⟩
 | p :: ps, st => by
  obtain ⟨a, b⟩ := chain_go ps (p :: popW st p)
  refine ⟨fun x h => ?_, ?_⟩
  ·rcases a x h with z | z
   ·rcases List.mem_cons.mp z with z | z
    ·exact .inr (by rw [z]; exact List.mem_cons_self)
    ·exact .inl (popW_sub st p x z)
   ·exact .inr (List.mem_cons_of_mem _ z)
  ·have := popW_len st p
   simp only [List.foldl_cons, List.length_cons] at b ⊢
   lia
theorem mem_chain {ps : List Pt} {x : Pt} (h : x ∈ chain ps) : x ∈ ps := by
 unfold chain chainR at h
 rcases (chain_go ps []).1 x (List.mem_reverse.mp h) with z | z
 ·cases z
 ·exact z
theorem chain_len (ps : List Pt) : (chain ps).length <= ps.length := by
 unfold chain chainR
 rw [List.length_reverse]
 have := (chain_go ps []).2
 simpa using this
theorem chainR_snoc (ps : List Pt) (p : Pt) : chainR (ps ++ [p]) = p :: popW (chainR ps) p := by
 unfold chainR
 rw [List.foldl_append]
 rfl
theorem mem_order {ps : List Pt} {x : Pt} : x ∈ order ps ↔ x ∈ ps := by
 unfold order
 rw [List.mem_map]
 constructor
 ·rintro ⟨y, hy, rfl⟩
  obtain ⟨z, hz, rfl⟩ := List.mem_map.mp (mem_sortD.mp hy)
  exact hz
 ·intro h
  exact ⟨swap x, mem_sortD.mpr (List.mem_map.mpr ⟨x, h, rfl⟩), rfl⟩
theorem ins_len (p : Pt) : ∀ l : List Pt, (ins p l).length <= l.length + 1
 | [] => Nat.le_refl _
 | q :: r => by
  unfold ins
  split
  ·exact Nat.le_succ _
  ·split
   ·exact Nat.le_refl _
   ·have := ins_len p r
    simp only [List.length_cons]
    lia
theorem sortD_len : ∀ l : List Pt, (sortD l).length <= l.length
 | [] => Nat.le_refl _
 | p :: l => by
  have h1 := sortD_len l
  have h2 := ins_len p (sortD l)
  show (ins p (sortD l)).length <= l.length + 1
  lia
theorem order_len (ps : List Pt) : (order ps).length <= ps.length := by
 unfold order
 rw [List.length_map]
 have := sortD_len (ps.map swap)
 rw [List.length_map] at this
 exact this
theorem mem_hull {ps : List Pt} {x : Pt} (h : x ∈ hull ps) : x ∈ ps := by
 unfold hull at h
 split at h
 ·exact mem_order.mp h
 ·rcases List.mem_append.mp h with z | z
  ·exact mem_order.mp (mem_chain (List.dropLast_subset _ z))
  ·exact mem_order.mp (List.mem_reverse.mp (mem_chain (List.dropLast_subset _ z)))
theorem hull_len (ps : List Pt) : (hull ps).length <= 2 * ps.length := by
 have h0 := order_len ps
 unfold hull
 split
 ·lia
 ·have h1 := chain_len (order ps)
  have h2 := chain_len (order ps).reverse
  rw [List.length_reverse] at h2
  rw [List.length_append, List.length_dropLast, List.length_dropLast]
  omega
noncomputable def spanAt (cell : Int) : Int := [3, 1, 8, 1000].getD (cell / 16 % 4).toNat 0
theorem span_cases (cell : Int) : spanAt cell = 3 \/ spanAt cell = 1 \/ spanAt cell = 8 \/ spanAt cell = 1000 := by
 unfold spanAt
 have h1 : 0 <= cell / 16 % 4 := Int.emod_nonneg _ (by decide)
 have h2 : cell / 16 % 4 < 4 := Int.emod_lt_of_pos _ (by decide)
 have h3 : (cell / 16 % 4).toNat = 0 \/ (cell / 16 % 4).toNat = 1 \/ (cell / 16 % 4).toNat = 2 \/ (cell / 16 % 4).toNat = 3 := by lia
 rcases h3 with e | e | e | e <;> rw [e] <;> simp
noncomputable def pointAt (ns : List Int) (at' span : Int) (k : Nat) : Pt :=
 let seed := stir (cellAt ns (at' + 1 + (k : Int) % 3) + 5003 * (k : Int))
 (seed / 7 % (2 * span + 1) - span, seed / 7 / (2 * span + 1) % (2 * span + 1) - span)
noncomputable def rawPoints (ns : List Int) (at' most : Int) : List Pt := (List.range (1 + cellAt ns at' % most).toNat).map (pointAt ns at' (spanAt (cellAt ns at')))
noncomputable def lawPoints (ns : List Int) (at' most : Int) : List Pt :=
 if cellAt ns at' / 64 % 5 = 1 then (rawPoints ns at' most).map (fun p => (p.1, (cellAt ns at' / 320 % 5 - 2) * p.1)) else rawPoints ns at' most
theorem point_bd (ns : List Int) (at' span : Int) (k : Nat) (hs : 0 < span) : -span <= (pointAt ns at' span k).1 /\ (pointAt ns at' span k).1 <= span /\ -span <= (pointAt ns at' span k).2 /\ (pointAt ns at' span k).2 <= span := by
 unfold pointAt
 simp only
 have a1 := Int.emod_nonneg (stir (cellAt ns (at' + 1 + (k : Int) % 3) + 5003 * (k : Int)) / 7) (show 2 * span + 1 ≠ 0 by lia)
 have a2 := Int.emod_lt_of_pos (stir (cellAt ns (at' + 1 + (k : Int) % 3) + 5003 * (k : Int)) / 7) (show 0 < 2 * span + 1 by lia)
 have b1 := Int.emod_nonneg (stir (cellAt ns (at' + 1 + (k : Int) % 3) + 5003 * (k : Int)) / 7 / (2 * span + 1)) (show 2 * span + 1 ≠ 0 by lia)
 have b2 := Int.emod_lt_of_pos (stir (cellAt ns (at' + 1 + (k : Int) % 3) + 5003 * (k : Int)) / 7 / (2 * span + 1)) (show 0 < 2 * span + 1 by omega)
 omega
theorem raw_bd (ns : List Int) (at' most : Int) : ∀ p ∈ rawPoints ns at' most, -1000 <= p.1 /\ p.1 <= 1000 /\ -1000 <= p.2 /\ p.2 <= 1000 := fun p hp => by
 obtain ⟨k, _, rfl⟩ := List.mem_map.mp hp
 have hs := span_cases (cellAt ns at')
 have := point_bd ns at' (spanAt (cellAt ns at')) k (by lia)
 lia
theorem raw_len (ns : List Int) (at' most : Int) (h : 0 < most) : (rawPoints ns at' most).length = (1 + cellAt ns at' % most).toNat /\ 0 <= cellAt ns at' % most /\ cellAt ns at' % most < most := by
 unfold rawPoints
 rw [List.length_map, List.length_range]
 exact ⟨rfl, Int.emod_nonneg _ (by lia), Int.emod_lt_of_pos _ h⟩
theorem law_bd (ns : List Int) (at' most : Int) : ∀ p ∈ lawPoints ns at' most, -2000 <= p.1 /\ p.1 <= 2000 /\ -2000 <= p.2 /\ p.2 <= 2000 := fun p hp => by
 unfold lawPoints at hp
 split at hp
 ·obtain ⟨q, hq, rfl⟩ := List.mem_map.mp hp
  have b := raw_bd ns at' most q hq
  have l1 := Int.emod_nonneg (cellAt ns at' / 320) (show (5 : Int) ≠ 0 by decide)
  have l2 := Int.emod_lt_of_pos (cellAt ns at' / 320) (show (0 : Int) < 5 by decide)
  dsimp only
  have hc : cellAt ns at' / 320 % 5 - 2 = -2 \/ cellAt ns at' / 320 % 5 - 2 = -1 \/ cellAt ns at' / 320 % 5 - 2 = 0 \/ cellAt ns at' / 320 % 5 - 2 = 1 \/ cellAt ns at' / 320 % 5 - 2 = 2 := by lia
  rcases hc with e | e | e | e | e <;> rw [e] <;> lia
 ·have b := raw_bd ns at' most p hp
  omega
theorem law_len (ns : List Int) (at' most : Int) (h : 0 < most) : (lawPoints ns at' most).length <= most.toNat /\ 0 < (lawPoints ns at' most).length := by
 obtain ⟨a, b, c⟩ := raw_len ns at' most h
 unfold lawPoints
 split
 ·rw [List.length_map, a]; lia
 ·rw [a]; lia
noncomputable def lawShape (ns : List Int) (at' most : Int) : List Pt := hull (lawPoints ns at' most)
end RS
namespace RS
noncomputable def turnsR : List Pt -> Prop
 | c :: b :: a :: r => 0 < cross (arrow a b) (arrow b c) /\ turnsR (b :: a :: r)
 | _ => True
noncomputable def turns : List Pt -> Prop
 | a :: b :: c :: r => 0 < cross (arrow a b) (arrow b c) /\ turns (b :: c :: r)
 | _ => True
theorem turnsR_tail {c : Pt} : ∀ {l : List Pt}, turnsR (c :: l) -> turnsR l
 | [], _ => trivial
 | [_], _ => trivial
 | _ :: _ :: _, h => h.2
set_option tactic.hygienic true in
theorem popW_turns {p : Pt} : ∀ {st : List Pt}, turnsR st -> turnsR (p :: popW st p)
 | [], _ => trivial
 | [_], _ => trivial
 | b :: a :: r, h => by
  unfold popW
  split
  ·rename_i c
   exact ⟨c, h⟩
  ·exact popW_turns (turnsR_tail h)
theorem popW_suffix {p : Pt} : ∀ (st : List Pt), ∃ pre, st = pre ++ popW st p
 | [] => ⟨[], rfl⟩
 | [_] => ⟨[], rfl⟩
 | b :: a :: r => by
  unfold popW
  split
  ·exact ⟨[], rfl⟩
  ·obtain ⟨pre, e⟩ := popW_suffix (p := p) (a :: r)
   exact ⟨b :: pre, by rw [List.cons_append, <- e]⟩
theorem popW_pos {p : Pt} : ∀ {st : List Pt}, st ≠ [] -> popW st p ≠ []
 | [_], _ => by simp [popW]
 | b :: a :: r, _ => by
  unfold popW
  split
  ·simp
  ·exact popW_pos (by simp)
theorem chain_inv (a : Pt) : ∀ (l st : List Pt), turnsR st -> (∃ pre, st = pre ++ [a]) ->
  turnsR (l.foldl (fun st p => p :: popW st p) st) /\ (∃ pre, l.foldl (fun st p => p :: popW st p) st = pre ++ [a]) /\ (l.foldl (fun st p => p :: popW st p) st).Sublist (l.reverse ++ st) /\ (l.foldl (fun st p => p :: popW st p) st).head? = (l.reverse ++ st).head?
 | [], st, h, e => ⟨h, e, List.Sublist.refl _, rfl⟩
 | p :: l, st, h, ⟨pre, e⟩ => by
  have hne : st ≠ [] := by rw [e]; simp
  obtain ⟨pr, es⟩ := popW_suffix (p := p) st
  have e2 : ∃ pre, p :: popW st p = pre ++ [a] := by
   rcases List.eq_nil_or_concat (popW st p) with z | ⟨ys, y, z⟩
   ·exact absurd z (popW_pos hne)
   ·rw [List.concat_eq_append] at z
    have : y = a := by
     rw [z, <- List.append_assoc] at es
     rw [e] at es
     have := congrArg List.getLast? es
     simpa using this.symm
    exact ⟨p :: ys, by rw [z, this]; rfl⟩
  obtain ⟨i1, i2, i3, i4⟩ := chain_inv a l (p :: popW st p) (popW_turns h) e2
  rw [List.foldl_cons]
  refine ⟨i1, i2, ?_, ?_⟩
  ·refine i3.trans ?_
   rw [List.reverse_cons, List.append_assoc]
   refine List.Sublist.append (List.Sublist.refl _) ?_
   show (p :: popW st p).Sublist (p :: st)
   refine List.Sublist.cons_cons _ ?_
   conv => rhs; rw [es]
   exact List.sublist_append_right _ _
  ·rw [i4, List.reverse_cons]
   cases l with
   | nil => rfl
   | cons x r => simp
theorem turns_snoc : ∀ (l : List Pt) (a b c : Pt), turns (l ++ [a, b]) -> 0 < cross (arrow a b) (arrow b c) -> turns (l ++ [a, b, c])
 | [], _, _, _, _, h => ⟨h, trivial⟩
 | [x], _, _, _, h, h2 => ⟨h.1, h2, trivial⟩
 | [x, y], _, _, _, h, h2 => ⟨h.1, h.2.1, h2, trivial⟩
 | x :: y :: z :: l, a, b, c, h, h2 => ⟨h.1, turns_snoc (y :: z :: l) a b c h.2 h2⟩
theorem turns_rev : ∀ {st : List Pt}, turnsR st -> turns st.reverse
 | [], _ => trivial
 | [_], _ => trivial
 | [_, _], _ => trivial
 | c :: b :: a :: r, h => by
  have ih := turns_rev h.2
  have e : (c :: b :: a :: r).reverse = r.reverse ++ [a, b, c] := by simp
  have e2 : (b :: a :: r).reverse = r.reverse ++ [a, b] := by simp
  rw [e]
  rw [e2] at ih
  exact turns_snoc _ _ _ _ ih h.1
theorem chain_facts {a : Pt} {l : List Pt} : turns (chain (a :: l)) /\ (chain (a :: l)).Sublist (a :: l) /\ (∃ m, chain (a :: l) = a :: m) /\ (chain (a :: l)).getLast? = (a :: l).getLast? := by
 have e0 : chainR (a :: l) = l.foldl (fun st p => p :: popW st p) [a] := rfl
 obtain ⟨i1, ⟨pre, i2⟩, i3, i4⟩ := chain_inv a l [a] trivial ⟨[], rfl⟩
 rw [<- e0] at i1 i2 i3 i4
 unfold chain
 refine ⟨turns_rev i1, ?_, ⟨pre.reverse, by rw [i2]; simp⟩, ?_⟩
 ·have := i3.reverse
  simpa using this
 ·rw [List.getLast?_reverse, i4]
  have : (a :: l).getLast? = (a :: l).reverse.head? := by rw [List.head?_reverse]
  rw [this, List.reverse_cons]
noncomputable def steps (l : List Pt) : List Pt := List.zipWith arrow l (l.drop 1)
theorem steps_cons (a b : Pt) (r : List Pt) : steps (a :: b :: r) = arrow a b :: steps (b :: r) := rfl
theorem steps_init (l : List Pt) : steps l = List.zipWith arrow l.dropLast (l.drop 1) := by
 induction l with
 | nil => rfl
 | cons a l ih =>
  cases l with
  | nil => rfl
  | cons b r =>
   rw [steps_cons, ih]
   rfl
noncomputable def upp (p q : Pt) : Prop := p.2 < q.2 \/ (p.2 = q.2 /\ p.1 < q.1)
theorem fst_up {p q : Pt} (h : upp p q) : fstHalf (arrow p q) = true /\ arrow p q ≠ (0, 0) := by
 unfold upp at h
 unfold fstHalf arrow
 constructor
 ·simp only [Bool.or_eq_true, Bool.and_eq_true, decide_eq_true_eq]
  lia
 ·intro z
  injection z with z1 z2
  lia
theorem fst_down {p q : Pt} (h : upp q p) : fstHalf (arrow p q) = false /\ arrow p q ≠ (0, 0) := by
 unfold upp at h
 unfold fstHalf arrow
 constructor
 ·rw [<- Bool.not_eq_true]
  simp only [Bool.or_eq_true, Bool.and_eq_true, decide_eq_true_eq]
  lia
 ·intro z
  injection z with z1 z2
  lia
noncomputable def lined : List Pt -> Prop
 | a :: b :: r => before a b = true /\ lined (b :: r)
 | _ => True
theorem lined_all : ∀ {l : List Pt}, lined l -> (List.zipWith before l (l.drop 1)).all id = true
 | [], _ => rfl
 | [_], _ => rfl
 | a :: b :: r, h => by
  have ih := lined_all h.2
  show (before a b :: List.zipWith before (b :: r) r).all id = true
  rw [List.all_cons]
  have e : (List.zipWith before (b :: r) r).all id = true := ih
  rw [e, Bool.and_true]
  exact h.1
theorem steps_lined {k : Bool} : ∀ {l : List Pt}, turns l -> (∀ a ∈ steps l, fstHalf a = k) -> lined (steps l)
 | [], _, _ => trivial
 | [_], _, _ => trivial
 | [_, _], _, _ => trivial
 | a :: b :: c :: r, h, hk => by
  have ih := steps_lined (k := k) h.2 (fun x hx => hk x (by rw [steps_cons]; exact List.mem_cons_of_mem _ hx))
  rw [steps_cons]
  rw [steps_cons] at ih ⊢
  refine ⟨?_, ih⟩
  have h1 := hk (arrow a b) (by rw [steps_cons]; exact List.mem_cons_self)
  have h2 := hk (arrow b c) (by rw [steps_cons, steps_cons]; exact List.mem_cons_of_mem _ List.mem_cons_self)
  unfold before
  rw [h1, h2, bne_self_eq_false, if_neg Bool.false_ne_true]
  exact decide_eq_true h.1
theorem lined_app : ∀ {l r : List Pt}, lined l -> lined r -> (∀ a b, l.getLast? = some a -> r.head? = some b -> before a b = true) -> lined (l ++ r)
 | [], _, _, h, _ => h
 | [a], [], _, _, _ => trivial
 | [a], b :: r, _, h, k => ⟨k a b rfl rfl, h⟩
 | a :: b :: l, r, h1, h2, k => ⟨h1.1, lined_app h1.2 h2 fun x y e => k x y (by rw [List.getLast?_cons_cons]; exact e)⟩
theorem steps_mem : ∀ {l : List Pt} {R : Pt -> Pt -> Prop}, l.Pairwise R -> ∀ x ∈ steps l, ∃ p q, R p q /\ x = arrow p q
 | [], _, _, x, h => by cases h
 | [_], _, _, x, h => by cases h
 | a :: b :: r, R, hp, x, h => by
  rw [steps_cons] at h
  rcases List.mem_cons.mp h with rfl | h
  ·exact ⟨a, b, (List.pairwise_cons.mp hp).1 b List.mem_cons_self, rfl⟩
  ·exact steps_mem (List.pairwise_cons.mp hp).2 x h
theorem round_two {a z : Pt} {m m' : List Pt} : round ((a :: m) ++ (z :: m')) = steps (a :: m ++ [z]) ++ steps (z :: m' ++ [a]) := by
 have e1 : (a :: m ++ [z]).dropLast = a :: m := by rw [List.dropLast_concat]
 have e2 : (z :: m' ++ [a]).dropLast = z :: m' := by rw [List.dropLast_concat]
 rw [steps_init, steps_init, e1, e2]
 unfold round
 have e3 : ((a :: m) ++ (z :: m')).drop 1 ++ ((a :: m) ++ (z :: m')).take 1 = (a :: m ++ [z]).drop 1 ++ (z :: m' ++ [a]).drop 1 := by simp
 rw [e3, List.zipWith_append (by simp)]
theorem order_up (ps : List Pt) : (order ps).Pairwise upp := by
 unfold order
 rw [List.pairwise_map]
 refine (sortD_sorted (ps.map swap)).imp fun {p q} h => ?_
 unfold upp swap
 unfold lexLt at h
 simp only [Bool.or_eq_true, Bool.and_eq_true, decide_eq_true_eq] at h
 dsimp only
 lia
theorem cut_last {l : List Pt} {a z : Pt} {m : List Pt} (e : l = a :: m) (h : l.getLast? = some z) (hne : a ≠ z) : ∃ m', l = a :: m' ++ [z] := by
 rcases List.eq_nil_or_concat m with rfl | ⟨ys, y, rfl⟩
 ·rw [e] at h
  exact absurd (Option.some.inj h) hne
 ·rw [e, List.concat_eq_append] at h
  rw [e, List.concat_eq_append]
  refine ⟨ys, ?_⟩
  have : y = z := by
   have h' : (a :: ys ++ [y]).getLast? = some z := h
   rw [List.getLast?_append] at h'
   simpa using h'
  rw [this]
  rfl
theorem hull_ways {ps : List Pt} (h : ¬ (order ps).length = 1) (h0 : ps ≠ []) : ∃ a z m m', hull ps = (a :: m) ++ (z :: m') /\ chain (order ps) = a :: m ++ [z] /\ chain (order ps).reverse = z :: m' ++ [a] /\
  turns (a :: m ++ [z]) /\ turns (z :: m' ++ [a]) /\ (a :: m ++ [z]).Pairwise upp /\ (z :: m' ++ [a]).Pairwise (fun p q => upp q p) := by
 have hu := order_up ps
 obtain ⟨x, hx⟩ : ∃ x, x ∈ ps := List.exists_mem_of_ne_nil ps h0
 have hx' := mem_order.mpr hx
 generalize ho : order ps = o at h hu hx'
 match o, h, hu, hx' with
 | a :: b :: r, _, hu, _ =>
  obtain ⟨t1, s1, ⟨m1, e1⟩, g1⟩ := chain_facts (a := a) (l := b :: r)
  obtain ⟨z, hz⟩ : ∃ z, (a :: b :: r).getLast? = some z := ⟨_, List.getLast?_eq_some_getLast (by simp)⟩
  have hzm : z ∈ b :: r := by
   have h' : (b :: r).getLast? = some z := by rw [<- hz, List.getLast?_cons_cons]
   exact List.mem_of_getLast? h'
  have haz : upp a z := (List.pairwise_cons.mp hu).1 z hzm
  have hne : a ≠ z := fun q => by
   rw [q] at haz
   unfold upp at haz
   lia
  obtain ⟨m, em⟩ := cut_last e1 (g1.trans hz) hne
  have hrev : ∃ w, (a :: b :: r).reverse = z :: w := by
   have h1 : (a :: b :: r).reverse.head? = some z := by rw [List.head?_reverse]; exact hz
   cases q : (a :: b :: r).reverse with
   | nil => rw [q] at h1; cases h1
   | cons c w => rw [q] at h1; cases h1; exact ⟨w, rfl⟩
  obtain ⟨w, hw⟩ := hrev
  obtain ⟨t2, s2, ⟨m2, e2⟩, g2⟩ := chain_facts (a := z) (l := w)
  have hl2 : (z :: w).getLast? = some a := by rw [<- hw, List.getLast?_reverse]; rfl
  obtain ⟨m', em'⟩ := cut_last e2 (g2.trans hl2) (Ne.symm hne)
  have hu2 : (z :: w).Pairwise (fun p q => upp q p) := by
   rw [<- hw, List.pairwise_reverse]
   exact hu
  refine ⟨a, z, m, m', ?_, em, by rw [hw]; exact em', by rw [<- em]; exact t1, by rw [<- em']; exact t2, by rw [<- em]; exact hu.sublist s1, by rw [<- em']; exact hu2.sublist s2⟩
  unfold hull
  rw [ho, if_neg (by simp), hw, em, em', List.dropLast_concat, List.dropLast_concat]
theorem hull_shape {ps : List Pt} (h0 : ps ≠ []) : isShape (hull ps) = true := by
 by_cases h : (order ps).length = 1
 ·have e : hull ps = order ps := by unfold hull; rw [if_pos h]
  rw [e]
  unfold isShape
  rw [if_pos (by lia), h]
  rfl
 ·obtain ⟨a, z, m, m', e, _, _, t1, t2, u1, u2⟩ := hull_ways h h0
  rw [e]
  unfold isShape
  rw [if_neg (by simp; lia), round_two]
  have f1 : ∀ x ∈ steps (a :: m ++ [z]), fstHalf x = true /\ x ≠ (0, 0) := fun x hx => by
   obtain ⟨p, q, hr, rfl⟩ := steps_mem u1 x hx
   exact fst_up hr
  have f2 : ∀ x ∈ steps (z :: m' ++ [a]), fstHalf x = false /\ x ≠ (0, 0) := fun x hx => by
   obtain ⟨p, q, hr, rfl⟩ := steps_mem u2 x hx
   exact fst_down hr
  rw [if_neg]
  ·refine lined_all (lined_app (steps_lined t1 fun x hx => (f1 x hx).1) (steps_lined t2 fun x hx => (f2 x hx).1) fun x y hx hy => ?_)
   have h1 := (f1 x (List.mem_of_getLast? hx)).1
   have h2 := (f2 y (List.mem_of_head? hy)).1
   unfold before
   rw [h1, h2]
   rfl
  ·intro hz
   rcases List.mem_append.mp hz with q | q
   ·exact (f1 _ q).2 rfl
   ·exact (f2 _ q).2 rfl
end RS
namespace RS
noncomputable def dot (d q : Pt) : Int := d.1 * q.1 + d.2 * q.2
theorem cross_neg (a b : Pt) : cross b a = - cross a b := by
 unfold cross
 grind
theorem three (u v w : Pt) : cross u w * v.2 = cross u v * w.2 + cross v w * u.2 := by
 unfold cross
 grind
theorem low {a : Pt} (h : fstHalf a = false) (hne : a ≠ (0, 0)) : a.2 < 0 \/ (a.2 = 0 /\ a.1 < 0) := by
 obtain ⟨x, y⟩ := a
 rw [<- Bool.not_eq_true] at h
 unfold fstHalf at h
 simp only [Bool.or_eq_true, Bool.and_eq_true, decide_eq_true_eq] at h
 have : ¬ (x = 0 /\ y = 0) := fun ⟨e1, e2⟩ => hne (by rw [e1, e2])
 dsimp only
 lia
theorem high {a : Pt} (h : fstHalf a = true) : 0 < a.2 \/ (a.2 = 0 /\ 0 < a.1) := by
 unfold fstHalf at h
 simpa only [Bool.or_eq_true, Bool.and_eq_true, decide_eq_true_eq] using h
noncomputable def neg (a : Pt) : Pt := (-a.1, -a.2)
theorem low_trans {u v w : Pt} (hu : u.2 < 0 \/ (u.2 = 0 /\ u.1 < 0)) (hv : v.2 < 0 \/ (v.2 = 0 /\ v.1 < 0)) (hw : w.2 < 0 \/ (w.2 = 0 /\ w.1 < 0)) (h1 : 0 <= cross u v) (h2 : 0 <= cross v w) (h3 : 0 < cross u v \/ 0 < cross v w) : 0 < cross u w := by
 have e := three u v w
 rcases hv with hv | ⟨hv, hv'⟩
 ·-- v goes down
  have t1 : cross u v * w.2 <= 0 := Int.mul_nonpos_of_nonneg_of_nonpos h1 (by lia)
  have t2 : cross v w * u.2 <= 0 := Int.mul_nonpos_of_nonneg_of_nonpos h2 (by lia)
  refine Int.not_le.mp fun z => ?_
  have t3 : 0 <= cross u w * v.2 := Int.mul_nonneg_of_nonpos_of_nonpos z (by lia)
  have z1 : cross u v * w.2 = 0 := by lia
  have z2 : cross v w * u.2 = 0 := by lia
  rcases h3 with h3 | h3
  ·have w0 : w.2 = 0 := by
    rcases Int.mul_eq_zero.mp z1 with q | q
    ·lia
    ·exact q
   have w1 : w.1 < 0 := by lia
   have c : cross v w = - (v.2 * w.1) := by unfold cross; rw [w0]; grind
   have p := Int.mul_pos_of_neg_of_neg hv w1
   lia
  ·have u0 : u.2 = 0 := by
    rcases Int.mul_eq_zero.mp z2 with q | q
    ·lia
    ·exact q
   have u1 : u.1 < 0 := by lia
   have c : cross u w = u.1 * w.2 := by unfold cross; rw [u0]; grind
   rcases hw with hw | ⟨hw, hw'⟩
   ·have p := Int.mul_pos_of_neg_of_neg u1 hw
    lia
   ·have c2 : cross v w = - (v.2 * w.1) := by unfold cross; rw [hw]; grind
    have p := Int.mul_pos_of_neg_of_neg hv hw'
    lia
 ·-- v goes to the left
  have c1 : cross u v = - (u.2 * v.1) := by unfold cross; rw [hv]; grind
  have c2 : cross v w = v.1 * w.2 := by unfold cross; rw [hv]; grind
  have u0 : u.2 = 0 := by
   rcases hu with hu | hu
   ·have p := Int.mul_pos_of_neg_of_neg hu hv'
    lia
   ·exact hu.1
  have c3 : cross u w = u.1 * w.2 := by unfold cross; rw [u0]; grind
  have hw2 : w.2 < 0 := by
   rcases h3 with h3 | h3
   ·rw [c1, u0] at h3
    lia
   ·refine Int.not_le.mp fun z => ?_
    have w0 : w.2 = 0 := by lia
    rw [c2, w0] at h3
    lia
  rw [c3]
  exact Int.mul_pos_of_neg_of_neg (by lia) hw2
theorem before_cases {a b : Pt} (h : before a b = true) : (fstHalf a = fstHalf b /\ 0 < cross a b) \/ (fstHalf a = true /\ fstHalf b = false) := by
 unfold before at h
 cases ha : fstHalf a <;> cases hb : fstHalf b <;> rw [ha, hb] at h <;> simp at h
 ·exact .inl ⟨rfl, h⟩
 ·exact .inr ⟨rfl, rfl⟩
 ·exact .inl ⟨rfl, h⟩
theorem neg_low {a : Pt} (h : 0 < a.2 \/ (a.2 = 0 /\ 0 < a.1)) : (neg a).2 < 0 \/ ((neg a).2 = 0 /\ (neg a).1 < 0) := by
 unfold neg
 dsimp only
 lia
theorem cross_nn (a b : Pt) : cross (neg a) (neg b) = cross a b := by
 unfold cross neg
 grind
theorem before_trans {a b c : Pt} (ha : a ≠ (0, 0)) (hb : b ≠ (0, 0)) (hc : c ≠ (0, 0)) (h1 : before a b = true) (h2 : before b c = true) : before a c = true := by
 have out : ∀ k : Bool, fstHalf a = k -> fstHalf c = k -> 0 < cross a c -> before a c = true := fun k e1 e2 h => by
  unfold before
  rw [e1, e2, bne_self_eq_false, if_neg Bool.false_ne_true]
  exact decide_eq_true h
 have outD : fstHalf a = true -> fstHalf c = false -> before a c = true := fun e1 e2 => by
  unfold before
  rw [e1, e2]
  rfl
 rcases before_cases h1 with ⟨e1, p1⟩ | ⟨e1, e1'⟩ <;> rcases before_cases h2 with ⟨e2, p2⟩ | ⟨e2, e2'⟩
 ·cases k : fstHalf a with
  | false =>
   exact out false k (by rw [<- e2, <- e1, k]) (low_trans (low k ha) (low (by rw [<- e1, k]) hb) (low (by rw [<- e2, <- e1, k]) hc) (Int.le_of_lt p1) (Int.le_of_lt p2) (.inl p1))
  | true =>
   refine out true k (by rw [<- e2, <- e1, k]) ?_
   rw [<- cross_nn a c]
   exact low_trans (neg_low (high k)) (neg_low (high (by rw [<- e1, k]))) (neg_low (high (by rw [<- e2, <- e1, k]))) (by rw [cross_nn]; exact Int.le_of_lt p1) (by rw [cross_nn]; exact Int.le_of_lt p2) (.inl (by rw [cross_nn]; exact p1))
 ·exact outD (e1.trans e2) e2'
 ·exact outD e1 (by rw [<- e2]; exact e1')
 ·rw [e1'] at e2; cases e2
theorem lined_pair : ∀ {l : List Pt}, (∀ a ∈ l, a ≠ (0, 0)) -> lined l -> l.Pairwise (fun a b => before a b = true)
 | [], _, _ => .nil
 | [a], _, _ => by simp
 | a :: b :: r, hz, h => by
  have ih := lined_pair (fun x hx => hz x (List.mem_cons_of_mem _ hx)) h.2
  refine List.pairwise_cons.mpr ⟨fun x hx => ?_, ih⟩
  rcases List.mem_cons.mp hx with rfl | hx'
  ·exact h.1
  ·exact before_trans (hz a List.mem_cons_self) (hz b (by simp)) (hz x (List.mem_cons_of_mem _ hx)) h.1 ((List.pairwise_cons.mp ih).1 x hx')
theorem all_lined : ∀ {l : List Pt}, (List.zipWith before l (l.drop 1)).all id = true -> lined l
 | [], _ => trivial
 | [_], _ => trivial
 | a :: b :: r, h => by
  have e : (before a b :: List.zipWith before (b :: r) r).all id = true := h
  rw [List.all_cons, Bool.and_eq_true] at e
  exact ⟨e.1, all_lined e.2⟩
noncomputable def csum (a : Pt) (l : List Pt) : Int := (l.map (cross a)).sum
theorem cross_self (a : Pt) : cross a a = 0 := by
 unfold cross
 grind
end RS
namespace RS
set_option tactic.hygienic true in
theorem shape_facts {cs : List Pt} (h : isShape cs = true) (hn : 2 <= cs.length) : (∀ x ∈ round cs, x ≠ (0, 0)) /\ (round cs).Pairwise (fun a b => before a b = true) := by
 unfold isShape at h
 rw [if_neg (by omega)] at h
 split at h
 ·cases h
 ·rename_i z
  have hz : ∀ x ∈ round cs, x ≠ (0, 0) := fun x hx e => z (by rw [<- e]; exact hx)
  exact ⟨hz, lined_pair hz (all_lined h)⟩
theorem round_at {cs : List Pt} {i : Nat} (hi : i < cs.length) : (round cs)[i]'(by rw [round_length]; exact hi) = arrow cs[i] (cs[(i + 1) % cs.length]'(Nat.mod_lt _ (by lia))) := by
 unfold round
 rw [List.getElem_zipWith]
 congr 1
 rcases Nat.lt_or_ge (i + 1) cs.length with h | h
 ·rw [List.getElem_append_left (by rw [List.length_drop]; omega), List.getElem_drop]
  congr 1
  rw [Nat.mod_eq_of_lt h, Nat.add_comm]
 ·have e1 : i + 1 = cs.length := by lia
  rw [List.getElem_append_right (by rw [List.length_drop]; lia), List.getElem_take]
  congr 1
  rw [e1, Nat.mod_self, List.length_drop]
  lia
theorem sq_nn (x : Int) : 0 <= x * x := by
 rcases Int.le_total 0 x with h | h
 ·exact Int.mul_nonneg h h
 ·exact Int.mul_nonneg_of_nonpos_of_nonpos h h
theorem dot_self {a : Pt} : 0 <= dot a a /\ (dot a a = 0 -> a = (0, 0)) := by
 obtain ⟨x, y⟩ := a
 unfold dot
 dsimp only
 have hx : 0 <= x * x := sq_nn x
 have hy : 0 <= y * y := sq_nn y
 refine ⟨by omega, fun z => ?_⟩
 have x0 : x * x = 0 := by omega
 have y0 : y * y = 0 := by omega
 have x1 : x = 0 := by rcases Int.mul_eq_zero.mp x0 with q | q <;> exact q
 have y1 : y = 0 := by rcases Int.mul_eq_zero.mp y0 with q | q <;> exact q
 rw [x1, y1]
end RS
namespace L2
open PySem PySem.Spec PyProof.Rows PySem.SeqAt
open RS (Pt)
theorem best_is {bt : Nat -> Nat -> Bool} {val : Nat -> Int} (hb : ∀ i j, bt i j = false -> val i <= val j) (hb2 : ∀ i j, bt i j = true -> val j <= val i) : ∀ k, argBest bt k <= k /\ ∀ i, i <= k -> val i <= val (argBest bt k)
 | 0 => by
  rw [argBest.eq_1]
  exact ⟨Nat.le_refl _, fun i hi => by rw [Nat.le_zero.mp hi]; exact Int.le_refl _⟩
 | k + 1 => by
  obtain ⟨ih1, ih2⟩ := best_is hb hb2 k
  rw [argBest.eq_2]
  cases c : bt (k + 1) (argBest bt k) with
  | true =>
   rw [if_pos rfl]
   refine ⟨Nat.le_refl _, fun i hi => ?_⟩
   rcases Nat.lt_or_ge i (k + 1) with h | h
   ·exact Int.le_trans (ih2 i (by lia)) (hb2 _ _ c)
   ·rw [show i = k + 1 by lia]; exact Int.le_refl _
  | false =>
   rw [if_neg Bool.false_ne_true]
   refine ⟨by lia, fun i hi => ?_⟩
   rcases Nat.lt_or_ge i (k + 1) with h | h
   ·exact ih2 i (by omega)
   ·rw [show i = k + 1 by omega]; exact hb _ _ c
section
variable {X : Cx}
theorem ints_at {ns : List Int} {its : List Value} (rv : Vals (ns.map V.int) its) : ∀ (i : Nat) (v : Value), its.toArray[i]? = some v -> ∃ t, v = Value.int (ns.getD i 0) t := fun i v hv => by
 have hlen := rv.length
 rw [List.length_map] at hlen
 have hv' : its[i]? = some v := by rw [<- Array.getElem?_toList] at hv; simpa using hv
 have hi : i < ns.length := by have := (List.getElem?_eq_some_iff.mp hv').1; lia
 obtain ⟨u, hu, t, ru⟩ := rv.get (i := i) (x := V.int ns[i]) (by simp [hi])
 rw [hv'] at hu
 cases hu
 exact ⟨t, by rw [ru]; simp [hi]⟩
theorem call_max_ints (hc : X.calm = true) : CallR X (.builtin "max") (fun xs H Q => ∃ (l : Addr) (ns : List Int), xs = [.ref l] /\ SqL X.K H l (ns.map V.int) /\ ns ≠ [] /\ ∀ m, m ∈ ns -> (∀ x ∈ ns, x <= m) -> Q (.int m) H) := by
 intro pins s σ H xs us Q I r h
 obtain ⟨l, ns, rfl, hl, hne, q⟩ := h
 obtain ⟨u, rfl, ru⟩ := vals1 r
 cases ru
 obtain ⟨its, rv, p1, _⟩ := I.list hl
 have hlen := rv.length
 rw [List.length_map] at hlen
 have hpos : 0 < ns.length := List.length_pos_iff.mpr hne
 have hlt : l < s.heap.objs.size := let ⟨_, e, _⟩ := p1.isList; Heap.lt_size e
 refine call_max_walk (wpAny_pyIter_list p1.isList ?_)
 refine ⟨s.heap.objs.size, _, _, its.toArray.size, _, _, _, rfl, Walks.list (by exact I.ok.hd hc) s.heap.objs.size l (Nat.ne_of_lt hlt) its.toArray, ⟨⟨_, Heap.get?_push_size _ rfl, rfl, rfl⟩, p1.isList.push _⟩, ?_, by rw [List.size_toArray]; lia, CmpOf.ints_gt (fun i => ns.getD i 0) (ints_at rv), fun v h' tk hv hk => ?_⟩
 ·intro b hb
  rcases List.mem_cons.mp hb with rfl | hb
  ·show _ < (Heap.push _ _).objs.size
   rw [Heap.size_push]; exact Nat.lt_succ_self _
  ·rcases List.mem_cons.mp hb with rfl | hb
   ·show _ < (Heap.push _ _).objs.size
    rw [Heap.size_push]; exact Nat.lt_succ_of_lt hlt
   ·cases hb
 ·obtain ⟨t, rfl⟩ := ints_at rv _ _ hv
  obtain ⟨b1, b2⟩ := best_is (val := fun i => ns.getD i 0) (bt := fun i j => decide (ns.getD i 0 > ns.getD j 0)) (fun i j h => by have := of_decide_eq_false h; lia) (fun i j h => by have := of_decide_eq_true h; lia) (its.toArray.size - 1)
  rw [List.size_toArray] at b1 b2
  refine ⟨.int _, H, I.kept (h' := h') (t' := tk) (fun b o eb => hk b o (fun z => ?_) (Heap.get?_push_of_some _ eb)), ⟨t, rfl⟩, q _ ?_ fun x hx => ?_⟩
  ·have z' : b = s.heap.objs.size := by simpa using z
   rw [z'] at eb
   exact absurd (Heap.lt_size eb) (Nat.lt_irrefl _)
  ·rw [List.size_toArray, List.getD_eq_getElem?_getD, List.getElem?_eq_getElem (by lia)]
   exact List.getElem_mem _
  ·obtain ⟨i, hi, rfl⟩ := List.getElem_of_mem hx
   have := b2 i (by lia)
   rw [List.size_toArray]
   simpa [hi] using this
theorem pt_dec (p q : Pt) : ((List.range (min 2 2)).all (fun j => if j = 0 then (p.1 == q.1) else (p.2 == q.2)) && (2 == 2)) = decide (p = q) := by
 have hr : List.range (min 2 2) = [0, 1] := rfl
 rw [hr]
 obtain ⟨x, y⟩ := p
 obtain ⟨x', y'⟩ := q
 by_cases h : x = x' <;> by_cases h' : y = y' <;> simp [h, h']
theorem op_eqPt (hu : X.A.units + 1 < cLine) : OpR X (compareOp .Eq) rEqPt := by
 intro pins s σ H x y v u Q I rx ry h
 obtain ⟨a, b, p, q, rfl, rfl, ha, hb, k⟩ := h
 cases rx
 cases ry
 obtain ⟨its, r1, p1, _⟩ := I.tuple (SqT.of (K := X.K) ha)
 obtain ⟨jts, r2, p2, _⟩ := I.tuple (SqT.of (K := X.K) hb)
 obtain ⟨u1, u2, rfl, ⟨t1, rfl⟩, ⟨t2, rfl⟩⟩ := r1.two
 obtain ⟨v1, v2, rfl, ⟨t3, rfl⟩, ⟨t4, rfl⟩⟩ := r2.two
 refine eq_tupleAt (e := fun j => if j = 0 then (p.1 == q.1) else (p.2 == q.2)) (let ⟨o, g1, g2, n, g3⟩ := p1; ⟨o, g1, g2, n, g3⟩) (let ⟨o, g1, g2, n, g3⟩ := p2; ⟨o, g1, g2, n, g3⟩) (by lia) (fun j h1 h2 => ?_) ⟨.bl _, H, I, rfl, ?_⟩
 ·have hj : j = 0 \/ j = 1 := by
   have : j < 2 := h1
   lia
  rcases hj with rfl | rfl
  ·exact SeqAt.EqAt.int_int _ _ _ _
  ·exact SeqAt.EqAt.int_int _ _ _ _
 ·have e : ((List.range (min 2 2)).all (fun j => if j = 0 then (p.1 == q.1) else (p.2 == q.2)) && (2 == 2)) = decide (p = q) := by
   exact pt_dec p q
  have k' := k
  rw [<- e] at k'
  exact k'
end
theorem for_zip {K : PySem.W.Frag} {a b : Addr} {xs ys : List V} {g : TG} {tb : TS} {D : Ends} {σ : St} {H : Hp} (Pv : Nat -> St -> Hp -> Prop) (h0 : Pv 0 σ H) (hl : ∀ i σ H, Pv i σ H -> SqL K H a xs /\ SqL K H b ys)
  (hs : ∀ i x y σ H t, xs[i]? = some x -> ys[i]? = some y -> H t = none -> Pv i σ H -> g (.ref t) σ (upd H t (.tup [x, y])) fun σ2 H2 => tb { D with nx := Pv (i + 1), ct := Pv (i + 1), bk := D.nx } σ2 H2)
  (hd : ∀ i σ H, (i = xs.length \/ i = ys.length) -> i <= xs.length -> i <= ys.length -> Pv i σ H -> D.nx σ H) :
  ∃ W : Nat -> Nat -> St -> Hp -> Prop, (∃ m, W 0 m σ H) /\ ∀ i m σ H, W i m σ H ->
   ((Itz K a b).stop i H /\ D.nx σ H) \/ ((Itz K a b).go i H /\ ∃ N : St -> Hp -> Prop, (∀ σ' H', N σ' H' -> ∃ m', m' < m /\ W (i + 1) m' σ' H') /\ ∀ x H', (Itz K a b).yld i H x H' -> g x σ H' fun σ2 H2 => tb { D with nx := N, ct := N, bk := D.nx } σ2 H2) := by
 refine ⟨fun i m σ H => m = xs.length - i /\ i <= xs.length /\ i <= ys.length /\ Pv i σ H, ⟨xs.length, by simp, Nat.zero_le _, Nat.zero_le _, h0⟩, ?_⟩
 rintro i m σ H ⟨rfl, hi, hj, p⟩
 obtain ⟨q1, q2⟩ := hl i σ H p
 by_cases hlt : i < xs.length /\ i < ys.length
 ·refine .inr ⟨⟨xs, ys, xs[i]'hlt.1, ys[i]'hlt.2, q1, q2, by simp [hlt.1], by simp [hlt.2]⟩, Pv (i + 1), fun σ' H' p' => ⟨xs.length - (i + 1), by omega, rfl, hlt.1, hlt.2, p'⟩, fun v H' y => ?_⟩
  obtain ⟨t, x, y, ht, ev, eH, e1, e2⟩ := y
  subst ev eH
  exact hs i x y σ H t (e1 xs q1) (e2 ys q2) ht p
 ·refine .inl ⟨⟨xs, ys, q1, q2, by lia⟩, hd i σ H (by lia) hi hj p⟩
end L2
namespace RS
theorem two_of {α : Type _} {l : List α} (h : l.length = 2) : ∃ a b, l = [a, b] := by
 obtain ⟨a, t, rfl⟩ := List.exists_cons_of_length_pos (Nat.lt_of_lt_of_eq Nat.two_pos h.symm)
 obtain ⟨b, rfl⟩ := List.length_eq_one_iff.mp (Nat.succ.inj h)
 exact ⟨a, b, rfl⟩
noncomputable def holdsM (cs : List Pt) (p : Pt) : Bool :=
 if cs.length = 1 then decide (p = cs.headD (0, 0))
 else if (List.zipWith (fun c a => decide (cross a (arrow c p) < 0)) cs (lawSides cs)).any id = true then false
 else decide (2 < cs.length) || decide (dot (arrow p (cs.getD 0 (0, 0))) (arrow p (cs.getD 1 (0, 0))) <= 0)
theorem shape_pos {cs : List Pt} (h : isShape cs = true) : 0 < cs.length := by
 unfold isShape at h
 split at h
 ·have := of_decide_eq_true h
  lia
 ·omega
theorem dot_comm (a b : Pt) : dot a b = dot b a := by
 unfold dot
 grind
end RS
namespace L2
open PySem PySem.Spec PyProof.Rows PySem.SeqAt
open RS (Pt)
section
variable {X : Cx}
noncomputable def rNePts : R2 := fun x y H Q => ∃ l b ps qs, x = .ref l /\ y = .ref b /\ Pts H l ps /\ Pts H b qs /\ Q (.bl (!decide (ps = qs))) H
noncomputable def rIsi (K : PySem.W.Frag) : List V -> Hp -> VK -> Prop := fun xs H Q => ∃ x T t b, xs = [x, .ty T] /\ TyOf K H x t /\ PySem.W.kitOne K t (.type T) = some b /\ Q (.bl b) H
end
end L2
namespace RS
noncomputable def co (k : Nat) (p : Pt) : Int := if k = 0 then p.1 else p.2
noncomputable def box (cs : List Pt) (p : Pt) (k : Nat) : Prop := (∃ c ∈ cs, co k c <= co k p) /\ ∃ c ∈ cs, co k p <= co k c
end RS
namespace RS
noncomputable def moved (p a : Pt) : Pt := (p.1 + a.1, p.2 + a.2)
noncomputable def stretched (t : Int) (a : Pt) : Pt := (a.1 * t, a.2 * t)
noncomputable def sameWay (a b : Pt) : Bool := decide (cross a b = 0) && decide (0 < dot a b)
noncomputable def mergeM : List Pt -> List Pt -> List Pt
 | [], os => os
 | a :: as, os => os.takeWhile (fun o => before o a) ++ a :: mergeM as (os.dropWhile (fun o => before o a))
theorem mergeM_go {a b : Pt} {as os : List Pt} (h : before b a = true) : mergeM (a :: as) (b :: os) = b :: mergeM (a :: as) os := by
 unfold mergeM
 rw [List.takeWhile_cons, List.dropWhile_cons, if_pos h, if_pos h]
 rfl
theorem mergeM_stop {a : Pt} {as os : List Pt} (h : ∀ b, os.head? = some b -> before b a = false) : mergeM (a :: as) os = a :: mergeM as os := by
 cases os with
 | nil => rfl
 | cons b r =>
  have hb := h b rfl
  rw [mergeM, List.takeWhile_cons, List.dropWhile_cons, hb, if_neg Bool.false_ne_true, if_neg Bool.false_ne_true]
  rfl
theorem mergeM_mem : ∀ {as os : List Pt} {x : Pt}, x ∈ mergeM as os -> x ∈ as \/ x ∈ os
 | [], _, _, h => .inr h
 | a :: as, os, x, h => by
  unfold mergeM at h
  rcases List.mem_append.mp h with z | z
  ·exact .inr (List.takeWhile_sublist _ |>.mem z)
  ·rcases List.mem_cons.mp z with rfl | z
   ·exact .inl List.mem_cons_self
   ·rcases mergeM_mem z with q | q
    ·exact .inl (List.mem_cons_of_mem _ q)
    ·exact .inr (List.dropWhile_sublist _ |>.mem q)
theorem mergeM_len : ∀ (as os : List Pt), (mergeM as os).length = as.length + os.length
 | [], os => by simp [mergeM]
 | a :: as, os => by
  unfold mergeM
  have e := congrArg List.length (List.takeWhile_append_dropWhile (p := fun o => before o a) (l := os))
  rw [List.length_append] at e
  rw [List.length_append, List.length_cons, mergeM_len as, List.length_cons]
  lia
noncomputable def joinStep (acc : List Pt) (a : Pt) : List Pt := match acc with
 | [] => [a]
 | j :: r => if sameWay j a = true then moved j a :: r else a :: j :: r
noncomputable def joinM (l : List Pt) : List Pt := (l.foldl joinStep []).reverse
theorem joinStep_len (acc : List Pt) (a : Pt) : (joinStep acc a).length <= acc.length + 1 := by
 unfold joinStep
 split
 ·simp
 ·split
  ·simp
  ·simp
theorem join_len : ∀ (l acc : List Pt), (l.foldl joinStep acc).length <= acc.length + l.length
 | [], acc => by simp
 | a :: l, acc => by
  have h1 := join_len l (joinStep acc a)
  have h2 := joinStep_len acc a
  simp only [List.foldl_cons, List.length_cons]
  lia
noncomputable def alongStep (acc : List Pt) (a : Pt) : List Pt := match acc with
 | [] => []
 | c :: r => moved c a :: c :: r
noncomputable def along (first : Pt) (l : List Pt) : List Pt := (l.dropLast.foldl alongStep [first]).reverse
noncomputable def togetherM (cs es : List Pt) : List Pt := along (moved (cs.headD (0, 0)) (es.headD (0, 0))) (joinM (mergeM (lawSides cs) (lawSides es)))
noncomputable def greaterM (cs : List Pt) (t : Int) : List Pt := if t = 0 then [(0, 0)] else cs.map (stretched t)
theorem foldl_take {α β : Type} (f : β -> α -> β) (b : β) {l : List α} {i : Nat} {x : α} (h : l[i]? = some x) : (l.take (i + 1)).foldl f b = f ((l.take i).foldl f b) x := by
 have e : l.take (i + 1) = l.take i ++ [x] := by rw [List.take_add_one, h]; rfl
 rw [e, List.foldl_append]
 rfl
end RS
namespace RS
theorem fst_st {t : Int} (ht : 0 < t) (a : Pt) : fstHalf (stretched t a) = fstHalf a := by
 unfold fstHalf stretched
 dsimp only
 have e1 : decide (0 < a.2 * t) = decide (0 < a.2) := by
  by_cases h : 0 < a.2
  ·rw [decide_eq_true h, decide_eq_true (Int.mul_pos h ht)]
  ·have h' : a.2 * t <= 0 := Int.mul_nonpos_of_nonpos_of_nonneg (by lia) (by lia)
   rw [decide_eq_false h, decide_eq_false (by lia)]
 have e2 : decide (0 < a.1 * t) = decide (0 < a.1) := by
  by_cases h : 0 < a.1
  ·rw [decide_eq_true h, decide_eq_true (Int.mul_pos h ht)]
  ·have h' : a.1 * t <= 0 := Int.mul_nonpos_of_nonpos_of_nonneg (by lia) (by omega)
   rw [decide_eq_false h, decide_eq_false (by lia)]
 have e3 : decide (a.2 * t = 0) = decide (a.2 = 0) := by
  by_cases h : a.2 = 0
  ·rw [decide_eq_true h, decide_eq_true (by rw [h]; simp)]
  ·have h' : ¬ a.2 * t = 0 := fun z => by
    rcases Int.mul_eq_zero.mp z with q | q
    ·exact h q
    ·lia
   rw [decide_eq_false h, decide_eq_false h']
 rw [e1, e2, e3]
theorem cross_st (s t : Int) (a b : Pt) : cross (stretched s a) (stretched t b) = (s * t) * cross a b := by
 unfold cross stretched
 grind
theorem dot_st (s t : Int) (a b : Pt) : dot (stretched s a) (stretched t b) = (s * t) * dot a b := by
 unfold dot stretched
 grind
theorem pos_mul {s x : Int} (hs : 0 < s) : (0 < s * x) ↔ 0 < x := by
 constructor
 ·intro h
  refine Int.not_le.mp fun z => ?_
  have := Int.mul_nonpos_of_nonneg_of_nonpos (Int.le_of_lt hs) z
  lia
 ·exact fun h => Int.mul_pos hs h
theorem before_st {s t : Int} (hs : 0 < s) (ht : 0 < t) (a b : Pt) : before (stretched s a) (stretched t b) = before a b := by
 unfold before
 rw [fst_st hs, fst_st ht, cross_st]
 have e : decide (0 < s * t * cross a b) = decide (0 < cross a b) := by
  have := pos_mul (x := cross a b) (Int.mul_pos hs ht)
  by_cases h : 0 < cross a b
  ·rw [decide_eq_true h, decide_eq_true (this.mpr h)]
  ·rw [decide_eq_false h, decide_eq_false fun z => h (this.mp z)]
 rw [e]
theorem before_self (a : Pt) : before a a = false := by
 unfold before
 rw [bne_self_eq_false, if_neg Bool.false_ne_true, cross_self]
 rfl
noncomputable def inter (t : Int) : List Pt -> List Pt
 | [] => []
 | a :: l => stretched t a :: a :: inter t l
theorem low_dot {u v : Pt} (hu : u.2 < 0 \/ (u.2 = 0 /\ u.1 < 0)) (hv : v.2 < 0 \/ (v.2 = 0 /\ v.1 < 0)) (h : cross u v = 0) : 0 < dot u v := by
 rcases hu with hu | ⟨hu, hu'⟩
 ·rcases hv with hv | ⟨hv, hv'⟩
  ·have e : dot u v * u.2 = v.2 * dot u u - u.1 * cross u v := by unfold dot cross; grind
   rw [h, Int.mul_zero, Int.sub_zero] at e
   have p : 0 < dot u u := by
    obtain ⟨a, b⟩ := dot_self (a := u)
    rcases Int.lt_or_eq_of_le a with q | q
    ·exact q
    ·have := b q.symm
     rw [this] at hu
     exact absurd hu (by decide)
   have n : v.2 * dot u u < 0 := Int.mul_neg_of_neg_of_pos hv p
   refine Int.not_le.mp fun z => ?_
   have := Int.mul_nonneg_of_nonpos_of_nonpos z (Int.le_of_lt hu)
   lia
  ·have c : cross u v = - (u.2 * v.1) := by unfold cross; rw [hv]; grind
   have := Int.mul_pos_of_neg_of_neg hu hv'
   lia
 ·rcases hv with hv | ⟨hv, hv'⟩
  ·have c : cross u v = u.1 * v.2 := by unfold cross; rw [hu]; grind
   have := Int.mul_pos_of_neg_of_neg hu' hv
   lia
  ·have d : dot u v = u.1 * v.1 := by unfold dot; rw [hu]; grind
   rw [d]
   exact Int.mul_pos_of_neg_of_neg hu' hv'
theorem dot_pos {a : Pt} (h : a ≠ (0, 0)) : 0 < dot a a := by
 obtain ⟨p, q⟩ := dot_self (a := a)
 rcases Int.lt_or_eq_of_le p with z | z
 ·exact z
 ·exact absurd (q z.symm) h
theorem round_init : ∀ (c d : Pt) (r : List Pt), (round (c :: d :: r)).dropLast = steps (c :: d :: r) := fun c d r => by
 have e : round (c :: d :: r) = List.zipWith arrow (c :: d :: r) ((d :: r) ++ [c]) := rfl
 rw [e, List.dropLast_eq_take, List.length_zipWith]
 have hl : min (c :: d :: r).length ((d :: r) ++ [c]).length - 1 = (d :: r).length := by simp
 rw [hl, List.take_zipWith, List.take_left, steps_init]
 congr 1
 rw [List.dropLast_eq_take]
 simp
end RS
namespace L2
open PySem PySem.Spec PyProof.Rows
section
variable {X : Cx}
end
end L2
namespace RS
noncomputable def leftOf (a b q : Pt) : Prop := 0 <= cross (arrow a b) (arrow a q)
noncomputable def allLeft (qs : List Pt) : List Pt -> Prop
 | b :: a :: r => (∀ q ∈ qs, leftOf a b q) /\ allLeft qs (a :: r)
 | _ => True
structure Sofar (qs st : List Pt) : Prop where
 tr : turnsR st
 pw : st.Pairwise (fun b a => upp a b)
 sub : ∀ x ∈ st, x ∈ qs
 left : allLeft qs st
 bot : ∀ q ∈ qs, ∀ z, st.getLast? = some z -> z = q \/ upp z q
 top : ∀ q ∈ qs, ∀ b, st.head? = some b -> upp q b \/ q = b
 ne : st ≠ []
end RS
namespace RS
noncomputable def leftWay (qs : List Pt) : List Pt -> Prop
 | a :: b :: r => (∀ q ∈ qs, leftOf a b q) /\ leftWay qs (b :: r)
 | _ => True
end RS
namespace RS
end RS
namespace RS
end RS
namespace RS
noncomputable def pathX : List Pt -> Int
 | a :: b :: r => cross a b + pathX (b :: r)
 | _ => 0
noncomputable def areaM (cs : List Pt) : Int := match cs with
 | [] => 0
 | c :: r => pathX (c :: r) + cross ((c :: r).getLastD c) c
noncomputable def areaA : List Pt -> Int
 | [] => 0
 | v :: l => csum v l + areaA l
noncomputable def addv (p q : Pt) : Pt := (p.1 + q.1, p.2 + q.2)
theorem sum1_cons (x : Pt) (l : List Pt) : sum1 (x :: l) = x.1 + sum1 l := by
 unfold sum1
 rw [List.map_cons, List.sum_cons]
theorem sum2_cons (x : Pt) (l : List Pt) : sum2 (x :: l) = x.2 + sum2 l := by
 unfold sum2
 rw [List.map_cons, List.sum_cons]
theorem sumS : ∀ (r : List Pt) (c : Pt), sum1 (steps (c :: r)) = ((c :: r).getLastD c).1 - c.1 /\ sum2 (steps (c :: r)) = ((c :: r).getLastD c).2 - c.2
 | [], c => by constructor <;> simp [steps, sum1, sum2]
 | d :: r, c => by
  obtain ⟨e1, e2⟩ := sumS r d
  have el : (c :: d :: r).getLastD c = (d :: r).getLastD d := by
   cases r <;> rfl
  rw [steps_cons, sum1_cons, sum2_cons, e1, e2, el]
  unfold arrow
  dsimp only
  constructor <;> lia
theorem round_snoc (c d : Pt) (r : List Pt) : round (c :: d :: r) = steps (c :: d :: r) ++ [arrow ((c :: d :: r).getLastD c) c] := by
 have h1 := round_init c d r
 have hne : round (c :: d :: r) ≠ [] := by
  intro z
  have := congrArg List.length z
  rw [round_length] at this
  simp at this
 rw [<- h1]
 have hl : (round (c :: d :: r)).getLast hne = arrow ((c :: d :: r).getLastD c) c := by
  rw [List.getLast_eq_getElem]
  have hi : (round (c :: d :: r)).length - 1 < (c :: d :: r).length := by rw [round_length]; simp
  rw [round_at hi]
  have e1 : ((round (c :: d :: r)).length - 1 + 1) % (c :: d :: r).length = 0 := by
   rw [round_length]
   simp
  congr 1
  ·rw [List.getLastD_cons]
   have := List.getLast_eq_getElem (l := c :: d :: r) (by simp)
   rw [List.getLast_cons (by simp)] at this
   have e2 : (d :: r).getLastD c = (d :: r).getLast (by simp) := by
    rw [List.getLastD_eq_getLast?, List.getLast?_eq_some_getLast (by simp)]
    rfl
   rw [e2, this]
   congr 1
   rw [round_length]
  ·have : ∀ (j : Nat) (hj : j < (c :: d :: r).length), j = 0 -> (c :: d :: r)[j] = c := fun j hj e => by subst e; rfl
   exact this _ _ e1
 rw [<- hl, List.dropLast_concat_getLast]
theorem sum_app (l r : List Pt) : sum1 (l ++ r) = sum1 l + sum1 r /\ sum2 (l ++ r) = sum2 l + sum2 r := by
 unfold sum1 sum2
 simp
set_option tactic.hygienic true in
theorem shape_sides {cs : List Pt} (h : isShape cs = true) : (∀ x ∈ lawSides cs, x ≠ (0, 0)) /\ (lawSides cs).Pairwise (fun a b => before a b = true) /\ sum1 (lawSides cs) = 0 /\ sum2 (lawSides cs) = 0 := by
 unfold lawSides
 split
 ·exact ⟨fun x hx => (by cases hx), .nil, rfl, rfl⟩
 ·rename_i hn
  obtain ⟨a, b⟩ := shape_facts h (by lia)
  exact ⟨a, b, round_sum cs⟩
theorem merge_nil (l : List Pt) : mergeM l [] = l := by
 induction l with
 | nil => rfl
 | cons a l ih =>
  show [] ++ a :: mergeM l [] = _
  rw [ih]
  rfl
theorem prog_area : ∀ {cs : List Pt}, (List.zipWith cross cs (lawSides cs)).sum = areaM cs
 | [] => rfl
 | [c] => by
  show (0 : Int) = pathX [c] + cross c c
  rw [cross_self]
  rfl
 | c :: d :: r => by
  have e : lawSides (c :: d :: r) = round (c :: d :: r) := by unfold lawSides; rw [if_neg (by simp)]
  rw [e, round_snoc]
  have go : ∀ (r : List Pt) (c w : Pt), (List.zipWith cross (c :: r) (steps (c :: r) ++ [w])).sum = pathX (c :: r) + cross ((c :: r).getLastD c) w := by
   intro r
   induction r with
   | nil => intro c w; simp [steps, pathX]
   | cons d r ih =>
    intro c w
    rw [steps_cons]
    show cross c (arrow c d) + (List.zipWith cross (d :: r) (steps (d :: r) ++ [w])).sum = cross c d + pathX (d :: r) + _
    rw [ih d w]
    have el : (c :: d :: r).getLastD c = (d :: r).getLastD d := by
     cases r <;> rfl
    rw [el]
    have : cross c (arrow c d) = cross c d := by unfold cross arrow; dsimp only; grind
    lia
  rw [go]
  show _ = pathX (c :: d :: r) + cross ((c :: d :: r).getLastD c) c
  have : ∀ a : Pt, cross a (arrow a c) = cross a c := fun a => by unfold cross arrow; dsimp only; grind
  rw [this]
noncomputable def areaTo (cs : List Pt) (k : Nat) : Int := ((List.range k).map (fun j => cross (cs.getD ((j + cs.length - 1) % cs.length) (0, 0)) (cs.getD j (0, 0)))).sum
end RS
namespace RS
theorem before_asym {a b : Pt} (ha : a ≠ (0, 0)) (hb : b ≠ (0, 0)) (h : before a b = true) : before b a = false := by
 cases e : before b a with
 | false => rfl
 | true =>
  have := before_trans ha hb ha h e
  rw [before_self] at this
  cases this
noncomputable def weakly (l : List Pt) : Prop := l.Pairwise (fun x y => before y x = false)
theorem strict_weak {l : List Pt} (hz : ∀ x ∈ l, x ≠ (0, 0)) (hp : l.Pairwise (fun a b => before a b = true)) : weakly l :=
 List.Pairwise.imp_of_mem (fun {_ _} ha hb h => before_asym (hz _ ha) (hz _ hb) h) hp
theorem merge_weak : ∀ (n : Nat) {as bs : List Pt}, as.length + bs.length <= n -> (∀ x ∈ as, x ≠ (0, 0)) -> (∀ x ∈ bs, x ≠ (0, 0)) -> as.Pairwise (fun a b => before a b = true) -> bs.Pairwise (fun a b => before a b = true) -> weakly (mergeM as bs)
 | _, [], bs, _, _, hb, _, pb => strict_weak hb pb
 | n, a :: as, [], _, ha, _, pa, _ => by
  rw [merge_nil]
  exact strict_weak ha pa
 | 0, a :: as, b :: bs, hn, _, _, _, _ => by simp at hn
 | n + 1, a :: as, b :: bs, hn, ha, hb, pa, pb => by
  obtain ⟨pa1, pa2⟩ := List.pairwise_cons.mp pa
  obtain ⟨pb1, pb2⟩ := List.pairwise_cons.mp pb
  have az := ha a List.mem_cons_self
  have bz := hb b List.mem_cons_self
  have ha' : ∀ x ∈ as, x ≠ (0, 0) := fun x hx => ha x (List.mem_cons_of_mem _ hx)
  have hb' : ∀ x ∈ bs, x ≠ (0, 0) := fun x hx => hb x (List.mem_cons_of_mem _ hx)
  cases hc : before b a with
  | true =>
   rw [mergeM_go hc]
   refine List.pairwise_cons.mpr ⟨fun z hz => ?_, merge_weak n (by simp at hn ⊢; lia) ha hb' pa pb2⟩
   rcases mergeM_mem hz with q | q
   ·rcases List.mem_cons.mp q with rfl | q
    ·exact before_asym bz az hc
    ·exact before_asym bz (ha' z q) (before_trans bz az (ha' z q) hc (pa1 z q))
   ·exact before_asym bz (hb' z q) (pb1 z q)
  | false =>
   rw [mergeM_stop (fun x hx => by cases hx; exact hc)]
   refine List.pairwise_cons.mpr ⟨fun z hz => ?_, merge_weak n (by simp at hn ⊢; lia) ha' hb pa2 pb⟩
   rcases mergeM_mem hz with q | q
   ·exact before_asym az (ha' z q) (pa1 z q)
   ·rcases List.mem_cons.mp q with rfl | q
    ·exact hc
    ·cases e : before z a with
     | false => rfl
     | true =>
      have := before_trans bz (hb' z q) az (pb1 z q) e
      rw [hc] at this
      cases this
theorem sum_merge (F : Pt -> Int) : ∀ (as bs : List Pt), ((mergeM as bs).map F).sum = (as.map F).sum + (bs.map F).sum
 | [], bs => by simp [mergeM]
 | a :: as, bs => by
  unfold mergeM
  have e := congrArg (fun l => (List.map F l).sum) (List.takeWhile_append_dropWhile (p := fun o => before o a) (l := bs))
  simp only [List.map_append, List.sum_append] at e
  rw [List.map_append, List.sum_append, List.map_cons, List.sum_cons, sum_merge F as, List.map_cons, List.sum_cons]
  lia
theorem same_parts {j a : Pt} (h : sameWay j a = true) : cross j a = 0 /\ 0 < dot j a := by
 unfold sameWay at h
 rw [Bool.and_eq_true] at h
 exact ⟨of_decide_eq_true h.1, of_decide_eq_true h.2⟩
theorem same_nz {j a : Pt} (h : sameWay j a = true) : j ≠ (0, 0) /\ a ≠ (0, 0) := by
 obtain ⟨_, d⟩ := same_parts h
 constructor
 ·rintro rfl
  have : dot (0, 0) a = 0 := by unfold dot; simp
  lia
 ·rintro rfl
  have : dot j (0, 0) = 0 := by unfold dot; simp
  lia
theorem same_comm {j a : Pt} (h : sameWay j a = true) : sameWay a j = true := by
 obtain ⟨c, d⟩ := same_parts h
 unfold sameWay
 rw [cross_neg, dot_comm a j, c, Bool.and_eq_true]
 exact ⟨rfl, decide_eq_true d⟩
theorem same_stretch {j a : Pt} (h : sameWay j a = true) : stretched (dot a a) j = stretched (dot j a) a := by
 obtain ⟨c, _⟩ := same_parts h
 unfold cross at c
 unfold stretched dot
 ext <;> dsimp only <;> grind
theorem same_before {j a : Pt} (h : sameWay j a = true) (x : Pt) : before x j = before x a /\ before j x = before a x := by
 obtain ⟨jz, az⟩ := same_nz h
 obtain ⟨_, d⟩ := same_parts h
 have e := same_stretch h
 have p := dot_pos az
 constructor
 ·have e1 := before_st (s := 1) (t := dot a a) (by decide) p x j
  have e2 := before_st (s := 1) (t := dot j a) (by decide) d x a
  rw [<- e1, <- e2, e]
 ·have e1 := before_st (s := dot a a) (t := 1) p (by decide) j x
  have e2 := before_st (s := dot j a) (t := 1) d (by decide) a x
  rw [<- e1, <- e2, e]
theorem same_moved {j a : Pt} (h : sameWay j a = true) : sameWay (moved j a) a = true := by
 obtain ⟨c, d⟩ := same_parts h
 obtain ⟨_, az⟩ := same_nz h
 have p := dot_pos az
 unfold sameWay
 have e1 : cross (moved j a) a = cross j a := by unfold cross moved; dsimp only; grind
 have e2 : dot (moved j a) a = dot j a + dot a a := by unfold dot moved; dsimp only; grind
 rw [e1, e2, c, Bool.and_eq_true]
 exact ⟨rfl, decide_eq_true (by lia)⟩
theorem moved_comm (j a : Pt) : moved j a = moved a j := by
 unfold moved
 ext <;> dsimp only <;> lia
theorem high_dot {u v : Pt} (hu : 0 < u.2 \/ (u.2 = 0 /\ 0 < u.1)) (hv : 0 < v.2 \/ (v.2 = 0 /\ 0 < v.1)) (h : cross u v = 0) : 0 < dot u v := by
 have := low_dot (neg_low hu) (neg_low hv) (by rw [cross_nn]; exact h)
 have e : dot (neg u) (neg v) = dot u v := by unfold dot neg; grind
 lia
theorem three_ways {j a : Pt} (hj : j ≠ (0, 0)) (ha : a ≠ (0, 0)) (h1 : before a j = false) (h2 : sameWay j a = false) : before j a = true := by
 unfold before at h1 ⊢
 by_cases hh : fstHalf a = fstHalf j
 ·rw [hh, bne_self_eq_false, if_neg Bool.false_ne_true] at h1
  rw [hh, bne_self_eq_false, if_neg Bool.false_ne_true]
  have c1 := of_decide_eq_false h1
  rw [cross_neg] at c1
  refine decide_eq_true ?_
  rcases Int.lt_or_eq_of_le (show 0 <= cross j a by lia) with q | q
  ·exact q
  ·exfalso
   have d : 0 < dot j a := by
    cases hv : fstHalf j with
    | true => exact high_dot (high hv) (high (by rw [hh]; exact hv)) q.symm
    | false => exact low_dot (low hv hj) (low (by rw [hh]; exact hv) ha) q.symm
   have : sameWay j a = true := by
    unfold sameWay
    rw [<- q, Bool.and_eq_true]
    exact ⟨rfl, decide_eq_true d⟩
   rw [this] at h2
   cases h2
 ·have b1 : (fstHalf a != fstHalf j) = true := bne_iff_ne.mpr hh
  have b2 : (fstHalf j != fstHalf a) = true := bne_iff_ne.mpr fun z => hh z.symm
  rw [if_pos b1] at h1
  rw [if_pos b2]
  cases hv : fstHalf j with
  | true => rfl
  | false => rw [h1, hv] at hh; exact absurd rfl hh
theorem join_strict : ∀ (l acc : List Pt), (∀ x ∈ l, x ≠ (0, 0)) -> (∀ x ∈ acc, x ≠ (0, 0)) -> weakly l -> acc.Pairwise (fun x y => before y x = true) -> (∀ j, acc.head? = some j -> ∀ z ∈ l, before z j = false) ->
  (∀ x ∈ l.foldl joinStep acc, x ≠ (0, 0)) /\ (l.foldl joinStep acc).Pairwise (fun x y => before y x = true)
 | [], acc, _, hz, _, hp, _ => ⟨hz, hp⟩
 | a :: l, acc, hl, hz, hw, hp, hh => by
  obtain ⟨w1, w2⟩ := List.pairwise_cons.mp hw
  have az := hl a List.mem_cons_self
  have hl' : ∀ x ∈ l, x ≠ (0, 0) := fun x hx => hl x (List.mem_cons_of_mem _ hx)
  rw [List.foldl_cons]
  match acc, hz, hp, hh with
  | [], _, _, _ =>
   exact join_strict l [a] hl' (fun x hx => by rw [List.mem_singleton.mp hx]; exact az) w2 (List.pairwise_singleton _ _) (fun j hj z hz => by cases hj; exact w1 z hz)
  | j :: r, hz, hp, hh =>
   have jz := hz j List.mem_cons_self
   obtain ⟨p1, p2⟩ := List.pairwise_cons.mp hp
   cases hs : sameWay j a with
   | true =>
    have e : joinStep (j :: r) a = moved j a :: r := by
     show (if sameWay j a = true then moved j a :: r else a :: j :: r) = _
     rw [if_pos hs]
    have hm := same_moved hs
    have hm' := same_moved (same_comm hs)
    rw [<- moved_comm j a] at hm'
    rw [e]
    refine join_strict l _ hl' (fun x hx => ?_) w2 (List.pairwise_cons.mpr ⟨fun x hx => ?_, p2⟩) (fun q hq z hzl => ?_)
    ·rcases List.mem_cons.mp hx with rfl | hx
     ·exact (same_nz hm).1
     ·exact hz x (List.mem_cons_of_mem _ hx)
    ·rw [(same_before hm' x).1]
     exact p1 x hx
    ·cases hq
     rw [(same_before hm z).1]
     exact w1 z hzl
   | false =>
    have e : joinStep (j :: r) a = a :: j :: r := by
     show (if sameWay j a = true then moved j a :: r else a :: j :: r) = _
     rw [hs, if_neg Bool.false_ne_true]
    have hb := three_ways jz az (hh j rfl a List.mem_cons_self) hs
    rw [e]
    refine join_strict l _ hl' (fun x hx => ?_) w2 (List.pairwise_cons.mpr ⟨fun x hx => ?_, hp⟩) (fun q hq z hzl => ?_)
    ·rcases List.mem_cons.mp hx with rfl | hx
     ·exact az
     ·exact hz x hx
    ·rcases List.mem_cons.mp hx with rfl | hx
     ·exact hb
     ·exact before_trans (hz x (List.mem_cons_of_mem _ hx)) jz az (p1 x hx) hb
    ·cases hq
     exact w1 z hzl
theorem sum_fold (F : Pt -> Int) (hF : ∀ u v, sameWay u v = true -> F (moved u v) = F u + F v) : ∀ (l acc : List Pt), ((l.foldl joinStep acc).map F).sum = (acc.map F).sum + (l.map F).sum
 | [], acc => by simp
 | a :: l, acc => by
  rw [List.foldl_cons, sum_fold F hF l, List.map_cons, List.sum_cons]
  match acc with
  | [] => simp [joinStep]
  | j :: r =>
   cases hs : sameWay j a with
   | true =>
    have e : joinStep (j :: r) a = moved j a :: r := by
     show (if sameWay j a = true then moved j a :: r else a :: j :: r) = _
     rw [if_pos hs]
    rw [e, List.map_cons, List.sum_cons, hF j a hs, List.map_cons, List.sum_cons]
    lia
   | false =>
    have e : joinStep (j :: r) a = a :: j :: r := by
     show (if sameWay j a = true then moved j a :: r else a :: j :: r) = _
     rw [hs, if_neg Bool.false_ne_true]
    rw [e, List.map_cons, List.sum_cons]
    lia
theorem sum_join (F : Pt -> Int) (hF : ∀ u v, sameWay u v = true -> F (moved u v) = F u + F v) (l : List Pt) : ((joinM l).map F).sum = (l.map F).sum := by
 unfold joinM
 rw [List.map_reverse, List.sum_reverse, sum_fold F hF]
 simp
noncomputable def both (cs es : List Pt) : List Pt := joinM (mergeM (lawSides cs) (lawSides es))
structure Sided (l : List Pt) : Prop where
 nz : ∀ x ∈ l, x ≠ (0, 0)
 st : l.Pairwise (fun a b => before a b = true)
 s1 : sum1 l = 0
 s2 : sum2 l = 0
theorem shape_sided {cs : List Pt} (h : isShape cs = true) : Sided (lawSides cs) :=
 let ⟨a, b, c, d⟩ := shape_sides h
 ⟨a, b, c, d⟩
theorem merge_sided {as bs : List Pt} (ha : Sided as) (hb : Sided bs) : Sided (joinM (mergeM as bs)) := by
 have mz : ∀ x ∈ mergeM as bs, x ≠ (0, 0) := fun x hx => by
  rcases mergeM_mem hx with q | q
  ·exact ha.nz x q
  ·exact hb.nz x q
 have mw := merge_weak _ (Nat.le_refl _) ha.nz hb.nz ha.st hb.st
 obtain ⟨j1, j2⟩ := join_strict (mergeM as bs) [] mz (fun x hx => by cases hx) mw .nil (fun j hj => by cases hj)
 refine ⟨fun x hx => j1 x (by unfold joinM at hx; exact List.mem_reverse.mp hx), ?_, ?_, ?_⟩
 ·unfold joinM
  exact List.pairwise_reverse.mpr j2
 ·unfold sum1
  rw [sum_join _ (fun u v _ => rfl), sum_merge]
  have e1 := ha.s1
  have e2 := hb.s1
  unfold sum1 at e1 e2
  lia
 ·unfold sum2
  rw [sum_join _ (fun u v _ => rfl), sum_merge]
  have e1 := ha.s2
  have e2 := hb.s2
  unfold sum2 at e1 e2
  lia
noncomputable def walk : Pt -> List Pt -> List Pt
 | c, [] => [c]
 | c, v :: l => c :: walk (moved c v) l
theorem walk_ne (c : Pt) (l : List Pt) : ∃ m, walk c l = c :: m := by
 cases l with
 | nil => exact ⟨[], rfl⟩
 | cons v l => exact ⟨_, rfl⟩
theorem along_walk : ∀ (l : List Pt) (c : Pt) (acc : List Pt), l.foldl alongStep (c :: acc) = (walk c l).reverse ++ acc
 | [], c, acc => rfl
 | v :: l, c, acc => by
  rw [List.foldl_cons]
  show l.foldl alongStep (moved c v :: c :: acc) = _
  rw [along_walk l (moved c v) (c :: acc)]
  show _ = (c :: walk (moved c v) l).reverse ++ acc
  rw [List.reverse_cons, List.append_assoc]
  rfl
theorem along_is (c : Pt) (l : List Pt) : along c l = walk c l.dropLast := by
 unfold along
 rw [along_walk]
 simp
theorem walk_steps : ∀ (l : List Pt) (c : Pt), steps (walk c l) = l
 | [], c => rfl
 | v :: l, c => by
  obtain ⟨m, hm⟩ := walk_ne (moved c v) l
  have ih := walk_steps l (moved c v)
  show steps (c :: walk (moved c v) l) = _
  rw [hm] at ih ⊢
  rw [steps_cons, ih]
  congr 1
  unfold arrow moved
  ext <;> dsimp only <;> lia
theorem walk_len : ∀ (l : List Pt) (c : Pt), (walk c l).length = l.length + 1
 | [], _ => rfl
 | v :: l, c => by
  show (walk (moved c v) l).length + 1 = _
  rw [walk_len l]
  rfl
theorem sided_two {l : List Pt} (h : Sided l) : l = [] \/ ∃ v w r, l = v :: w :: r := by
 match l, h with
 | [], _ => exact .inl rfl
 | [v], h =>
  exfalso
  have e1 := h.s1
  have e2 := h.s2
  rw [sum1_cons] at e1
  rw [sum2_cons] at e2
  simp [sum1, sum2] at e1 e2
  exact h.nz v List.mem_cons_self (Prod.ext e1 e2)
 | v :: w :: r, _ => exact .inr ⟨v, w, r, rfl⟩
theorem along_round {l : List Pt} (h : Sided l) (c : Pt) : lawSides (along c l) = l := by
 rcases sided_two h with rfl | ⟨v, w, r, rfl⟩
 ·rfl
 ·rw [along_is]
  obtain ⟨d, x, hd⟩ : ∃ d x, v :: w :: r = d ++ [x] := ⟨(v :: w :: r).dropLast, (v :: w :: r).getLast (by simp), (List.dropLast_concat_getLast (by simp)).symm⟩
  have hdl : (v :: w :: r).dropLast = d := by rw [hd]; simp
  rw [hdl]
  have hlen : d.length = r.length + 1 := by
   have := congrArg List.length hd
   simp at this
   lia
  have hw := walk_len d c
  match d, hd, hlen with
  | y :: d, hd, _ =>
   obtain ⟨m, hm⟩ := walk_ne (moved c y) d
   have ew : walk c (y :: d) = c :: moved c y :: m := by show c :: walk (moved c y) d = _; rw [hm]
   have el : lawSides (walk c (y :: d)) = round (walk c (y :: d)) := by
    unfold lawSides
    rw [if_neg (by rw [hw]; simp)]
   rw [el]
   have hs := walk_steps (y :: d) c
   obtain ⟨z1, z2⟩ := sumS (moved c y :: m) c
   rw [ew] at hs ⊢
   rw [round_snoc, hs, hd]
   congr 1
   rw [hs] at z1 z2
   have t1 := h.s1
   have t2 := h.s2
   rw [hd] at t1 t2
   rw [(sum_app _ _).1] at t1
   rw [(sum_app _ _).2] at t2
   have x1 : sum1 [x] = x.1 := by simp [sum1]
   have x2 : sum2 [x] = x.2 := by simp [sum2]
   congr 1
   unfold arrow
   ext <;> dsimp only <;> lia
theorem pair_all : ∀ {l : List Pt}, l.Pairwise (fun a b => before a b = true) -> (List.zipWith before l (l.drop 1)).all id = true
 | [], _ => rfl
 | [_], _ => rfl
 | a :: b :: r, h => by
  obtain ⟨h1, h2⟩ := List.pairwise_cons.mp h
  have ih := pair_all h2
  show ((before a b) :: List.zipWith before (b :: r) r).all id = true
  rw [List.all_cons, Bool.and_eq_true]
  exact ⟨h1 b List.mem_cons_self, ih⟩
theorem along_shape {l : List Pt} (h : Sided l) (c : Pt) : isShape (along c l) = true := by
 have hr := along_round h c
 rcases sided_two h with rfl | ⟨v, w, r, rfl⟩
 ·rfl
 ·have hn : ¬ (along c (v :: w :: r)).length < 2 := fun z => by
   unfold lawSides at hr
   rw [if_pos z] at hr
   cases hr
  unfold lawSides at hr
  rw [if_neg hn] at hr
  unfold isShape
  rw [if_neg hn, hr, if_neg (fun z => h.nz _ z rfl)]
  exact pair_all h.st
theorem together_is (cs es : List Pt) : togetherM cs es = along (moved (cs.headD (0, 0)) (es.headD (0, 0))) (both cs es) := rfl
theorem both_sided {cs es : List Pt} (h1 : isShape cs = true) (h2 : isShape es = true) : Sided (both cs es) := merge_sided (shape_sided h1) (shape_sided h2)
theorem together_shape {cs es : List Pt} (h1 : isShape cs = true) (h2 : isShape es = true) : isShape (togetherM cs es) = true := along_shape (both_sided h1 h2) _
end RS
namespace RS
noncomputable def ordX (x y : Pt) : Int := if before y x = true then cross y x else cross x y
noncomputable def Cs (as bs : List Pt) : Int := (as.map (fun x => (bs.map (ordX x)).sum)).sum
noncomputable def mgp (s t : Int) : List Pt -> List Pt -> List (Int × Pt)
 | [], bs => bs.map (fun b => (t, b))
 | a :: as, bs => (bs.takeWhile (fun o => before o a)).map (fun b => (t, b)) ++ (s, a) :: mgp s t as (bs.dropWhile (fun o => before o a))
noncomputable def val (p : Int × Pt) : Pt := stretched p.1 p.2
theorem sum_nn {F : Pt -> Int} : ∀ {l : List Pt}, (∀ x ∈ l, 0 <= F x) -> 0 <= (l.map F).sum
 | [], _ => by simp
 | a :: l, h => by
  rw [List.map_cons, List.sum_cons]
  have := h a List.mem_cons_self
  have := sum_nn (F := F) (l := l) fun x hx => h x (List.mem_cons_of_mem _ hx)
  lia
end RS
namespace RS
noncomputable def flip (e : Int × Pt) : Int × Pt := (e.1, neg e.2)
noncomputable def height (l : List Pt) : Int := (l.map (fun x => if fstHalf x = true then x.2 else 0)).sum
end RS
namespace RS
noncomputable def inB (m : Int) (p : Pt) : Prop := -m <= p.1 /\ p.1 <= m /\ -m <= p.2 /\ p.2 <= m
theorem sum_fold_le (F : Pt -> Int) (hF : ∀ u v, F (moved u v) <= F u + F v) : ∀ (l acc : List Pt), ((l.foldl joinStep acc).map F).sum <= (acc.map F).sum + (l.map F).sum
 | [], acc => by simp
 | a :: l, acc => by
  have ih := sum_fold_le F hF l (joinStep acc a)
  rw [List.foldl_cons, List.map_cons, List.sum_cons]
  match acc with
  | [] =>
   have : joinStep [] a = [a] := rfl
   rw [this] at ih ⊢
   simp only [List.map_cons, List.map_nil, List.sum_cons, List.sum_nil] at ih ⊢
   lia
  | j :: r =>
   have := hF j a
   cases hs : sameWay j a with
   | true =>
    have e : joinStep (j :: r) a = moved j a :: r := by
     show (if sameWay j a = true then moved j a :: r else a :: j :: r) = _
     rw [if_pos hs]
    rw [e] at ih ⊢
    simp only [List.map_cons, List.sum_cons] at ih ⊢
    lia
   | false =>
    have e : joinStep (j :: r) a = a :: j :: r := by
     show (if sameWay j a = true then moved j a :: r else a :: j :: r) = _
     rw [hs, if_neg Bool.false_ne_true]
    rw [e] at ih ⊢
    simp only [List.map_cons, List.sum_cons] at ih ⊢
    lia
theorem sum_join_le (F : Pt -> Int) (hF : ∀ u v, F (moved u v) <= F u + F v) (l : List Pt) : ((joinM l).map F).sum <= (l.map F).sum := by
 unfold joinM
 rw [List.map_reverse, List.sum_reverse]
 have := sum_fold_le F hF l []
 simpa using this
theorem sum_le {F : Pt -> Int} {B : Int} : ∀ {l : List Pt}, (∀ x ∈ l, F x <= B) -> (l.map F).sum <= B * l.length
 | [], _ => by simp
 | a :: l, h => by
  have h1 := h a List.mem_cons_self
  have h2 := sum_le (F := F) (B := B) (l := l) fun x hx => h x (List.mem_cons_of_mem _ hx)
  rw [List.map_cons, List.sum_cons, List.length_cons]
  have : B * ((l.length + 1 : Nat) : Int) = B * l.length + B := by push_cast; grind
  lia
theorem walk_bd : ∀ {l : List Pt} {c : Pt} {p : Pt} {m1 m2 : Int}, -m1 <= c.1 -> c.1 <= m1 -> -m2 <= c.2 -> c.2 <= m2 -> p ∈ walk c l ->
  (-(m1 + (l.map (fun x => (x.1.natAbs : Int))).sum) <= p.1 /\ p.1 <= m1 + (l.map (fun x => (x.1.natAbs : Int))).sum) /\ -(m2 + (l.map (fun x => (x.2.natAbs : Int))).sum) <= p.2 /\ p.2 <= m2 + (l.map (fun x => (x.2.natAbs : Int))).sum
 | [], c, p, m1, m2, a1, a2, a3, a4, hp => by
  rw [List.mem_singleton.mp hp]
  simp only [List.map_nil, List.sum_nil]
  lia
 | v :: l, c, p, m1, m2, a1, a2, a3, a4, hp => by
  have n1 : 0 <= (l.map (fun x => (x.1.natAbs : Int))).sum := sum_nn fun x _ => by lia
  have n2 : 0 <= (l.map (fun x => (x.2.natAbs : Int))).sum := sum_nn fun x _ => by lia
  rw [List.map_cons, List.sum_cons, List.map_cons, List.sum_cons]
  rcases List.mem_cons.mp hp with rfl | hp
  ·lia
  ·have b1 : -(m1 + (v.1.natAbs : Int)) <= (moved c v).1 /\ (moved c v).1 <= m1 + (v.1.natAbs : Int) := by unfold moved; dsimp only; lia
   have b2 : -(m2 + (v.2.natAbs : Int)) <= (moved c v).2 /\ (moved c v).2 <= m2 + (v.2.natAbs : Int) := by unfold moved; dsimp only; lia
   have := walk_bd (l := l) b1.1 b1.2 b2.1 b2.2 hp
   lia
theorem sum_drop (F : Pt -> Int) (hF : ∀ x, 0 <= F x) (l : List Pt) : (l.dropLast.map F).sum <= (l.map F).sum := by
 rcases List.eq_nil_or_concat l with rfl | ⟨d, x, rfl⟩
 ·exact Int.le_refl _
 ·rw [List.concat_eq_append, List.dropLast_concat, List.map_append, List.sum_append]
  have := hF x
  simp only [List.map_cons, List.map_nil, List.sum_cons, List.sum_nil]
  lia
theorem sides_bd {cs : List Pt} {m : Int} (h : ∀ p ∈ cs, inB m p) : ∀ a ∈ lawSides cs, inB (2 * m) a := fun a ha => by
 unfold lawSides at ha
 split at ha
 ·cases ha
 ·unfold round at ha
  obtain ⟨i, hi, e⟩ := List.getElem_of_mem ha
  rw [List.getElem_zipWith] at e
  rw [<- e]
  have m1 := h _ (List.getElem_mem (l := cs) (n := i) (by rw [List.length_zipWith] at hi; lia))
  have hm : (cs.drop 1 ++ cs.take 1)[i]'(by rw [List.length_zipWith] at hi; lia) ∈ cs.drop 1 ++ cs.take 1 := List.getElem_mem _
  have m2 : inB m ((cs.drop 1 ++ cs.take 1)[i]'(by rw [List.length_zipWith] at hi; omega)) := by
   rcases List.mem_append.mp hm with z | z
   ·exact h _ (List.mem_of_mem_drop z)
   ·exact h _ (List.mem_of_mem_take z)
  unfold inB at m1 m2 ⊢
  unfold arrow
  dsimp only
  lia
theorem sides_few (cs : List Pt) : (lawSides cs).length <= cs.length := by
 unfold lawSides
 split
 ·simp
 ·rw [round_length]; exact Nat.le_refl _
theorem both_sum {cs es : List Pt} {m : Int} {N : Nat} (h0 : 0 <= m) (hc : ∀ p ∈ cs, inB m p) (he : ∀ p ∈ es, inB m p) (hN : cs.length + es.length <= N) (F : Pt -> Int) (hF : ∀ u v, F (moved u v) <= F u + F v) (hb : ∀ x, inB (2 * m) x -> F x <= 2 * m) (hn : ∀ x, 0 <= F x) :
  ((both cs es).dropLast.map F).sum <= 2 * m * N := by
 have a1 := sum_drop F hn (both cs es)
 have a2 := sum_join_le F hF (mergeM (lawSides cs) (lawSides es))
 have a3 := sum_merge F (lawSides cs) (lawSides es)
 have a4 := sum_le (F := F) (B := 2 * m) (l := lawSides cs) fun x hx => hb x (sides_bd hc x hx)
 have a5 := sum_le (F := F) (B := 2 * m) (l := lawSides es) fun x hx => hb x (sides_bd he x hx)
 have s1 := sides_few cs
 have s2 := sides_few es
 have p1 : 2 * m * ((lawSides cs).length : Int) + 2 * m * ((lawSides es).length : Int) <= 2 * m * (N : Int) := by
  rw [<- Int.mul_add]
  exact Int.mul_le_mul_of_nonneg_left (by lia) (by lia)
 unfold both at *
 lia
theorem together_bd {cs es : List Pt} {m : Int} {N : Nat} (h0 : 0 <= m) (hc : ∀ p ∈ cs, inB m p) (he : ∀ p ∈ es, inB m p) (hN : cs.length + es.length <= N) : ∀ p ∈ togetherM cs es, inB (2 * m + 2 * m * N) p := fun p hp => by
 rw [together_is, along_is] at hp
 have c1 : inB m (cs.headD (0, 0)) := by
  cases cs with
  | nil => unfold inB; simp only [List.headD_nil]; lia
  | cons c r => exact hc c List.mem_cons_self
 have c2 : inB m (es.headD (0, 0)) := by
  cases es with
  | nil => unfold inB; simp only [List.headD_nil]; omega
  | cons c r => exact he c List.mem_cons_self
 have x1 := both_sum h0 hc he hN (fun x => (x.1.natAbs : Int)) (fun u v => by unfold moved; dsimp only; omega) (fun x hx => by unfold inB at hx; omega) (fun x => by lia)
 have x2 := both_sum h0 hc he hN (fun x => (x.2.natAbs : Int)) (fun u v => by unfold moved; dsimp only; omega) (fun x hx => by unfold inB at hx; lia) (fun x => by lia)
 unfold inB at c1 c2
 have w := walk_bd (m1 := 2 * m) (m2 := 2 * m) (c := moved (cs.headD (0, 0)) (es.headD (0, 0))) (by unfold moved; dsimp only; lia) (by unfold moved; dsimp only; lia) (by unfold moved; dsimp only; lia) (by unfold moved; dsimp only; lia) hp
 unfold inB
 lia
theorem together_len {cs es : List Pt} (h0 : 0 < cs.length) : (togetherM cs es).length <= cs.length + es.length := by
 rw [together_is, along_is, walk_len, List.length_dropLast]
 have a : (both cs es).length <= (mergeM (lawSides cs) (lawSides es)).length := by
  unfold both joinM
  rw [List.length_reverse]
  have := join_len (mergeM (lawSides cs) (lawSides es)) []
  simpa using this
 rw [mergeM_len] at a
 have s1 := sides_few cs
 have s2 := sides_few es
 lia
end RS
namespace RS
end RS
namespace RS
noncomputable def gone (p : Pt) : Int := (Nat.gcd p.1.natAbs p.2.natAbs : Nat)
noncomputable def least (p : Pt) : Pt := (p.1 / gone p, p.2 / gone p)
noncomputable def stepsM (l : List Pt) : List Pt := l.flatMap (fun v => List.replicate (gone v).toNat (least v))
theorem gone_pos {p : Pt} (h : p ≠ (0, 0)) : 0 < gone p := by
 unfold gone
 have : 0 < Nat.gcd p.1.natAbs p.2.natAbs := by
  refine Nat.pos_of_ne_zero fun z => ?_
  obtain ⟨a, b⟩ := Nat.gcd_eq_zero_iff.mp z
  exact h (Prod.ext (Int.natAbs_eq_zero.mp a) (Int.natAbs_eq_zero.mp b))
 omega
theorem gone_le {p : Pt} {m : Nat} (h : p ≠ (0, 0)) (h1 : p.1.natAbs <= m) (h2 : p.2.natAbs <= m) : gone p <= m := by
 unfold gone
 by_cases z : p.1.natAbs = 0
 ·rw [z, Nat.gcd_zero_left]
  lia
 ·have := Nat.le_of_dvd (by lia) (Nat.gcd_dvd_left p.1.natAbs p.2.natAbs)
  lia
theorem gcd_step (d r : Nat) : Nat.gcd r (d % r) = Nat.gcd d r := by
 rw [Nat.gcd_comm d r, Nat.gcd_rec r d, Nat.gcd_comm]
theorem stepsM_take {l : List Pt} {i : Nat} {v : Pt} (h : l[i]? = some v) : stepsM (l.take (i + 1)) = stepsM (l.take i) ++ List.replicate (gone v).toNat (least v) := by
 have e : l.take (i + 1) = l.take i ++ [v] := by rw [List.take_add_one, h]; rfl
 unfold stepsM
 rw [e, List.flatMap_append]
 simp
theorem stepsM_len {m : Nat} : ∀ {l : List Pt}, (∀ v ∈ l, gone v <= m) -> (stepsM l).length <= m * l.length
 | [], _ => by simp [stepsM]
 | v :: l, h => by
  have h1 := h v List.mem_cons_self
  have h2 := stepsM_len (m := m) (l := l) fun x hx => h x (List.mem_cons_of_mem _ hx)
  unfold stepsM at h2 ⊢
  rw [List.flatMap_cons, List.length_append, List.length_replicate, List.length_cons, Nat.mul_succ]
  omega
end RS
namespace RS
noncomputable def sideLike (w : Pt) (l : List Pt) : Pt := (l.find? (fun s => sameWay s w)).getD (0, 0)
noncomputable def restsM (ones others : List Pt) : List Pt := (ones.map (fun w => arrow (sideLike w others) w)).filter (fun r => decide (r ≠ (0, 0)))
theorem same_self {w : Pt} (h : w ≠ (0, 0)) : sameWay w w = true := by
 unfold sameWay
 rw [cross_self, Bool.and_eq_true]
 exact ⟨rfl, decide_eq_true (dot_pos h)⟩
theorem same_trans {u v w : Pt} (h1 : sameWay u v = true) (h2 : sameWay v w = true) : sameWay u w = true := by
 obtain ⟨c1, d1⟩ := same_parts h1
 obtain ⟨c2, d2⟩ := same_parts h2
 have p := dot_pos (same_nz h1).2
 have e := same_stretch h1
 have ec := cross_st (dot v v) 1 u w
 have ec' := cross_st (dot u v) 1 v w
 rw [e, ec', c2] at ec
 have ed := dot_st (dot v v) 1 u w
 have ed' := dot_st (dot u v) 1 v w
 rw [e, ed'] at ed
 unfold sameWay
 rw [Bool.and_eq_true]
 constructor
 ·refine decide_eq_true ?_
  have : dot v v * 1 * cross u w = 0 := by rw [<- ec]; simp
  rcases Int.mul_eq_zero.mp this with q | q
  ·lia
  ·exact q
 ·refine decide_eq_true ?_
  have q : 0 < dot v v * 1 * dot u w := by
   rw [<- ed]
   exact Int.mul_pos (by lia) d2
  exact (pos_mul (by lia)).mp q
theorem same_not {x y : Pt} (h : sameWay x y = true) : before x y = false := by
 rw [<- (same_before h x).1]
 exact before_self x
noncomputable def F1 (w x : Pt) : Int := if sameWay x w = true then x.1 else 0
noncomputable def F2 (w x : Pt) : Int := if sameWay x w = true then x.2 else 0
theorem like_mem {x w : Pt} {l : List Pt} (hp : l.Pairwise (fun a b => before a b = true)) (hx : x ∈ l) (h : sameWay x w = true) : sideLike w l = x := by
 induction l with
 | nil => cases hx
 | cons a l ih =>
  obtain ⟨p1, p2⟩ := List.pairwise_cons.mp hp
  unfold sideLike
  cases ha : sameWay a w with
  | true =>
   rw [List.find?_cons_of_pos (p := fun s => sameWay s w) ha]
   rcases List.mem_cons.mp hx with rfl | hx
   ·rfl
   ·have := same_not (same_trans ha (same_comm h))
    rw [p1 x hx] at this
    cases this
  | false =>
   rw [List.find?_cons_of_neg (by rw [ha]; simp)]
   rcases List.mem_cons.mp hx with rfl | hx
   ·rw [h] at ha; cases ha
   ·exact ih p2 hx
end RS
namespace RS
end RS
namespace RS
noncomputable abbrev Way := List Pt × List Pt
noncomputable def wayStep (ws : List Way) (s : Pt) : List Way := ws.map (fun w => (w.1 ++ [s], w.2)) ++ ws.map (fun w => (w.1, w.2 ++ [s]))
noncomputable def waysM (l : List Pt) : List Way := l.foldl wayStep [([], [])]
noncomputable abbrev Tri := Int × Int × Int
noncomputable def sumStep (ts : List Tri) (s : Pt) : List Tri := ts ++ ts.map (fun t => (t.1 + s.1, t.2.1 + s.2, t.2.2 + 1))
noncomputable def sumsM (l : List Pt) : List Tri := l.foldl sumStep [(0, 0, 0)]
noncomputable def tally (c : List Pt) : Tri := (sum1 c, sum2 c, (c.length : Int))
noncomputable def fits (w : Way) : Bool := decide (0 < w.1.length) && (decide (0 < w.2.length) && decide ((sum1 w.1, sum2 w.1) = ((0, 0) : Pt)))
noncomputable def roundT (n : Nat) (t : Tri) : Bool := decide ((t.1, t.2.1) = ((0, 0) : Pt)) && (decide (0 < t.2.2) && decide (t.2.2 < (n : Int)))
theorem ways_len : ∀ (l : List Pt) (ws : List Way) (k : Nat), (∀ w ∈ ws, w.1.length + w.2.length = k) -> (∀ w ∈ l.foldl wayStep ws, w.1.length + w.2.length = k + l.length) /\ (l.foldl wayStep ws).length = ws.length * 2 ^ l.length
 | [], ws, k, h => ⟨h, by simp⟩
 | s :: l, ws, k, h => by
  rw [List.foldl_cons]
  have := ways_len l (wayStep ws s) (k + 1) (fun w hw => by
   rcases List.mem_append.mp hw with q | q
   ·obtain ⟨u, hu, rfl⟩ := List.mem_map.mp q
    have := h u hu
    simp
    lia
   ·obtain ⟨u, hu, rfl⟩ := List.mem_map.mp q
    have := h u hu
    simp
    lia)
  obtain ⟨a, b⟩ := this
  refine ⟨fun w hw => by have := a w hw; rw [List.length_cons]; lia, ?_⟩
  rw [b]
  unfold wayStep
  rw [List.length_append, List.length_map, List.length_map, List.length_cons, Nat.pow_succ]
  have : ws.length + ws.length = ws.length * 2 := by lia
  rw [this, Nat.mul_assoc, Nat.mul_comm 2]
theorem ways_take_len {l : List Pt} {i : Nat} (hl : l.length <= 10) : (∀ w ∈ waysM (l.take i), w.1.length <= 10 /\ w.2.length <= 10) /\ (waysM (l.take i)).length <= 1024 := by
 obtain ⟨a, b⟩ := ways_len (l.take i) [([], [])] 0 (fun w hw => by rw [List.mem_singleton.mp hw]; rfl)
 have lt : (l.take i).length <= 10 := by rw [List.length_take]; lia
 refine ⟨fun w hw => ?_, ?_⟩
 ·have := a w hw
  lia
 ·unfold waysM
  rw [b]
  have : 2 ^ (l.take i).length <= 2 ^ 10 := Nat.pow_le_pow_right (by decide) lt
  show 1 * _ <= _
  lia
theorem gone_sum : ∀ l : List Pt, ((stepsM l).length : Int) = (l.map gone).sum
 | [] => rfl
 | v :: l => by
  have ih := gone_sum l
  unfold stepsM at ih ⊢
  rw [List.flatMap_cons, List.length_append, List.length_replicate, List.map_cons, List.sum_cons, <- ih]
  have : 0 <= gone v := by unfold gone; lia
  push_cast
  lia
theorem ways_take {l : List Pt} {i : Nat} {s : Pt} (h : l[i]? = some s) : waysM (l.take (i + 1)) = wayStep (waysM (l.take i)) s := foldl_take wayStep _ h
theorem ways_sub : ∀ (l : List Pt) (ws : List Way) (P : Pt -> Prop), (∀ w ∈ ws, (∀ p ∈ w.1, P p) /\ ∀ p ∈ w.2, P p) -> (∀ s ∈ l, P s) -> ∀ w ∈ l.foldl wayStep ws, (∀ p ∈ w.1, P p) /\ ∀ p ∈ w.2, P p
 | [], _, _, h, _ => h
 | s :: l, ws, P, h, hs => by
  rw [List.foldl_cons]
  have h0 := hs s List.mem_cons_self
  refine ways_sub l _ P (fun w hw => ?_) (fun x hx => hs x (List.mem_cons_of_mem _ hx))
  rcases List.mem_append.mp hw with q | q
  ·obtain ⟨u, hu, rfl⟩ := List.mem_map.mp q
   obtain ⟨a, b⟩ := h u hu
   exact ⟨fun p hp => by
    rcases List.mem_append.mp hp with z | z
    ·exact a p z
    ·rw [List.mem_singleton.mp z]; exact h0, b⟩
  ·obtain ⟨u, hu, rfl⟩ := List.mem_map.mp q
   obtain ⟨a, b⟩ := h u hu
   exact ⟨a, fun p hp => by
    rcases List.mem_append.mp hp with z | z
    ·exact b p z
    ·rw [List.mem_singleton.mp z]; exact h0⟩
theorem div_abs {x g : Int} (hg : 0 < g) (m : Int) (h1 : -m <= x) (h2 : x <= m) : -m <= x / g /\ x / g <= m := by
 constructor
 ·refine Int.le_ediv_of_mul_le hg ?_
  have : 0 <= m * (g - 1) := Int.mul_nonneg (by lia) (by lia)
  have e : -m * g = -m - m * (g - 1) := by grind
  lia
 ·refine Int.ediv_le_of_le_mul hg ?_
  have : 0 <= m * (g - 1) := Int.mul_nonneg (by omega) (by omega)
  have e : m * g = m + m * (g - 1) := by grind
  lia
theorem steps_bd {l : List Pt} {m : Int} (hz : ∀ x ∈ l, x ≠ (0, 0)) (hb : ∀ x ∈ l, inB m x) : ∀ s ∈ stepsM l, inB m s := fun s hs => by
 unfold stepsM at hs
 obtain ⟨v, hv, h⟩ := List.mem_flatMap.mp hs
 rw [(List.mem_replicate.mp h).2]
 obtain ⟨a, b, c, d⟩ := hb v hv
 have g := gone_pos (hz v hv)
 have q1 := div_abs g m a b
 have q2 := div_abs g m c d
 exact ⟨q1.1, q1.2, q2.1, q2.2⟩
end RS
namespace RS
noncomputable def pairsM (ps qs : List Pt) : List Pt := ps.flatMap (fun p => qs.map (moved p))
end RS
namespace RS
noncomputable def up1 (w : Pt) (x : Pt) : Int := if before x w = true then x.1 else 0
noncomputable def up2 (w : Pt) (x : Pt) : Int := if before x w = true then x.2 else 0
noncomputable def upto (w : Pt) (l : List Pt) : Pt := ((l.map (up1 w)).sum, (l.map (up2 w)).sum)
structure Cut (w : Pt) (f g : List Pt) : Prop where
 nz : ∀ x ∈ f ++ g, x ≠ (0, 0)
 st : (f ++ g).Pairwise (fun a b => before a b = true)
 wz : w ≠ (0, 0)
 hf : ∀ x ∈ f, before x w = true
 hg : ∀ x ∈ g, before x w = false
 tot : csum w f + csum w g = 0
noncomputable def far (w : Pt) (cs : List Pt) : Pt := moved (cs.headD (0, 0)) (upto w (lawSides cs))
noncomputable def turnD (d : Pt) : Pt := (-d.2, d.1)
end RS
namespace RS
noncomputable def putP (T : List (Pt × Int)) (k : Pt) (n : Int) : List (Pt × Int) := if T.any (fun e => decide (e.1 = k)) = true then T.map (fun e => if e.1 = k then (e.1, n) else e) else T ++ [(k, n)]
noncomputable def getP (T : List (Pt × Int)) (k : Pt) : Int := ((T.find? (fun e => decide (e.1 = k))).map (·.2)).getD 0
noncomputable def tallyStep (T : List (Pt × Int)) (x : Pt) : List (Pt × Int) := putP T (least x) (getP T (least x) + gone x)
noncomputable def tallyL (l : List Pt) : List (Pt × Int) := l.foldl tallyStep []
noncomputable def Gs (k : Pt) (x : Pt) : Int := if least x = k then gone x else 0
end RS
namespace RS
end RS
namespace RS
noncomputable def cy (S : List Pt) (k : Nat) : Pt := S.getD (k % S.length) (0, 0)
noncomputable def sd (S : List Pt) (k : Nat) : Pt := arrow (cy S k) (cy S (k + 1))
end RS
namespace RS
end RS
namespace RS
end RS
namespace RS
section
variable {ones others : List Pt}
end
end RS
namespace RS
noncomputable def offM (ps qs : List Pt) : List Pt := along (arrow (qs.headD (0, 0)) (ps.headD (0, 0))) (restsM (lawSides ps) (lawSides qs))
section
variable {ps qs : List Pt}
noncomputable def tallyS (l : List Pt) : List (Pt × Int) := l.map (fun v => (least v, gone v))
end
end RS
namespace RS
inductive Split : List Pt -> List Pt -> List Pt -> Prop
 | nil : Split [] [] []
 | one {l c r : List Pt} (s : Pt) : Split l c r -> Split (s :: l) (s :: c) r
 | two {l c r : List Pt} (s : Pt) : Split l c r -> Split (s :: l) c (s :: r)
theorem mem_ways : ∀ (l : List Pt) (ws : List Way) (x : Way), x ∈ l.foldl wayStep ws ↔ ∃ w ∈ ws, ∃ c r, Split l c r /\ x = (w.1 ++ c, w.2 ++ r)
 | [], ws, x => by
  constructor
  ·intro h
   exact ⟨x, h, [], [], .nil, by simp⟩
  ·rintro ⟨w, hw, c, r, hs, rfl⟩
   cases hs
   simpa using hw
 | s :: l, ws, x => by
  rw [List.foldl_cons, mem_ways l (wayStep ws s) x]
  constructor
  ·rintro ⟨w, hw, c, r, hs, rfl⟩
   unfold wayStep at hw
   rcases List.mem_append.mp hw with q | q
   ·obtain ⟨v, hv, rfl⟩ := List.mem_map.mp q
    exact ⟨v, hv, s :: c, r, .one s hs, by simp⟩
   ·obtain ⟨v, hv, rfl⟩ := List.mem_map.mp q
    exact ⟨v, hv, c, s :: r, .two s hs, by simp⟩
  ·rintro ⟨w, hw, c, r, hs, rfl⟩
   cases hs with
   | one _ hs => exact ⟨(w.1 ++ [s], w.2), List.mem_append_left _ (List.mem_map.mpr ⟨w, hw, rfl⟩), _, _, hs, by simp⟩
   | two _ hs => exact ⟨(w.1, w.2 ++ [s]), List.mem_append_right _ (List.mem_map.mpr ⟨w, hw, rfl⟩), _, _, hs, by simp⟩
theorem ways_split {l : List Pt} {w : Way} : w ∈ waysM l ↔ Split l w.1 w.2 := by
 unfold waysM
 rw [mem_ways]
 constructor
 ·rintro ⟨v, hv, c, r, hs, rfl⟩
  rw [List.mem_singleton.mp hv]
  simpa using hs
 ·intro h
  exact ⟨([], []), List.mem_singleton.mpr rfl, w.1, w.2, h, rfl⟩
theorem Split.len {l c r : List Pt} (h : Split l c r) : c.length + r.length = l.length := by
 induction h with
 | nil => rfl
 | one s _ ih => simp only [List.length_cons]; lia
 | two s _ ih => simp only [List.length_cons]; lia
end RS
namespace RS
end RS
namespace L2
open PySem PySem.Spec PyProof.Rows PySem.SeqAt
section
variable {X : Cx}
theorem preSum_list (ns : List Int) : ∀ k, k <= ns.length -> preSum (fun i => ns.getD i 0) k = (ns.take k).sum
 | 0, _ => by simp [preSum]
 | k + 1, h => by
  have hk : k < ns.length := by lia
  show preSum (fun i => ns.getD i 0) k + ns.getD k 0 = _
  rw [preSum_list ns k (by lia), List.take_add_one, List.getElem?_eq_getElem hk, List.sum_append]
  simp [hk]
theorem call_sum_ints (hc : X.calm = true) : CallR X (.builtin "sum") (fun xs H Q => ∃ (l : Addr) (ns : List Int), xs = [.ref l] /\ SqL X.K H l (ns.map V.int) /\ Q (.int ns.sum) H) := by
 intro pins s σ H xs us Q I r h
 obtain ⟨l, ns, rfl, hl, q⟩ := h
 obtain ⟨u, rfl, ru⟩ := vals1 r
 cases ru
 obtain ⟨its, rv, p1, _⟩ := I.list hl
 have hlen := rv.length
 rw [List.length_map] at hlen
 have hlt : l < s.heap.objs.size := let ⟨_, e, _⟩ := p1.isList; Heap.lt_size e
 refine call_sum_walkG (wpAny_pyIter_list p1.isList ?_)
 refine ⟨s.heap.objs.size, _, _, its.toArray.size, _, _, fun i => ns.getD i 0, rfl, Walks.list (by exact I.ok.hd hc) s.heap.objs.size l (Nat.ne_of_lt hlt) its.toArray, ⟨⟨_, Heap.get?_push_size _ rfl, rfl, rfl⟩, p1.isList.push _⟩, ?_, ints_at rv, fun h' tk t' hk => ?_⟩
 ·intro b hb
  rcases List.mem_cons.mp hb with rfl | hb
  ·show _ < (Heap.push _ _).objs.size
   rw [Heap.size_push]; exact Nat.lt_succ_self _
  ·rcases List.mem_cons.mp hb with rfl | hb
   ·show _ < (Heap.push _ _).objs.size
    rw [Heap.size_push]; exact Nat.lt_succ_of_lt hlt
   ·cases hb
 ·refine ⟨.int _, H, I.kept (h' := h') (t' := tk) (fun b o eb => hk b o (fun z => ?_) (Heap.get?_push_of_some _ eb)), ⟨t', rfl⟩, ?_⟩
  ·have z' : b = s.heap.objs.size := by simpa using z
   rw [z'] at eb
   exact absurd (Heap.lt_size eb) (Nat.lt_irrefl _)
  ·rw [List.size_toArray, <- hlen, preSum_list ns ns.length (Nat.le_refl _), List.take_length]
   exact q
end
end L2
namespace L2
open PySem PySem.Spec PyProof.Rows PySem.SeqAt
open RS (Pt)
section
variable {X : Cx}
noncomputable def rEqTag : R2 := fun x y H Q => ∃ a b l c t ps qs, x = .ref a /\ y = .ref b /\ H a = some (.tup [.str t, .ref l]) /\ H b = some (.tup [.str t, .ref c]) /\ Pts H l ps /\ Pts H c qs /\ Q (.bl (decide (ps = qs))) H
noncomputable def rNeTag : R2 := fun x y H Q => ∃ a b l c t ps qs, x = .ref a /\ y = .ref b /\ H a = some (.tup [.str t, .ref l]) /\ H b = some (.tup [.str t, .ref c]) /\ Pts H l ps /\ Pts H c qs /\ Q (.bl (!decide (ps = qs))) H
noncomputable def rNePt : R2 := fun x y H Q => ∃ a b p q, x = .ref a /\ y = .ref b /\ Tp H a p /\ Tp H b q /\ Q (.bl (!decide (p = q))) H
theorem op_nePt (hu : X.A.units + 1 < cLine) : OpR X (compareOp .NotEq) rNePt := by
 intro pins s σ H x y v u Q I rx ry h
 obtain ⟨a, b, p, q, rfl, rfl, ha, hb, k⟩ := h
 cases rx
 cases ry
 obtain ⟨its, r1, p1, _⟩ := I.tuple (SqT.of (K := X.K) ha)
 obtain ⟨jts, r2, p2, _⟩ := I.tuple (SqT.of (K := X.K) hb)
 obtain ⟨u1, u2, rfl, ⟨t1, rfl⟩, ⟨t2, rfl⟩⟩ := r1.two
 obtain ⟨v1, v2, rfl, ⟨t3, rfl⟩, ⟨t4, rfl⟩⟩ := r2.two
 refine RcNeAt.tuples (A := X.A) (s := s) (e := fun j => if j = 0 then (p.1 == q.1) else (p.2 == q.2)) (let ⟨o, g1, g2, n, g3⟩ := p1; ⟨o, g1, g2, n, g3⟩) (let ⟨o, g1, g2, n, g3⟩ := p2; ⟨o, g1, g2, n, g3⟩) (by lia) (fun j h1 h2 => ?_) _ _ _ _ ⟨.bl _, H, I, rfl, ?_⟩
 ·have hj : j = 0 \/ j = 1 := by
   have : j < 2 := h1
   lia
  rcases hj with rfl | rfl
  ·exact SeqAt.EqAt.int_int _ _ _ _
  ·exact SeqAt.EqAt.int_int _ _ _ _
 ·have e : ((List.range (min 2 2)).all (fun j => if j = 0 then (p.1 == q.1) else (p.2 == q.2)) && (2 == 2)) = decide (p = q) := by
   exact pt_dec p q
  have k' := k
  rw [<- e] at k'
  exact k'
end
end L2
namespace L2
open PySem PySem.Spec PyProof.Rows PySem.SeqAt
open RS (Pt kk)
section
variable {X : Cx}
noncomputable def rNeTwo : R2 := fun x y H Q => ∃ l b l1 l2 b1 b2 ps qs, x = .ref l /\ y = .ref b /\ H l = some (.lst [.ref l1, .ref l2]) /\ H b = some (.lst [.ref b1, .ref b2]) /\ Pts H l1 ps /\ Pts H b1 ps /\ Pts H l2 qs /\ Pts H b2 qs /\ Q (.bl false) H
end
end L2
namespace L2
open PySem PySem.Spec PyProof.Rows
theorem ObjOk.is {P : Program} {w : World} {H : Hp} {h : Heap} {a : Addr} {o : HO} (x : ObjOk P w H h a o) : ∃ u, h.get? a = some u := by
 cases o with
 | lst xs => obtain ⟨_, _, _, _, e⟩ := x; exact ⟨_, e⟩
 | tup xs => obtain ⟨_, _, _, _, e, _⟩ := x; exact ⟨_, e⟩
 | dK kvs => obtain ⟨_, _, _, _, _, _, _, e, _⟩ := x; exact ⟨_, e⟩
 | dT kvs => obtain ⟨_, _, _, _, _, _, _, e, _⟩ := x; exact ⟨_, e⟩
 | set S n => obtain ⟨_, _, _, _, e, _⟩ := x; exact ⟨_, e⟩
 | ins C dx fs => obtain ⟨_, _, _, e, _⟩ := x; exact ⟨_, e⟩
 | own y => exact x
 | xd fs => obtain ⟨_, ⟨_, _, _, e, _⟩, _⟩ := x; exact ⟨_, e⟩
 | rng lo hi => obtain ⟨_, _, _, e⟩ := x; exact ⟨_, e⟩
 | frz ob u => exact ⟨_, x.1⟩
 | tbl ps => exact ⟨_, x⟩
 | met f y => exact ⟨_, x⟩
 | ext φ => exact x.2.1
structure Lies (old : Heap) (H : Hp) (l : List Env) (B h : Heap) : Prop where
 fr : h.FunFrames B l
 trk : ∀ b u o, H b = some u -> h.get? b = some o -> B.get? b = some o
 was : ∀ b u o, old.get? b = some u -> b ∉ frs l -> h.get? b = some o -> B.get? b = some o
section
variable {P : Program} {w : World} {old old' B h h' : Heap} {H H' : Hp} {l l' : List Env} {e : Addr} {cls a0 : Value}
theorem Lies.to (f : Lies old H l B h) (g : B.StaysIn h') (fr : h'.FunFrames B l') (hk : ∀ b u, H b = some u -> ∃ o, h.get? b = some o)
  (ho : ∀ b u, old'.get? b = some u -> b ∉ frs l' -> (∃ v, old.get? b = some v) /\ b ∉ frs l /\ ∃ o, h.get? b = some o) : Lies old' H l' B h' where
 fr := fr
 trk := fun b u o e1 e2 => by
  obtain ⟨o1, h1⟩ := hk b u e1
  have h2 := f.trk b u o1 e1 h1
  have h3 := g b o1 h2
  rw [e2] at h3
  cases h3
  exact h2
 was := fun b u o e1 n e2 => by
  obtain ⟨⟨v, hv⟩, nl, o1, h1⟩ := ho b u e1 n
  have h2 := f.was b v o1 hv nl h1
  have h3 := g b o1 h2
  rw [e2] at h3
  cases h3
  exact h2
theorem HOk.lies (x : HOk P w H h) (f : Lies old H l B h) (g : B.StaysIn h') : HOk P w H h' := fun a o q =>
 (x a o q).stay (fun b u hc r => by
  have : ∃ v, H b = some v := by
   rcases hc with z | z
   ·exact ⟨o, z ▸ q⟩
   ·exact ⟨_, z⟩
  obtain ⟨v, hv⟩ := this
  exact g b u (f.trk b v u hv r)) (fun _ q => q) fun _ _ q => q
theorem Un.lies (u : Un (frs l') [] H H' old h) (f : Lies old H' l B h) (g : B.StaysIn h') (fr : h'.FunFrames B l') (sm : h.UpToSlots h') (hs : ∀ b ∈ frs l', b ∈ frs l) (hl : ∀ b o, old.get? b = some o -> b ∉ frs l' -> b ∉ frs l) :
  Un (frs l') [] H H' old h' where
 keep := fun b o q n hb hx => g b o (f.was b o o q (hl b o q hb) (u.keep b o q n hb hx))
 slot := fun b o q n hb hx => by
  obtain ⟨sl, e1⟩ := u.slot b o q n hb hx
  obtain ⟨_, o1, h1, d1⟩ := f.fr.mem (hs b hb)
  rw [e1] at h1
  cases h1
  obtain ⟨sl', e3⟩ := sm b _ e1 d1
  exact ⟨sl', e3⟩
 free := u.free
 there := fun b o q hx => by
  obtain ⟨o', e1⟩ := u.there b o q hx
  by_cases hb : b ∈ frs l'
  ·obtain ⟨_, o2, h2, _⟩ := fr.mem hb
   exact ⟨o2, h2⟩
  ·exact ⟨o', g b o' (f.was b o o' q (hl b o q hb) e1)⟩
 tups := u.tups
 frzs := u.frzs
 tbls := u.tbls
end
noncomputable def CXR (P : Program) (w : World) : CXT := fun outer H s E v s' =>
 ∃ (e : Addr) (cls : Value) (H' : Hp) (B : Heap) (a0 : Value), v = .ref e /\ s'.os = s.os /\ AllBare s'.gens /\ Un (frs outer) [] H H' s.heap s'.heap /\ HOk P w H' s'.heap /\
  Heap.FlyingW B outer e cls a0 s'.heap /\ Lies s.heap H' outer B s'.heap /\ E cls none H'
theorem frs_cons {env : Env} {outer : List Env} {L : Addr} (h : env.frame = some L) {b : Addr} : b ∈ frs (env :: outer) ↔ b = L \/ b ∈ frs outer := by
 unfold frs
 rw [List.filterMap_cons, h]
 exact List.mem_cons
section
variable {P : Program} {w : World} {K : PySem.W.Frag} {mg : Str -> Option Value} {base : Heap} {N : List Str} {qual : Str} {scope : Scope} {f : Addr} {cd : Value} {A : Around} {outer : List Env} {s : Shared} {H : Hp} {E : XK}
theorem down {pins : List (Addr × Obj)} {σ : St} {H1 : Hp} {s1 : Shared} {B h' : Heap} {e : Addr} {cls a0 : Value} (I : Inv (cxOf (CXR P w) P w K mg base N qual scope f cd A outer s H E) pins σ H1 s1)
  (ly : Lies s.heap H1 (cxOf (CXR P w) P w K mg base N qual scope f cd A outer s H E).stack B s1.heap) (g : Heap.FlyingW B outer e cls a0 h') (sm : s1.heap.UpToSlots h') (q : E cls none H1) :
  CXR P w outer H s E (.ref e) { s1 with heap := h' } := by
 have hl : ∀ b o, s.heap.get? b = some o -> b ∉ frs outer -> b ∉ frs (cxOf (CXR P w) P w K mg base N qual scope f cd A outer s H E).stack := fun b o q n m => by
  rcases (frs_cons (L := s.heap.objs.size) rfl).mp m with z | z
  ·exact absurd z (Nat.ne_of_lt (Heap.lt_size q))
  ·exact n z
 refine ⟨e, cls, H1, B, a0, rfl, I.os, I.bare, Un.lies I.base ly g.1 g.2.2.1 sm (fun b m => (frs_cons (L := s.heap.objs.size) rfl).mpr (.inr m)) hl, I.hok.lies ly g.1, g, ?_, q⟩
 exact ly.to g.1 g.2.2.1 (fun b u z => (I.hok b u z).is) (fun b u z n => ⟨⟨u, z⟩, hl b u z n, I.base.there b u z (fun m => nomatch m)⟩)
theorem passR : Passes (CXR P w) (cxOf (CXR P w) P w K mg base N qual scope f cd A outer s H E) E := fun pins σ H1 s1 v s2 I hx => by
 obtain ⟨e, cls, H2, B, a0, rfl, ho, hg, u, hok, fl, ly, q⟩ := hx
 have I2 := I.call' (ch := []) ho u hok hg (fun b z => nomatch z)
 have ly2 : Lies s.heap H2 (cxOf (CXR P w) P w K mg base N qual scope f cd A outer s H E).stack B s2.heap := ly.to fl.1 fl.2.2.1 (fun b u z => (hok b u z).is) fun b u z n => ⟨I.base.there b u z (fun m => nomatch m), n, I2.base.there b u z (fun m => nomatch m)⟩
 exact wpAny_leaves_onW I.ok.frames rfl fl fun h' g sm => down I2 ly2 g sm q
noncomputable def Raises (X : Cx) (E : XK) : Prop := ∀ (pins : List (Addr × Obj)) (σ : St) (H : Hp) (s : Shared) (h' : Heap) (e : Addr) (cls : Value) (vs : List Value), Inv X pins σ H s -> Heap.MadeExcOf s.heap h' e cls vs -> E cls none H -> X.xe (.ref e) { s with heap := h' }
theorem raiseR : Raises (cxOf (CXR P w) P w K mg base N qual scope f cd A outer s H E) E := fun pins σ H1 s1 h1 e cls vs I m q => by
 have I1 : Inv (cxOf (CXR P w) P w K mg base N qual scope f cd A outer s H E) pins σ H1 { s1 with heap := h1 } := I.kept (t' := s1.toks) m.keeps
 have hl := PySem.W.funFrames_hide (as := frs (cxOf (CXR P w) P w K mg base N qual scope f cd A outer s H E).stack) I.stack (fun env he a ha => List.mem_filterMap.mpr ⟨env, he, ha⟩)
 have kb : (PySem.W.hideAll s1.heap (frs (cxOf (CXR P w) P w K mg base N qual scope f cd A outer s H E).stack)).StaysIn s1.heap := fun b o q => PySem.W.of_hideAll _ q
 have here : ∀ b o, b ∉ frs (cxOf (CXR P w) P w K mg base N qual scope f cd A outer s H E).stack -> (∃ v, s1.heap.get? b = some v) -> h1.get? b = some o -> (PySem.W.hideAll s1.heap (frs (cxOf (CXR P w) P w K mg base N qual scope f cd A outer s H E).stack)).get? b = some o := fun b o n ⟨v, hv⟩ e2 => by
  have e3 := m.keeps b v hv
  rw [e2] at e3
  cases e3
  exact PySem.W.hideAll_get _ hv n
 refine wpAny_leaves_madeW (s := { s1 with heap := h1 }) I.ok.frames rfl kb hl m fun h' t g _ _ sm => down (B := PySem.W.hideAll s1.heap (frs (cxOf (CXR P w) P w K mg base N qual scope f cd A outer s H E).stack)) I1 ⟨?_, ?_, ?_⟩ g sm q
 ·exact hl.of_keeps fun b o z _ => ⟨o, m.keeps b o z, rfl⟩
 ·exact fun b u o e1 e2 => here b o (fun z => by rw [I.stkFree b z] at e1; cases e1) (I.hok b u e1).is e2
 ·exact fun b u o e1 n e2 => here b o n (I.base.there b u e1 (fun m => nomatch m)) e2
end
abbrev vErr : List Value := [.type "ValueError", .type "Exception", .type "BaseException", .type "object"]
set_option tactic.hygienic true in
theorem exc_obj {K : PySem.W.Frag} {h : Heap} {C : Addr} (X : K.In h) (q : PySem.W.excIn K C vErr "ValueError.__new__" = true) :
  ∃ bm N nm qn bs hdct sn sub ab col dd k0 k1 k2 k3 k5 mN, h.get? C = some (excClassObj nm qn C N bs bm hdct sn sub ab col dd k0 k1 k2 k3 k5 "ValueError.__new__") /\ h.Ns N mN /\ mN "__init__" = none /\ OwnTail h vErr bm := by
 unfold PySem.W.excIn at q
 split at q
 case h_2 => exact Bool.noConfusion q
 case h_1 dd cd sl ho =>
  generalize hm : cd.mro = mr at q
  generalize hs : sl.toList = ls at q
  rcases mr with _ | ⟨v, bm⟩
  ·exact Bool.noConfusion q
  cases v
  case ref C' =>
   rcases ls with _ | ⟨k0, _ | ⟨k1, _ | ⟨k2, _ | ⟨k3, _ | ⟨k4, ls⟩⟩⟩⟩⟩
   iterate 5 exact Bool.noConfusion q
   rcases k4 with _ | v
   ·exact Bool.noConfusion q
   cases v
   case builtin n =>
    rcases ls with _ | ⟨k5, _ | ⟨k6, ls⟩⟩
    ·exact Bool.noConfusion q
    ·simp only [Bool.and_eq_true, beq_iff_eq, Bool.not_eq_true'] at q
     obtain ⟨⟨⟨⟨⟨q1, q2⟩, q3⟩, q4⟩, q5⟩, q6⟩ := q
     subst q1 q2
     cases cd
     dsimp only at hm q3 q5 q6
     subst hm q3
     obtain ⟨l⟩ := sl
     dsimp only at hs
     subst hs
     exact ⟨bm, _, _, _, _, _, _, _, _, _, dd, k0, k1, k2, k3, k5, _, X _ _ ho, .of_isNs (PySem.W.isNs_of_in X q5), PySem.W.nsMap_none_of_in X q5 q6, PySem.W.tail_of_in X q4⟩
    ·exact Bool.noConfusion q
   all_goals exact Bool.noConfusion q
  all_goals exact Bool.noConfusion q
section
variable {X : Cx}
noncomputable def tRaise (C : Addr) (E : XK) (t : TA) : TS := fun _ σ H => t σ H fun vs H1 => vs.length <= sizeLine /\ E (.ref C) none H1
theorem ps_raise {E : XK} {x : Str} {C : Addr} {e : Expr} {es : List Expr} {t : TA} {np cpos pos : Pos} (hr : Raises X E) (hc : X.calm = true) (hg : Gl X x) (hm : X.mg x = some (.ref C)) (hx : PySem.W.excIn X.K C vErr "ValueError.__new__" = true)
  (ha : PA X (e :: es) t) (hd : (x == ("__debug__" : Str)) = false := by decide) (he : starEach (e :: es) X.env = (false, eval e X.env) :: starEach es X.env := by rfl) (hpl : (backTo cpos (starEach es X.env)).any (·.1) = false := by rfl) :
  PS X (.Raise (some (.Call (.Name x np) (e :: es) [] cpos)) none pos) (tRaise C E t) := by
 intro pins s σ H D I h
 obtain ⟨bm, N, nm, qn, bs, hdct, sn, sub, ab, col, dd, k0, k1, k2, k3, k5, mN, hC, hN, hni, T⟩ := exc_obj I.mod.kin hx
 refine wpAny_Raise_call_subT (C := C) (nm := nm) (q := qn) (N := N) (bs := bs) (bm := bm) (hdct := hdct) (sn := sn) (sub := sub) (ab := ab) (col := col) (dd := dd) (k0 := k0) (k1 := k1) (k2 := k2) (k3 := k3) (k5 := k5)
  PySem.F.excBase_ValueError (mN := mN) (T.hasType PySem.F.excBase_ValueError.hasBase) (I.ok.hd hc) ?_ hni (ld_glob I hg hm ⟨rfl, ?_⟩ hd)
 ·rw [he]
  show (false || (backTo cpos (starEach es X.env)).any (·.1)) = false
  rw [hpl]
  rfl
 have go := ha cpos pins s σ H _ I h
 rw [he] at go ⊢
 exact Calls.evalArgs_plain (thn go fun us s1 ⟨vs, H1, I1, r, q⟩ => ⟨rfl, by rw [<- r.length]; exact q.1, I1.bk _ _ hC, hN.keeps I1.bk, T.keeps I1.bk, fun h' e m => hr pins σ H1 s1 h' e _ us I1 m q.2⟩)
end
end L2
namespace L2
open PySem PySem.Spec PyProof.Rows
theorem PS.nox {X : Cx} {st : Stmt} {t : TS} (h : PS X.nox st t) : PS X st t := fun pins s σ H D I hw =>
 wpAny_mono (h pins s σ H D (I.wish _) hw) (fun _ _ q => q.unwish) fun _ _ z => False.elim z
theorem Fun.okR {P : Program} {w : World} {K : PySem.W.Frag} {mg : Str -> Option Value} {base : Heap} {x qual : Str} {st : Stmt} {f : Addr} {fd : FuncData} {N ps : List Str} {k : Nat} {sp : Sp} (F : Fun K x qual st f fd) (S : FnScope N ps (defScope st))
  (len : ∀ vs H Q E, sp vs H Q E -> vs.length = ps.length)
  (hbody : ∀ (cdv : Value) (A : Around) (outer : List Env) (s : Shared) (H : Hp) (vs : List V) (Q : VK) (E : XK), Room k (A.deeper (envOfC qual (defScope st) s.heap.objs.size f cdv)) -> sp vs H Q E ->
   ∃ t, PSs (cxOf (CXR P w) P w K mg base N qual (defScope st) f cdv A outer s H E) (defBody st) t /\ t { nx := fun _ H' => Q .non H', rt := Q } (start N vs) H) : FnOk P w K mg base (CXR P w) (k + 1) f fd ps sp := by
 obtain ⟨oc, od, kV, doc, pm, an, cdv, ct, osl, rfl, lk, hcd⟩ := F.ex
 exact fn_of lk hcd S len fun A outer s H vs Q E hr hsp => hbody cdv A outer s H vs Q E hr hsp
end L2
namespace L2
open PySem PySem.Spec PyProof.Rows
noncomputable abbrev ExcO (e : Addr) (cls : Value) : HO := .ext fun h => ∃ o, h.get? e = some o /\ o.cls = cls
noncomputable abbrev Cx.bear (X : Cx) (pins : List (Addr × Obj)) : Cx := { X with pn := X.pn ++ pins, xe := fun _ _ => False }
noncomputable abbrev Cx.tri (X : Cx) (pins : List (Addr × Obj)) (RX : XK) : Cx :=
 { X with pn := X.pn ++ pins, xe := fun v s' => ∃ (pins' : List (Addr × Obj)) (σ : St) (H : Hp) (s : Shared), Inv (X.bear pins) pins' σ H s /\ CXR X.prog X.w X.stack H s RX v s' }
noncomputable abbrev Cx.han (X : Cx) (pins : List (Addr × Obj)) (e : Addr) : Cx := { X with A := X.A.mark (some (.ref e)), calm := false, pn := X.pn ++ pins, xe := fun _ _ => False }
section
variable {X : Cx} {pins pins' : List (Addr × Obj)} {σ : St} {H : Hp} {s : Shared} {RX : XK} {e : Addr}
theorem Cx.Ok.bear (ok : X.Ok) : (X.bear pins).Ok :=
 ⟨ok.mod, ok.kind, ok.glob, ok.blt, ok.above, ok.inj, ok.has, ok.cab, ok.hd, ok.frames, ok.stk, ok.exf, ok.bs, ok.bsz, ok.noex, ok.exfs, ok.funs, ok.frf⟩
theorem Cx.Ok.tri (ok : X.Ok) : (X.tri pins RX).Ok :=
 ⟨ok.mod, ok.kind, ok.glob, ok.blt, ok.above, ok.inj, ok.has, ok.cab, ok.hd, ok.frames, ok.stk, ok.exf, ok.bs, ok.bsz, ok.noex, ok.exfs, ok.funs, ok.frf⟩
theorem Cx.Ok.untri (ok : (X.tri pins RX).Ok) : X.Ok :=
 ⟨ok.mod, ok.kind, ok.glob, ok.blt, ok.above, ok.inj, ok.has, ok.cab, ok.hd, ok.frames, ok.stk, ok.exf, ok.bs, ok.bsz, ok.noex, ok.exfs, ok.funs, ok.frf⟩
theorem Cx.Ok.han (ok : (X.bear pins).Ok) : (X.han pins e).Ok :=
 ⟨ok.mod, ok.kind, ok.glob, ok.blt, ok.above, ok.inj, ok.has, ok.cab, (fun z => nomatch z), ok.frames, ok.stk, ok.exf, ok.bs, ok.bsz, ok.noex, ok.exfs, ok.funs, ok.frf⟩
theorem Inv.tri (I : Inv X pins σ H s) : Inv (X.tri pins RX) [] σ H s :=
 ⟨I.ok.tri, I.os, I.bare, I.base, I.loc, I.cell, I.free, I.freeC, fun p hp => I.pin p (by rw [List.append_nil] at hp; exact hp), I.hok, I.len⟩
theorem Inv.untri (I : Inv (X.tri pins RX) pins' σ H s) : Inv X pins σ H s :=
 ⟨I.ok.untri, I.os, I.bare, I.base, I.loc, I.cell, I.free, I.freeC, fun p hp => I.pin p (List.mem_append_left _ hp), I.hok, I.len⟩
theorem Inv.triBear (I : Inv (X.tri pins RX) pins' σ H s) : Inv (X.bear pins) pins' σ H s :=
 ⟨I.ok.untri.bear, I.os, I.bare, I.base, I.loc, I.cell, I.free, I.freeC, I.pin, I.hok, I.len⟩
theorem Inv.han (I : Inv (X.bear pins) pins' σ H s) : Inv (X.han pins e) [] σ H s :=
 ⟨I.ok.han, I.os, I.bare, I.base, I.loc, I.cell, I.free, I.freeC, fun p hp => I.pin p (by rw [List.append_nil] at hp; exact List.mem_append_left _ hp), I.hok, I.len⟩
theorem Inv.unhan (ok : X.Ok) (I : Inv (X.han pins e) pins' σ H s) : Inv X pins σ H s :=
 ⟨ok, I.os, I.bare, I.base, I.loc, I.cell, I.free, I.freeC, fun p hp => I.pin p (List.mem_append_left _ hp), I.hok, I.len⟩
theorem passT : Passes (CXR X.prog X.w) (X.tri pins RX) RX := fun p σ H s _ _ I h => ⟨p, σ, H, s, I.triBear, h⟩
set_option tactic.hygienic true in
theorem SP.untri {D : Ends} {f : Flow} {s' : Shared} (h : SP (X.tri pins RX) [] D f s') : SP X pins D f s' := by
 cases f with
 | next => obtain ⟨σ', H', I, q⟩ := h; exact ⟨σ', H', I.untri, q⟩
 | brk => obtain ⟨σ', H', I, q⟩ := h; exact ⟨σ', H', I.untri, q⟩
 | cont => obtain ⟨σ', H', I, q⟩ := h; exact ⟨σ', H', I.untri, q⟩
 | ret u => obtain ⟨v, σ', H', I, r, q⟩ := h; exact ⟨v, σ', H', I.untri, r, q⟩
theorem name_gone {M : Model} {A : Around} {E : Value -> Shared -> Prop} {i : Nat} {n : Str} {pos : Pos} {Q : Unit -> Shared -> Prop} (I : Inv X pins σ H s) (hN : X.N.Nodup) (hi : X.N[i]? = some n) (hk : X.env.scope.names.lookup n = some .local)
  (h : ∀ s', Inv X pins (σ.set i none) H s' -> Q () s') : wpAny M A (do bindName X.env n .none; unbindBehindTheSuite X.env n pos) Q E s := by
 obtain ⟨m, hn, hl⟩ := id I.loc
 have hcls : (X.env.scope.kind == .class || (X.env.scope.kind == .module && X.env.locals != X.env.globals)) = false := by rw [I.ok.kind]; rfl
 refine wpAny_nameGoes_keeps hk hn hcls fun h' v hn' hs => h _ ?_
 have ne : ∀ b o, X.s₀.heap.get? b = some o -> b ≠ X.env.locals := fun b o e => Nat.ne_of_lt (Nat.lt_of_lt_of_le (Heap.lt_size e) I.ok.above)
 refine ⟨I.ok, I.os, I.bare, ⟨fun b o e q hb hx => (hs.2 b (ne b o e)).trans (I.base.keep b o e q hb hx), fun b o e q hb hx => ?_, I.base.free, fun b o e hx => ?_, I.base.tups, I.base.frzs, I.base.tbls⟩,
  ⟨_, hn', fun j y v' e1 e2 e3 => ?_⟩, fun y c e => ?_, I.free, I.freeC, fun p hp => ?_, fun b ob e => ?_, by rw [List.length_set]; exact I.len⟩
 ·obtain ⟨sl, e1⟩ := I.base.slot b o e q hb hx
  exact ⟨sl, (hs.2 b (ne b o e)).trans e1⟩
 ·obtain ⟨o', e1⟩ := I.base.there b o e hx
  exact ⟨o', (hs.2 b (ne b o e)).trans e1⟩
 ·have hj : j ≠ i := fun z => by
   subst z
   rw [List.getElem?_set] at e2
   split at e2
   ·split at e2 <;> cases e2
   ·exact absurd rfl ‹_›
  rw [List.getElem?_set_ne (Ne.symm hj)] at e2
  obtain ⟨u', r', q⟩ := hl j y v' e1 e2 e3
  refine ⟨u', r', ?_⟩
  rcases q with ⟨k, z⟩ | ⟨k, c, z1, z2⟩
  ·refine .inl ⟨k, ?_⟩
   have : y ≠ n := fun z => hj (nodup_ix hN e1 (z ▸ hi))
   simp [this, z]
  ·exact .inr ⟨k, c, z1, z2.sameBut hs (I.cne y c z1)⟩
 ·obtain ⟨w', z⟩ := I.cell y c e
  exact ⟨w', z.sameBut hs (I.cne y c e)⟩
 ·obtain ⟨e, q, n1, nf, d⟩ := I.pin p hp
  exact ⟨(hs.2 p.1 n1).trans e, q, n1, nf, d⟩
 ·refine (I.hok b ob e).stay (fun c w' hc q => (hs.2 c ?_).trans q) (fun _ q => q) fun _ _ q => q
  intro z
  rcases hc with y | y
  ·rw [<- y, z, I.free] at e; cases e
  ·rw [z, I.free] at y; cases y
noncomputable def tTry (tb : TS) (RX : XK) (i k : Nat) (th : Addr -> TS) : TS := fun D σ H => tb D σ H /\ ∀ (e : Addr) (cls : Value) (H1 : Hp), RX cls none H1 -> H1 e = none ->
 th e { nx := fun σ2 H2 => D.nx (σ2.set i none) H2, rt := fun _ _ => False } ((List.replicate k none).set i (some (.ref e))) (upd H1 e (ExcO e cls))
set_option tactic.hygienic true in
theorem ps_try {i : Nat} {n x : Str} {c : Value} {body suite : List Stmt} {b₀ : Stmt} {np hp pos : Pos} {tb : TS} {th : Addr -> TS} (nd : X.N.Nodup) (hn : X.N[i]? = some n) (hk : X.env.scope.names.lookup n = some .local)
  (hst : X.stack = X.env :: X.outer) (hf : X.env.frame = some X.env.locals) (hg : Gl X x) (hm : X.mg x = some c) (hx : ∀ cls H1, RX cls none H1 -> PySem.W.exmOne X.K cls c = some true)
  (hb : ∀ pins, PSs (X.tri pins RX) body tb) (hs : ∀ pins e, PSs (X.han pins e) (b₀ :: suite) (th e)) (hd : (x == ("__debug__" : Str)) = false := by decide) :
  PS X (.Try body [.ExceptHandler (some (.Name x np)) (some n) (b₀ :: suite) hp] [] [] pos) (tTry tb RX i X.N.length th) := by
 intro pins s σ H D I ⟨h1, h2⟩
 refine wpAny_Try_except (wpAny_mono (hb pins [] s σ H D I.tri h1) (fun f s1 q => ?_) fun v s1 q => ?_)
 ·have q' := SP.untri q
  cases f with
  | next => exact wpAny_execs_nil q'
  | brk => exact q'
  | cont => exact q'
  | ret u => exact q'
 obtain ⟨p', σ1, H1, s', I', e, cls, H2, B, a0, rfl, ho, hg', u, hok, fl, ly, q⟩ := q
 have fr : X.A.frames = some (X.env :: X.outer) := hst ▸ I.ok.frames
 have fl0 : Heap.FlyingW B (X.env :: X.outer) e cls a0 s1.heap := hst ▸ fl
 refine wpAny_looks_onW fr hf fl0 fun h4 held4 sm4 => ?_
 refine wpAny_landsW held4 fun h5 fly5 sm5 => ?_
 have sm : s1.heap.UpToSlots h5 := sm4.trans sm5
 obtain ⟨oe, ho1, hoc⟩ := fl.there
 obtain ⟨_, bn, _, oe', _, _, _, _, ho2, _, hod, _⟩ := id fl
 rw [ho1] at ho2
 cases ho2
 have nfr : e ∉ frs X.stack := fun z => by
  obtain ⟨_, o3, h3, d3⟩ := ly.fr.mem z
  rw [ho1] at h3
  cases h3
  exact d3 _ hod
 have n2 : H2 e = none := by
  cases z : H2 e with
  | none => rfl
  | some v =>
   have := ly.trk e v _ z ho1
   rw [bn] at this
   cases this
 have ns : s'.heap.get? e = none := by
  cases z : s'.heap.get? e with
  | none => rfl
  | some v =>
   have := ly.was e v _ z nfr ho1
   rw [bn] at this
   cases this
 have inv : ∀ h' : Heap, Heap.FlyingW B (X.env :: X.outer) e cls a0 h' -> s1.heap.UpToSlots h' -> Inv (X.bear pins) p' σ1 (upd H2 e (ExcO e cls)) { s1 with heap := h' } := fun h' g sm => by
  have g0 : Heap.FlyingW B X.stack e cls a0 h' := hst.symm ▸ g
  have U := Un.lies u ly g0.1 g0.2.2.1 sm (fun _ z => z) (fun _ _ _ z => z)
  have O := hok.lies ly g0.1
  have ne : ∀ b v, H2 b = some v -> b ≠ e := fun b v z y => by
   rw [y, n2] at z
   cases z
  refine I'.call' (s' := { s1 with heap := h' }) (ch := []) ho ⟨U.keep, U.slot, fun b o z1 z2 z3 => ?_, U.there, fun b xs z => ?_, fun b o v z => ?_, fun b ps z => ?_⟩ (fun b v z => ?_) hg' (fun b z => nomatch z)
  ·have : b ≠ e := fun y => by
    rw [y, ns] at z1
    cases z1
   rw [upd_ne this]
   exact U.free b o z1 z2 z3
  ·rw [upd_ne (ne b _ (U.tups b xs z))]
   exact U.tups b xs z
  ·rw [upd_ne (ne b _ (U.frzs b o v z))]
   exact U.frzs b o v z
  ·obtain ⟨more, y⟩ := U.tbls b ps z
   exact ⟨more, by rw [upd_ne (ne b _ y)]; exact y⟩
  ·by_cases hb : b = e
   ·subst hb
    rw [upd_same] at z
    cases z
    obtain ⟨o, y1, y2⟩ := g.there
    exact ⟨⟨o, y1, y2⟩, ⟨o, y1⟩, fun h1 h2 ⟨o', z1, z2⟩ st => ⟨o', st o' z1, z2⟩⟩
   ·rw [upd_ne hb] at z
    exact (O b v z).stay (fun _ _ _ y => y) (fun d y => by rw [upd_ne (ne d _ y)]; exact y) fun d xs y => by rw [upd_ne (ne d _ y)]; exact y
 have I5 : Inv (X.han pins e) [] σ1 (upd H2 e (ExcO e cls)) { s1 with heap := h5 } := (inv h5 fly5 sm).han
 have LT : PySem.W.Looks (model X.prog X.w) h5 (typeOf (.ref e)) cls := by
  obtain ⟨o, y1, y2⟩ := fly5.there
  rw [<- y2]
  exact (PySem.W.Looks.ld y1).andThen .now
 refine wpAny_handleBy_cons (codeAny_handlers_test (ld_glob (X := X.han pins e) (s := { s1 with heap := h5 }) I5 hg hm ?_ hd)) (by intro z; cases z)
 refine (PySem.W.exm_one (K := X.K) (h := h5) I5.kIn LT (hx cls H2 q)).here (s := { s1 with heap := h5 }) ?_
 refine codeAny_handlers_suite_as ?_
 refine lands_againW fly5 fun h6 fly6 sm6 => ?_
 have I6 : Inv (X.han pins e) [] σ1 (upd H2 e (ExcO e cls)) { s1 with heap := h6 } := (inv h6 fly6 (sm.trans sm6)).han
 have I6' : Inv (X.han pins e) [] (List.replicate X.N.length none) (upd H2 e (ExcO e cls)) { s1 with heap := h6 } := I6.weak (by rw [List.length_replicate]; exact I6.len.symm) (fun j v z => by
  rw [List.getElem?_replicate] at z
  split at z <;> cases z)
 refine store_ok (X := X.han pins e) (v := .ref e) (u := .ref e) I6' nd hn (.inl hk) rfl (fun s7 I7 => ?_) (.inr hk)
 refine wpAny_mono (hs pins e [] s7 _ _ _ I7 (h2 e cls H2 q n2)) (fun f s8 q8 => ?_) (fun _ _ z => False.elim z)
 cases f with
 | next =>
  obtain ⟨σ8, H8, I8, q8⟩ := q8
  exact name_gone (I8.unhan I.ok) nd hn hk fun s9 I9 => ⟨_, H8, I9, q8⟩
 | brk => obtain ⟨_, _, _, z⟩ := q8; exact False.elim z
 | cont => obtain ⟨_, _, _, z⟩ := q8; exact False.elim z
 | ret u => obtain ⟨_, _, _, _, _, z⟩ := q8; exact False.elim z
end
structure RoomM (k : Nat) (A : Around) : Prop where
 dp : A.depth + 3 * k + 5 < recursionLimit
 un : A.units + 16 * k + 200 < cLine
theorem Room.marked {k : Nat} {A : Around} (r : Room k A) (v : Option Value) : RoomM k (A.mark v) := ⟨r.dp, r.un⟩
theorem RoomM.deeper {k : Nat} {A : Around} (r : RoomM (k + 1) A) (env : Env) : RoomM k (A.deeper env) :=
 ⟨by have := r.dp; show A.depth + 1 + 3 * k + 5 < _; lia, by have := r.un; show A.units + 3 + 16 * k + 200 < _; lia⟩
theorem RoomM.depth {k : Nat} {A : Around} (r : RoomM k A) : A.depth < recursionLimit := by have := r.dp; lia
structure FnOkM (P : Program) (w : World) (K : PySem.W.Frag) (mg : Str -> Option Value) (base : Heap) (k : Nat) (f : Addr) (fd : FuncData) (ps : List Str) (sp : Sp) : Prop where
 len : ∀ vs H Q E, sp vs H Q E -> vs.length = ps.length
 run : ∀ (A : Around) (outer : List Env) (s : Shared) (H : Hp) (args : Args) (us : List Value) (vs : List V) (Q : VK) (E : XK), RoomM k A -> Env0 P w K mg base A outer s H -> BindsTo s fd args (ps.zip us) -> Vals vs us -> sp vs H Q E ->
  codeAny (model P w) A (.call (.ref f) args) (CR CX0 outer P w H s Q E) s
noncomputable abbrev cxM (P : Program) (w : World) (K : PySem.W.Frag) (mg : Str -> Option Value) (base : Heap) (N : List Str) (qual : Str) (scope : Scope) (f : Addr) (cd : Value) (A : Around) (outer : List Env) (s : Shared) (H : Hp) (E : XK) : Cx :=
 { cxOf CX0 P w K mg base N qual scope f cd A outer s H E with calm := false, xe := fun _ _ => False }
set_option tactic.hygienic true in
theorem Fun.okM {P : Program} {w : World} {K : PySem.W.Frag} {mg : Str -> Option Value} {base : Heap} {x qual : Str} {st : Stmt} {f : Addr} {fd : FuncData} {N ps : List Str} {k : Nat} {sp : Sp} (F : Fun K x qual st f fd) (S : FnScope N ps (defScope st))
  (len : ∀ vs H Q E, sp vs H Q E -> vs.length = ps.length)
  (hbody : ∀ (cdv : Value) (A : Around) (outer : List Env) (s : Shared) (H : Hp) (vs : List V) (Q : VK) (E : XK), RoomM k (A.deeper (envOfC qual (defScope st) s.heap.objs.size f cdv)) -> sp vs H Q E ->
   ∃ t, PSs (cxM P w K mg base N qual (defScope st) f cdv A outer s H E) (defBody st) t /\ t { nx := fun _ H' => Q .non H', rt := Q } (start N vs) H) : FnOkM P w K mg base (k + 1) f fd ps sp := by
 obtain ⟨oc, od, kV, doc, pm, an, cdv, ct, osl, rfl, lk, hcd⟩ := F.ex
 refine ⟨len, fun A outer s H args us vs Q E hr e0 hb r hsp => ?_⟩
 have hl := len _ _ _ _ hsp
 have KX : K.In s.heap := e0.mod.kin.keeps fun b o e => (e0.bs b o e).1
 have lim : s.heap.NoLimit := e0.mod.nolimit.keeps fun b o e => (e0.bs b o e).1
 have hkind : ∀ y ∈ ps.zip us, (defScope st).names.lookup y.1 = some .local \/ ((defScope st).names.lookup y.1 = some .cell /\ ((cellsFrom (s.heap.objs.size + 1) (defScope st).names []).lookup y.1).isSome = true) := fun ⟨n, v⟩ hy => by
  rcases S.par n (List.of_mem_zip hy).1 with q | q
  ·exact .inl q
  ·exact .inr ⟨q, PySem.W.cellsFrom_some _ _ _ (.inl q)⟩
 refine codeAny_call_function hr.depth (KX _ _ lk) rfl S.co S.gen rfl (PySem.W.codeRec_of KX hcd) (hb _ _ _ _ ?_)
 refine wpAny_newFunctionEnv_cells S.kind hkind fun env he s1 y => ?_
 subst he
 refine ⟨lim.keeps y.toInCall.keep, codeAny_func ?_⟩
 obtain ⟨t, ht, hq⟩ := hbody cdv A outer s H vs Q E (hr.deeper _) hsp
 have e1 : Env0 P w K mg base { A with handled := none } outer s H := ⟨e0.frames, e0.mod, e0.bs, e0.bsz, e0.funs, e0.frf, e0.hok, e0.bare⟩
 have I0 := inv_start (CX := CX0) (cd := cdv) (qual := qual) (f := f) (E := E) (A := { A with handled := none }) S rfl e1 hl r y
 have I : Inv (cxM P w K mg base N qual (defScope st) f cdv A outer s H E) [] (start N vs) H s1 :=
  ⟨⟨I0.ok.mod, I0.ok.kind, I0.ok.glob, I0.ok.blt, I0.ok.above, I0.ok.inj, I0.ok.has, I0.ok.cab, (fun z => nomatch z), Around.frames_deeper e0.frames, I0.ok.stk, I0.ok.exf, I0.ok.bs, I0.ok.bsz, I0.ok.noex, I0.ok.exfs, I0.ok.funs, I0.ok.frf⟩,
   I0.os, I0.bare, I0.base, I0.loc, I0.cell, I0.free, I0.freeC, I0.pin, I0.hok, I0.len⟩
 refine wpAny_mono (ht [] s1 (start N vs) H _ I hq) (fun fl s' hs => ?_) fun e s' hs => False.elim hs
 have fin : ∀ {σ' : St} {H' : Hp} {v : V} {u : Value}, Inv (cxM P w K mg base N qual (defScope st) f cdv A outer s H E) [] σ' H' s' -> RelV v u -> Q v H' -> CE outer P w H s Q u s' :=
  fun {σ' H' v u} J rv q => ⟨v, H', J.os, J.bare, J.base, J.hok, rv, q⟩
 cases fl with
 | ret u =>
  obtain ⟨v, σ', H', J, rv, q⟩ := hs
  exact fin J rv q
 | next =>
  obtain ⟨σ', H', J, q⟩ := hs
  exact fin (v := V.non) (u := Value.none) J rfl q
 | brk =>
  obtain ⟨_, _, _, q⟩ := hs
  exact False.elim q
 | cont =>
  obtain ⟨_, _, _, q⟩ := hs
  exact False.elim q
section
variable {X : Cx} {k : Nat} {f : Addr} {fd : FuncData} {ps : List Str} {sp : Sp} {x : Str} {p pos : Pos} {e : Expr} {es : List Expr} {t : TA}
set_option tactic.hygienic true in
theorem pe_callM (F : FnOkM X.prog X.w X.K X.mg X.base k f fd ps sp) (hr : RoomM k X.A) (hg : Gl X x) (hm : X.mg x = some (.ref f)) (hk : PySem.W.keepIn X.K (.ref f) = true) (hb : Binds X.K fd ps [])
  (ha : PA X (e :: es) t) (hdb : (x == ("__debug__" : Str)) = false := by decide) (he : starEach (e :: es) X.env = (false, eval e X.env) :: starEach es X.env := by rfl) (hpl : (backTo pos (starEach es X.env)).any (·.1) = false := by rfl) :
  PE X (.Call (.Name x p) (e :: es) [] pos) (tCall sp [] E0 t) := by
 intro pins s σ H Q I h
 refine wpAny_Call_Name_kw (ld_glob I hg hm ?_ hdb)
 refine PySem.W.callWith_K (h₀ := X.base) I.ok.mod.kin hk (thn (ha pos pins s σ H _ I h) fun us s1 ⟨vs, H1, I1, r, q⟩ => ⟨I1.kIn, ?_⟩) he hpl
 have q0 : sp vs H1 Q E0 := by
  have q' : sp (vs ++ []) H1 Q E0 := q
  rw [List.append_nil] at q'
  exact q'
 have hl : us.length = ps.length := by rw [<- r.length]; exact F.len _ _ _ _ q0
 have hb' := hb s1 us I1.kIn (by rw [List.append_nil]; exact hl)
 rw [List.append_nil] at hb'
 refine wpAny_call (codeAny_mono (F.run X.A X.stack s1 H1 ⟨us, []⟩ us vs Q E0 hr I1.env0 hb' r q0) fun r s' hq => ?_)
 cases r with
 | error e => exact False.elim hq
 | ok fl =>
  cases fl with
  | ret u => exact I1.after hq
  | next => exact False.elim hq
  | brk => exact False.elim hq
  | cont => exact False.elim hq
end
structure ExcF (K : PySem.W.Frag) (D : Addr) : Prop where
 ex : PySem.W.excIn K D vErr "ValueError.__new__" = true
 ga : PySem.W.findIn K (.ref D) "__getattribute__" = some (some (.builtin "BaseException.__getattribute__"))
 na : PySem.W.findIn K (.ref D) "__getattr__" = some none
 cl : PySem.W.findIn K (.ref D) "__class__" = some (some (.builtin "object.__class__"))
 sb : PySem.W.subIn K (.ref D) (.type "BaseException") = some true
 so : PySem.W.subIn K (.ref D) (.type "object") = some true
section
variable {prog : Program} {w : World} {A : Around} {E : Value -> Shared -> Prop} {h : Heap} {g : Array GenState} {d : Drawn} {t : Nat} {os : OsState} {a D : Addr} {o : Obj} {K : PySem.W.Frag}
theorem look_ty {M : Model} {v : Value} {n : Str} {r : Option Value} {Q : Option Value -> Shared -> Prop} (X : K.In h) (e : PySem.W.findIn K v n = some r) (q : Q r ⟨h, g, d, t, os⟩) : wpAny M A (typeLookup v n) Q E ⟨h, g, d, t, os⟩ := (PySem.W.looks_findIn X e).at q
theorem look_sub {M : Model} {v b : Value} {r : Bool} {Q : Bool -> Shared -> Prop} (X : K.In h) (e : PySem.W.subIn K v b = some r) (q : Q r ⟨h, g, d, t, os⟩) : wpAny M A (isSubtype v b) Q E ⟨h, g, d, t, os⟩ := (PySem.W.looks_subIn X e).at q
theorem exc_cls_get {R : Result -> Shared -> Prop} (X : K.In h) (F : ExcF K D) (hx : h.get? a = some o) (hc : o.cls = .ref D) (hq : R (.ok (.ret (.ref D))) ⟨h, g, d, t, os⟩) :
  codeAny (model prog w) A (.call (.builtin "getset_descriptor.__get__") ⟨[.builtin "object.__class__", .ref a, .ref D], []⟩) R ⟨h, g, d, t, os⟩ := by
 have hT5 : (⟨h, g, d, t, os⟩ : Shared).TypeIs (.builtin "object.__class__") "getset_descriptor" := PySem.F.typeOf_object_class
 have so : PySem.W.subIn K (.ref D) (.type (".".intercalate ("object.__class__".cutAt '.').dropLast)) = some true := by rw [PySem.F.owner_object_class]; exact F.so
 refine codeAny_call_builtin PySem.F.slot_gs_get.plain PySem.F.entry_gs_get (PySem.F.slot_gs_get.check _ _ _ _ _ _ _ _ hT5 (PySem.F.args_gs_get _ _ _) ?_)
 repeat (any_goals (first | assumption | (with_reducible refine wpAny_loadPart_at hx ?_; rw [hc]) | with_reducible refine look_sub X so ?_ | wp_step))
 refine ⟨Code.quiet_builtin _ (by decide +kernel), codeAny_builtin PySem.F.entry_object_class ?_⟩
 repeat (any_goals (first | assumption | (with_reducible refine wpAny_loadPart_at hx ?_; rw [hc]) | wp_step))
theorem exc_cls_entry {tk : Tok} {Q : Fin -> Shared -> Prop} (X : K.In h) (F : ExcF K D) (hx : h.get? a = some o) (hc : o.cls = .ref D) (hq : Q (.done (.ret (.ref D))) ⟨h, g, d, t, os⟩) :
  wpAny (model prog w) A (Builtin.«object.__getattribute__» ⟨[.ref a, .str "__class__" tk], []⟩) Q E ⟨h, g, d, t, os⟩ := by
 have hT5 : (⟨h, g, d, t, os⟩ : Shared).TypeIs (.builtin "object.__class__") "getset_descriptor" := PySem.F.typeOf_object_class
 have f5 := PySem.F.typeOf_object_class
 have f6 := PySem.F.slot_gs_get.lookup
 have f7 := PySem.F.slot_gs_set.lookup
 repeat (any_goals (first | assumption | (with_reducible refine wpAny_loadPart_at hx ?_; rw [hc]) | with_reducible refine look_ty X F.cl ?_ | wp_step))
 refine exc_cls_get X F hx hc ?_
 repeat (any_goals (first | assumption | wp_step))
theorem exc_ga_check {M : Model} {nameV : Value} {Q : Unit -> Shared -> Prop} (X : K.In h) (F : ExcF K D) (hx : h.get? a = some o) (hc : o.cls = .ref D) (hq : Q () ⟨h, g, d, t, os⟩) :
  wpAny M A (checkBuiltinCall "BaseException.__getattribute__" ⟨[.ref a, nameV], []⟩) Q E ⟨h, g, d, t, os⟩ := by
 have hk : builtinKind "BaseException.__getattribute__" = some .slot := by decide +kernel
 have hsplit : splitId "BaseException.__getattribute__" = some ("BaseException", "__getattribute__") := by decide +kernel
 have ha := PySem.F.args_bexc_ga (.ref a) nameV
 simp only [checkBuiltinCall, hk, hsplit]
 refine wpAny_bind ?_
 unfold isInstance
 repeat (first | (with_reducible refine wpAny_loadPart_at hx ?_; rw [hc]) | with_reducible refine look_sub X F.sb ?_ | wp_step)
 exact hq
theorem exc_cls_by {tk : Tok} {Q : Value -> Shared -> Prop} (X : K.In h) (F : ExcF K D) (hx : h.get? a = some o) (hc : o.cls = .ref D) (hq : Q (.ref D) ⟨h, g, d, t, os⟩) :
  wpAny (model prog w) A (getAttrBy (.ref a) (.str "__class__" tk) false) Q E ⟨h, g, d, t, os⟩ := by
 have f3 := PySem.F.excAttr_ValueError.ga.bind (.ref a)
 have hx0 : (false && onTheHeap (Value.builtin "BaseException.__getattribute__")) = false := rfl
 have hx2 : (Value.builtin "BaseException.__getattribute__" == Value.builtin "object.__getattribute__") = false := by decide +kernel
 have hx1 : (onTheHeap (Value.ref D) && Value.builtin "BaseException.__getattribute__" == Value.builtin "object.__getattribute__") = false := by rw [hx2]; rfl
 repeat (any_goals (first | assumption | (with_reducible refine wpAny_loadPart_at hx ?_; rw [hc]) | with_reducible refine look_ty X F.ga ?_ | with_reducible refine look_ty X F.na ?_ | wp_step))
 refine codeAny_call_builtin PySem.F.excAttr_ValueError.ga.plain PySem.F.entry_bexc_ga (exc_ga_check X F hx hc (exc_cls_entry X F hx hc ?_))
 repeat (any_goals (first | assumption | wp_step))
theorem exc_cls_attr {Q : Option Value -> Shared -> Prop} (X : K.In h) (F : ExcF K D) (hx : h.get? a = some o) (hc : o.cls = .ref D) (hq : Q (some (.ref D)) ⟨h, g, d, t + 1, os⟩) :
  wpAny (model prog w) A (getAttr? (.ref a) "__class__") Q E ⟨h, g, d, t, os⟩ := by
 unfold getAttr? getAttrBy?
 repeat (any_goals (first | assumption | with_reducible apply exc_cls_by X F hx hc | wp_step))
theorem kitx_exc (F : ExcF K D) : PySem.W.KitX K (.ref a) (.ref D) (fun h => ∃ o, h.get? a = some o /\ o.cls = .ref D) where
 ty := fun M h _ ⟨o, h1, h2⟩ => h2 ▸ (PySem.W.Looks.ld h1).andThen .now
 it := fun M h X _ => by
  obtain ⟨bm, N, nm, qn, bs, hdct, sn, sub, ab, col, dd, k0, k1, k2, k3, k5, mN, hC, _⟩ := exc_obj X F.ex
  intro A' Q' E' s' k q
  unfold isType loadHead
  exact wpAny_bind (wpAny_loadPart (k _ _ hC) (wpAny_pure q))
 ne := fun h tp dd its n sl X htp => by
  obtain ⟨bm, N, nm, qn, bs, hdct, sn, sub, ab, col, dd, k0, k1, k2, k3, k5, mN, hC, _⟩ := exc_obj X F.ex
  refine Bool.eq_false_iff.mpr fun q => ?_
  have e : D = tp := Value.ref.inj (beq_iff_eq.mp q)
  subst e
  have z := congrArg Obj.data (Option.some.inj (hC.symm.trans htp))
  exact nomatch z
 ca := fun {_ _ _ _ _ s} X ⟨o, h1, h2⟩ k => by
  obtain ⟨hh, gg, dd, tt, oo⟩ := s
  exact exc_cls_attr X F h1 h2 k
end
section
variable {X : Cx}
theorem call_isi_exc : CallR X (.builtin "isinstance") (fun xs H Q => ∃ e D c b, xs = [.ref e, c] /\ H e = some (ExcO e (.ref D)) /\ ExcF X.K D /\ (∀ u, RelV c u -> PySem.W.kitOne X.K (.ref D) u = some b) /\ Q (.bl b) H) := by
 intro pins s σ H xs us Q I r h
 obtain ⟨e, D, c, b, rfl, hH, F, hk, q⟩ := h
 obtain ⟨u, v, rfl, ru, rv⟩ := r.two
 cases ru
 exact PySem.W.kia_one (kitx_exc F) I.kIn (I.hok e _ hH).1 (hk v rv) (fun z => nomatch z) fun tk => ⟨.bl b, H, I.tok _, rfl, q⟩
noncomputable def rCountT : V -> List V -> Hp -> VK -> Prop := fun x vs H Q => ∃ (l : Addr) (bs : List Bool), x = .ref l /\ vs = [.bl true] /\ H l = some (.lst (bs.map V.bl)) /\ Q (.int (bs.countP id : Nat)) H
theorem vals_bls : ∀ {bs : List Bool} {us : List Value}, Vals (bs.map V.bl) us -> us = bs.map Value.bool
 | [], _, .nil => rfl
 | _ :: _, _, .cons r t => by
  cases r
  rw [vals_bls t]
  rfl
noncomputable def isT : Value -> Bool
 | .bool b => b
 | _ => false
theorem count_isT : ∀ (bs : List Bool), (bs.map Value.bool).countP isT = bs.countP id
 | [] => rfl
 | b :: bs => by
  rw [List.map_cons, List.countP_cons, List.countP_cons, count_isT bs]
  rfl
theorem mt_countT : MtM X "list.count" rCountT := by
 intro pins s σ H x vs v us Q I rx rv h
 obtain ⟨l, bs, rfl, rfl, hH, q⟩ := h
 cases rx
 obtain ⟨u, rfl, ru⟩ := rv.one
 cases ru
 obtain ⟨z, its, n, r, hl, e⟩ := I.lstM hH
 obtain rfl := vals_bls r
 refine call_meets PySem.F.slot_list_count ⟨_, e, rfl⟩ PySem.F.entry_list_count (PySem.F.args_list_count_2 _ _) (SeqAt.list_countAt l (bs.map Value.bool).toArray n none #[] (.bool true) isT) ⟨e, fun y hy => ?_, ?_⟩
 ·obtain ⟨b, _, rfl⟩ := List.mem_map.mp (List.mem_toArray.mp hy)
  have := SeqAt.EqAt.bool_bool (A := X.A.in1.in1) (s := s) b true
  have e1 : (b == true) = isT (.bool b) := by cases b <;> rfl
  rw [<- e1]
  exact SeqAt.EqAt.bool_bool b true
 ·refine ⟨.int _, H, I.tok _, ⟨_, rfl⟩, ?_⟩
  rw [List.toList_toArray, count_isT]
  exact q
noncomputable def rIndexT : V -> List V -> Hp -> VK -> Prop := fun x vs H Q => ∃ (l : Addr) (bs : List Bool) (j : Nat), x = .ref l /\ vs = [.bl true] /\ H l = some (.lst (bs.map V.bl)) /\ bs[j]? = some true /\ (∀ m, m < j -> bs[m]? = some false) /\ Q (.int (j : Nat)) H
theorem mt_indexT : MtM X "list.index" rIndexT := by
 intro pins s σ H x vs v us Q I rx rv h
 obtain ⟨l, bs, j, rfl, rfl, hH, hj, hno, q⟩ := h
 cases rx
 obtain ⟨u, rfl, ru⟩ := rv.one
 cases ru
 obtain ⟨z, its, n, r, hl, e⟩ := I.lstM hH
 obtain rfl := vals_bls r
 have hj' : j < (bs.map Value.bool).toArray.size := by
  rw [List.size_toArray, List.length_map]
  exact (List.getElem?_eq_some_iff.mp hj).1
 have at_ : ∀ m (hm : m < (bs.map Value.bool).toArray.size) b, bs[m]? = some b -> isT (bs.map Value.bool).toArray[m] = b := fun m hm b hb => by
  have : (bs.map Value.bool).toArray[m]? = some (.bool b) := by
   rw [List.getElem?_toArray, List.getElem?_map, hb]
   rfl
  rw [Array.getElem?_eq_getElem hm] at this
  rw [Option.some.inj this]
  rfl
 refine call_meets PySem.F.slot_list_index ⟨_, e, rfl⟩ PySem.F.entry_list_index (PySem.F.args_list_index_2 _ _) (SeqAt.list_indexAt l (bs.map Value.bool).toArray n none #[] (.bool true) isT j hj' ?_ (at_ j hj' true hj) (fun m hm h2 => at_ m hm false (hno m h2))) ⟨e, fun y hy => ?_, ?_⟩
 ·have h1 : j < bs.length := (List.getElem?_eq_some_iff.mp hj).1
  rw [List.length_map] at z
  have h2 : sizeLine < 2 ^ 63 - 1 := by decide
  lia
 ·obtain ⟨b, _, rfl⟩ := List.mem_map.mp (List.mem_toArray.mp hy)
  have e1 : (b == true) = isT (.bool b) := by cases b <;> rfl
  rw [<- e1]
  exact SeqAt.EqAt.bool_bool b true
 ·exact ⟨.int _, H, I.tok _, ⟨_, rfl⟩, q⟩
end
end L2
namespace L2
open PySem PySem.Spec PyProof.Rows
section
variable {X : Cx}
noncomputable def rSlS : V -> Option Int -> Option Int -> Hp -> VK -> Prop := fun x lo hi H Q => ∃ z, x = .str z /\ z.length <= sizeLine /\ Q (.str (Txt.slice z lo hi)) H
theorem vals_strs : ∀ {zs : List Str} {vs : List Value}, Vals (zs.map V.str) vs -> StrsAre vs zs
 | [], _, .nil => .nil
 | z :: zs, _, .cons ⟨t, rfl⟩ r => .cons z t (vals_strs r)
noncomputable def rJoin (K : PySem.W.Frag) : V -> List V -> Hp -> VK -> Prop := fun x vs H Q => ∃ z l zs, x = .str z /\ vs = [.ref l] /\ SqL K H l (zs.map V.str) /\ (zs.map (·.length)).sum + zs.length * z.length <= 16777216 /\ Q (.str (Txt.join z zs)) H
theorem mt_join : MtR X "str.join" (rJoin X.K) := by
 intro pins s σ H x xs v us Q I rx rs h
 obtain ⟨z, l, zs, rfl, rfl, hl, hz, q⟩ := h
 obtain ⟨t, rfl⟩ := rx
 obtain ⟨u, rfl, ru⟩ := vals1 rs
 cases ru
 obtain ⟨its, r1, p1, _⟩ := I.list hl
 exact join_list p1.isList (by simpa using vals_strs r1) hz fun t' k => ⟨.str _, H, I.tok _, ⟨_, rfl⟩, q⟩
noncomputable def rSplit : V -> List V -> Hp -> VK -> Prop := fun x vs H Q => ∃ z y, x = .str z /\ vs = [.str y] /\ 0 < y.length /\ z.length + 2 <= sizeLine /\ ∀ p, H p = none -> Q (.ref p) (upd H p (.lst ((Txt.split z y).map V.str)))
noncomputable def rStarts : V -> List V -> Hp -> VK -> Prop := fun x vs H Q => ∃ z y, x = .str z /\ vs = [.str y] /\ Q (.bl (Txt.startswith z y)) H
noncomputable def rIntS : List V -> Hp -> VK -> Prop := fun xs H Q => ∃ z n, xs = [.str z] /\ PySem.intText? z = some n /\ z.length <= 640 /\ Q (.int n) H
noncomputable def Its (x : Str) : It := ⟨fun i _ => i < x.cps.size, fun i H v H' => H' = H /\ ∃ c, x.cps[i]? = some c /\ v = .str ⟨#[c]⟩, fun i _ => x.cps.size <= i⟩
noncomputable def iStr (tl : TE) : TI := fun σ H R => tl σ H fun x H1 => ∃ z, x = .str z /\ z.cps.all (· < 128) = true /\ R (Its z) H1
noncomputable def num (i : Int) : Str := Str.ofString (toString i)
noncomputable def tF2 (ta tb : TE) (mid : Str) : TE := fun σ H Q => ta σ H fun x H1 => ∃ i : Int, x = .int i /\ i.natAbs.log2 < 1920 /\ (Str.empty ++ num i ++ mid).length <= sizeLine /\ tb σ H1 fun y H2 => ∃ j : Int, y = .int j /\ j.natAbs.log2 < 1920 /\
 (Str.empty ++ num i ++ mid ++ num j).length <= sizeLine /\ Q (.str (Str.empty ++ num i ++ mid ++ num j)) H2
theorem pe_f2 {a b : Expr} {ta tb : TE} {mid : Str} {j : Nat} {p1 p2 p3 pos : Pos} (ha : PE X a ta) (hb : PE X b tb) : PE X (.JoinedStr [.FormattedValue a (-1) none p1, .Constant (.str mid) j p3, .FormattedValue b (-1) none p2] pos) (tF2 ta tb mid) := by
 intro pins s σ H Q I h
 refine JoinedStr_many (joinParts_cons (FormattedValue_plain (thn (ha pins s σ H _ I h) fun v s1 ⟨x, H1, I1, r1, q1⟩ => ?_)))
 obtain ⟨i, rfl, hi, hl, q1⟩ := q1
 obtain ⟨t, rfl⟩ := r1
 refine wpAny_formatField_int hi ⟨?_, ?_⟩
 ·have := strLen_append (Str.empty ++ num i) mid
  show (Str.empty ++ num i).length <= sizeLine
  omega
 refine joinParts_cons (Calls.Constant_str ⟨hl, ?_⟩)
 refine joinParts_cons (FormattedValue_plain (thn (hb pins _ σ H1 _ (I1.tok _) q1) fun v s2 ⟨y, H2, I2, r2, q2⟩ => ?_))
 obtain ⟨k, rfl, hk, hl2, q2⟩ := q2
 obtain ⟨t', rfl⟩ := r2
 refine wpAny_formatField_int hk ⟨hl2, ?_⟩
 exact joinParts_nil ⟨.str _, H2, I2.tok _, ⟨_, rfl⟩, q2⟩ hl2
end
end L2
namespace L2
open PySem PySem.Spec PyProof.Rows PySem.NumText
noncomputable def dsig (m : Nat) : List Nat := (Nat.toDigits 10 m).map Char.toNat
theorem num_nat (m : Nat) : (num (m : Int)).cps.toList = dsig m := PySem.W.KIN.signs_num m
theorem num_neg (m : Nat) : (num (-((m + 1 : Nat) : Int))).cps.toList = 45 :: dsig (m + 1) := by
 unfold num
 rw [signs_ofString]
 have e : toString (-((m + 1 : Nat) : Int)) = "-" ++ Nat.repr (m + 1) := by
  rw [Int.toString_eq_repr, Int.repr_eq_if, if_neg (by omega)]
  congr 2
 rw [e, String.toList_append, List.map_append, Nat.toList_repr]
 rfl
theorem num_cps (i : Int) : (0 <= i /\ (num i).cps.toList = dsig i.natAbs) \/ (i < 0 /\ (num i).cps.toList = 45 :: dsig i.natAbs) := by
 rcases Int.lt_or_le i 0 with h | h
 ·right
  obtain ⟨m, rfl⟩ : ∃ m : Nat, i = -((m + 1 : Nat) : Int) := ⟨i.natAbs - 1, by omega⟩
  refine ⟨h, ?_⟩
  rw [num_neg]
  congr 2
 ·left
  obtain ⟨m, rfl⟩ := Int.eq_ofNat_of_zero_le h
  exact ⟨h, num_nat m⟩
theorem dsig_ne (m : Nat) : dsig m ≠ [] := fun e => by
 have h := toDigits_len_ge 10 m
 rw [List.map_eq_nil_iff.mp e] at h
 exact absurd h (by decide)
theorem cps_len (x : Str) : x.cps.toList.length = x.length := Array.length_toList
theorem dsig_len {m : Nat} (h : m < 10 ^ 7) : 1 <= (dsig m).length /\ (dsig m).length <= 7 := by
 refine ⟨List.length_pos_iff.mpr (dsig_ne m), ?_⟩
 have := toString_length_le (v := (m : Int)) (by omega) (k := 7) (by decide) (by exact_mod_cast h)
 rw [<- num_nat, cps_len]
 exact this
theorem num_len {i : Int} (h : i.natAbs < 10 ^ 7) : 1 <= (num i).length /\ (num i).length <= 8 := by
 have d := dsig_len h
 rw [<- cps_len]
 rcases num_cps i with ⟨_, e⟩ | ⟨_, e⟩
 ·rw [e]; omega
 ·rw [e, List.length_cons]; omega
theorem num_log {i : Int} (h : i.natAbs < 10 ^ 7) : i.natAbs.log2 < 1920 := by
 rcases Nat.eq_zero_or_pos i.natAbs with z | z
 ·rw [z]; decide
 ·exact Nat.lt_of_lt_of_le ((Nat.log2_lt (by omega)).mpr (show i.natAbs < 2 ^ 24 by omega)) (by decide)
theorem str_ext {a b : Str} (h : a.cps.toList = b.cps.toList) : a = b := by
 obtain ⟨a⟩ := a
 obtain ⟨b⟩ := b
 congr 1
 exact Array.toList_inj.mp h
end L2
namespace L2
open PySem PySem.Spec PyProof.Rows PySem.NumText
open RS (Pt)
noncomputable def comma : Str := Str.ofString ","
noncomputable def blank1 : Str := Str.ofString " "
noncomputable def wordM (p : Pt) : Str := Str.empty ++ num p.1 ++ comma ++ num p.2
noncomputable def textM (ps : List Pt) : Str := Txt.join blank1 (ps.map wordM)
noncomputable def Sm (p : Pt) : Prop := p.1.natAbs < 10 ^ 7 /\ p.2.natAbs < 10 ^ 7
theorem comma_is : comma = ⟨#[44]⟩ := str_ext (by unfold comma; rw [signs_ofString]; rfl)
theorem blank_is : blank1 = ⟨#[32]⟩ := str_ext (by unfold blank1; rw [signs_ofString]; rfl)
theorem empty_cps : Str.empty.cps.toList = [] := rfl
theorem word_cps (p : Pt) : (wordM p).cps.toList = (num p.1).cps.toList ++ 44 :: (num p.2).cps.toList := by
 unfold wordM
 rw [cps_toList_append, cps_toList_append, cps_toList_append, empty_cps, comma_is]
 simp
theorem word_len {p : Pt} (h : Sm p) : (wordM p).length <= 17 := by
 rw [<- cps_len, word_cps, List.length_append, List.length_cons, cps_len, cps_len]
 have := (num_len h.1).2
 have := (num_len h.2).2
 omega
noncomputable def dueM (ps : List Pt) : Str := ps.foldl (fun d p => d ++ blank1 ++ num p.1 ++ comma ++ num p.2) (Str.ofString "")
noncomputable def figs : Str := Str.ofString "0123456789"
end L2
namespace K1
open PySem L2
open RS (Pt arrow cross fstHalf before)
noncomputable def top (i : Nat) : Stmt := PySem.Challenge.pw_roundsum_k02_refused.main.body.getD i (.Pass ⟨0, 0, 0, 0⟩)
noncomputable abbrev sArrowFrom : Stmt := top 1
noncomputable abbrev sTurn : Stmt := top 5
noncomputable abbrev sFirst : Stmt := top 6
noncomputable abbrev sBefore : Stmt := top 7
noncomputable def Bd (n : Int) (p : Pt) : Prop := -n <= p.1 /\ p.1 <= n /\ -n <= p.2 /\ p.2 <= n
inductive spPt2 (f : Pt -> Pt -> Pt) (vs : List V) (H : Hp) (Q : VK) (u3 : XK) : Prop
 | mk (a : _) (b : _) (p : _) (q : _) (c0 : vs = [.ref a, .ref b]) (c1 : Tp H a p) (c2 : Tp H b q) (c3 : ∀ r H', Same H H' -> Tp H' r (f p q) -> Q (.ref r) H') : spPt2 f vs H Q u3
inductive spInt2 (n : Int) (f : Pt -> Pt -> Int) (vs : List V) (H : Hp) (Q : VK) (u3 : XK) : Prop
 | mk (a : _) (b : _) (p : _) (q : _) (c0 : vs = [.ref a, .ref b]) (c1 : Tp H a p) (c2 : Tp H b q) (c3 : Bd n p) (c4 : Q (.int (f p q)) H) : spInt2 n f vs H Q u3
inductive spBl1 (f : Pt -> Bool) (vs : List V) (H : Hp) (Q : VK) (u3 : XK) : Prop
 | mk (a : _) (p : _) (c0 : vs = [.ref a]) (c1 : Tp H a p) (c2 : Q (.bl (f p)) H) : spBl1 f vs H Q u3
inductive spBl2 (n : Int) (f : Pt -> Pt -> Bool) (vs : List V) (H : Hp) (Q : VK) (u3 : XK) : Prop
 | mk (a : _) (b : _) (p : _) (q : _) (c0 : vs = [.ref a, .ref b]) (c1 : Tp H a p) (c2 : Tp H b q) (c3 : Bd n p) (c4 : Q (.bl (f p q)) H) : spBl2 n f vs H Q u3
section
variable {P : Program} {w : World} {K : PySem.W.Frag} {mg : Str -> Option Value} {base : Heap}
theorem scAF : FnScope ["start", "end"] ["start", "end"] (defScope sArrowFrom) := ⟨rfl, rfl, rfl, by decide +kernel, rfl, by decide +kernel, by decide +kernel⟩
theorem ok_arrow_from {f : Addr} {fd : FuncData} (F : Fun K "arrow_from" "arrow_from" sArrowFrom f fd) : FnOk P w K mg base CX0 1 f fd ["start", "end"] (spPt2 arrow) := by
 refine F.ok scAF (fun vs H Q E h => ?_) (fun cdv A outer s H vs Q E hr h => ?_)
 ·obtain ⟨a, b, p, q, rfl, _⟩ := h
  rfl
 ·obtain ⟨a, b, p, q, rfl, ha, hb, k⟩ := h
  refine ⟨_, pss_one (ps_ret (pe_tup (pa_cons (pe_op op_sub (pe_ix ix_tup (pv 1) pe_int (fun _ _ => rfl)) (pe_ix ix_tup (pv 0) pe_int (fun _ _ => rfl)))
   (pa_cons (pe_op op_sub (pe_ix ix_tup (pv 1) pe_int (fun _ _ => rfl)) (pe_ix ix_tup (pv 0) pe_int (fun _ _ => rfl))) pa_nil)))), ?_⟩
  refine ⟨_, rfl, b, _, _, _, rfl, rfl, SqT.of hb, rfl, ?_⟩
  refine ⟨_, rfl, a, _, _, _, rfl, rfl, SqT.of ha, rfl, _, _, rfl, rfl, ?_⟩
  refine ⟨_, rfl, b, _, _, _, rfl, rfl, SqT.of hb, rfl, ?_⟩
  refine ⟨_, rfl, a, _, _, _, rfl, rfl, SqT.of ha, rfl, _, _, rfl, rfl, ?_⟩
  exact ⟨by show 2 <= sizeLine; decide, fun r hn => k r _ (same_upd hn) upd_same⟩
theorem scTu : FnScope ["one", "other"] ["one", "other"] (defScope sTurn) := ⟨rfl, rfl, rfl, by decide +kernel, rfl, by decide +kernel, by decide +kernel⟩
theorem ok_turn {f : Addr} {fd : FuncData} (F : Fun K "turn" "turn" sTurn f fd) : FnOk P w K mg base CX0 1 f fd ["one", "other"] (spInt2 (2 ^ 62) cross) := by
 refine F.ok scTu (fun vs H Q E h => ?_) (fun cdv A outer s H vs Q E hr h => ?_)
 ·obtain ⟨a, b, p, q, rfl, _⟩ := h
  rfl
 ·obtain ⟨a, b, p, q, rfl, ha, hb, ⟨b1, b2, b3, b4⟩, k⟩ := h
  refine ⟨_, pss_one (ps_ret (pe_op op_sub (pe_op op_mul (pe_ix ix_tup (pv 0) pe_int (fun _ _ => rfl)) (pe_ix ix_tup (pv 1) pe_int (fun _ _ => rfl)))
   (pe_op op_mul (pe_ix ix_tup (pv 0) pe_int (fun _ _ => rfl)) (pe_ix ix_tup (pv 1) pe_int (fun _ _ => rfl))))), ?_⟩
  refine ⟨_, rfl, a, _, _, _, rfl, rfl, SqT.of ha, rfl, ?_⟩
  refine ⟨_, rfl, b, _, _, _, rfl, rfl, SqT.of hb, rfl, _, _, rfl, rfl, .inl ⟨by lia, by lia⟩, ?_⟩
  refine ⟨_, rfl, a, _, _, _, rfl, rfl, SqT.of ha, rfl, ?_⟩
  refine ⟨_, rfl, b, _, _, _, rfl, rfl, SqT.of hb, rfl, _, _, rfl, rfl, .inl ⟨by lia, by lia⟩, ?_⟩
  exact ⟨_, _, rfl, rfl, k⟩
theorem scFH : FnScope ["arrow"] ["arrow"] (defScope sFirst) := ⟨rfl, rfl, rfl, by decide +kernel, rfl, by decide +kernel, by decide +kernel⟩
theorem ok_first {f : Addr} {fd : FuncData} (F : Fun K "in_first_half" "in_first_half" sFirst f fd) : FnOk P w K mg base CX0 1 f fd ["arrow"] (spBl1 fstHalf) := by
 refine F.ok scFH (fun vs H Q E h => ?_) (fun cdv A outer s H vs Q E hr h => ?_)
 ·obtain ⟨a, p, rfl, _⟩ := h
  rfl
 ·obtain ⟨a, p, rfl, ha, k⟩ := h
  refine ⟨_, pss_one (ps_ret (pe_or (pe_cmpR op_gt (pe_ix ix_tup (pv 0) pe_int (fun _ _ => rfl)) pe_int (nomark _))
   (pe_one (pe_and (pe_cmpR op_eq (pe_ix ix_tup (pv 0) pe_int (fun _ _ => rfl)) pe_int (nomark _)) (pe_one (pe_cmpR op_gt (pe_ix ix_tup (pv 0) pe_int (fun _ _ => rfl)) pe_int (nomark _))))))), ?_⟩
  refine ⟨_, rfl, a, _, _, _, rfl, rfl, SqT.of ha, rfl, _, _, rfl, rfl, _, rfl, ?_⟩
  unfold fstHalf at k
  refine ite2 (fun h1 => ?_) (fun h1 => ?_)
  ·rw [h1] at k
   exact k
  ·rw [Bool.eq_false_iff.mpr h1, Bool.false_or] at k
   refine ⟨_, rfl, a, _, _, _, rfl, rfl, SqT.of ha, rfl, rfl, _, rfl, ?_⟩
   refine ite2 (fun h2 => ?_) (fun h2 => ?_)
   ·refine ⟨_, rfl, a, _, _, _, rfl, rfl, SqT.of ha, rfl, _, _, rfl, rfl, ?_⟩
    have e2 : decide (p.2 = 0) = true := by simpa using h2
    rw [e2, Bool.true_and] at k
    exact k
   ·have e2 : decide (p.2 = 0) = false := by simpa using h2
    rw [e2, Bool.false_and] at k
    exact k
theorem scGB : FnScope ["one", "other"] ["one", "other"] (defScope sBefore) := ⟨rfl, rfl, rfl, by decide +kernel, rfl, by decide +kernel, by decide +kernel⟩
theorem ok_before {f f1 f2 : Addr} {fd fd1 fd2 : FuncData} (F : Fun K "goes_before" "goes_before" sBefore f fd) (F1 : Fun K "in_first_half" "in_first_half" sFirst f1 fd1) (b1 : Binds K fd1 ["arrow"] []) (m1 : mg "in_first_half" = some (.ref f1))
  (F2 : Fun K "turn" "turn" sTurn f2 fd2) (b2 : Binds K fd2 ["one", "other"] []) (m2 : mg "turn" = some (.ref f2)) : FnOk P w K mg base CX0 2 f fd ["one", "other"] (spBl2 (2 ^ 62) before) := by
 have G1 : FnOk P w K mg base CX0 1 f1 fd1 ["arrow"] (spBl1 fstHalf) := ok_first F1
 have G2 : FnOk P w K mg base CX0 1 f2 fd2 ["one", "other"] (spInt2 (2 ^ 62) cross) := ok_turn F2
 refine F.ok scGB (fun vs H Q E h => ?_) (fun cdv A outer s H vs Q E hr h => ?_)
 ·obtain ⟨a, b, p, q, rfl, _⟩ := h
  rfl
 ·obtain ⟨a, b, p, q, rfl, ha, hb, hB, k⟩ := h
  refine ⟨_, pss_cons (ps_if (pt_cmpR op_ne (pe_call G1 hr rfl m1 F1.kp b1 .nil pass0 (pa_cons (pv 0) pa_nil)) (pe_call G1 hr rfl m1 F1.kp b1 .nil pass0 (pa_cons (pv 1) pa_nil)) (nomark _))
   (pss_one (ps_ret (pe_call G1 hr rfl m1 F1.kp b1 .nil pass0 (pa_cons (pv 0) pa_nil)))) pss_nil)
   (pss_one (ps_ret (pe_cmpR op_gt (pe_call G2 hr rfl m2 F2.kp b2 .nil pass0 (pa_cons (pv 0) (pa_cons (pv 1) pa_nil))) pe_int (nomark _)))), ?_⟩
  refine ⟨_, rfl, a, p, rfl, ha, _, rfl, b, q, rfl, hb, rfl, _, rfl, ?_⟩
  unfold before at k
  refine ite2 (fun h1 => ?_) (fun h1 => ?_)
  ·have e : (fstHalf p != fstHalf q) = true := by
    have : ¬ (V.bl (fstHalf p) = V.bl (fstHalf q)) := by simpa using h1
    simpa using this
   rw [if_pos e] at k
   exact ⟨_, rfl, a, p, rfl, ha, k⟩
  ·have e : ¬ (fstHalf p != fstHalf q) = true := by
    have : V.bl (fstHalf p) = V.bl (fstHalf q) := by simpa using h1
    injection this with this
    rw [this]
    simp
   rw [if_neg e] at k
   exact ⟨_, rfl, _, rfl, a, b, p, q, rfl, ha, hb, hB, _, _, rfl, rfl, k⟩
end
end K1
namespace K1
open PySem L2
open RS (Pt arrow cross fstHalf before round isShape)
noncomputable abbrev sRound : Stmt := top 21
noncomputable abbrev sIsShape : Stmt := top 22
inductive spPts1 (n : Int) (f : List Pt -> List Pt) (vs : List V) (H : Hp) (Q : VK) (u3 : XK) : Prop
 | mk (l : _) (ps : _) (c0 : vs = [.ref l]) (c1 : Pts H l ps) (c2 : ps.length <= 100) (c3 : (∀ p ∈ ps, Bd n p)) (c4 : ∀ r H', Same H H' -> H r = none -> Pts H' r (f ps) -> Q (.ref r) H') : spPts1 n f vs H Q u3
inductive spPtsBl (n : Int) (f : List Pt -> Bool) (vs : List V) (H : Hp) (Q : VK) (u3 : XK) : Prop
 | mk (l : _) (ps : _) (c0 : vs = [.ref l]) (c1 : Pts H l ps) (c2 : ps.length <= 100) (c3 : (∀ p ∈ ps, Bd n p)) (c4 : ∀ H', Same H H' -> Q (.bl (f ps)) H') : spPtsBl n f vs H Q u3
theorem nodup2 : ((["start", "end"] : List Str) ++ ([] : List (Str × Nat)).map (·.1)).Nodup := by decide +kernel
theorem size100 {n : Nat} (h : n <= 1000) : n < sizeLine := small1000 h
theorem rotLen {as : List Addr} : (as.drop 1 ++ as.take 1).length = as.length := by cases as <;> simp
section
variable {P : Program} {w : World} {K : PySem.W.Frag} {mg : Str -> Option Value} {base : Heap}
theorem scR : FnScope ["corners"] ["corners"] (defScope sRound) := ⟨rfl, rfl, rfl, by decide +kernel, rfl, by decide +kernel, by decide +kernel⟩
theorem ok_round {f f1 : Addr} {fd fd1 : FuncData} (F : Fun K "arrows_round" "arrows_round" sRound f fd) (F1 : Fun K "arrow_from" "arrow_from" sArrowFrom f1 fd1) (b1 : Binds K fd1 ["start", "end"] []) (m1 : mg "arrow_from" = some (.ref f1)) (mz : mg "zip" = none) :
  FnOk P w K mg base CX0 2 f fd ["corners"] (spPts1 (2 ^ 60) round) := by
 have G1 : FnOk P w K mg base CX0 1 f1 fd1 ["start", "end"] (spPt2 arrow) := ok_arrow_from F1
 refine F.ok scR (fun vs H Q E h => ?_) (fun cdv A outer s H vs Q E hr h => ?_)
 ·obtain ⟨l, ps, rfl, _⟩ := h
  rfl
 ·obtain ⟨l, ps, rfl, hl, hn, hB, k⟩ := h
  refine ⟨_, pss_one (ps_ret (pe_lc (tn := ["start", "end"]) (cs := []) (g := gTup K 2 (gCons (gName 0) (gCons (gName 1) gNil))) (tt := tYes) (te := tCall (spPt2 arrow) [] E0 (tCons (tVar 0) (tCons (tVar 1) tNil))) (Caps.none (by decide +kernel) rfl (by decide +kernel)) rfl
   (pi_zip rfl mz (pa_cons (pv 0) (pa_cons (pe_op op_cat (pe_slice sl_list (pv 0) (po_some pe_int) po_none) (pe_slice sl_list (pv 0) po_none (po_some pe_int))) pa_nil)))
   (fun C s₀ H₀ fp xe => pg_tup rfl (pgs_cons (pg_name (i := 0) nodup2 rfl (Or.inl rfl) (.inr rfl)) (pgs_cons (pg_name (i := 1) nodup2 rfl (Or.inl rfl) (.inr rfl)) pgs_nil)))
   (fun C s₀ H₀ fp xe => pts_nil)
   (fun C s₀ H₀ fp xe => pe_call G1 hr rfl m1 F1.kp b1 .nil pass0 (pa_cons (pv 0) (pa_cons (pv 1) pa_nil))))), ?_⟩
  obtain ⟨as, h1, h2⟩ := hl
  have hlen : as.length = ps.length := Paired.length h2
  refine ⟨_, rfl, _, rfl, ?_⟩
  refine ⟨_, rfl, l, _, rfl, SqL.of h1, fun d1 n1 => ?_⟩
  rw [cut_from1]
  have s1 : Same H (upd H d1 (.lst ((as.map V.ref).drop 1))) := same_upd n1
  refine ⟨_, rfl, _, rfl, l, _, rfl, SqL.of (s1 _ _ h1), fun d2 n2 => ?_⟩
  rw [cut_to1]
  have s2 := s1.trans (same_upd (o := .lst ((as.map V.ref).take 1)) n2)
  have e1 : upd (upd H d1 (.lst ((as.map V.ref).drop 1))) d2 (.lst ((as.map V.ref).take 1)) d1 = some (.lst ((as.map V.ref).drop 1)) := by rw [upd_ne (ne_of_none upd_same n2), upd_same]
  refine ⟨d1, d2, _, _, rfl, rfl, e1, upd_same, ?_, fun d3 n3 => ?_⟩
  ·rw [List.length_drop, List.length_take, List.length_map]
   exact Nat.le_of_lt (size100 (by lia))
  have s3 := s2.trans (same_upd (o := .lst ((as.map V.ref).drop 1 ++ (as.map V.ref).take 1)) n3)
  have ecat : (as.map V.ref).drop 1 ++ (as.map V.ref).take 1 = (as.drop 1 ++ as.take 1).map V.ref := by rw [List.map_append, List.map_drop, List.map_take]
  rw [ecat] at s3 ⊢
  generalize hHs : upd (upd (upd H d1 (.lst ((as.map V.ref).drop 1))) d2 (.lst ((as.map V.ref).take 1))) d3 (.lst ((as.drop 1 ++ as.take 1).map V.ref)) = Hs at s3 ⊢
  have h3 : Hs d3 = some (.lst ((as.drop 1 ++ as.take 1).map V.ref)) := by rw [<- hHs, upd_same]
  have ar : Ats Hs (as.drop 1 ++ as.take 1) (ps.drop 1 ++ ps.take 1) := Ats.same s3 (Ats.app (Ats.drop 1 h2) (Ats.take 1 h2))
  have al : Ats Hs as ps := Ats.same s3 h2
  refine ⟨l, d3, rfl, ⟨_, SqL.of (s3 _ _ h1)⟩, ⟨_, SqL.of h3⟩, fun D nD => ?_⟩
  refine lc_zip (K := K) (a := l) (b := d3) (D := D) (xs := as.map V.ref) (ys := (as.drop 1 ++ as.take 1).map V.ref) (fun i σ H' => (∃ u v, σ = [u, v]) /\ Same Hs H' /\ Pts H' D ((round ps).take i)) ⟨⟨none, none, rfl⟩, same_upd nD, [], upd_same, .nil⟩
   (fun i σ H' ⟨_, sm, _⟩ => ⟨SqL.of (sm _ _ (s3 _ _ h1)), SqL.of (sm _ _ h3)⟩) ?_ ?_
  ·rintro i x y σ H' t ex ey ht ⟨⟨u, v, rfl⟩, sm, pt⟩
   obtain ⟨a, ea, rfl⟩ := map_ref ex
   obtain ⟨b, eb, rfl⟩ := map_ref ey
   obtain ⟨p, ep, tp⟩ := paired_get al i a ea
   obtain ⟨q, eq, tq⟩ := paired_get ar i b eb
   have st := sm.trans (same_upd (o := .tup [.ref a, .ref b]) ht)
   refine ⟨t, _, rfl, SqT.of upd_same, rfl, _, _, rfl, _, _, rfl, rfl, ?_⟩
   refine yes_go ?_
   refine ⟨_, rfl, _, rfl, a, b, p, q, rfl, st _ _ tp, st _ _ tq, fun r H4 s4 tr => ?_⟩
   have er : (round ps)[i]? = some (arrow p q) := by
    unfold round
    rw [List.getElem?_zipWith, ep, eq]
   have hi : i < ps.length := (List.getElem?_eq_some_iff.mp ep).1
   have pt4 : Pts H4 D ((round ps).take i) := Pts.same s4 (Pts.same (same_upd ht) pt)
   obtain ⟨ys, y1, y2, y3, y4⟩ := pts_push nD (st.trans s4) pt4 tr (by rw [List.length_take, RS.round_length]; exact size100 (by lia))
   exact ⟨ys, y1, y2, ⟨_, _, rfl⟩, y3, by rw [take_next er]; exact y4⟩
  ·rintro i σ H' hi hi1 hi2 ⟨_, sm, pt⟩
   have ei : i = ps.length := by
    rw [List.length_map] at hi hi1
    rw [List.length_map, rotLen] at hi hi2
    lia
   rw [ei, List.take_of_length_le (by rw [RS.round_length]; exact Nat.le_refl _)] at pt
   exact k D H' (s3.trans sm) (s3.free nD) pt
end
end K1
namespace K1
open PySem L2
open RS (Pt arrow cross fstHalf before round isShape)
theorem bd_arrow {p q : Pt} (hp : Bd (2 ^ 60) p) (hq : Bd (2 ^ 60) q) : Bd (2 ^ 62) (arrow p q) := by
 obtain ⟨a1, a2, a3, a4⟩ := hp
 obtain ⟨b1, b2, b3, b4⟩ := hq
 unfold arrow
 refine ⟨?_, ?_, ?_, ?_⟩ <;> dsimp only <;> lia
theorem bd_round {ps : List Pt} (h : ∀ p ∈ ps, Bd (2 ^ 60) p) : ∀ a ∈ round ps, Bd (2 ^ 62) a := fun a ha => by
 unfold round at ha
 obtain ⟨i, hi, e⟩ := List.getElem_of_mem ha
 rw [List.getElem_zipWith] at e
 rw [<- e]
 refine bd_arrow (h _ (List.getElem_mem _)) (h _ ?_)
 have hm : (ps.drop 1 ++ ps.take 1)[i]'(by rw [List.length_zipWith] at hi; lia) ∈ ps.drop 1 ++ ps.take 1 := List.getElem_mem _
 rcases List.mem_append.mp hm with z | z
 ·exact List.mem_of_mem_drop z
 ·exact List.mem_of_mem_take z
theorem nodupAL : ((["arrow", "later"] : List Str) ++ ([] : List (Str × Nat)).map (·.1)).Nodup := by decide +kernel
section
variable {P : Program} {w : World} {K : PySem.W.Frag} {mg : Str -> Option Value} {base : Heap}
theorem scIS : FnScope ["corners", "arrows"] ["corners"] (defScope sIsShape) := ⟨rfl, rfl, rfl, by decide +kernel, rfl, by decide +kernel, by decide +kernel⟩
theorem ok_is_shape {f f1 f2 : Addr} {fd fd1 fd2 : FuncData} (F : Fun K "is_shape" "is_shape" sIsShape f fd)
  (G1 : FnOk P w K mg base CX0 2 f1 fd1 ["corners"] (spPts1 (2 ^ 60) round)) (k1 : PySem.W.keepIn K (.ref f1) = true) (b1 : Binds K fd1 ["corners"] []) (m1 : mg "arrows_round" = some (.ref f1))
  (G2 : FnOk P w K mg base CX0 2 f2 fd2 ["one", "other"] (spBl2 (2 ^ 62) before)) (k2 : PySem.W.keepIn K (.ref f2) = true) (b2 : Binds K fd2 ["one", "other"] []) (m2 : mg "goes_before" = some (.ref f2))
  (mz : mg "zip" = none) (ml : mg "len" = none) (ma : mg "all" = none) : FnOk P w K mg base CX0 3 f fd ["corners"] (spPtsBl (2 ^ 60) isShape) := by
 refine F.ok scIS (fun vs H Q E h => ?_) (fun cdv A outer s H vs Q E hr h => ?_)
 ·obtain ⟨l, ps, rfl, _⟩ := h
  rfl
 ·obtain ⟨l, ps, rfl, hl, hn, hB, k⟩ := h
  have hu := hu_of hr
  refine ⟨_, pss_cons (ps_if (pt_cmpR op_lt (pe_callB call_len_seq rfl ml PySem.boot_len (pa_cons (pv 0) pa_nil)) pe_int (nomark _))
    (pss_one (ps_ret (pe_cmpR op_eq (pe_callB call_len_seq rfl ml PySem.boot_len (pa_cons (pv 0) pa_nil)) pe_int (nomark _)))) pss_nil)
   (pss_cons (ps_set (i := 1) scIS.nd rfl (Or.inl rfl) (pe_call G1 hr rfl m1 k1 b1 .nil pass0 (pa_cons (pv 0) pa_nil)))
   (pss_cons (ps_if (pt_cmpR (op_inPts hu) (pe_tup (pa_cons pe_int (pa_cons pe_int pa_nil))) (pv 1) rfl) (pss_one (ps_ret pe_bl)) pss_nil)
   (pss_one (ps_ret (pe_callB (call_all_bls rfl) rfl ma bootAll (pa_cons
    (pe_lc (tn := ["arrow", "later"]) (cs := []) (g := gTup K 2 (gCons (gName 0) (gCons (gName 1) gNil))) (tt := tYes) (te := tCall (spBl2 (2 ^ 62) before) [] E0 (tCons (tVar 0) (tCons (tVar 1) tNil)))
     (Caps.none (by decide +kernel) rfl (by decide +kernel)) rfl
     (pi_zip rfl mz (pa_cons (pv 1) (pa_cons (pe_slice sl_list (pv 1) (po_some pe_int) po_none) pa_nil)))
     (fun C s₀ H₀ fp xe => pg_tup (n := 2) rfl (pgs_cons (pg_name (i := 0) nodupAL rfl (Or.inl rfl) (.inr rfl)) (pgs_cons (pg_name (i := 1) nodupAL rfl (Or.inl rfl) (.inr rfl)) pgs_nil)))
     (fun C s₀ H₀ fp xe => pts_nil)
     (fun C s₀ H₀ fp xe => pe_call G2 hr rfl m2 k2 b2 .nil pass0 (pa_cons (pv 0) (pa_cons (pv 1) pa_nil)))) pa_nil)))))), ?_⟩
  obtain ⟨as, h1, h2⟩ := id hl
  have hlen : as.length = ps.length := Paired.length h2
  have elen : ((as.map V.ref).length : Int) = (ps.length : Int) := by rw [List.length_map, hlen]
  refine ⟨_, rfl, l, _, rfl, .inl (SqL.of h1), _, _, rfl, rfl, _, rfl, ?_⟩
  unfold isShape at k
  refine ite2 (fun c1 => ?_) (fun c1 => ?_)
  ·refine ⟨_, rfl, l, _, rfl, .inl (SqL.of h1), rfl, ?_⟩
   have c1' : ps.length < 2 := by
    have := of_decide_eq_true c1
    lia
   rw [if_pos c1'] at k
   have e : decide (V.int ((as.map V.ref).length : Int) = V.int 1) = decide (ps.length = 1) := by
    rw [elen]
    by_cases z : ps.length = 1
    ·simp [z]
    ·have : ¬ (V.int (ps.length : Int) = V.int 1) := fun q => z (by injection q with q; (clear hn ma ml mz m2 k2 m1 k1 elen hlen h1 hu c1' c1 z; lia))
     simp [z, this]
   rw [e]
   exact k H (Same.refl H)
  ·have c1' : ¬ ps.length < 2 := fun z => c1 (by rw [elen]; exact decide_eq_true (by (clear ml mz m2 k2 m1 k1 h1 hu hn ma elen hlen c1; lia)))
   rw [if_neg c1'] at k
   refine ⟨_, rfl, l, ps, rfl, hl, hn, hB, fun r H2 s2 nr pr => ?_⟩
   refine ⟨by show 2 <= sizeLine; decide, fun t nt => ?_⟩
   have st := s2.trans (same_upd (o := .tup [.int 0, .int 0]) nt)
   refine ⟨_, rfl, t, r, (0, 0), round ps, rfl, rfl, upd_same, Pts.same (same_upd nt) pr, _, rfl, ?_⟩
   refine ite2 (fun c2 => ?_) (fun c2 => ?_)
   ·rw [if_pos (of_decide_eq_true c2)] at k
    exact k _ st
   ·rw [if_neg (fun z => c2 (decide_eq_true z))] at k
    obtain ⟨rs, r1, r2⟩ := Pts.same (same_upd (o := .tup [.int 0, .int 0]) nt) pr
    have rlen : rs.length = (round ps).length := Paired.length r2
    have rlen2 := RS.round_length ps
    refine ⟨_, rfl, _, rfl, _, rfl, r, _, rfl, SqL.of r1, fun d1 n1 => ?_⟩
    rw [cut_from1]
    have s3 := st.trans (same_upd (o := .lst ((rs.map V.ref).drop 1)) n1)
    generalize hHs : upd (upd H2 t (.tup [.int 0, .int 0])) d1 (.lst ((rs.map V.ref).drop 1)) = Hs at s3 ⊢
    have g1 : Hs d1 = some (.lst ((rs.map V.ref).drop 1)) := by rw [<- hHs, upd_same]
    have ss : Same (upd H2 t (.tup [.int 0, .int 0])) Hs := by rw [<- hHs]; exact same_upd n1
    have al : Ats Hs rs (round ps) := Ats.same ss r2
    have hr1 := ss _ _ r1
    have ed : (rs.map V.ref).drop 1 = (rs.drop 1).map V.ref := by rw [List.map_drop]
    rw [ed] at g1
    have ar : Ats Hs (rs.drop 1) ((round ps).drop 1) := Ats.drop 1 al
    refine ⟨r, d1, rfl, ⟨_, SqL.of hr1⟩, ⟨_, SqL.of g1⟩, fun D nD => ?_⟩
    refine lc_zip (K := K) (a := r) (b := d1) (D := D) (xs := rs.map V.ref) (ys := (rs.drop 1).map V.ref)
     (fun i σ H' => (∃ u v, σ = [u, v]) /\ Same Hs H' /\ H' D = some (.lst (((List.zipWith before (round ps) ((round ps).drop 1)).take i).map V.bl))) ⟨⟨none, none, rfl⟩, same_upd nD, upd_same⟩
     (fun i σ H' ⟨_, sm, _⟩ => ⟨SqL.of (sm _ _ hr1), SqL.of (sm _ _ g1)⟩) ?_ ?_
    ·rintro i x y σ H' t' ex ey ht ⟨⟨u, v, rfl⟩, sm, pt⟩
     obtain ⟨a, ea, rfl⟩ := map_ref ex
     obtain ⟨b, eb, rfl⟩ := map_ref ey
     obtain ⟨p, ep, tp⟩ := paired_get al i a ea
     obtain ⟨q, eq, tq⟩ := paired_get ar i b eb
     have st2 := sm.trans (same_upd (o := .tup [.ref a, .ref b]) ht)
     refine ⟨t', _, rfl, SqT.of upd_same, rfl, _, _, rfl, _, _, rfl, rfl, ?_⟩
     refine yes_go ?_
     refine ⟨_, rfl, _, rfl, a, b, p, q, rfl, st2 _ _ tp, st2 _ _ tq, bd_round hB p (List.mem_of_getElem? ep), ?_⟩
     have er : (List.zipWith before (round ps) ((round ps).drop 1))[i]? = some (before p q) := by rw [List.getElem?_zipWith, ep, eq]
     have pt' := same_upd (o := .tup [.ref a, .ref b]) ht _ _ pt
     refine ⟨_, pt', ?_, ⟨_, _, rfl⟩, same_set st2 nD, ?_⟩
     ·rw [List.length_map, List.length_take]
      have : i < (round ps).length := (List.getElem?_eq_some_iff.mp ep).1
      exact size100 (by lia)
     ·rw [upd_same, take_next er, List.map_append]
      rfl
    ·rintro i σ H' hi hi1 hi2 ⟨_, sm, pt⟩
     refine ⟨D, _, rfl, SqL.of pt, ?_⟩
     have ei : (List.zipWith before (round ps) ((round ps).drop 1)).take i = List.zipWith before (round ps) ((round ps).drop 1) := by
      refine List.take_of_length_le ?_
      rw [List.length_zipWith, List.length_drop]
      rw [List.length_map] at hi hi1
      rw [List.length_map, List.length_drop] at hi hi2
      lia
     rw [ei]
     exact k H' (s3.trans sm)
end
end K1
namespace K1
open PySem L2
open RS (Pt arrow cross fstHalf before round isShape cellAt stir popW chainR chain)
noncomputable abbrev sCell : Stmt := top 51
noncomputable abbrev sStir : Stmt := top 52
noncomputable abbrev sLCross : Stmt := top 53
noncomputable abbrev sLArrow : Stmt := top 54
noncomputable abbrev sChain : Stmt := top 55
inductive spCell (K : PySem.W.Frag) (vs : List V) (H : Hp) (Q : VK) (u3 : XK) : Prop
 | mk (a : _) (ns : _) (k : _) (c0 : vs = [.ref a, .int k]) (c1 : SqL K H a (ns.map V.int)) (c2 : 0 <= k) (c3 : Q (.int (cellAt ns k)) H) : spCell K vs H Q u3
inductive spStir (vs : List V) (H : Hp) (Q : VK) (u3 : XK) : Prop
 | mk (s : _) (c0 : vs = [.int s]) (c1 : Q (.int (stir s)) H) : spStir  vs H Q u3
theorem atI_neg1 {xs : List V} {x : V} (h : xs.getLast? = some x) : atI xs (-1) = some x := by
 rcases List.eq_nil_or_concat xs with e | ⟨ys, y, e⟩
 ·rw [e] at h; cases h
 ·rw [e, List.concat_eq_append, List.getLast?_append] at h
  rw [e, List.concat_eq_append]
  cases h
  exact atI_last ys y
theorem atI_at {xs : List V} {x : V} {i : Int} {j : Nat} (hi : i = (j : Int) - xs.length) (hj : j < xs.length) (h : xs[j]? = some x) : atI xs i = some x := by
 unfold atI ixN
 have h1 : ¬ (0 <= i) := by omega
 have h2 : -(xs.length : Int) <= i := by lia
 rw [if_neg h1, if_pos h2]
 have h3 : (i + (xs.length : Int)).toNat = j := by lia
 rw [h3]
 exact h
section
variable {P : Program} {w : World} {K : PySem.W.Frag} {mg : Str -> Option Value} {base : Heap}
theorem scCell : FnScope ["script", "k"] ["script", "k"] (defScope sCell) := ⟨rfl, rfl, rfl, by decide +kernel, rfl, by decide +kernel, by decide +kernel⟩
theorem ok_cell {f : Addr} {fd : FuncData} (F : Fun K "_law_cell_at" "_law_cell_at" sCell f fd) (ml : mg "len" = none) : FnOk P w K mg base CX0 1 f fd ["script", "k"] (spCell K) := by
 refine F.ok scCell (fun vs H Q E h => ?_) (fun cdv A outer s H vs Q E hr h => ?_)
 ·obtain ⟨a, ns, k, rfl, _⟩ := h
  rfl
 ·obtain ⟨a, ns, k, rfl, ha, hk, q⟩ := h
  refine ⟨_, pss_cons (ps_if (pt_cmpR op_lt (pv 1) (pe_callB call_len_seq rfl ml PySem.boot_len (pa_cons (pv 0) pa_nil)) (nomark _))
   (pss_one (ps_ret (pe_ix ix_list (pv 0) (pv 1) (fun _ _ => rfl)))) pss_nil) (pss_one (ps_ret pe_int)), ?_⟩
  refine ⟨_, rfl, _, rfl, a, _, rfl, .inl ha, _, _, rfl, rfl, _, rfl, ?_⟩
  have el : ((ns.map V.int).length : Int) = (ns.length : Int) := by rw [List.length_map]
  unfold cellAt at q
  refine ite2 (fun c => ?_) (fun c => ?_)
  ·have c' : k < (ns.length : Int) := by have := of_decide_eq_true c; omega
   rw [if_pos c'] at q
   refine ⟨_, rfl, _, rfl, a, _, k, _, rfl, rfl, ha, ?_, q⟩
   have hkn : k.toNat < ns.length := by lia
   have e1 : (ns.map V.int)[k.toNat]? = some (V.int (ns.getD k.toNat 0)) := by
    rw [List.getElem?_map, List.getElem?_eq_getElem hkn, List.getD_eq_getElem?_getD, List.getElem?_eq_getElem hkn]
    rfl
   have e2 := atI_nat e1
   have e3 : ((k.toNat : Nat) : Int) = k := by lia
   rw [e3] at e2
   exact e2
  ·have c' : ¬ k < (ns.length : Int) := fun z => c (decide_eq_true (by lia))
   rw [if_neg c'] at q
   exact q
theorem scStir : FnScope ["seed"] ["seed"] (defScope sStir) := ⟨rfl, rfl, rfl, by decide +kernel, rfl, by decide +kernel, by decide +kernel⟩
theorem ok_stir {f : Addr} {fd : FuncData} (F : Fun K "_law_stir" "_law_stir" sStir f fd) : FnOk P w K mg base CX0 1 f fd ["seed"] spStir := by
 refine F.ok scStir (fun vs H Q E h => ?_) (fun cdv A outer s H vs Q E hr h => ?_)
 ·obtain ⟨a, rfl, _⟩ := h
  rfl
 ·obtain ⟨sd, rfl, q⟩ := h
  refine ⟨_, pss_cons (ps_set (i := 0) scStir.nd rfl (Or.inl rfl) (pe_op op_mod (pe_op op_add (pv 0) pe_int) pe_int))
   (pss_one (ps_ret (pe_op op_mod (pe_op op_add (pe_op op_add (pe_op op_mul (pv 0) (pv 0)) (pe_op op_mul pe_int (pv 0))) pe_int) pe_int))), ?_⟩
  have h1 := Int.emod_nonneg (sd + 7919) (show (2147483647 : Int) ≠ 0 by decide)
  have h2 := Int.emod_lt_of_pos (sd + 7919) (show (0 : Int) < 2147483647 by decide)
  refine ⟨_, rfl, _, _, rfl, rfl, _, _, rfl, rfl, (by show (0 : Int) < 2147483647; decide), ?_⟩
  refine ⟨_, rfl, _, rfl, _, _, rfl, rfl, .inl ⟨by omega, by omega⟩, ?_⟩
  refine ⟨_, rfl, _, _, rfl, rfl, .inl ⟨by lia, by lia⟩, _, _, rfl, rfl, _, _, rfl, rfl, _, _, rfl, rfl, (by show (0 : Int) < 2147483629; decide), ?_⟩
  exact q
theorem scLC : FnScope ["one", "other"] ["one", "other"] (defScope sLCross) := ⟨rfl, rfl, rfl, by decide +kernel, rfl, by decide +kernel, by decide +kernel⟩
theorem ok_lcross {f : Addr} {fd : FuncData} (F : Fun K "_law_cross" "_law_cross" sLCross f fd) : FnOk P w K mg base CX0 1 f fd ["one", "other"] (spInt2 (2 ^ 62) cross) := by
 refine F.ok scLC (fun vs H Q E h => ?_) (fun cdv A outer s H vs Q E hr h => ?_)
 ·obtain ⟨a, b, p, q, rfl, _⟩ := h
  rfl
 ·obtain ⟨a, b, p, q, rfl, ha, hb, ⟨b1, b2, b3, b4⟩, k⟩ := h
  refine ⟨_, pss_one (ps_ret (pe_op op_sub (pe_op op_mul (pe_ix ix_tup (pv 0) pe_int (fun _ _ => rfl)) (pe_ix ix_tup (pv 1) pe_int (fun _ _ => rfl)))
   (pe_op op_mul (pe_ix ix_tup (pv 0) pe_int (fun _ _ => rfl)) (pe_ix ix_tup (pv 1) pe_int (fun _ _ => rfl))))), ?_⟩
  refine ⟨_, rfl, a, _, _, _, rfl, rfl, SqT.of ha, rfl, ?_⟩
  refine ⟨_, rfl, b, _, _, _, rfl, rfl, SqT.of hb, rfl, _, _, rfl, rfl, .inl ⟨by omega, by omega⟩, ?_⟩
  refine ⟨_, rfl, a, _, _, _, rfl, rfl, SqT.of ha, rfl, ?_⟩
  refine ⟨_, rfl, b, _, _, _, rfl, rfl, SqT.of hb, rfl, _, _, rfl, rfl, .inl ⟨by omega, by omega⟩, ?_⟩
  exact ⟨_, _, rfl, rfl, k⟩
theorem scLA : FnScope ["one", "other"] ["one", "other"] (defScope sLArrow) := ⟨rfl, rfl, rfl, by decide +kernel, rfl, by decide +kernel, by decide +kernel⟩
theorem ok_larrow {f : Addr} {fd : FuncData} (F : Fun K "_law_arrow" "_law_arrow" sLArrow f fd) : FnOk P w K mg base CX0 1 f fd ["one", "other"] (spPt2 arrow) := by
 refine F.ok scLA (fun vs H Q E h => ?_) (fun cdv A outer s H vs Q E hr h => ?_)
 ·obtain ⟨a, b, p, q, rfl, _⟩ := h
  rfl
 ·obtain ⟨a, b, p, q, rfl, ha, hb, k⟩ := h
  refine ⟨_, pss_one (ps_ret (pe_tup (pa_cons (pe_op op_sub (pe_ix ix_tup (pv 1) pe_int (fun _ _ => rfl)) (pe_ix ix_tup (pv 0) pe_int (fun _ _ => rfl)))
   (pa_cons (pe_op op_sub (pe_ix ix_tup (pv 1) pe_int (fun _ _ => rfl)) (pe_ix ix_tup (pv 0) pe_int (fun _ _ => rfl))) pa_nil)))), ?_⟩
  refine ⟨_, rfl, b, _, _, _, rfl, rfl, SqT.of hb, rfl, ?_⟩
  refine ⟨_, rfl, a, _, _, _, rfl, rfl, SqT.of ha, rfl, _, _, rfl, rfl, ?_⟩
  refine ⟨_, rfl, b, _, _, _, rfl, rfl, SqT.of hb, rfl, ?_⟩
  refine ⟨_, rfl, a, _, _, _, rfl, rfl, SqT.of ha, rfl, _, _, rfl, rfl, ?_⟩
  exact ⟨by show 2 <= sizeLine; decide, fun r hn => k r _ (same_upd hn) upd_same⟩
theorem scCh : FnScope ["points", "found", "point"] ["points"] (defScope sChain) := ⟨rfl, rfl, rfl, by decide +kernel, rfl, by decide +kernel, by decide +kernel⟩
theorem popW_drop {a b p : Pt} {r : List Pt} (h : ¬ 0 < cross (arrow a b) (arrow b p)) : popW (b :: a :: r) p = popW (a :: r) p := by
 rw [popW, if_neg h]
theorem popW_stay {a b p : Pt} {r : List Pt} (h : 0 < cross (arrow a b) (arrow b p)) : popW (b :: a :: r) p = b :: a :: r := by
 rw [popW, if_pos h]
theorem popW_short {st : List Pt} {p : Pt} (h : ¬ 1 < st.length) : popW st p = st := by
 match st, h with
 | [], _ => rfl
 | [_], _ => rfl
 | _ :: _ :: r, h => exact absurd (by simp) h
theorem two_last {H : Hp} {ds : List Addr} {a b : Pt} {r : List Pt} (h : Ats H ds (b :: a :: r).reverse) : ∃ x y es, ds = es ++ [x, y] /\ Tp H x a /\ Tp H y b /\ Ats H es r.reverse := by
 have e : (b :: a :: r).reverse = r.reverse ++ [a, b] := by simp
 rw [e] at h
 have hl : ds.length = r.reverse.length + 2 := by rw [Paired.length h]; simp
 have t := Ats.drop r.reverse.length h
 rw [List.drop_left] at t
 have t2 := Ats.take r.reverse.length h
 rw [List.take_left] at t2
 have ed : ds = ds.take r.reverse.length ++ ds.drop r.reverse.length := (List.take_append_drop _ _).symm
 generalize hds : ds.drop r.reverse.length = us at t ed
 cases t with
 | cons t1 t =>
  cases t with
  | cons t3 t => cases t; exact ⟨_, _, _, ed, t1, t3, t2⟩
theorem ok_chain {f f1 f2 : Addr} {fd fd1 fd2 : FuncData} (F : Fun K "_law_chain" "_law_chain" sChain f fd)
  (G1 : FnOk P w K mg base CX0 1 f1 fd1 ["one", "other"] (spInt2 (2 ^ 62) cross)) (k1 : PySem.W.keepIn K (.ref f1) = true) (b1 : Binds K fd1 ["one", "other"] []) (m1 : mg "_law_cross" = some (.ref f1))
  (G2 : FnOk P w K mg base CX0 1 f2 fd2 ["one", "other"] (spPt2 arrow)) (k2 : PySem.W.keepIn K (.ref f2) = true) (b2 : Binds K fd2 ["one", "other"] []) (m2 : mg "_law_arrow" = some (.ref f2))
  (ml : mg "len" = none) : FnOk P w K mg base CX0 2 f fd ["points"] (spPts1 (2 ^ 60) chain) := by
 refine F.ok scCh (fun vs H Q E h => ?_) (fun cdv A outer s H vs Q E hr h => ?_)
 ·obtain ⟨l, ps, rfl, _⟩ := h
  rfl
 ·obtain ⟨l, ps, rfl, hl, hn, hB, k⟩ := h
  refine ⟨_, pss_cons (ps_set (i := 1) scCh.nd rfl (Or.inl rfl) (pe_lst pa_nil))
   (pss_cons (ps_for PassesOwn.never rfl (pi_list (pv 0)) (pg_name (i := 2) scCh.nd rfl (Or.inl rfl))
    (pss_cons (ps_while PassesOwn.never (pt_cmpR op_gt (pe_callB call_len_seq rfl ml PySem.boot_len (pa_cons (pv 1) pa_nil)) pe_int (nomark _))
     (pss_cons (ps_if (pt_cmpR op_gt (pe_call G1 hr rfl m1 k1 b1 .nil pass0 (pa_cons (pe_call G2 hr rfl m2 k2 b2 .nil pass0 (pa_cons (pe_ix ix_list (pv 1) (pe_un un_neg pe_int) (fun _ _ => rfl)) (pa_cons (pe_ix ix_list (pv 1) (pe_un un_neg pe_int) (fun _ _ => rfl)) pa_nil)))
       (pa_cons (pe_call G2 hr rfl m2 k2 b2 .nil pass0 (pa_cons (pe_ix ix_list (pv 1) (pe_un un_neg pe_int) (fun _ _ => rfl)) (pa_cons (pv 2) pa_nil))) pa_nil))) pe_int (nomark _))
      (pss_one ps_break) pss_nil)
     (pss_one (ps_expr (pe_bm0 PySem.F.plainAttrs_list PySem.F.slot_list_pop PySem.F.type_list_pop mt_pop (pv 1))))))
    (pss_one (ps_expr (pe_bm PySem.F.plainAttrs_list PySem.F.slot_list_append PySem.F.type_list_append mt_append (pv 1) (pa_cons (pv 2) pa_nil))))))
   (pss_one (ps_ret (pv 1)))), ?_⟩
  obtain ⟨as, h1, h2⟩ := id hl
  have hlen : as.length = ps.length := Paired.length h2
  refine ⟨Nat.zero_le _, fun D nD => ?_⟩
  have s0 : Same H (upd H D (.lst [])) := same_upd nD
  refine ⟨_, rfl, l, rfl, ⟨_, SqL.of (s0 _ _ h1)⟩, ?_⟩
  refine for_list (xs := as.map V.ref) (fun i σ H' => (∃ u, σ = [some (.ref l), some (.ref D), u]) /\ Same H H' /\ Pts H' D (chainR (ps.take i)).reverse) ⟨⟨none, rfl⟩, s0, [], upd_same, .nil⟩
   (fun i σ H' _ ⟨_, sm, _⟩ => SqL.of (sm _ _ h1)) ?_ ?_
  ·rintro i x σ H' ex ⟨⟨u, rfl⟩, sm, pt⟩
   obtain ⟨a, ea, rfl⟩ := map_ref ex
   obtain ⟨p, ep, tp⟩ := paired_get h2 i a ea
   have hpB : Bd (2 ^ 60) p := hB p (List.mem_of_getElem? ep)
   have hi : i < ps.length := (List.getElem?_eq_some_iff.mp ep).1
   have inB : ∀ x ∈ chainR (ps.take i), Bd (2 ^ 60) x := fun x hx => hB x (List.mem_of_mem_take (RS.mem_chain (by unfold RS.chain; exact List.mem_reverse.mpr hx)))
   have inL : (chainR (ps.take i)).length <= 100 := by
    have := RS.chain_len (ps.take i)
    unfold RS.chain at this
    rw [List.length_reverse, List.length_take] at this
    lia
   refine ⟨fun m σ H' => σ = [some (.ref l), some (.ref D), some (.ref a)] /\ Same H H' /\ ∃ st, m = st.length /\ Pts H' D st.reverse /\ popW st p = popW (chainR (ps.take i)) p /\ (∀ x ∈ st, Bd (2 ^ 60) x) /\ st.length <= 100,
    ⟨_, rfl, sm, _, rfl, pt, rfl, inB, inL⟩, ?_⟩
   rintro m σ H2 ⟨rfl, sm2, st, rfl, pt2, ew, sB, sL⟩
   obtain ⟨ds, d1, d2⟩ := pt2
   have dlen : ds.length = st.length := by rw [Paired.length d2, List.length_reverse]
   refine ⟨_, rfl, D, _, rfl, .inl (SqL.of d1), _, _, rfl, rfl, _, rfl, ?_⟩
   refine ite2 (fun c => ?_) (fun c => ?_)
   ·have c' : 1 < st.length := by
     have := of_decide_eq_true c
     rw [List.length_map, dlen] at this
     lia
    match st, c', ew, sB, sL, d2, dlen with
    | b :: a' :: r, _, ew, sB, sL, d2, dlen =>
     obtain ⟨x, y, es, rfl, tx, ty, te⟩ := two_last d2
     have xe : ((es ++ [x, y]).map V.ref) = es.map V.ref ++ [V.ref x, V.ref y] := by rw [List.map_append]; rfl
     rw [xe] at d1
     have i1 : atI (es.map V.ref ++ [V.ref x, V.ref y]) (-1) = some (V.ref y) := atI_neg1 (by simp)
     have i2 : atI (es.map V.ref ++ [V.ref x, V.ref y]) (-2) = some (V.ref x) := atI_at (j := es.length) (by simp; lia) (by simp) (by simp)
     refine ⟨fun σ' H' => σ' = [some (.ref l), some (.ref D), some (.ref a)] /\ Same H H' /\ ∃ st, st.length < (b :: a' :: r).length /\ Pts H' D st.reverse /\ popW st p = popW (chainR (ps.take i)) p /\ (∀ x ∈ st, Bd (2 ^ 60) x) /\ st.length <= 100,
      fun σ' H' ⟨q1, q2, st, q3, q4⟩ => ⟨_, q3, q1, q2, st, rfl, q4⟩, ?_⟩
     refine ⟨_, rfl, _, rfl, D, _, _, _, rfl, rfl, SqL.of d1, i2, ?_⟩
     refine ⟨_, rfl, _, rfl, D, _, _, _, rfl, rfl, SqL.of d1, i1, x, y, a', b, rfl, tx, ty, fun r1 H3 s3 t3 => ?_⟩
     refine ⟨_, rfl, _, rfl, D, _, _, _, rfl, rfl, SqL.of (s3 _ _ d1), i1, _, rfl, y, a, b, p, rfl, s3 _ _ ty, s3 _ _ (sm2 _ _ tp), fun r2 H4 s4 t4 => ?_⟩
     refine ⟨r1, r2, arrow a' b, arrow b p, rfl, s4 _ _ t3, t4, bd_arrow (sB a' (by simp)) (sB b (by simp)), _, _, rfl, rfl, _, rfl, ?_⟩
     have s24 := s3.trans s4
     have d4 := s24 _ _ d1
     refine ite2 (fun c2 => ?_) (fun c2 => ?_)
     ·have c2' := of_decide_eq_true c2
      rw [popW_stay c2'] at ew
      refine ⟨_, rfl, .inl ⟨rfl, _, SqL.of d4⟩, _, rfl, D, _, _, rfl, rfl, d4, size100 (by simp at dlen sL ⊢; lia), ?_⟩
      have pp : Pts H4 D (b :: a' :: r).reverse := ⟨es ++ [x, y], by rw [d4, xe], Ats.same s24 d2⟩
      obtain ⟨ys, y1, y2, y3, y4⟩ := pts_push nD (sm2.trans s24) pp (s24 _ _ (sm2 _ _ tp)) (by rw [List.length_reverse]; exact size100 (by lia))
      rw [d4] at y1
      cases y1
      refine ⟨⟨_, rfl⟩, y3, ?_⟩
      rw [take_next ep, RS.chainR_snoc, <- ew, List.reverse_cons]
      exact y4
     ·have c2' : ¬ 0 < cross (arrow a' b) (arrow b p) := fun z => c2 (decide_eq_true z)
      rw [popW_drop c2'] at ew
      have edl : (es.map V.ref ++ [V.ref x, V.ref y]).dropLast = (es ++ [x]).map V.ref := by
       have : es.map V.ref ++ [V.ref x, V.ref y] = (es ++ [x]).map V.ref ++ [V.ref y] := by simp
       rw [this, List.dropLast_concat]
      refine ⟨_, rfl, .inl ⟨rfl, _, SqL.of d4⟩, D, _, V.ref y, rfl, rfl, d4, by simp, ?_⟩
      refine ⟨rfl, same_set (sm2.trans s24) nD, a' :: r, by simp, ⟨es ++ [x], by rw [upd_same, edl], ?_⟩, ew, fun z hz => sB z (List.mem_cons_of_mem _ hz), by simp at sL ⊢; lia⟩
      rw [List.reverse_cons]
      exact Ats.put d4 (Ats.app (Ats.same s24 te) (.cons (s24 _ _ tx) .nil))
   ·have c' : ¬ 1 < st.length := fun z => c (decide_eq_true (by rw [List.length_map, dlen]; lia))
    rw [popW_short c'] at ew
    refine ⟨_, rfl, .inl ⟨rfl, _, SqL.of d1⟩, _, rfl, D, _, _, rfl, rfl, d1, size100 (by rw [List.length_map]; lia), ?_⟩
    obtain ⟨ys, y1, y2, y3, y4⟩ := pts_push nD sm2 ⟨ds, d1, d2⟩ (sm2 _ _ tp) (by rw [List.length_reverse]; exact size100 (by lia))
    rw [d1] at y1
    cases y1
    refine ⟨⟨_, rfl⟩, y3, ?_⟩
    rw [take_next ep, RS.chainR_snoc, <- ew, List.reverse_cons]
    exact y4
  ·rintro σ H' ⟨⟨u, rfl⟩, sm, pt⟩
   refine ⟨_, rfl, ?_⟩
   rw [List.length_map, hlen, List.take_of_length_le (Nat.le_refl _)] at pt
   exact k D H' sm nD pt
end
end K1
namespace K1
open PySem L2
open RS (Pt arrow cross fstHalf before round isShape cellAt stir popW chainR chain swap order hull dedP sortD)
noncomputable abbrev sHull : Stmt := top 56
inductive spPtsN (m : Nat) (n : Int) (f : List Pt -> List Pt) (vs : List V) (H : Hp) (Q : VK) (u3 : XK) : Prop
 | mk (l : _) (ps : _) (c0 : vs = [.ref l]) (c1 : Pts H l ps) (c2 : 0 < ps.length) (c3 : ps.length <= m) (c4 : (∀ p ∈ ps, Bd n p)) (c5 : ∀ r H', Same H H' -> H r = none -> Pts H' r (f ps) -> Q (.ref r) H') : spPtsN m n f vs H Q u3
theorem srt_keys {l : List (Pt × Addr)} {srt : List (Pt × Addr)} (hp : srt.Perm (dedP l)) (hw : srt.Pairwise (fun p q : Pt × Addr => RS.lexLt p.1 q.1 = true)) : srt.map (·.1) = sortD (l.map (·.1)) := by
 refine RS.sorted_is (List.pairwise_map.mpr hw) fun x => ?_
 rw [(hp.map _).mem_iff]
 exact RS.dedP_keys l x
theorem zip_fst : ∀ {as : List Addr} {ps : List Pt}, as.length = ps.length -> (ps.zip as).map (·.1) = ps
 | [], [], _ => rfl
 | _ :: as, p :: ps, h => by
  rw [List.zip_cons_cons, List.map_cons, zip_fst (Nat.succ.inj h)]
theorem srt_ats {H : Hp} : ∀ {srt : List (Pt × Addr)}, (∀ p ∈ srt, Tp H p.2 p.1) -> Ats H (srt.map (·.2)) (srt.map (·.1))
 | [], _ => .nil
 | p :: _, h => .cons (h p List.mem_cons_self) (srt_ats fun q hq => h q (List.mem_cons_of_mem _ hq))
theorem nodup1 {x : Str} : (([x] : List Str) ++ ([] : List (Str × Nat)).map (·.1)).Nodup := by simp
theorem nodupUR : ((["up", "right"] : List Str) ++ ([] : List (Str × Nat)).map (·.1)).Nodup := by decide +kernel
theorem g_go {i : Nat} {v : V} {σ : St} {H : Hp} {Q : St -> Hp -> Prop} (h : Q (σ.set i (some v)) H) : gName i v σ H Q := h
theorem hu8_of {A : Around} {k : Nat} (hr : Room k A) : A.units + 8 < cLine := Nat.lt_of_le_of_lt (Nat.add_le_add_left (by decide : 8 <= 64) _) hr.units
section
variable {P : Program} {w : World} {K : PySem.W.Frag} {mg : Str -> Option Value} {base : Heap}
theorem scHu : FnScope ["points", "order"] ["points"] (defScope sHull) := ⟨rfl, rfl, rfl, by decide +kernel, rfl, by decide +kernel, by decide +kernel⟩
theorem ok_hull {f f1 : Addr} {fd fd1 : FuncData} (F : Fun K "_law_hull" "_law_hull" sHull f fd)
  (G1 : FnOk P w K mg base CX0 2 f1 fd1 ["points"] (spPts1 (2 ^ 60) chain)) (k1 : PySem.W.keepIn K (.ref f1) = true) (b1 : Binds K fd1 ["points"] []) (m1 : mg "_law_chain" = some (.ref f1))
  (ml : mg "len" = none) (mso : mg "sorted" = none) (mse : mg "set" = none) (mli : mg "list" = none) (mre : mg "reversed" = none) : FnOk P w K mg base CX0 3 f fd ["points"] (spPtsN 60 (2 ^ 60) hull) := by
 refine F.ok scHu (fun vs H Q E h => ?_) (fun cdv A outer s H vs Q E hr h => ?_)
 ·obtain ⟨l, ps, rfl, _⟩ := h
  rfl
 ·obtain ⟨l, ps, rfl, hl, hn0, hn, hB, k⟩ := h
  have hu8 := hu8_of hr
  refine ⟨_, pss_cons (ps_lc (j := 1) (tn := ["up", "right"]) (cs := []) (g := gTup K 2 (gCons (gName 0) (gCons (gName 1) gNil))) (tt := tYes) (te := tTup (tCons (tVar 1) (tCons (tVar 0) tNil))) (Caps.none (by decide +kernel) rfl (by decide +kernel)) rfl
    (pi_list (pe_callB (call_sorted_pts rfl) rfl mso bootSorted (pa_cons (pe_callTy (call_set_pts rfl hu8) rfl mse bootSet (pa_cons
     (pe_lc (tn := ["point"]) (cs := []) (g := gName 0) (tt := tYes) (te := tTup (tCons (tOp (rIxT K) (tVar 0) (tC (.int 1))) (tCons (tOp (rIxT K) (tVar 0) (tC (.int 0))) tNil))) (Caps.none (by decide +kernel) rfl (by decide +kernel)) rfl
      (pi_list (pv 0))
      (fun C s₀ H₀ fp xe => pg_name (i := 0) nodup1 rfl (Or.inl rfl) (.inr rfl))
      (fun C s₀ H₀ fp xe => pts_nil)
      (fun C s₀ H₀ fp xe => pe_tup (pa_cons (pe_ix ix_tup (pv 0) pe_int (fun _ _ => rfl)) (pa_cons (pe_ix ix_tup (pv 0) pe_int (fun _ _ => rfl)) pa_nil)))) pa_nil)) pa_nil)))
    (fun C s₀ H₀ fp xe => pg_tup (n := 2) rfl (pgs_cons (pg_name (i := 0) nodupUR rfl (Or.inl rfl) (.inr rfl)) (pgs_cons (pg_name (i := 1) nodupUR rfl (Or.inl rfl) (.inr rfl)) pgs_nil)))
    (fun C s₀ H₀ fp xe => pts_nil)
    (fun C s₀ H₀ fp xe => pe_tup (pa_cons (pv 1) (pa_cons (pv 0) pa_nil))) scHu.nd rfl rfl rfl)
   (pss_cons (ps_if (pt_cmpR op_eq (pe_callB call_len_seq rfl ml PySem.boot_len (pa_cons (pv 1) pa_nil)) pe_int (nomark _)) (pss_one (ps_ret (pv 1))) pss_nil)
   (pss_one (ps_ret (pe_op op_cat
    (pe_slice sl_list (pe_call G1 hr rfl m1 k1 b1 .nil pass0 (pa_cons (pv 1) pa_nil)) po_none (po_some (pe_un un_neg pe_int)))
    (pe_slice sl_list (pe_call G1 hr rfl m1 k1 b1 .nil pass0 (pa_cons (pe_lrev rfl rfl mli rfl mre (pv 1)) pa_nil)) po_none (po_some (pe_un un_neg pe_int))))))), ?_⟩
  obtain ⟨as, h1, h2⟩ := id hl
  have hlen : as.length = ps.length := Paired.length h2
  refine ⟨_, rfl, l, rfl, ⟨_, SqL.of h1⟩, fun D1 n1 => ?_⟩
  refine lc_list (K := K) (a := l) (D := D1) (xs := as.map V.ref) (fun i σ H' => (∃ u, σ = [u]) /\ Same H H' /\ Pts H' D1 ((ps.map swap).take i)) ⟨⟨none, rfl⟩, same_upd n1, [], upd_same, .nil⟩
   (fun i σ H' _ ⟨_, sm, _⟩ => SqL.of (sm _ _ h1)) ?_ ?_
  ·rintro i x σ H' ex ⟨⟨u, rfl⟩, sm, pt⟩
   obtain ⟨a, ea, rfl⟩ := map_ref ex
   obtain ⟨p, ep, tp⟩ := paired_get h2 i a ea
   have hi : i < ps.length := (List.getElem?_eq_some_iff.mp ep).1
   refine g_go ?_
   refine yes_go ?_
   have ta := SqT.of (K := K) (sm _ _ tp)
   refine ⟨_, rfl, a, _, _, _, rfl, rfl, ta, rfl, _, rfl, a, _, _, _, rfl, rfl, ta, rfl, by show 2 <= sizeLine; decide, fun t nt => ?_⟩
   have er : (ps.map swap)[i]? = some (swap p) := by rw [List.getElem?_map, ep]; rfl
   obtain ⟨ys, y1, y2, y3, y4⟩ := pts_push (r := t) (v := swap p) n1 (sm.trans (same_upd (o := .tup [.int p.2, .int p.1]) nt)) (Pts.same (same_upd nt) pt) upd_same (by rw [List.length_take, List.length_map]; exact size100 (by lia))
   exact ⟨ys, y1, y2, ⟨_, rfl⟩, y3, by rw [take_next er]; exact y4⟩
  ·rintro σ H2 ⟨_, sm, pt⟩
   rw [List.length_map, hlen, List.take_of_length_le (by rw [List.length_map]; exact Nat.le_refl _)] at pt
   obtain ⟨bs, c1, c2⟩ := pt
   have blen : bs.length = (ps.map swap).length := Paired.length c2
   have blen2 : bs.length = ps.length := by rw [blen, List.length_map]
   refine ⟨D1, bs, _, rfl, c1, c2, by lia, fun S nS => ?_⟩
   have sS := sm.trans (same_upd (o := SetO P w S (dedP ((ps.map swap).zip bs))) nS)
   have zl : ((ps.map swap).zip bs).length = ps.length := by rw [List.length_zip, List.length_map]; lia
   have etp : ∀ p ∈ dedP ((ps.map swap).zip bs), Tp (upd H2 S (SetO P w S (dedP ((ps.map swap).zip bs)))) p.2 p.1 := fun p hp => same_upd nS _ _ (zip_tp c2 p (RS.dedP_sub hp))
   refine ⟨S, _, rfl, upd_same, etp, RS.dedP_nodup _, by have := RS.dedP_len ((ps.map swap).zip bs); lia, fun D2 srt n2 perm pw => ?_⟩
   have ek : srt.map (·.1) = sortD (ps.map swap) := by rw [srt_keys perm pw, zip_fst blen]
   have ats : Ats (upd H2 S (SetO P w S (dedP ((ps.map swap).zip bs)))) (srt.map (·.2)) (sortD (ps.map swap)) := by
    rw [<- ek]
    exact srt_ats fun p hp => etp p (perm.mem_iff.mp hp)
   have emap : srt.map (fun p => V.ref p.2) = (srt.map (·.2)).map V.ref := by rw [List.map_map]; rfl
   rw [emap]
   dsimp only [cxOf, Cx.nox] at n2 ⊢
   have s3 := sS.trans (same_upd (o := .lst ((srt.map (·.2)).map V.ref)) n2)
   have a3 := Ats.same (same_upd (o := .lst ((srt.map (·.2)).map V.ref)) n2) ats
   generalize hcs : srt.map (·.2) = cs at s3 a3 ⊢
   have d3 : upd (upd H2 S (SetO P w S (dedP ((ps.map swap).zip bs)))) D2 (.lst (cs.map V.ref)) D2 = some (.lst (cs.map V.ref)) := upd_same
   generalize hH3 : upd (upd H2 S (SetO P w S (dedP ((ps.map swap).zip bs)))) D2 (.lst (cs.map V.ref)) = H3 at s3 a3 d3 ⊢
   have clen : cs.length = (sortD (ps.map swap)).length := Paired.length a3
   have slen : (sortD (ps.map swap)).length <= ps.length := by have := RS.sortD_len (ps.map swap); rw [List.length_map] at this; exact this
   refine ⟨D2, rfl, ⟨_, SqL.of d3⟩, fun D nD => ?_⟩
   refine lc_list (K := K) (a := D2) (D := D) (xs := cs.map V.ref) (fun i σ H' => (∃ u v, σ = [u, v]) /\ Same H3 H' /\ Pts H' D ((order ps).take i)) ⟨⟨none, none, rfl⟩, same_upd nD, [], upd_same, .nil⟩
    (fun i σ H' _ ⟨_, sm, _⟩ => SqL.of (sm _ _ d3)) ?_ ?_
   ·rintro i x σ H' ex ⟨⟨u, v, rfl⟩, sm', pt⟩
    obtain ⟨a, ea, rfl⟩ := map_ref ex
    obtain ⟨p, ep, tp⟩ := paired_get a3 i a ea
    have hi : i < (sortD (ps.map swap)).length := (List.getElem?_eq_some_iff.mp ep).1
    refine ⟨a, _, rfl, SqT.of (sm' _ _ tp), rfl, _, _, rfl, _, _, rfl, rfl, ?_⟩
    refine yes_go ?_
    refine ⟨_, rfl, _, rfl, by show 2 <= sizeLine; decide, fun t nt => ?_⟩
    have er : (order ps)[i]? = some (swap p) := by unfold order; rw [List.getElem?_map, ep]; rfl
    obtain ⟨ys, y1, y2, y3, y4⟩ := pts_push (r := t) (v := swap p) nD (sm'.trans (same_upd (o := .tup [.int p.2, .int p.1]) nt)) (Pts.same (same_upd nt) pt) upd_same (by rw [List.length_take]; exact size100 (by lia))
    exact ⟨ys, y1, y2, ⟨_, _, rfl⟩, y3, by rw [take_next er]; exact y4⟩
   ·rintro σ H4 ⟨_, sm', pt⟩
    have olen : (order ps).length = cs.length := by unfold order; rw [List.length_map, clen]
    rw [List.length_map, <- olen, List.take_of_length_le (Nat.le_refl _)] at pt
    have s4 := s3.trans sm'
    have nDH : H D = none := s3.free nD
    have oB : ∀ p ∈ order ps, Bd (2 ^ 60) p := fun p hp => hB p (RS.mem_order.mp hp)
    have oL := RS.order_len ps
    obtain ⟨os, o1, o2⟩ := id pt
    have oslen : os.length = (order ps).length := Paired.length o2
    refine ⟨_, rfl, D, _, rfl, .inl (SqL.of o1), rfl, _, rfl, ?_⟩
    unfold hull at k
    refine ite2 (fun c => ?_) (fun c => ?_)
    ·have c' : (order ps).length = 1 := by
      have := of_decide_eq_true c
      injection this with this
      rw [List.length_map, oslen] at this
      lia
     rw [if_pos c'] at k
     exact ⟨_, rfl, k D H4 s4 nDH pt⟩
    ·have c' : ¬ (order ps).length = 1 := fun z => c (decide_eq_true (by rw [List.length_map, oslen, z]; rfl))
     rw [if_neg c'] at k
     refine ⟨_, rfl, D, order ps, rfl, pt, by lia, oB, fun r1 H5 s5 nr1 p5 => ?_⟩
     obtain ⟨us, u1, u2⟩ := p5
     refine ⟨_, rfl, _, rfl, r1, _, rfl, SqL.of u1, fun d1 nd1 => ?_⟩
     rw [cut_init, <- List.map_dropLast]
     have s6 := s5.trans (same_upd (o := .lst (us.dropLast.map V.ref)) nd1)
     have v6 := Ats.same (same_upd (o := .lst (us.dropLast.map V.ref)) nd1) (Ats.init u2)
     have e6 : upd H5 d1 (.lst (us.dropLast.map V.ref)) d1 = some (.lst (us.dropLast.map V.ref)) := upd_same
     generalize hH6 : upd H5 d1 (.lst (us.dropLast.map V.ref)) = H6 at s6 v6 e6 ⊢
     refine ⟨_, rfl, D, _, rfl, SqL.of (s6 _ _ o1), fun d2 nd2 => ?_⟩
     rw [<- List.map_reverse]
     have s7 := s6.trans (same_upd (o := .lst (os.reverse.map V.ref)) nd2)
     have s67 : Same H6 (upd H6 d2 (.lst (os.reverse.map V.ref))) := same_upd nd2
     have p7 : Pts (upd H6 d2 (.lst (os.reverse.map V.ref))) d2 (order ps).reverse := ⟨_, upd_same, Ats.same s7 (Ats.rev o2)⟩
     generalize hH7 : upd H6 d2 (.lst (os.reverse.map V.ref)) = H7 at s7 s67 p7 ⊢
     refine ⟨d2, _, rfl, p7, by rw [List.length_reverse]; (clear clen d3 hH3 hcs emap ek n2 zl nS blen2 blen c1 n1 hlen h1 hu8 hH7 nd2 e6 hH6 nd1 u1 nr1 c' k1 nDH olen nD slen mse mso ml m1 c oslen mre mli o1 hn0; omega), fun p hp => oB p (List.mem_reverse.mp hp), fun r2 H8 s8 nr2 p8 => ?_⟩
     obtain ⟨vs', v1, v2⟩ := p8
     refine ⟨_, rfl, _, rfl, r2, _, rfl, SqL.of v1, fun d3' nd3 => ?_⟩
     rw [cut_init, <- List.map_dropLast]
     have s9 := s8.trans (same_upd (o := .lst (vs'.dropLast.map V.ref)) nd3)
     have s69 := s67.trans s9
     have w9 := Ats.same (same_upd (o := .lst (vs'.dropLast.map V.ref)) nd3) (Ats.init v2)
     have e9 : upd H8 d3' (.lst (vs'.dropLast.map V.ref)) d3' = some (.lst (vs'.dropLast.map V.ref)) := upd_same
     have ul : us.length = (chain (order ps)).length := Paired.length u2
     have vl : vs'.length = (chain (order ps).reverse).length := Paired.length v2
     have l1 := RS.chain_len (order ps)
     have l2 := RS.chain_len (order ps).reverse
     rw [List.length_reverse] at l2
     generalize hH9 : upd H8 d3' (.lst (vs'.dropLast.map V.ref)) = H9 at s9 s69 w9 e9 ⊢
     refine ⟨d1, d3', _, _, rfl, rfl, s69 _ _ e6, e9, ?_, fun r nr => ?_⟩
     ·rw [List.length_map, List.length_map, List.length_dropLast, List.length_dropLast]
      exact Nat.le_of_lt (size100 (by lia))
     rw [<- List.map_append]
     have all : Same H H9 := s4.trans (s6.trans s69)
     exact k r _ (all.trans (same_upd nr)) (all.free nr) ⟨_, upd_same, Ats.same (same_upd nr) (Ats.app (Ats.same s69 v6) w9)⟩
end
end K1
namespace K1
open PySem L2
open RS (Pt arrow cross fstHalf before round isShape cellAt stir popW chainR chain swap order hull dedP sortD spanAt pointAt rawPoints lawPoints lawShape)
set_option tactic.hygienic true in
theorem lookup_mem {y : Str} {k : NameKind} : ∀ {l : List (Str × NameKind)}, l.lookup y = some k -> (y, k) ∈ l
 | [], h => by cases h
 | (z, j) :: r, h => by
  rw [List.lookup_cons] at h
  split at h
  ·rename_i e
   cases h
   rw [eq_of_beq e]
   exact List.mem_cons_self
  ·exact List.mem_cons_of_mem _ (lookup_mem h)
set_option tactic.hygienic true in
theorem Caps.one {X : Cx} {scope : Scope} {x : Str} {c : Addr} {i : Nat} (clos : closureFor scope X.env = pure [(x, c)]) (hc : X.env.cells.lookup x = some c) (hN : X.N[i]? = some x) (hcell : X.env.scope.names.lookup x = some .cell)
  {names' : List (Str × NameKind)} (hrn : (relabel scope X.env).names = names') (hr : names'.lookup x = some .cell) (has : ∀ p ∈ names', p.2 = .cell \/ p.2 = .free -> p.1 = x) (kind : scope.kind = .function)
  (nocell : ∀ y ∈ scope.names, y.2 ≠ .cell) (names : ∀ y ∈ scope.names, y.2 = .local -> scope.names.lookup y.1 = some .local) (hself : (x == x) = true := by rfl) : Caps X scope [(x, c)] [(x, i)] where
 clos := clos
 sub := fun y d h => by
  rw [List.lookup_cons] at h
  split at h
  ·rename_i e
   cases h
   rw [eq_of_beq e]
   exact hc
  ·cases h
 cap := fun p hp => by
  rw [List.mem_singleton] at hp
  subst hp
  refine ⟨hN, hcell, by rw [hrn]; exact hr, c, ?_⟩
  show List.lookup x [(x, c)] = some c
  rw [List.lookup_cons, hself]
 has := fun y hy => by
  rw [hrn] at hy
  have e : y = x := by
   rcases hy with z | z
   ·exact has _ (lookup_mem z) (.inl rfl)
   ·exact has _ (lookup_mem z) (.inr rfl)
  subst e
  refine ⟨c, ?_⟩
  rw [List.lookup_cons, hself]
 kind := kind
 nocell := nocell
 names := names
noncomputable abbrev sPoints : Stmt := top 57
noncomputable abbrev sShape : Stmt := top 58
inductive spPoints (K : PySem.W.Frag) (g : List Int -> Int -> Int -> List Pt) (vs : List V) (H : Hp) (Q : VK) (u3 : XK) : Prop
 | mk (a : _) (ns : _) (i : _) (m : _) (c0 : vs = [.ref a, .int i, .int m]) (c1 : SqL K H a (ns.map V.int)) (c2 : 0 <= i) (c3 : 0 < m) (c4 : m <= 40) (c5 : ∀ r H', Same H H' -> H r = none -> Pts H' r (g ns i m) -> Q (.ref r) H') : spPoints K g vs H Q u3
theorem nodupPL : ((["point"] : List Str) ++ ([("lean", 8)] : List (Str × Nat)).map (·.1)).Nodup := by decide +kernel
theorem span_at (cell : Int) : atI ([3, 1, 8, 1000].map V.int) (cell / 16 % 4) = some (V.int (spanAt cell)) := by
 unfold spanAt
 have h1 : 0 <= cell / 16 % 4 := Int.emod_nonneg _ (by decide)
 have h2 : cell / 16 % 4 < 4 := Int.emod_lt_of_pos _ (by decide)
 generalize cell / 16 % 4 = t at h1 h2 ⊢
 have h3 : t = 0 \/ t = 1 \/ t = 2 \/ t = 3 := by lia
 rcases h3 with rfl | rfl | rfl | rfl <;> rfl
section
variable {P : Program} {w : World} {K : PySem.W.Frag} {mg : Str -> Option Value} {base : Heap}
theorem scPo : FnScope ["script", "at", "most", "cell", "span", "points", "k", "seed", "lean"] ["script", "at", "most"] (defScope sPoints) := ⟨rfl, rfl, rfl, by decide +kernel, rfl, by decide +kernel, by decide +kernel⟩
theorem ok_points {f f1 f2 : Addr} {fd fd1 fd2 : FuncData} (F : Fun K "_law_points" "_law_points" sPoints f fd)
  (G1 : FnOk P w K mg base CX0 1 f1 fd1 ["script", "k"] (spCell K)) (k1 : PySem.W.keepIn K (.ref f1) = true) (b1 : Binds K fd1 ["script", "k"] []) (m1 : mg "_law_cell_at" = some (.ref f1))
  (G2 : FnOk P w K mg base CX0 1 f2 fd2 ["seed"] spStir) (k2 : PySem.W.keepIn K (.ref f2) = true) (b2 : Binds K fd2 ["seed"] []) (m2 : mg "_law_stir" = some (.ref f2))
  (mr : mg "range" = none) : FnOk P w K mg base CX0 2 f fd ["script", "at", "most"] (spPoints K lawPoints) := by
 refine F.ok scPo (fun vs H Q E h => ?_) (fun cdv A outer s H vs Q E hr h => ?_)
 ·obtain ⟨a, ns, i, m, rfl, _⟩ := h
  rfl
 ·obtain ⟨a, ns, i0, m, rfl, hS, hi0, hm0, hm1, k⟩ := h
  refine ⟨_, pss_cons (ps_set (i := 3) scPo.nd rfl (Or.inl rfl) (pe_call G1 hr rfl m1 k1 b1 .nil pass0 (pa_cons (pv 0) (pa_cons (pv 1) pa_nil))))
   (pss_cons (ps_set (i := 4) scPo.nd rfl (Or.inl rfl) (pe_ix ix_list (pe_lst (pa_cons pe_int (pa_cons pe_int (pa_cons pe_int (pa_cons pe_int pa_nil))))) (pe_op op_mod (pe_op op_fdiv (pv 3) pe_int) pe_int) (fun _ _ => rfl)))
   (pss_cons (ps_set (i := 5) scPo.nd rfl (Or.inl rfl) (pe_lst pa_nil))
   (pss_cons (ps_for PassesOwn.never rfl (pi_range1 rfl mr (pa_cons (pe_op op_add pe_int (pe_op op_mod (pv 3) (pv 2))) pa_nil)) (pg_name (i := 6) scPo.nd rfl (Or.inl rfl))
    (pss_cons (ps_set (i := 7) scPo.nd rfl (Or.inl rfl) (pe_call G2 hr rfl m2 k2 b2 .nil pass0 (pa_cons
      (pe_op op_add (pe_call G1 hr rfl m1 k1 b1 .nil pass0 (pa_cons (pv 0) (pa_cons (pe_op op_add (pe_op op_add (pv 1) pe_int) (pe_op op_mod (pv 6) pe_int)) pa_nil))) (pe_op op_mul pe_int (pv 6))) pa_nil)))
    (pss_one (ps_expr (pe_bm PySem.F.plainAttrs_list PySem.F.slot_list_append PySem.F.type_list_append mt_append (pv 5) (pa_cons (pe_tup (pa_cons
      (pe_op op_sub (pe_op op_mod (pe_op op_fdiv (pv 7) pe_int) (pe_op op_add (pe_op op_mul pe_int (pv 4)) pe_int)) (pv 4))
      (pa_cons (pe_op op_sub (pe_op op_mod (pe_op op_fdiv (pe_op op_fdiv (pv 7) pe_int) (pe_op op_add (pe_op op_mul pe_int (pv 4)) pe_int)) (pe_op op_add (pe_op op_mul pe_int (pv 4)) pe_int)) (pv 4)) pa_nil))) pa_nil))))))
   (pss_cons (ps_if (pt_cmpR op_eq (pe_op op_mod (pe_op op_fdiv (pv 3) pe_int) pe_int) pe_int (nomark _))
    (pss_cons (ps_set (i := 8) scPo.nd rfl (Or.inr rfl) (pe_op op_sub (pe_op op_mod (pe_op op_fdiv (pv 3) pe_int) pe_int) pe_int))
    (pss_one (ps_lc (j := 5) (tn := ["point"]) (cs := [("lean", 8)]) (g := gName 0) (tt := tYes) (te := tTup (tCons (tOp (rIxT K) (tVar 0) (tC (.int 0))) (tCons (tOp (rI CMul fun i j => .int (i * j)) (tVar 1) (tOp (rIxT K) (tVar 0) (tC (.int 0)))) tNil)))
     (Caps.one (names' := [(".0", .local), ("point", .local), ("lean", .cell)]) rfl rfl rfl rfl rfl rfl (by decide +kernel) rfl (by decide +kernel) (by decide +kernel)) rfl
     (pi_list (pv 5))
     (fun C s₀ H₀ fp xe => pg_name (i := 0) nodupPL rfl (Or.inl rfl) (.inr rfl))
     (fun C s₀ H₀ fp xe => pts_nil)
     (fun C s₀ H₀ fp xe => pe_tup (pa_cons (pe_ix ix_tup (pv 0) pe_int (fun _ _ => rfl)) (pa_cons (pe_op op_mul (pv 1) (pe_ix ix_tup (pv 0) pe_int (fun _ _ => rfl))) pa_nil))) scPo.nd rfl rfl rfl))) pss_nil)
   (pss_one (ps_ret (pv 5))))))), ?_⟩
  have hsp := RS.span_cases (cellAt ns i0)
  refine ⟨_, rfl, _, rfl, a, ns, i0, rfl, hS, hi0, ?_⟩
  refine ⟨by show 4 <= sizeLine; decide, fun L nL => ?_⟩
  refine ⟨_, rfl, _, _, rfl, rfl, ⟨by decide, by decide⟩, _, _, rfl, rfl, (by show (0 : Int) < 4; decide), L, _, _, _, rfl, rfl, SqL.of upd_same, span_at (cellAt ns i0), ?_⟩
  refine ⟨Nat.zero_le _, fun D nD => ?_⟩
  have sL : Same H (upd H L (.lst [.int 3, .int 1, .int 8, .int 1000])) := same_upd nL
  generalize hHL : upd H L (.lst [.int 3, .int 1, .int 8, .int 1000]) = HL at sL nD ⊢
  have hSL : SqL K HL a (ns.map V.int) := Same.seq sL hS
  obtain ⟨rl1, rl2, rl3⟩ := RS.raw_len ns i0 m hm0
  refine ⟨_, rfl, _, rfl, _, _, rfl, rfl, hm0, _, _, rfl, rfl, _, rfl, by lia, by lia, ?_⟩
  refine for_range (fun i σ H' => (∃ u v, σ = [some (.ref a), some (.int i0), some (.int m), some (.int (cellAt ns i0)), some (.int (spanAt (cellAt ns i0))), some (.ref D), u, v, none]) /\ Same HL H' /\ Pts H' D ((rawPoints ns i0 m).take i)) ⟨⟨none, none, rfl⟩, same_upd nD, [], upd_same, .nil⟩ ?_ ?_
  ·rintro i σ H' hi ⟨⟨u, v, rfl⟩, sm, pt⟩
   rw [Int.zero_add]
   refine g_go ?_
   have hk3 := Int.emod_nonneg (i : Int) (show (3 : Int) ≠ 0 by decide)
   refine ⟨_, rfl, _, rfl, _, _, rfl, rfl, _, rfl, _, _, rfl, rfl, (by show (0 : Int) < 3; decide), _, _, rfl, rfl, a, ns, _, rfl, Same.seq sm hSL, by lia, ?_⟩
   refine ⟨_, rfl, _, _, rfl, rfl, .inl ⟨by decide, by decide⟩, _, _, rfl, rfl, _, rfl, ?_⟩
   obtain ⟨ds, d1, d2⟩ := id pt
   have hpos : 0 < 2 * spanAt (cellAt ns i0) + 1 := by lia
   have hsm : 2 * spanAt (cellAt ns i0) + 1 < 1073741824 := by lia
   refine ⟨_, rfl, .inl ⟨rfl, _, SqL.of d1⟩, ?_⟩
   refine ⟨_, rfl, _, _, rfl, rfl, ⟨by decide, by decide⟩, _, rfl, _, _, rfl, rfl, .inl ⟨by decide, by decide⟩, _, _, rfl, rfl, _, _, rfl, rfl, hpos, _, rfl, _, _, rfl, rfl, ?_⟩
   refine ⟨_, rfl, _, _, rfl, rfl, ⟨by decide, by decide⟩, _, rfl, _, _, rfl, rfl, .inl ⟨by decide, by decide⟩, _, _, rfl, rfl, _, _, rfl, rfl, ⟨hpos, hsm⟩, ?_⟩
   refine ⟨_, rfl, _, _, rfl, rfl, .inl ⟨by decide, by decide⟩, _, _, rfl, rfl, _, _, rfl, rfl, hpos, _, rfl, _, _, rfl, rfl, ?_⟩
   refine ⟨by show 2 <= sizeLine; decide, fun t nt => ?_⟩
   have hir : i < (rawPoints ns i0 m).length := by rw [rl1]; exact hi
   have er : (rawPoints ns i0 m)[i]? = some (pointAt ns i0 (spanAt (cellAt ns i0)) i) := by
    unfold rawPoints
    rw [List.getElem?_map, List.getElem?_range hi]
    rfl
   have dl : ds.length <= 100 := by rw [Paired.length d2, List.length_take]; lia
   have nt' := nt
   refine ⟨D, _, _, rfl, rfl, (same_upd nt) _ _ d1, size100 (by rw [List.length_map]; lia), ⟨_, _, rfl⟩, ?_⟩
   obtain ⟨ys, y1, y2, y3, y4⟩ := pts_push (r := t) (v := pointAt ns i0 (spanAt (cellAt ns i0)) i) nD (sm.trans (same_upd nt)) (Pts.same (same_upd nt) pt) upd_same (by rw [List.length_take]; exact size100 (by lia))
   have y1' := (same_upd (o := .tup [.int (pointAt ns i0 (spanAt (cellAt ns i0)) i).1, .int (pointAt ns i0 (spanAt (cellAt ns i0)) i).2]) nt) _ _ d1
   rw [y1'] at y1
   cases y1
   rw [take_next er]
   exact ⟨y3, y4⟩
  ·rintro σ H' ⟨⟨u, v, rfl⟩, sm, pt⟩
   have en : (1 + cellAt ns i0 % m).toNat = (rawPoints ns i0 m).length := rl1.symm
   rw [en, List.take_of_length_le (Nat.le_refl _)] at pt
   refine ⟨_, rfl, _, _, rfl, rfl, ⟨by decide, by decide⟩, _, _, rfl, rfl, (by show (0 : Int) < 5; decide), rfl, _, rfl, ?_⟩
   unfold lawPoints at k
   have s1 := sL.trans sm
   refine ite2 (fun c => ?_) (fun c => ?_)
   ·have c' : cellAt ns i0 / 64 % 5 = 1 := by
     have := of_decide_eq_true c
     injection this
    rw [if_pos c'] at k
    refine ⟨_, rfl, _, _, rfl, rfl, ⟨by decide, by decide⟩, _, _, rfl, rfl, (by show (0 : Int) < 5; decide), _, _, rfl, rfl, ?_⟩
    obtain ⟨ds, d1, d2⟩ := id pt
    have dlen : ds.length = (rawPoints ns i0 m).length := Paired.length d2
    refine ⟨_, rfl, D, rfl, ⟨_, SqL.of d1⟩, fun D2 n2 => ?_⟩
    have l1 := Int.emod_nonneg (cellAt ns i0 / 320) (show (5 : Int) ≠ 0 by decide)
    have l2 := Int.emod_lt_of_pos (cellAt ns i0 / 320) (show (0 : Int) < 5 by decide)
    refine lc_list (K := K) (a := D) (D := D2) (xs := ds.map V.ref) (fun i σ H2 => (∃ u, σ = [u, some (.int (cellAt ns i0 / 320 % 5 - 2))]) /\ Same H' H2 /\ Pts H2 D2 (((rawPoints ns i0 m).map (fun p => (p.1, (cellAt ns i0 / 320 % 5 - 2) * p.1))).take i)) ⟨⟨none, rfl⟩, same_upd n2, [], upd_same, .nil⟩
     (fun i σ H2 _ ⟨_, sm2, _⟩ => SqL.of (sm2 _ _ d1)) ?_ ?_
    ·rintro i x σ H2 ex ⟨⟨u', rfl⟩, sm2, pt2⟩
     obtain ⟨b, eb, rfl⟩ := map_ref ex
     obtain ⟨p, ep, tp⟩ := paired_get d2 i b eb
     have hi : i < (rawPoints ns i0 m).length := (List.getElem?_eq_some_iff.mp ep).1
     refine g_go ?_
     refine yes_go ?_
     have ta := SqT.of (K := K) (sm2 _ _ tp)
     refine ⟨_, rfl, b, _, _, _, rfl, rfl, ta, rfl, _, rfl, _, rfl, b, _, _, _, rfl, rfl, ta, rfl, _, _, rfl, rfl, .inl ⟨by lia, by lia⟩, by show 2 <= sizeLine; decide, fun t nt => ?_⟩
     have er : ((rawPoints ns i0 m).map (fun p => (p.1, (cellAt ns i0 / 320 % 5 - 2) * p.1)))[i]? = some (p.1, (cellAt ns i0 / 320 % 5 - 2) * p.1) := by rw [List.getElem?_map, ep]; rfl
     obtain ⟨ys, y1, y2, y3, y4⟩ := pts_push (r := t) (v := (p.1, (cellAt ns i0 / 320 % 5 - 2) * p.1)) n2 (sm2.trans (same_upd nt)) (Pts.same (same_upd nt) pt2) upd_same (by rw [List.length_take]; exact size100 (by lia))
     exact ⟨ys, y1, y2, ⟨_, rfl⟩, y3, by rw [take_next er]; exact y4⟩
    ·rintro σ H2 ⟨_, sm2, pt2⟩
     rw [List.length_map, dlen, List.take_of_length_le (by rw [List.length_map]; exact Nat.le_refl _)] at pt2
     exact ⟨_, rfl, k D2 H2 (s1.trans sm2) (s1.free n2) pt2⟩
   ·have c' : ¬ cellAt ns i0 / 64 % 5 = 1 := fun z => c (decide_eq_true (congrArg V.int z))
    rw [if_neg c'] at k
    exact ⟨_, rfl, k D H' s1 (sL.free nD) pt⟩
theorem scSh : FnScope ["script", "at", "most"] ["script", "at", "most"] (defScope sShape) := ⟨rfl, rfl, rfl, by decide +kernel, rfl, by decide +kernel, by decide +kernel⟩
theorem ok_shape {f f1 f2 : Addr} {fd fd1 fd2 : FuncData} (F : Fun K "_law_shape" "_law_shape" sShape f fd)
  (G1 : FnOk P w K mg base CX0 2 f1 fd1 ["script", "at", "most"] (spPoints K lawPoints)) (k1 : PySem.W.keepIn K (.ref f1) = true) (b1 : Binds K fd1 ["script", "at", "most"] []) (m1 : mg "_law_points" = some (.ref f1))
  (G2 : FnOk P w K mg base CX0 3 f2 fd2 ["points"] (spPtsN 60 (2 ^ 60) hull)) (k2 : PySem.W.keepIn K (.ref f2) = true) (b2 : Binds K fd2 ["points"] []) (m2 : mg "_law_hull" = some (.ref f2)) :
  FnOk P w K mg base CX0 4 f fd ["script", "at", "most"] (spPoints K lawShape) := by
 refine F.ok scSh (fun vs H Q E h => ?_) (fun cdv A outer s H vs Q E hr h => ?_)
 ·obtain ⟨a, ns, i, m, rfl, _⟩ := h
  rfl
 ·obtain ⟨a, ns, i0, m, rfl, hS, hi0, hm0, hm1, k⟩ := h
  refine ⟨_, pss_one (ps_ret (pe_call G2 hr rfl m2 k2 b2 .nil pass0 (pa_cons (pe_call G1 (hr.mono (by decide)) rfl m1 k1 b1 .nil pass0 (pa_cons (pv 0) (pa_cons (pv 1) (pa_cons (pv 2) pa_nil)))) pa_nil))), ?_⟩
  refine ⟨_, rfl, _, rfl, _, rfl, a, ns, i0, m, rfl, hS, hi0, hm0, hm1, fun r1 H1 s1 n1 p1 => ?_⟩
  obtain ⟨l1, l2⟩ := RS.law_len ns i0 m hm0
  refine ⟨r1, _, rfl, p1, l2, by lia, fun p hp => ?_, fun r H' s2 n2 p2 => k r H' (s1.trans s2) (s1.free n2) p2⟩
  have := RS.law_bd ns i0 m p hp
  unfold Bd
  lia
end
end K1
namespace K1
open PySem L2
open RS (Pt arrow cross fstHalf before round isShape lawSides dot holdsM)
noncomputable abbrev sProduct : Stmt := top 4
noncomputable abbrev sRefuse : Stmt := top 23
noncomputable abbrev sSidesP : Stmt := top 24
noncomputable abbrev sHolds : Stmt := top 28
theorem bd_sides' {ps : List Pt} (h : ∀ p ∈ ps, Bd (2 ^ 60) p) : ∀ a ∈ lawSides ps, Bd (2 ^ 62) a := fun a ha => by
 unfold lawSides at ha
 split at ha
 ·cases ha
 ·exact bd_round h a ha
theorem ref_get' {as : List Addr} {i : Nat} {a : Addr} (h : as[i]? = some a) : (as.map V.ref)[i]? = some (V.ref a) := by
 rw [List.getElem?_map, h]
 rfl
theorem atI_i' {xs : List V} {x : V} {i : Int} {j : Nat} (hi : i = (j : Int)) (h : xs[j]? = some x) : atI xs i = some x := by
 rw [hi]
 exact atI_nat h
inductive spRef (vs : List V) (H : Hp) (Q : VK) (u3 : XK) : Prop
 | mk (l : _) (ps : _) (c0 : vs = [.ref l]) (c1 : Pts H l ps) (c2 : ps.length <= 100) (c3 : (∀ p ∈ ps, Bd (2 ^ 60) p)) (c4 : isShape ps = true) (c5 : ∀ H', Same H H' -> Q .non H') : spRef  vs H Q u3
inductive spSidesP (vs : List V) (H : Hp) (Q : VK) (u3 : XK) : Prop
 | mk (l : _) (ps : _) (c0 : vs = [.ref l]) (c1 : Pts H l ps) (c2 : ps.length <= 100) (c3 : (∀ p ∈ ps, Bd (2 ^ 60) p)) (c4 : isShape ps = true) (c5 : ∀ r H', Same H H' -> H r = none -> Pts H' r (lawSides ps) -> Q (.ref r) H') : spSidesP  vs H Q u3
inductive spHolds (vs : List V) (H : Hp) (Q : VK) (u3 : XK) : Prop
 | mk (l : _) (a : _) (ps : _) (p : _) (c0 : vs = [.ref l, .ref a]) (c1 : Pts H l ps) (c2 : Tp H a p) (c3 : ps.length <= 100) (c4 : (∀ p ∈ ps, Bd (2 ^ 60) p)) (c5 : Bd (2 ^ 60) p) (c6 : isShape ps = true) (c7 : ∀ H', Same H H' -> Q (.bl (holdsM ps p)) H') : spHolds  vs H Q u3
section
variable {P : Program} {w : World} {K : PySem.W.Frag} {mg : Str -> Option Value} {base : Heap}
theorem scPr : FnScope ["one", "other"] ["one", "other"] (defScope sProduct) := ⟨rfl, rfl, rfl, by decide +kernel, rfl, by decide +kernel, by decide +kernel⟩
theorem ok_product {f : Addr} {fd : FuncData} (F : Fun K "product" "product" sProduct f fd) : FnOk P w K mg base CX0 1 f fd ["one", "other"] (spInt2 (2 ^ 62) dot) := by
 refine F.ok scPr (fun vs H Q E h => ?_) (fun cdv A outer s H vs Q E hr h => ?_)
 ·obtain ⟨a, b, p, q, rfl, _⟩ := h
  rfl
 ·obtain ⟨a, b, p, q, rfl, ha, hb, ⟨b1, b2, b3, b4⟩, k⟩ := h
  refine ⟨_, pss_one (ps_ret (pe_op op_add (pe_op op_mul (pe_ix ix_tup (pv 0) pe_int (fun _ _ => rfl)) (pe_ix ix_tup (pv 1) pe_int (fun _ _ => rfl)))
   (pe_op op_mul (pe_ix ix_tup (pv 0) pe_int (fun _ _ => rfl)) (pe_ix ix_tup (pv 1) pe_int (fun _ _ => rfl))))), ?_⟩
  refine ⟨_, rfl, a, _, _, _, rfl, rfl, SqT.of ha, rfl, ?_⟩
  refine ⟨_, rfl, b, _, _, _, rfl, rfl, SqT.of hb, rfl, _, _, rfl, rfl, .inl ⟨by omega, by omega⟩, ?_⟩
  refine ⟨_, rfl, a, _, _, _, rfl, rfl, SqT.of ha, rfl, ?_⟩
  refine ⟨_, rfl, b, _, _, _, rfl, rfl, SqT.of hb, rfl, _, _, rfl, rfl, .inl ⟨by omega, by omega⟩, ?_⟩
  exact ⟨_, _, rfl, rfl, k⟩
theorem scRe : FnScope ["corners"] ["corners"] (defScope sRefuse) := ⟨rfl, rfl, rfl, by decide +kernel, rfl, by decide +kernel, by decide +kernel⟩
theorem ok_refuse {f f1 : Addr} {fd fd1 : FuncData} (F : Fun K "refuse_no_shape" "refuse_no_shape" sRefuse f fd)
  (G1 : FnOk P w K mg base CX0 3 f1 fd1 ["corners"] (spPtsBl (2 ^ 60) isShape)) (k1 : PySem.W.keepIn K (.ref f1) = true) (b1 : Binds K fd1 ["corners"] []) (m1 : mg "is_shape" = some (.ref f1)) : FnOk P w K mg base CX0 4 f fd ["corners"] spRef := by
 refine F.ok scRe (fun vs H Q E h => ?_) (fun cdv A outer s H vs Q E hr h => ?_)
 ·obtain ⟨l, ps, rfl, _⟩ := h
  rfl
 ·obtain ⟨l, ps, rfl, hl, hn, hB, hs, k⟩ := h
  refine ⟨_, pss_one (ps_if (pt_not (pt_val (pe_call G1 hr rfl m1 k1 b1 .nil pass0 (pa_cons (pv 0) pa_nil)))) pss_never pss_nil), ?_⟩
  refine ⟨_, rfl, l, ps, rfl, hl, hn, hB, fun H' s' => ⟨_, rfl, ?_⟩⟩
  rw [hs]
  exact iteF (k H' s')
theorem scSP : FnScope ["corners"] ["corners"] (defScope sSidesP) := ⟨rfl, rfl, rfl, by decide +kernel, rfl, by decide +kernel, by decide +kernel⟩
theorem ok_sidesP {f f1 f2 : Addr} {fd fd1 fd2 : FuncData} (F : Fun K "sides" "sides" sSidesP f fd)
  (G1 : FnOk P w K mg base CX0 4 f1 fd1 ["corners"] spRef) (k1 : PySem.W.keepIn K (.ref f1) = true) (b1 : Binds K fd1 ["corners"] []) (m1 : mg "refuse_no_shape" = some (.ref f1))
  (G2 : FnOk P w K mg base CX0 2 f2 fd2 ["corners"] (spPts1 (2 ^ 60) round)) (k2 : PySem.W.keepIn K (.ref f2) = true) (b2 : Binds K fd2 ["corners"] []) (m2 : mg "arrows_round" = some (.ref f2))
  (ml : mg "len" = none) : FnOk P w K mg base CX0 5 f fd ["corners"] spSidesP := by
 refine F.ok scSP (fun vs H Q E h => ?_) (fun cdv A outer s H vs Q E hr h => ?_)
 ·obtain ⟨l, ps, rfl, _⟩ := h
  rfl
 ·obtain ⟨l, ps, rfl, hl, hn, hB, hs, k⟩ := h
  refine ⟨_, pss_cons (ps_expr (pe_call G1 hr rfl m1 k1 b1 .nil pass0 (pa_cons (pv 0) pa_nil)))
   (pss_cons (ps_if (pt_cmpR op_eq (pe_callB call_len_seq rfl ml PySem.boot_len (pa_cons (pv 0) pa_nil)) pe_int (nomark _)) (pss_one (ps_ret (pe_lst pa_nil))) pss_nil)
   (pss_one (ps_ret (pe_call G2 (hr.mono (by decide)) rfl m2 k2 b2 .nil pass0 (pa_cons (pv 0) pa_nil))))), ?_⟩
  refine ⟨_, rfl, l, ps, rfl, hl, hn, hB, hs, fun H1 s1 => ?_⟩
  obtain ⟨as, h1, h2⟩ := id hl
  have hlen : as.length = ps.length := Paired.length h2
  have el : (as.map V.ref).length = ps.length := by rw [List.length_map, hlen]
  have h0 := RS.shape_pos hs
  refine ⟨_, rfl, l, _, rfl, .inl (SqL.of (s1 _ _ h1)), rfl, _, rfl, ?_⟩
  unfold lawSides at k
  refine ite2 (fun c => ?_) (fun c => ?_)
  ·have c' : ps.length = 1 := by
    have := of_decide_eq_true c
    injection this with this
    omega
   rw [if_pos (by omega)] at k
   exact ⟨Nat.zero_le _, fun D nD => k D _ (s1.trans (same_upd nD)) (s1.free nD) ⟨[], upd_same, .nil⟩⟩
  ·have c' : ¬ ps.length = 1 := fun z => c (decide_eq_true (by rw [el, z]; rfl))
   rw [if_neg (by omega)] at k
   exact ⟨_, rfl, l, ps, rfl, Pts.same s1 hl, hn, hB, fun r H2 s2 nr pr => k r H2 (s1.trans s2) (s1.free nr) pr⟩
theorem scHo : FnScope ["corners", "point", "arrows", "start", "arrow"] ["corners", "point"] (defScope sHolds) := ⟨rfl, rfl, rfl, by decide +kernel, rfl, by decide +kernel, by decide +kernel⟩
theorem ok_holds {f f1 f2 f3 f4 : Addr} {fd fd1 fd2 fd3 fd4 : FuncData} (F : Fun K "holds" "holds" sHolds f fd)
  (G1 : FnOk P w K mg base CX0 5 f1 fd1 ["corners"] spSidesP) (k1 : PySem.W.keepIn K (.ref f1) = true) (b1 : Binds K fd1 ["corners"] []) (m1 : mg "sides" = some (.ref f1))
  (G2 : FnOk P w K mg base CX0 1 f2 fd2 ["one", "other"] (spInt2 (2 ^ 62) cross)) (k2 : PySem.W.keepIn K (.ref f2) = true) (b2 : Binds K fd2 ["one", "other"] []) (m2 : mg "turn" = some (.ref f2))
  (G3 : FnOk P w K mg base CX0 1 f3 fd3 ["start", "end"] (spPt2 arrow)) (k3 : PySem.W.keepIn K (.ref f3) = true) (b3 : Binds K fd3 ["start", "end"] []) (m3 : mg "arrow_from" = some (.ref f3))
  (G4 : FnOk P w K mg base CX0 1 f4 fd4 ["one", "other"] (spInt2 (2 ^ 62) dot)) (k4 : PySem.W.keepIn K (.ref f4) = true) (b4 : Binds K fd4 ["one", "other"] []) (m4 : mg "product" = some (.ref f4))
  (ml : mg "len" = none) (mz : mg "zip" = none) : FnOk P w K mg base CX0 6 f fd ["corners", "point"] spHolds := by
 refine F.ok scHo (fun vs H Q E h => ?_) (fun cdv A outer s H vs Q E hr h => ?_)
 ·obtain ⟨l, a, ps, p, rfl, _⟩ := h
  rfl
 ·obtain ⟨l, a, ps, p, rfl, hl, ha, hn, hB, hpB, hs, k⟩ := h
  have hu := hu_of hr
  have hr1 := hr.mono (j := 1) (by decide)
  refine ⟨_, pss_cons (ps_set (i := 2) scHo.nd rfl (Or.inl rfl) (pe_call G1 hr rfl m1 k1 b1 .nil pass0 (pa_cons (pv 0) pa_nil)))
   (pss_cons (ps_if (pt_cmpR op_eq (pe_callB call_len_seq rfl ml PySem.boot_len (pa_cons (pv 0) pa_nil)) pe_int (nomark _)) (pss_one (ps_ret (pe_cmpR (op_eqPt hu) (pv 1) (pe_ix ix_list (pv 0) pe_int (fun _ _ => rfl)) (nomark _)))) pss_nil)
   (pss_cons (ps_for PassesOwn.never rfl (pi_zip rfl mz (pa_cons (pv 0) (pa_cons (pv 2) pa_nil))) (pg_tup (n := 2) rfl (pgs_cons (pg_name (i := 3) scHo.nd rfl (Or.inl rfl)) (pgs_cons (pg_name (i := 4) scHo.nd rfl (Or.inl rfl)) pgs_nil)))
    (pss_one (ps_if (pt_cmpR op_lt (pe_call G2 hr1 rfl m2 k2 b2 .nil pass0 (pa_cons (pv 4) (pa_cons (pe_call G3 hr1 rfl m3 k3 b3 .nil pass0 (pa_cons (pv 3) (pa_cons (pv 1) pa_nil))) pa_nil))) pe_int (nomark _)) (pss_one (ps_ret pe_bl)) pss_nil)))
   (pss_one (ps_ret (pe_or (pe_cmpR op_gt (pe_callB call_len_seq rfl ml PySem.boot_len (pa_cons (pv 0) pa_nil)) pe_int (nomark _))
    (pe_one (pe_cmpR op_le (pe_call G4 hr1 rfl m4 k4 b4 .nil pass0 (pa_cons (pe_call G3 hr1 rfl m3 k3 b3 .nil pass0 (pa_cons (pv 1) (pa_cons (pe_ix ix_list (pv 0) pe_int (fun _ _ => rfl)) pa_nil)))
     (pa_cons (pe_call G3 hr1 rfl m3 k3 b3 .nil pass0 (pa_cons (pv 1) (pa_cons (pe_ix ix_list (pv 0) pe_int (fun _ _ => rfl)) pa_nil))) pa_nil))) pe_int (nomark _)))))))), ?_⟩
  obtain ⟨as, h1, h2⟩ := id hl
  have hlen : as.length = ps.length := Paired.length h2
  have el : (as.map V.ref).length = ps.length := by rw [List.length_map, hlen]
  have h0 := RS.shape_pos hs
  refine ⟨_, rfl, l, ps, rfl, hl, hn, hB, hs, fun r H2 s2 nr pr => ?_⟩
  obtain ⟨rs, r1, r2⟩ := id pr
  have rlen : rs.length = (lawSides ps).length := Paired.length r2
  have sB := bd_sides' hB
  unfold holdsM at k
  refine ⟨_, rfl, l, _, rfl, .inl (SqL.of (s2 _ _ h1)), rfl, _, rfl, ?_⟩
  refine ite2 (fun c => ?_) (fun c => ?_)
  ·have c' : ps.length = 1 := by
    have := of_decide_eq_true c
    injection this with this
    omega
   rw [if_pos c'] at k
   obtain ⟨b, eb, tb⟩ := Ats.get h2 (List.getElem?_eq_getElem h0)
   have eh : ps.headD (0, 0) = ps[0] := by
    rw [List.headD_eq_head?_getD, List.head?_eq_getElem?, List.getElem?_eq_getElem h0]
    rfl
   rw [eh] at k
   exact ⟨_, rfl, _, rfl, l, _, _, _, rfl, rfl, SqL.of (s2 _ _ h1), atI_i' (j := 0) rfl (ref_get' eb), a, b, _, _, rfl, rfl, s2 _ _ ha, s2 _ _ tb, k _ s2⟩
  have c' : ¬ ps.length = 1 := fun z => c (decide_eq_true (by rw [el, z]; rfl))
  rw [if_neg c'] at k
  have esl : (lawSides ps).length = ps.length := by unfold lawSides; rw [if_neg (by omega), RS.round_length]
  refine ⟨_, rfl, _, rfl, l, r, rfl, ⟨_, SqL.of (s2 _ _ h1)⟩, ⟨_, SqL.of r1⟩, ?_⟩
  refine for_zip (K := K) (a := l) (b := r) (xs := as.map V.ref) (ys := rs.map V.ref) (fun i σ H' => (∃ u v, σ = [some (.ref l), some (.ref a), some (.ref r), u, v]) /\ Same H2 H' /\ ((List.zipWith (fun c a => decide (cross a (arrow c p) < 0)) ps (lawSides ps)).take i).any id = false) ⟨⟨_, _, rfl⟩, Same.refl _, rfl⟩
   (fun i σ H' ⟨_, sm, _⟩ => ⟨SqL.of (sm _ _ (s2 _ _ h1)), SqL.of (sm _ _ r1)⟩) ?_ ?_
  ·rintro i x y σ H' t ex ey ht ⟨⟨u, v, rfl⟩, sm, ok⟩
   obtain ⟨b, eb, rfl⟩ := map_ref ex
   obtain ⟨d, ed, rfl⟩ := map_ref ey
   obtain ⟨q, eq, tq⟩ := paired_get h2 i b eb
   obtain ⟨e, ee, te⟩ := paired_get r2 i d ed
   have st := sm.trans (same_upd (o := .tup [.ref b, .ref d]) ht)
   refine ⟨t, _, rfl, SqT.of upd_same, rfl, _, _, rfl, _, _, rfl, rfl, ?_⟩
   refine ⟨_, rfl, _, rfl, _, rfl, b, a, q, p, rfl, st _ _ (s2 _ _ tq), st _ _ (s2 _ _ ha), fun r3 H3 s3 t3 => ?_⟩
   refine ⟨d, r3, e, arrow q p, rfl, s3 _ _ (st _ _ te), t3, sB e (List.mem_of_getElem? ee), _, _, rfl, rfl, _, rfl, ?_⟩
   have ez : (List.zipWith (fun c a => decide (cross a (arrow c p) < 0)) ps (lawSides ps))[i]? = some (decide (cross e (arrow q p) < 0)) := by rw [List.getElem?_zipWith, eq, ee]
   refine ite2 (fun d1 => ?_) (fun d1 => ?_)
   ·have : (List.zipWith (fun c a => decide (cross a (arrow c p) < 0)) ps (lawSides ps)).any id = true := List.any_eq_true.mpr ⟨true, by rw [<- d1]; exact List.mem_of_getElem? ez, rfl⟩
    rw [if_pos this] at k
    exact k _ (s2.trans (st.trans s3))
   ·refine ⟨⟨_, _, rfl⟩, st.trans s3, ?_⟩
    rw [take_next ez, List.any_append, ok, Bool.eq_false_iff.mpr d1]
    rfl
  ·rintro i σ H' hi hi1 hi2 ⟨⟨u, v, rfl⟩, sm, ok⟩
   rw [List.take_of_length_le (by rw [List.length_zipWith]; rw [List.length_map] at hi hi1 hi2; rw [List.length_map] at hi; omega)] at ok
   rw [if_neg (by rw [ok]; decide)] at k
   have sH := s2.trans sm
   refine ⟨_, rfl, l, _, rfl, .inl (SqL.of (sH _ _ h1)), _, _, rfl, rfl, _, rfl, ?_⟩
   refine ite2 (fun d1 => ?_) (fun d1 => ?_)
   ·have d1' : 2 < ps.length := by have := of_decide_eq_true d1; omega
    rw [decide_eq_true d1', Bool.true_or] at k
    exact k _ sH
   ·have d1' : ¬ 2 < ps.length := fun z => d1 (decide_eq_true (by omega))
    rw [decide_eq_false d1', Bool.false_or] at k
    have g1 : 1 < ps.length := by omega
    obtain ⟨b, eb, tb⟩ := Ats.get h2 (List.getElem?_eq_getElem h0)
    obtain ⟨d, ed, td⟩ := Ats.get h2 (List.getElem?_eq_getElem g1)
    have q0 : ps.getD 0 (0, 0) = ps[0] := by simp [h0]
    have q1 : ps.getD 1 (0, 0) = ps[1] := by simp [g1]
    rw [q0, q1] at k
    refine ⟨_, rfl, _, rfl, l, _, _, _, rfl, rfl, SqL.of (sH _ _ h1), atI_i' (j := 0) rfl (ref_get' eb), a, b, p, _, rfl, sH _ _ ha, sH _ _ tb, fun r3 H3 s3 t3 => ?_⟩
    refine ⟨_, rfl, _, rfl, l, _, _, _, rfl, rfl, SqL.of (s3 _ _ (sH _ _ h1)), atI_i' (j := 1) rfl (ref_get' ed), a, d, p, _, rfl, s3 _ _ (sH _ _ ha), s3 _ _ (sH _ _ td), fun r4 H4 s4 t4 => ?_⟩
    refine ⟨r3, r4, _, _, rfl, s4 _ _ t3, t4, bd_arrow hpB (hB _ (List.getElem_mem _)), _, _, rfl, rfl, ?_⟩
    exact k _ (sH.trans (s3.trans s4))
end
end K1
namespace K1
open PySem L2
open RS (Pt arrow cross before round isShape lawSides dot moved stretched sameWay mergeM joinStep joinM alongStep along togetherM greaterM)
noncomputable abbrev sMoved : Stmt := top 2
noncomputable abbrev sStretched : Stmt := top 3
noncomputable abbrev sSameWay : Stmt := top 8
noncomputable abbrev sAlong : Stmt := top 11
noncomputable abbrev sAllIn : Stmt := top 32
noncomputable abbrev sMadeOne : Stmt := top 33
noncomputable abbrev sTogether : Stmt := top 34
inductive spStretched (vs : List V) (H : Hp) (Q : VK) (u3 : XK) : Prop
 | mk (a : _) (p : _) (t : _) (c0 : vs = [.ref a, .int t]) (c1 : Tp H a p) (c2 : 0 <= t) (c3 : t <= 1000000) (c4 : ∀ r H', Same H H' -> Tp H' r (stretched t p) -> Q (.ref r) H') : spStretched  vs H Q u3
inductive spAlong (vs : List V) (H : Hp) (Q : VK) (u3 : XK) : Prop
 | mk (a : _) (l : _) (p : _) (ps : _) (c0 : vs = [.ref a, .ref l]) (c1 : Tp H a p) (c2 : Pts H l ps) (c3 : ps.length <= 200) (c4 : ∀ r H', Same H H' -> H r = none -> Pts H' r (along p ps) -> Q (.ref r) H') : spAlong  vs H Q u3
inductive spMerge (vs : List V) (H : Hp) (Q : VK) (u3 : XK) : Prop
 | mk (l : _) (b : _) (ps : _) (qs : _) (c0 : vs = [.ref l, .ref b]) (c1 : Pts H l ps) (c2 : Pts H b qs) (c3 : ps.length <= 100) (c4 : qs.length <= 100) (c5 : (∀ q ∈ qs, Bd (2 ^ 62) q)) (c6 : ∀ r H', Same H H' -> H r = none -> Pts H' r (mergeM ps qs) -> Q (.ref r) H') : spMerge  vs H Q u3
inductive spJoin (vs : List V) (H : Hp) (Q : VK) (u3 : XK) : Prop
 | mk (l : _) (ps : _) (c0 : vs = [.ref l]) (c1 : Pts H l ps) (c2 : ps.length <= 200) (c3 : (∀ p ∈ ps, Bd (2 ^ 40) p)) (c4 : ∀ r H', Same H H' -> H r = none -> Pts H' r (joinM ps) -> Q (.ref r) H') : spJoin  vs H Q u3
inductive spTogether (vs : List V) (H : Hp) (Q : VK) (u3 : XK) : Prop
 | mk (l : _) (b : _) (ps : _) (qs : _) (c0 : vs = [.ref l, .ref b]) (c1 : Pts H l ps) (c2 : Pts H b qs) (c3 : ps.length <= 100) (c4 : qs.length <= 100) (c5 : (∀ p ∈ ps, Bd (2 ^ 38) p)) (c6 : (∀ q ∈ qs, Bd (2 ^ 38) q)) (c7 : isShape ps = true) (c8 : isShape qs = true) (c9 : ∀ r H', Same H H' -> H r = none -> Pts H' r (togetherM ps qs) -> Q (.ref r) H') : spTogether  vs H Q u3
theorem Bd.wide' {m n : Int} {p : Pt} (h : Bd m p) (hn : m <= n) : Bd n p := by
 unfold Bd at h ⊢
 lia
theorem last_get {H : Hp} {ds : List Addr} {c : Pt} {r : List Pt} (h : Ats H ds (c :: r).reverse) : ∃ es y, ds = es ++ [y] /\ Tp H y c /\ Ats H es r.reverse := by
 rw [List.reverse_cons] at h
 have hl : ds.length = r.reverse.length + 1 := by rw [Paired.length h]; simp
 have t := Ats.drop r.reverse.length h
 rw [List.drop_left] at t
 have t2 := Ats.take r.reverse.length h
 rw [List.take_left] at t2
 have ed : ds = ds.take r.reverse.length ++ ds.drop r.reverse.length := (List.take_append_drop _ _).symm
 generalize hds : ds.drop r.reverse.length = us at t ed
 cases t with
 | cons t1 t => cases t; exact ⟨_, _, ed, t1, t2⟩
theorem atI_end {es : List Addr} {y : Addr} : atI ((es ++ [y]).map V.ref) (-1) = some (V.ref y) := by
 rw [List.map_append]
 exact atI_last _ _
section
variable {P : Program} {w : World} {K : PySem.W.Frag} {mg : Str -> Option Value} {base : Heap}
theorem scMo : FnScope ["point", "arrow"] ["point", "arrow"] (defScope sMoved) := ⟨rfl, rfl, rfl, by decide +kernel, rfl, by decide +kernel, by decide +kernel⟩
theorem ok_moved {f : Addr} {fd : FuncData} (F : Fun K "moved" "moved" sMoved f fd) : FnOk P w K mg base CX0 1 f fd ["point", "arrow"] (spPt2 moved) := by
 refine F.ok scMo (fun vs H Q E h => ?_) (fun cdv A outer s H vs Q E hr h => ?_)
 ·obtain ⟨a, b, p, q, rfl, _⟩ := h
  rfl
 ·obtain ⟨a, b, p, q, rfl, ha, hb, k⟩ := h
  refine ⟨_, pss_one (ps_ret (pe_tup (pa_cons (pe_op op_add (pe_ix ix_tup (pv 0) pe_int (fun _ _ => rfl)) (pe_ix ix_tup (pv 1) pe_int (fun _ _ => rfl)))
   (pa_cons (pe_op op_add (pe_ix ix_tup (pv 0) pe_int (fun _ _ => rfl)) (pe_ix ix_tup (pv 1) pe_int (fun _ _ => rfl))) pa_nil)))), ?_⟩
  refine ⟨_, rfl, a, _, _, _, rfl, rfl, SqT.of ha, rfl, _, rfl, b, _, _, _, rfl, rfl, SqT.of hb, rfl, _, _, rfl, rfl, ?_⟩
  refine ⟨_, rfl, a, _, _, _, rfl, rfl, SqT.of ha, rfl, _, rfl, b, _, _, _, rfl, rfl, SqT.of hb, rfl, _, _, rfl, rfl, ?_⟩
  exact ⟨by show 2 <= sizeLine; decide, fun r hn => k r _ (same_upd hn) upd_same⟩
theorem scSt : FnScope ["arrow", "times"] ["arrow", "times"] (defScope sStretched) := ⟨rfl, rfl, rfl, by decide +kernel, rfl, by decide +kernel, by decide +kernel⟩
theorem ok_stretched {f : Addr} {fd : FuncData} (F : Fun K "stretched" "stretched" sStretched f fd) : FnOk P w K mg base CX0 1 f fd ["arrow", "times"] spStretched := by
 refine F.ok scSt (fun vs H Q E h => ?_) (fun cdv A outer s H vs Q E hr h => ?_)
 ·obtain ⟨a, p, t, rfl, _⟩ := h
  rfl
 ·obtain ⟨a, p, t, rfl, ha, h0, h1, k⟩ := h
  refine ⟨_, pss_one (ps_ret (pe_tup (pa_cons (pe_op op_mul (pe_ix ix_tup (pv 0) pe_int (fun _ _ => rfl)) (pv 1)) (pa_cons (pe_op op_mul (pe_ix ix_tup (pv 0) pe_int (fun _ _ => rfl)) (pv 1)) pa_nil)))), ?_⟩
  refine ⟨_, rfl, a, _, _, _, rfl, rfl, SqT.of ha, rfl, _, rfl, _, _, rfl, rfl, .inr ⟨by lia, by omega⟩, ?_⟩
  refine ⟨_, rfl, a, _, _, _, rfl, rfl, SqT.of ha, rfl, _, rfl, _, _, rfl, rfl, .inr ⟨by omega, by omega⟩, ?_⟩
  exact ⟨by show 2 <= sizeLine; decide, fun r hn => k r _ (same_upd hn) upd_same⟩
theorem scSW : FnScope ["one", "other"] ["one", "other"] (defScope sSameWay) := ⟨rfl, rfl, rfl, by decide +kernel, rfl, by decide +kernel, by decide +kernel⟩
theorem ok_same {f f1 f2 : Addr} {fd fd1 fd2 : FuncData} (F : Fun K "same_way" "same_way" sSameWay f fd)
  (G1 : FnOk P w K mg base CX0 1 f1 fd1 ["one", "other"] (spInt2 (2 ^ 62) cross)) (k1 : PySem.W.keepIn K (.ref f1) = true) (b1 : Binds K fd1 ["one", "other"] []) (m1 : mg "turn" = some (.ref f1))
  (G2 : FnOk P w K mg base CX0 1 f2 fd2 ["one", "other"] (spInt2 (2 ^ 62) dot)) (k2 : PySem.W.keepIn K (.ref f2) = true) (b2 : Binds K fd2 ["one", "other"] []) (m2 : mg "product" = some (.ref f2)) : FnOk P w K mg base CX0 2 f fd ["one", "other"] (spBl2 (2 ^ 62) sameWay) := by
 refine F.ok scSW (fun vs H Q E h => ?_) (fun cdv A outer s H vs Q E hr h => ?_)
 ·obtain ⟨a, b, p, q, rfl, _⟩ := h
  rfl
 ·obtain ⟨a, b, p, q, rfl, ha, hb, hB, k⟩ := h
  refine ⟨_, pss_one (ps_ret (pe_and (pe_cmpR op_eq (pe_call G1 hr rfl m1 k1 b1 .nil pass0 (pa_cons (pv 0) (pa_cons (pv 1) pa_nil))) pe_int (nomark _)) (pe_one (pe_cmpR op_gt (pe_call G2 hr rfl m2 k2 b2 .nil pass0 (pa_cons (pv 0) (pa_cons (pv 1) pa_nil))) pe_int (nomark _))))), ?_⟩
  refine ⟨_, rfl, _, rfl, a, b, p, q, rfl, ha, hb, hB, rfl, _, rfl, ?_⟩
  unfold sameWay at k
  refine ite2 (fun c => ?_) (fun c => ?_)
  ·have c' : cross p q = 0 := by
    have := of_decide_eq_true c
    injection this
   rw [decide_eq_true c', Bool.true_and] at k
   exact ⟨_, rfl, _, rfl, a, b, p, q, rfl, ha, hb, hB, _, _, rfl, rfl, k⟩
  ·have c' : ¬ cross p q = 0 := fun z => c (decide_eq_true (congrArg V.int z))
   rw [decide_eq_false c', Bool.false_and] at k
   exact k
theorem scAl : FnScope ["first", "arrows", "corners", "arrow"] ["first", "arrows"] (defScope sAlong) := ⟨rfl, rfl, rfl, by decide +kernel, rfl, by decide +kernel, by decide +kernel⟩
theorem ok_along {f f1 : Addr} {fd fd1 : FuncData} (F : Fun K "corners_along" "corners_along" sAlong f fd)
  (G1 : FnOk P w K mg base CX0 1 f1 fd1 ["point", "arrow"] (spPt2 moved)) (k1 : PySem.W.keepIn K (.ref f1) = true) (b1 : Binds K fd1 ["point", "arrow"] []) (m1 : mg "moved" = some (.ref f1)) : FnOk P w K mg base CX0 2 f fd ["first", "arrows"] spAlong := by
 refine F.ok scAl (fun vs H Q E h => ?_) (fun cdv A outer s H vs Q E hr h => ?_)
 ·obtain ⟨a, l, p, ps, rfl, _⟩ := h
  rfl
 ·obtain ⟨a, l, p, ps, rfl, ha, hl, hn, k⟩ := h
  refine ⟨_, pss_cons (ps_set (i := 2) scAl.nd rfl (Or.inl rfl) (pe_lst (pa_cons (pv 0) pa_nil)))
   (pss_cons (ps_for PassesOwn.never rfl (pi_list (pe_slice sl_list (pv 1) po_none (po_some (pe_un un_neg pe_int)))) (pg_name (i := 3) scAl.nd rfl (Or.inl rfl))
    (pss_one (ps_expr (pe_bm PySem.F.plainAttrs_list PySem.F.slot_list_append PySem.F.type_list_append mt_append (pv 2) (pa_cons (pe_call G1 hr rfl m1 k1 b1 .nil pass0 (pa_cons (pe_ix ix_list (pv 2) (pe_un un_neg pe_int) (fun _ _ => rfl)) (pa_cons (pv 3) pa_nil))) pa_nil)))))
   (pss_one (ps_ret (pv 2)))), ?_⟩
  obtain ⟨as, h1, h2⟩ := id hl
  have hlen : as.length = ps.length := Paired.length h2
  refine ⟨_, rfl, by show 1 <= sizeLine; decide, fun D nD => ?_⟩
  have s0 : Same H (upd H D (.lst [.ref a])) := same_upd nD
  have p0 : Pts (upd H D (.lst [.ref a])) D [p] := ⟨[a], upd_same, .cons (s0 _ _ ha) .nil⟩
  generalize hH0 : upd H D (.lst [.ref a]) = H0 at s0 p0 ⊢
  refine ⟨_, rfl, _, rfl, _, rfl, l, _, rfl, SqL.of (s0 _ _ h1), fun d nd => ?_⟩
  rw [cut_init, <- List.map_dropLast]
  have s1 := s0.trans (same_upd (o := .lst (as.dropLast.map V.ref)) nd)
  have p1 := Pts.same (same_upd (o := .lst (as.dropLast.map V.ref)) nd) p0
  have e1 : upd H0 d (.lst (as.dropLast.map V.ref)) d = some (.lst (as.dropLast.map V.ref)) := upd_same
  have a1 := Ats.init (Ats.same s1 h2)
  have nedD : d ≠ D := fun z => by
   obtain ⟨_, q, _⟩ := p0
   rw [z] at nd
   rw [nd] at q
   cases q
  generalize hH1 : upd H0 d (.lst (as.dropLast.map V.ref)) = H1 at s1 p1 e1 a1 ⊢
  refine ⟨d, rfl, ⟨_, SqL.of e1⟩, ?_⟩
  refine for_list (xs := as.dropLast.map V.ref) (fun i σ H' => (∃ u, σ = [some (.ref a), some (.ref l), some (.ref D), u]) /\ (∀ b o, b ≠ D -> H1 b = some o -> H' b = some o) /\ Pts H' D ((ps.dropLast.take i).foldl alongStep [p]).reverse /\ ∃ c r, (ps.dropLast.take i).foldl alongStep [p] = c :: r /\ r.length <= i)
   ⟨⟨none, rfl⟩, fun b o _ e => e, p1, p, [], rfl, Nat.le_refl _⟩ (fun i σ H' _ ⟨_, sm, _⟩ => SqL.of (sm d _ nedD e1)) ?_ ?_
  ·rintro i x σ H' ex ⟨⟨u, rfl⟩, sm, pt, c, r, er, rl⟩
   obtain ⟨b, eb, rfl⟩ := map_ref ex
   obtain ⟨q, eq, tq⟩ := paired_get a1 i b eb
   have hi : i < ps.dropLast.length := (List.getElem?_eq_some_iff.mp eq).1
   have hi2 : i < 200 := by rw [List.length_dropLast] at hi; lia
   have tq' : Tp H' b q := sm b _ (fun z => by
    obtain ⟨_, w1, _⟩ := p1
    have tq2 : H1 b = some (.tup [.int q.1, .int q.2]) := tq
    rw [z, w1] at tq2
    cases tq2) tq
   rw [er] at pt
   obtain ⟨ds, d1, d2⟩ := id pt
   obtain ⟨es, y, rfl, ty, te⟩ := last_get d2
   refine g_go ?_
   refine ⟨_, rfl, .inl ⟨rfl, _, SqL.of d1⟩, _, rfl, _, rfl, D, _, _, _, rfl, rfl, SqL.of d1, atI_end, _, rfl, y, b, c, q, rfl, ty, tq', fun t H3 s3 t3 => ?_⟩
   refine ⟨D, _, _, rfl, rfl, s3 _ _ d1, size100 (by rw [List.length_map, Paired.length d2, List.length_reverse, List.length_cons]; lia), ⟨_, rfl⟩, fun b' o hb e => ?_, ?_, ?_⟩
   ·rw [upd_ne hb]
    exact s3 _ _ (sm b' o hb e)
   ·rw [RS.foldl_take _ _ eq, er]
    show Pts _ D (moved c q :: c :: r).reverse
    rw [List.reverse_cons]
    refine ⟨(es ++ [y]) ++ [t], by simp [upd_same], ?_⟩
    exact Ats.put (s3 _ _ d1) (Ats.app (Ats.same s3 d2) (.cons t3 .nil))
   ·rw [RS.foldl_take _ _ eq, er]
    exact ⟨moved c q, c :: r, rfl, by rw [List.length_cons]; lia⟩
  ·rintro σ H' ⟨⟨u, rfl⟩, sm, pt, _⟩
   have el : (as.dropLast.map V.ref).length = ps.dropLast.length := by rw [List.length_map, List.length_dropLast, List.length_dropLast, hlen]
   rw [el, List.take_of_length_le (Nat.le_refl _)] at pt
   refine ⟨_, rfl, k D H' (fun b o e => sm b o (fun z => ?_) (s1 b o e)) nD pt⟩
   rw [z, nD] at e
   cases e
end
end K1
namespace K1
open PySem L2
open RS (Pt arrow cross before round isShape lawSides dot moved stretched sameWay mergeM joinStep joinM alongStep along togetherM greaterM)
set_option tactic.hygienic true in
theorem bd_join {acc : List Pt} {a : Pt} {i : Nat} (h : ∀ x ∈ acc, Bd (2 ^ 40 * (i : Int)) x) (ha : Bd (2 ^ 40) a) : ∀ x ∈ joinStep acc a, Bd (2 ^ 40 * ((i + 1 : Nat) : Int)) x := fun x hx => by
 have up : ∀ y, Bd (2 ^ 40 * (i : Int)) y -> Bd (2 ^ 40 * ((i + 1 : Nat) : Int)) y := fun y hy => by
  unfold Bd at hy ⊢
  push_cast
  lia
 have haU : Bd (2 ^ 40 * ((i + 1 : Nat) : Int)) a := by
  unfold Bd at ha ⊢
  push_cast
  omega
 unfold joinStep at hx
 split at hx
 ·rw [List.mem_singleton] at hx
  rw [hx]; exact haU
 ·rename_i j r
  split at hx
  ·rcases List.mem_cons.mp hx with rfl | hx
   ·have hj := h j List.mem_cons_self
    unfold Bd at hj ha ⊢
    unfold moved
    push_cast
    lia
   ·exact up x (h x (List.mem_cons_of_mem _ hx))
  ·rcases List.mem_cons.mp hx with rfl | hx
   ·exact haU
   ·exact up x (h x hx)
section
variable {P : Program} {w : World} {K : PySem.W.Frag} {mg : Str -> Option Value} {base : Heap}
theorem scAI : FnScope ["ones", "others", "ordered", "done", "arrow"] ["ones", "others"] (defScope sAllIn) := ⟨rfl, rfl, rfl, by decide +kernel, rfl, by decide +kernel, by decide +kernel⟩
theorem ok_merge {f f1 : Addr} {fd fd1 : FuncData} (F : Fun K "all_in_order" "all_in_order" sAllIn f fd)
  (G1 : FnOk P w K mg base CX0 2 f1 fd1 ["one", "other"] (spBl2 (2 ^ 62) before)) (k1 : PySem.W.keepIn K (.ref f1) = true) (b1 : Binds K fd1 ["one", "other"] []) (m1 : mg "goes_before" = some (.ref f1))
  (ml : mg "len" = none) : FnOk P w K mg base CX0 3 f fd ["ones", "others"] spMerge := by
 refine F.ok scAI (fun vs H Q E h => ?_) (fun cdv A outer s H vs Q E hr h => ?_)
 ·obtain ⟨l, b, ps, qs, rfl, _⟩ := h
  rfl
 ·obtain ⟨l, b, ps, qs, rfl, hl, hb, hn, hm, hB, k⟩ := h
  refine ⟨_, pss_cons (ps_set (i := 2) scAI.nd rfl (Or.inl rfl) (pe_lst pa_nil))
   (pss_cons (ps_set (i := 3) scAI.nd rfl (Or.inl rfl) pe_int)
   (pss_cons (ps_for PassesOwn.never rfl (pi_list (pv 0)) (pg_name (i := 4) scAI.nd rfl (Or.inl rfl))
    (pss_cons (ps_while PassesOwn.never (PW.pt (pw_and (pt_cmpR op_lt (pv 3) (pe_callB call_len_seq rfl ml PySem.boot_len (pa_cons (pv 1) pa_nil)) (nomark _)) (pw_and1 (pt_val (pe_call G1 hr rfl m1 k1 b1 .nil pass0 (pa_cons (pe_ix ix_list (pv 1) (pv 3) (fun _ _ => rfl)) (pa_cons (pv 4) pa_nil)))))))
     (pss_cons (ps_expr (pe_bm PySem.F.plainAttrs_list PySem.F.slot_list_append PySem.F.type_list_append mt_append (pv 2) (pa_cons (pe_ix ix_list (pv 1) (pv 3) (fun _ _ => rfl)) pa_nil)))
     (pss_one (ps_aug (i := 3) scAI.nd rfl (Or.inl rfl) pe_int ip_add))))
    (pss_one (ps_expr (pe_bm PySem.F.plainAttrs_list PySem.F.slot_list_append PySem.F.type_list_append mt_append (pv 2) (pa_cons (pv 4) pa_nil))))))
   (pss_one (ps_ret (pe_op op_cat (pv 2) (pe_slice sl_list (pv 1) (po_some (pv 3)) po_none)))))), ?_⟩
  obtain ⟨as, h1, h2⟩ := id hl
  obtain ⟨bs, g1, g2⟩ := id hb
  have hlen : as.length = ps.length := Paired.length h2
  have glen : bs.length = qs.length := Paired.length g2
  have gel : (bs.map V.ref).length = qs.length := by rw [List.length_map, glen]
  refine ⟨Nat.zero_le _, fun D nD => ?_⟩
  have s0 : Same H (upd H D (.lst [])) := same_upd nD
  refine ⟨_, rfl, l, rfl, ⟨_, SqL.of (s0 _ _ h1)⟩, ?_⟩
  refine for_list (xs := as.map V.ref) (fun i σ H' => ∃ n u acc, σ = [some (.ref l), some (.ref b), some (.ref D), some (.int (n : Nat)), u] /\ Same H H' /\ Pts H' D acc /\ acc ++ mergeM (ps.drop i) (qs.drop n) = mergeM ps qs /\ n <= qs.length /\ acc.length = i + n)
   ⟨0, none, [], rfl, s0, ⟨[], upd_same, .nil⟩, rfl, Nat.zero_le _, rfl⟩ (fun i σ H' _ ⟨_, _, _, _, sm, _⟩ => SqL.of (sm _ _ h1)) ?_ ?_
  ·rintro i x σ H' ex ⟨n, u, acc, rfl, sm, pt, em, hnq, al⟩
   obtain ⟨a, ea, rfl⟩ := map_ref ex
   obtain ⟨p, ep, tp⟩ := paired_get h2 i a ea
   have hi : i < ps.length := (List.getElem?_eq_some_iff.mp ep).1
   have edr : ps.drop i = p :: ps.drop (i + 1) := by
    rw [List.drop_eq_getElem_cons hi]
    congr 1
    rw [List.getElem?_eq_getElem hi] at ep
    exact Option.some.inj ep
   rw [edr] at em
   refine g_go ?_
   refine ⟨fun m σ H' => ∃ (n : Nat) (acc : List Pt), m = qs.length - n /\ σ = [some (.ref l), some (.ref b), some (.ref D), some (.int (n : Nat)), some (.ref a)] /\ Same H H' /\ Pts H' D acc /\ acc ++ mergeM (p :: ps.drop (i + 1)) (qs.drop n) = mergeM ps qs /\ n <= qs.length /\ acc.length = i + n,
    ⟨_, n, acc, rfl, rfl, sm, pt, em, hnq, al⟩, ?_⟩
   rintro m σ H2 ⟨n, acc, rfl, rfl, sm2, pt2, em2, hnq2, al2⟩
   obtain ⟨ds, d1, d2⟩ := id pt2
   have dlen : ds.length = acc.length := Paired.length d2
   have rest : (∀ q, (qs.drop n).head? = some q -> before q p = false) -> ∀ H3, Same H2 H3 -> tDrop (tBM K "list" rAppend (tVar 2) (tCons (tVar 4) tNil)) { nx := fun σ' H'' => ∃ n u acc, σ' = [some (.ref l), some (.ref b), some (.ref D), some (.int (n : Nat)), u] /\ Same H H'' /\ Pts H'' D acc /\ acc ++ mergeM (ps.drop (i + 1)) (qs.drop n) = mergeM ps qs /\ n <= qs.length /\ acc.length = (i + 1) + n, rt := Q } [some (.ref l), some (.ref b), some (.ref D), some (.int (n : Nat)), some (.ref a)] H3 := by
    intro hst H3 s3
    rw [RS.mergeM_stop hst] at em2
    have d3 := s3 _ _ d1
    refine ⟨_, rfl, .inl ⟨rfl, _, SqL.of d3⟩, _, rfl, D, _, _, rfl, rfl, d3, size100 (by rw [List.length_map]; lia), ?_⟩
    obtain ⟨ys, y1, y2, y3, y4⟩ := pts_push nD (sm2.trans s3) ⟨ds, d3, Ats.same s3 d2⟩ (s3 _ _ (sm2 _ _ tp)) (size100 (by lia))
    rw [d3] at y1
    cases y1
    exact ⟨n, _, acc ++ [p], rfl, y3, y4, by rw [List.append_assoc]; exact em2, hnq2, by rw [List.length_append]; simp; lia⟩
   have L1 := SqL.of (K := K) (sm2 _ _ g1)
   refine ⟨_, rfl, _, rfl, b, _, rfl, .inl L1, _, _, rfl, rfl, _, rfl, ?_⟩
   refine ite2 (fun c => ?_) (fun c => iteF ?_)
   ·have c' : n < qs.length := by have := of_decide_eq_true c; lia
    obtain ⟨e, ee, te⟩ := Ats.get g2 (List.getElem?_eq_getElem c')
    have hdq : qs.drop n = qs[n] :: qs.drop (n + 1) := List.drop_eq_getElem_cons c'
    refine ⟨_, rfl, _, rfl, b, _, _, _, rfl, rfl, L1, atI_nat (ref_get' ee), _, rfl, e, a, _, p, rfl, sm2 _ _ te, sm2 _ _ tp, hB _ (List.getElem_mem _), _, rfl, ?_⟩
    refine ite2 (fun c2 => ?_) (fun c2 => ?_)
    ·rw [hdq, RS.mergeM_go c2] at em2
     refine ⟨fun σ' H' => ∃ acc, σ' = [some (.ref l), some (.ref b), some (.ref D), some (.int ((n + 1 : Nat) : Int)), some (.ref a)] /\ Same H H' /\ Pts H' D acc /\ acc ++ mergeM (p :: ps.drop (i + 1)) (qs.drop (n + 1)) = mergeM ps qs /\ acc.length = i + (n + 1),
      fun σ' H' ⟨acc, q1, q2, q3, q4, q5⟩ => ⟨qs.length - (n + 1), by lia, n + 1, acc, rfl, q1, q2, q3, q4, c', q5⟩, ?_⟩
     refine ⟨_, rfl, .inl ⟨rfl, _, SqL.of d1⟩, _, rfl, _, rfl, b, _, _, _, rfl, rfl, L1, atI_nat (ref_get' ee), D, _, _, rfl, rfl, d1, size100 (by rw [List.length_map]; lia), ?_⟩
     obtain ⟨ys, y1, y2, y3, y4⟩ := pts_push nD sm2 pt2 (sm2 _ _ te) (size100 (by lia))
     rw [d1] at y1
     cases y1
     exact ⟨_, rfl, _, _, rfl, rfl, acc ++ [qs[n]], rfl, y3, y4, by rw [List.append_assoc]; exact em2, by rw [List.length_append]; simp; lia⟩
    ·exact rest (fun q hq => by rw [hdq] at hq; cases hq; exact Bool.eq_false_iff.mpr c2) H2 (Same.refl _)
   ·have c' : ¬ n < qs.length := fun z => c (decide_eq_true (by lia))
    exact rest (fun q hq => by rw [List.drop_of_length_le (by (clear hnq nD gel glen hlen g1 h1 hm hn ml m1 k1 em2 edr hi ep em ex ea al dlen d1 al2 hnq2 c rest hq; lia))] at hq; cases hq) H2 (Same.refl _)
  ·rintro σ H' ⟨n, u, acc, rfl, sm, pt, em, hnq, al⟩
   obtain ⟨ds, d1, d2⟩ := id pt
   have dlen : ds.length = acc.length := Paired.length d2
   have el : (as.map V.ref).length = ps.length := by rw [List.length_map, hlen]
   rw [el, List.drop_of_length_le (Nat.le_refl _)] at em
   rw [el] at al
   refine ⟨_, rfl, _, rfl, _, rfl, _, rfl, b, _, rfl, SqL.of (sm _ _ g1), fun d nd => ?_⟩
   rw [cut_from, <- List.map_drop]
   have s1 := sm.trans (same_upd (o := .lst ((bs.drop n).map V.ref)) nd)
   have ss : Same H' (upd H' d (.lst ((bs.drop n).map V.ref))) := same_upd nd
   refine ⟨D, d, _, _, rfl, rfl, ss _ _ d1, upd_same, ?_, fun r nr => ?_⟩
   ·rw [List.length_map, List.length_map, List.length_drop]
    exact Nat.le_of_lt (size100 (by lia))
   rw [<- List.map_append]
   refine k r _ (s1.trans (same_upd nr)) (s1.free nr) ⟨_, upd_same, ?_⟩
   rw [<- em]
   exact Ats.same (same_upd nr) (Ats.app (Ats.same ss d2) (Ats.drop n (Ats.same s1 g2)))
theorem scMa : FnScope ["arrows", "joined", "arrow"] ["arrows"] (defScope sMadeOne) := ⟨rfl, rfl, rfl, by decide +kernel, rfl, by decide +kernel, by decide +kernel⟩
theorem ok_join {f f1 f2 : Addr} {fd fd1 fd2 : FuncData} (F : Fun K "made_one" "made_one" sMadeOne f fd)
  (G1 : FnOk P w K mg base CX0 2 f1 fd1 ["one", "other"] (spBl2 (2 ^ 62) sameWay)) (k1 : PySem.W.keepIn K (.ref f1) = true) (b1 : Binds K fd1 ["one", "other"] []) (m1 : mg "same_way" = some (.ref f1))
  (G2 : FnOk P w K mg base CX0 1 f2 fd2 ["point", "arrow"] (spPt2 moved)) (k2 : PySem.W.keepIn K (.ref f2) = true) (b2 : Binds K fd2 ["point", "arrow"] []) (m2 : mg "moved" = some (.ref f2))
  (ml : mg "len" = none) : FnOk P w K mg base CX0 3 f fd ["arrows"] spJoin := by
 refine F.ok scMa (fun vs H Q E h => ?_) (fun cdv A outer s H vs Q E hr h => ?_)
 ·obtain ⟨l, ps, rfl, _⟩ := h
  rfl
 ·obtain ⟨l, ps, rfl, hl, hn, hB, k⟩ := h
  have hr1 := hr.mono (j := 1) (by decide)
  refine ⟨_, pss_cons (ps_set (i := 1) scMa.nd rfl (Or.inl rfl) (pe_lst pa_nil))
   (pss_cons (ps_for PassesOwn.never rfl (pi_list (pv 0)) (pg_name (i := 2) scMa.nd rfl (Or.inl rfl))
    (pss_one (ps_if (PW.pt (pw_and (pt_cmpR op_gt (pe_callB call_len_seq rfl ml PySem.boot_len (pa_cons (pv 1) pa_nil)) pe_int (nomark _)) (pw_and1 (pt_val (pe_call G1 hr rfl m1 k1 b1 .nil pass0 (pa_cons (pe_ix ix_list (pv 1) (pe_un un_neg pe_int) (fun _ _ => rfl)) (pa_cons (pv 2) pa_nil)))))))
     (pss_one (ps_asg (pe_call G2 hr1 rfl m2 k2 b2 .nil pass0 (pa_cons (pe_ix ix_list (pv 1) (pe_un un_neg pe_int) (fun _ _ => rfl)) (pa_cons (pv 2) pa_nil))) (pg_sub (pv 1) (pe_un un_neg pe_int) set_list)))
     (pss_one (ps_expr (pe_bm PySem.F.plainAttrs_list PySem.F.slot_list_append PySem.F.type_list_append mt_append (pv 1) (pa_cons (pv 2) pa_nil)))))))
   (pss_one (ps_ret (pv 1)))), ?_⟩
  obtain ⟨as, h1, h2⟩ := id hl
  have hlen : as.length = ps.length := Paired.length h2
  refine ⟨Nat.zero_le _, fun D nD => ?_⟩
  have s0 : Same H (upd H D (.lst [])) := same_upd nD
  refine ⟨_, rfl, l, rfl, ⟨_, SqL.of (s0 _ _ h1)⟩, ?_⟩
  refine for_list (xs := as.map V.ref) (fun i σ H' => (∃ u, σ = [some (.ref l), some (.ref D), u]) /\ Same H H' /\ Pts H' D ((ps.take i).foldl joinStep []).reverse /\ (∀ x ∈ (ps.take i).foldl joinStep [], Bd (2 ^ 40 * (i : Int)) x) /\ ((ps.take i).foldl joinStep []).length <= i)
   ⟨⟨none, rfl⟩, s0, ⟨[], upd_same, .nil⟩, fun x hx => (by cases hx), Nat.le_refl _⟩ (fun i σ H' _ ⟨_, sm, _⟩ => SqL.of (sm _ _ h1)) ?_ ?_
  ·rintro i x σ H' ex ⟨⟨u, rfl⟩, sm, pt, aB, al⟩
   obtain ⟨a, ea, rfl⟩ := map_ref ex
   obtain ⟨p, ep, tp⟩ := paired_get h2 i a ea
   have hi : i < ps.length := (List.getElem?_eq_some_iff.mp ep).1
   have hpB := hB p (List.mem_of_getElem? ep)
   have nB := bd_join aB hpB
   have nl := RS.joinStep_len ((ps.take i).foldl joinStep []) p
   have ef : (ps.take (i + 1)).foldl joinStep [] = joinStep ((ps.take i).foldl joinStep []) p := RS.foldl_take _ _ ep
   have tp' := sm _ _ tp
   rw [<- ef] at nB nl
   refine g_go ?_
   obtain ⟨ds, d1, d2⟩ := id pt
   have dlen : (ds.map V.ref).length = ((ps.take i).foldl joinStep []).length := by rw [List.length_map, Paired.length d2, List.length_reverse]
   generalize hacc : (ps.take i).foldl joinStep [] = acc at pt aB al ef d2 dlen nl
   have push : joinStep acc p = p :: acc -> ∀ H3, Same H' H3 -> tDrop (tBM K "list" rAppend (tVar 1) (tCons (tVar 2) tNil)) { nx := fun σ H' => (∃ u, σ = [some (.ref l), some (.ref D), u]) /\ Same H H' /\ Pts H' D ((ps.take (i + 1)).foldl joinStep []).reverse /\ (∀ x ∈ (ps.take (i + 1)).foldl joinStep [], Bd (2 ^ 40 * ((i + 1 : Nat) : Int)) x) /\ ((ps.take (i + 1)).foldl joinStep []).length <= i + 1, rt := Q } [some (.ref l), some (.ref D), some (.ref a)] H3 := by
    intro e H3 s3
    have d3 := s3 _ _ d1
    refine ⟨_, rfl, .inl ⟨rfl, _, SqL.of d3⟩, _, rfl, D, _, _, rfl, rfl, d3, size100 (by lia), ?_⟩
    obtain ⟨ys, y1, y2, y3, y4⟩ := pts_push nD (sm.trans s3) ⟨ds, d3, Ats.same s3 d2⟩ (s3 _ _ tp') (size100 (by rw [List.length_reverse]; lia))
    rw [d3] at y1
    cases y1
    refine ⟨⟨_, rfl⟩, y3, ?_, nB, by lia⟩
    rw [ef, e, List.reverse_cons]
    exact y4
   refine ⟨_, rfl, D, _, rfl, .inl (SqL.of d1), _, _, rfl, rfl, _, rfl, ?_⟩
   refine ite2 (fun c => ?_) (fun c => iteF ?_)
   ·have c' : 0 < acc.length := by have := of_decide_eq_true c; lia
    match acc, c', aB, al, ef, d2, dlen, push with
    | j :: r, _, aB, al, ef, d2, dlen, push =>
     obtain ⟨es, y, rfl, ty, te⟩ := last_get d2
     refine ⟨_, rfl, _, rfl, D, _, _, _, rfl, rfl, SqL.of d1, atI_end, _, rfl, y, a, j, p, rfl, ty, tp', (aB j List.mem_cons_self).wide' (by lia), _, rfl, ?_⟩
     refine ite2 (fun c2 => ?_) (fun c2 => ?_)
     ·have e : joinStep (j :: r) p = moved j p :: r := by
       show (if sameWay j p = true then moved j p :: r else p :: j :: r) = _
       rw [if_pos c2]
      refine ⟨_, rfl, _, rfl, D, _, _, _, rfl, rfl, SqL.of d1, atI_end, _, rfl, y, a, j, p, rfl, ty, tp', fun t H3 s3 t3 => ?_⟩
      have d3 := s3 _ _ d1
      have hix : ixN ((es ++ [y]).map V.ref).length (-1) = some es.length := by
       unfold ixN
       rw [List.length_map, List.length_append, if_neg (by decide), if_pos (by simp; lia)]
       congr 1
       simp
       lia
      refine ⟨_, rfl, _, rfl, D, _, _, es.length, rfl, rfl, d3, hix, ⟨_, rfl⟩, same_set (sm.trans s3) nD, ?_, nB, by lia⟩
      rw [ef, e, List.reverse_cons]
      refine ⟨es ++ [t], by rw [upd_same]; simp, ?_⟩
      exact Ats.put d3 (Ats.app (Ats.same s3 te) (.cons t3 .nil))
     ·refine push ?_ H' (Same.refl _)
      show (if sameWay j p = true then moved j p :: r else p :: j :: r) = _
      rw [if_neg c2]
   ·have c' : ¬ 0 < acc.length := fun z => c (decide_eq_true (by lia))
    have e : acc = [] := List.eq_nil_of_length_eq_zero (by lia)
    refine push ?_ H' (Same.refl _)
    rw [e]
    rfl
  ·rintro σ H' ⟨⟨u, rfl⟩, sm, pt, _⟩
   rw [List.length_map, hlen, List.take_of_length_le (Nat.le_refl _)] at pt
   exact ⟨_, rfl, k D H' sm nD pt⟩
end
end K1
namespace K1
open PySem L2
open RS (Pt arrow cross before round isShape lawSides dot moved stretched sameWay mergeM joinM along togetherM greaterM)
noncomputable abbrev sGreater : Stmt := top 35
inductive spGreater (vs : List V) (H : Hp) (Q : VK) (u3 : XK) : Prop
 | mk (l : _) (ps : _) (t : _) (c0 : vs = [.ref l, .int t]) (c1 : Pts H l ps) (c2 : ps.length <= 100) (c3 : (∀ p ∈ ps, Bd (2 ^ 60) p)) (c4 : isShape ps = true) (c5 : 0 <= t) (c6 : t <= 1000000) (c7 : ∀ r H', Same H H' -> H r = none -> Pts H' r (greaterM ps t) -> Q (.ref r) H') : spGreater  vs H Q u3
theorem bd_arrow38 {p q : Pt} (m1 : Bd (2 ^ 38) p) (m2 : Bd (2 ^ 38) q) : Bd (2 ^ 40) (arrow p q) := by
 unfold Bd at m1 m2 ⊢
 unfold arrow
 dsimp only
 omega
theorem bd_sides38 {ps : List Pt} (h : ∀ p ∈ ps, Bd (2 ^ 38) p) : ∀ a ∈ lawSides ps, Bd (2 ^ 40) a := fun a ha => by
 unfold lawSides at ha
 split at ha
 ·cases ha
 ·unfold RS.round at ha
  obtain ⟨i, hi, e⟩ := List.getElem_of_mem ha
  rw [List.getElem_zipWith] at e
  rw [<- e]
  have m1 := h _ (List.getElem_mem (l := ps) (n := i) (by rw [List.length_zipWith] at hi; lia))
  have hm : (ps.drop 1 ++ ps.take 1)[i]'(by rw [List.length_zipWith] at hi; omega) ∈ ps.drop 1 ++ ps.take 1 := List.getElem_mem _
  have m2 : Bd (2 ^ 38) ((ps.drop 1 ++ ps.take 1)[i]'(by rw [List.length_zipWith] at hi; omega)) := by
   rcases List.mem_append.mp hm with z | z
   ·exact h _ (List.mem_of_mem_drop z)
   ·exact h _ (List.mem_of_mem_take z)
  exact bd_arrow38 m1 m2
theorem sides_len' (ps : List Pt) : (lawSides ps).length <= ps.length := by
 unfold lawSides
 split
 ·simp
 ·rw [RS.round_length]; exact Nat.le_refl _
theorem head_at {ps : List Pt} (h : 0 < ps.length) : ps.headD (0, 0) = ps[0] := by
 rw [List.headD_eq_head?_getD, List.head?_eq_getElem?, List.getElem?_eq_getElem h]
 rfl
theorem nodupCT : ((["corner"] : List Str) ++ ([("times", 1)] : List (Str × Nat)).map (·.1)).Nodup := by decide +kernel
section
variable {P : Program} {w : World} {K : PySem.W.Frag} {mg : Str -> Option Value} {base : Heap}
theorem scTo : FnScope ["one", "other", "ones", "others"] ["one", "other"] (defScope sTogether) := ⟨rfl, rfl, rfl, by decide +kernel, rfl, by decide +kernel, by decide +kernel⟩
theorem ok_together {f f1 f2 f3 f4 f5 : Addr} {fd fd1 fd2 fd3 fd4 fd5 : FuncData} (F : Fun K "together" "together" sTogether f fd)
  (G1 : FnOk P w K mg base CX0 5 f1 fd1 ["corners"] spSidesP) (k1 : PySem.W.keepIn K (.ref f1) = true) (b1 : Binds K fd1 ["corners"] []) (m1 : mg "sides" = some (.ref f1))
  (G2 : FnOk P w K mg base CX0 1 f2 fd2 ["point", "arrow"] (spPt2 moved)) (k2 : PySem.W.keepIn K (.ref f2) = true) (b2 : Binds K fd2 ["point", "arrow"] []) (m2 : mg "moved" = some (.ref f2))
  (G3 : FnOk P w K mg base CX0 3 f3 fd3 ["ones", "others"] spMerge) (k3 : PySem.W.keepIn K (.ref f3) = true) (b3 : Binds K fd3 ["ones", "others"] []) (m3 : mg "all_in_order" = some (.ref f3))
  (G4 : FnOk P w K mg base CX0 3 f4 fd4 ["arrows"] spJoin) (k4 : PySem.W.keepIn K (.ref f4) = true) (b4 : Binds K fd4 ["arrows"] []) (m4 : mg "made_one" = some (.ref f4))
  (G5 : FnOk P w K mg base CX0 2 f5 fd5 ["first", "arrows"] spAlong) (k5 : PySem.W.keepIn K (.ref f5) = true) (b5 : Binds K fd5 ["first", "arrows"] []) (m5 : mg "corners_along" = some (.ref f5)) : FnOk P w K mg base CX0 6 f fd ["one", "other"] spTogether := by
 refine F.ok scTo (fun vs H Q E h => ?_) (fun cdv A outer s H vs Q E hr h => ?_)
 ·obtain ⟨l, b, ps, qs, rfl, _⟩ := h
  rfl
 ·obtain ⟨l, b, ps, qs, rfl, hl, hb, hn, hm, hB, hC, hs, ht, k⟩ := h
  have hr1 := hr.mono (j := 1) (by decide)
  have hr2 := hr.mono (j := 2) (by decide)
  have hr3 := hr.mono (j := 3) (by decide)
  refine ⟨_, pss_cons (ps_set (i := 2) scTo.nd rfl (Or.inl rfl) (pe_call G1 hr rfl m1 k1 b1 .nil pass0 (pa_cons (pv 0) pa_nil)))
   (pss_cons (ps_set (i := 3) scTo.nd rfl (Or.inl rfl) (pe_call G1 hr rfl m1 k1 b1 .nil pass0 (pa_cons (pv 1) pa_nil)))
   (pss_one (ps_ret (pe_call G5 hr2 rfl m5 k5 b5 .nil pass0 (pa_cons (pe_call G2 hr1 rfl m2 k2 b2 .nil pass0 (pa_cons (pe_ix ix_list (pv 0) pe_int (fun _ _ => rfl)) (pa_cons (pe_ix ix_list (pv 1) pe_int (fun _ _ => rfl)) pa_nil)))
    (pa_cons (pe_call G4 hr3 rfl m4 k4 b4 .nil pass0 (pa_cons (pe_call G3 hr3 rfl m3 k3 b3 .nil pass0 (pa_cons (pv 2) (pa_cons (pv 3) pa_nil))) pa_nil)) pa_nil)))))), ?_⟩
  have p0 := RS.shape_pos hs
  have q0 := RS.shape_pos ht
  obtain ⟨as, h1, h2⟩ := id hl
  obtain ⟨bs, g1, g2⟩ := id hb
  obtain ⟨a, ea, ta⟩ := Ats.get h2 (List.getElem?_eq_getElem p0)
  obtain ⟨c, ec, tc⟩ := Ats.get g2 (List.getElem?_eq_getElem q0)
  refine ⟨_, rfl, l, ps, rfl, hl, hn, fun p hp => (hB p hp).wide' (by lia), hs, fun r1 H1 s1 n1 q1 => ?_⟩
  refine ⟨_, rfl, b, qs, rfl, Pts.same s1 hb, hm, fun p hp => (hC p hp).wide' (by omega), ht, fun r2 H2 s2 n2 q2 => ?_⟩
  have s02 := s1.trans s2
  refine ⟨_, rfl, l, _, _, _, rfl, rfl, SqL.of (s02 _ _ h1), atI_i' (j := 0) rfl (ref_get' ea), _, rfl, b, _, _, _, rfl, rfl, SqL.of (s02 _ _ g1), atI_i' (j := 0) rfl (ref_get' ec), a, c, _, _, rfl, s02 _ _ ta, s02 _ _ tc, fun r3 H3 s3 t3 => ?_⟩
  have l1 := sides_len' ps
  have l2 := sides_len' qs
  have w1 := bd_sides38 hB
  have w2 := bd_sides38 hC
  refine ⟨_, rfl, _, rfl, r1, r2, _, _, rfl, Pts.same (s2.trans s3) q1, Pts.same s3 q2, by lia, by lia, fun q hq => (w2 q hq).wide' (by lia), fun r4 H4 s4 n4 q4 => ?_⟩
  refine ⟨r4, _, rfl, q4, by rw [RS.mergeM_len]; lia, fun p hp => (RS.mergeM_mem hp).elim (w1 p) (w2 p), fun r5 H5 s5 n5 q5 => ?_⟩
  have jl : (joinM (mergeM (lawSides ps) (lawSides qs))).length <= 200 := by
   have := RS.join_len (mergeM (lawSides ps) (lawSides qs)) []
   unfold joinM
   rw [List.length_reverse]
   rw [RS.mergeM_len] at this
   simp only [List.length_nil] at this
   lia
  have s45 := s4.trans s5
  refine ⟨r3, r5, _, _, rfl, s45 _ _ t3, q5, jl, fun r6 H6 s6 n6 q6 => ?_⟩
  unfold togetherM at k
  rw [head_at p0, head_at q0] at k
  exact k r6 H6 (s02.trans (s3.trans (s45.trans s6))) ((s02.trans (s3.trans s45)).free n6) q6
theorem scGr : FnScope ["corners", "times"] ["corners", "times"] (defScope sGreater) := ⟨rfl, rfl, rfl, by decide +kernel, rfl, by decide +kernel, by decide +kernel⟩
theorem ok_greater {f f1 f2 : Addr} {fd fd1 fd2 : FuncData} {tk : Tok} (F : Fun K "greater" "greater" sGreater f fd)
  (G1 : FnOk P w K mg base CX0 4 f1 fd1 ["corners"] spRef) (k1 : PySem.W.keepIn K (.ref f1) = true) (b1 : Binds K fd1 ["corners"] []) (m1 : mg "refuse_no_shape" = some (.ref f1))
  (G2 : FnOk P w K mg base CX0 1 f2 fd2 ["arrow", "times"] spStretched) (k2 : PySem.W.keepIn K (.ref f2) = true) (b2 : Binds K fd2 ["arrow", "times"] []) (m2 : mg "stretched" = some (.ref f2))
  (mt : mg "MOST_TIMES" = some (.int 1000000 tk)) : FnOk P w K mg base CX0 5 f fd ["corners", "times"] spGreater := by
 refine F.ok scGr (fun vs H Q E h => ?_) (fun cdv A outer s H vs Q E hr h => ?_)
 ·obtain ⟨l, ps, t, rfl, _⟩ := h
  rfl
 ·obtain ⟨l, ps, t, rfl, hl, hn, hB, hs, h0, h1', k⟩ := h
  have hr1 := hr.mono (j := 1) (by decide)
  refine ⟨_, pss_cons (ps_expr (pe_call G1 hr rfl m1 k1 b1 .nil pass0 (pa_cons (pv 0) pa_nil)))
   (pss_cons (ps_if (pt_not (pt_chain op_le op_le pe_int (pv 1) (pe_glob (v := .int 1000000) rfl mt ⟨tk, rfl⟩))) pss_never pss_nil)
   (pss_cons (ps_if (pt_cmpR op_eq (pv 1) pe_int (nomark _)) (pss_one (ps_ret (pe_lst (pa_cons (pe_tup (pa_cons pe_int (pa_cons pe_int pa_nil))) pa_nil)))) pss_nil)
   (pss_one (ps_ret (pe_lc (tn := ["corner"]) (cs := [("times", 1)]) (g := gName 0) (tt := tYes) (te := tCall spStretched [] E0 (tCons (tVar 0) (tCons (tVar 1) tNil)))
     (Caps.one (names' := [(".0", .local), ("corner", .local), ("stretched", .globalImplicit), ("times", .cell)]) rfl rfl rfl rfl rfl rfl (by decide +kernel) rfl (by decide +kernel) (by decide +kernel)) rfl
     (pi_list (pv 0))
     (fun C s₀ H₀ fp xe => pg_name (i := 0) nodupCT rfl (Or.inl rfl) (.inr rfl))
     (fun C s₀ H₀ fp xe => pts_nil)
     (fun C s₀ H₀ fp xe => pe_call G2 hr1 rfl m2 k2 b2 .nil pass0 (pa_cons (pv 0) (pa_cons (pv 1) pa_nil)))))))), ?_⟩
  refine ⟨_, rfl, l, ps, rfl, hl, hn, hB, hs, fun H1 s1 => ?_⟩
  obtain ⟨as, h1, h2⟩ := id hl
  have hlen : as.length = ps.length := Paired.length h2
  refine ⟨_, rfl, _, _, rfl, rfl, _, rfl, ?_⟩
  rw [decide_eq_true h0]
  refine iteT ?_
  refine ⟨_, _, rfl, rfl, _, rfl, ?_⟩
  rw [decide_eq_true h1']
  refine iteF ?_
  refine ⟨_, rfl, rfl, _, rfl, ?_⟩
  unfold greaterM at k
  refine ite2 (fun c => ?_) (fun c => ?_)
  ·have c' : t = 0 := by
    have := of_decide_eq_true c
    injection this
   rw [if_pos c'] at k
   refine ⟨by show 2 <= sizeLine; decide, fun x nx => ⟨by show 1 <= sizeLine; decide, fun r nr => ?_⟩⟩
   have s2 := s1.trans (same_upd (o := .tup [.int 0, .int 0]) nx)
   exact k r _ (s2.trans (same_upd nr)) (s2.free nr) ⟨[x], upd_same, .cons (same_upd nr _ _ upd_same) .nil⟩
  ·have c' : ¬ t = 0 := fun z => c (decide_eq_true (congrArg V.int z))
   rw [if_neg c'] at k
   refine ⟨_, rfl, l, rfl, ⟨_, SqL.of (s1 _ _ h1)⟩, fun D nD => ?_⟩
   refine lc_list (K := K) (a := l) (D := D) (xs := as.map V.ref) (fun i σ H' => (∃ u, σ = [u, some (.int t)]) /\ Same H1 H' /\ Pts H' D ((ps.map (stretched t)).take i)) ⟨⟨none, rfl⟩, same_upd nD, [], upd_same, .nil⟩
    (fun i σ H' _ ⟨_, sm, _⟩ => SqL.of (sm _ _ (s1 _ _ h1))) ?_ ?_
   ·rintro i x σ H' ex ⟨⟨u, rfl⟩, sm, pt⟩
    obtain ⟨b, eb, rfl⟩ := map_ref ex
    obtain ⟨p, ep, tp⟩ := paired_get h2 i b eb
    have hi : i < ps.length := (List.getElem?_eq_some_iff.mp ep).1
    refine g_go ?_
    refine yes_go ?_
    refine ⟨_, rfl, _, rfl, b, p, t, rfl, sm _ _ (s1 _ _ tp), h0, h1', fun r H4 s4 t4 => ?_⟩
    have er : (ps.map (stretched t))[i]? = some (stretched t p) := by rw [List.getElem?_map, ep]; rfl
    obtain ⟨ys, y1, y2, y3, y4⟩ := pts_push nD (sm.trans s4) (Pts.same s4 pt) t4 (by rw [List.length_take, List.length_map]; exact size100 (by (clear k2 m1 k1 er hi ep ex eb nD c' c hlen h1 h1' h0 mt m2 hs; omega)))
    exact ⟨ys, y1, y2, ⟨_, rfl⟩, y3, by rw [take_next er]; exact y4⟩
   ·rintro σ H' ⟨_, sm, pt⟩
    rw [List.length_map, hlen, List.take_of_length_le (by rw [List.length_map]; exact Nat.le_refl _)] at pt
    exact k D H' (s1.trans sm) (s1.free nD) pt
end
end K1
namespace K1
open RS (Pt)
theorem Bd.wide {m n : Int} {p : Pt} (h : Bd m p) (hn : m <= n) : Bd n p := by
 unfold Bd at h ⊢
 omega
end K1
namespace K1
open PySem L2
open RS (Pt gone least)
noncomputable abbrev sTimes : Stmt := top 9
noncomputable abbrev sLeast : Stmt := top 10
inductive spGone (vs : List V) (H : Hp) (Q : VK) (u3 : XK) : Prop
 | mk (a : _) (p : _) (c0 : vs = [.ref a]) (c1 : Tp H a p) (c2 : Q (.int (gone p)) H) : spGone  vs H Q u3
inductive spLeast (vs : List V) (H : Hp) (Q : VK) (u3 : XK) : Prop
 | mk (a : _) (p : _) (c0 : vs = [.ref a]) (c1 : Tp H a p) (c2 : p ≠ (0, 0)) (c3 : gone p < 1073741824) (c4 : ∀ r H', Same H H' -> Tp H' r (least p) -> Q (.ref r) H') : spLeast  vs H Q u3
theorem bootAbs : bootBuiltins "abs" = some (.builtin "abs") := by decide +kernel
theorem abs_nat (i : Int) : (if i < 0 then -i else i) = (i.natAbs : Int) := by
 split <;> lia
section
variable {P : Program} {w : World} {K : PySem.W.Frag} {mg : Str -> Option Value} {base : Heap}
theorem scTi : FnScope ["arrow", "divisor", "rest", "remainder"] ["arrow"] (defScope sTimes) := ⟨rfl, rfl, rfl, by decide +kernel, rfl, by decide +kernel, by decide +kernel⟩
theorem ok_times {f : Addr} {fd : FuncData} (F : Fun K "times_gone" "times_gone" sTimes f fd) (mab : mg "abs" = none) : FnOk P w K mg base CX0 1 f fd ["arrow"] spGone := by
 refine F.ok scTi (fun vs H Q E h => ?_) (fun cdv A outer s H vs Q E hr h => ?_)
 ·obtain ⟨a, p, rfl, _⟩ := h
  rfl
 ·obtain ⟨a, p, rfl, ha, k⟩ := h
  refine ⟨_, pss_cons (ps_set (i := 1) scTi.nd rfl (Or.inl rfl) (pe_callB call_abs rfl mab bootAbs (pa_cons (pe_ix ix_tup (pv 0) pe_int (fun _ _ => rfl)) pa_nil)))
   (pss_cons (ps_set (i := 2) scTi.nd rfl (Or.inl rfl) (pe_callB call_abs rfl mab bootAbs (pa_cons (pe_ix ix_tup (pv 0) pe_int (fun _ _ => rfl)) pa_nil)))
   (pss_cons (ps_while PassesOwn.never (pt_cmpR op_ne (pv 2) pe_int (nomark _))
    (pss_cons (ps_set (i := 3) scTi.nd rfl (Or.inl rfl) (pe_op op_mod (pv 1) (pv 2)))
    (pss_cons (ps_set (i := 1) scTi.nd rfl (Or.inl rfl) (pv 2))
    (pss_one (ps_set (i := 2) scTi.nd rfl (Or.inl rfl) (pv 3))))))
   (pss_one (ps_ret (pv 1))))), ?_⟩
  refine ⟨_, rfl, a, _, _, _, rfl, rfl, SqT.of ha, rfl, _, rfl, ?_⟩
  refine ⟨_, rfl, a, _, _, _, rfl, rfl, SqT.of ha, rfl, _, rfl, ?_⟩
  refine ⟨fun m σ H' => ∃ (d r : Nat) (u : Option V), m = r /\ σ = [some (.ref a), some (.int (d : Int)), some (.int (r : Int)), u] /\ H' = H /\ ((Nat.gcd d r : Nat) : Int) = gone p,
   ⟨_, p.1.natAbs, p.2.natAbs, none, rfl, by rw [<- abs_nat, <- abs_nat]; rfl, rfl, rfl⟩, ?_⟩
  rintro m σ H' ⟨d, r, u, rfl, rfl, rfl, hg⟩
  refine ⟨_, rfl, rfl, _, rfl, ?_⟩
  by_cases hz : m = 0
  ·subst hz
   refine iteNS rfl ?_
   rw [Nat.gcd_zero_right] at hg
   refine ⟨_, rfl, ?_⟩
   rw [hg]
   exact k
  ·have hne : decide (V.int (m : Int) = V.int 0) = false := decide_eq_false fun z => hz (by injection z with z; lia)
   rw [hne]
   refine iteT ?_
   refine ⟨fun σ' H'' => ∃ u, σ' = [some (.ref a), some (.int (m : Int)), some (.int ((d % m : Nat) : Int)), u] /\ H'' = H', fun σ' H'' ⟨u, q1, q2⟩ => ⟨d % m, Nat.mod_lt _ (by lia), m, d % m, u, rfl, q1, q2, by rw [RS.gcd_step]; exact hg⟩, ?_⟩
   refine ⟨_, rfl, _, rfl, _, _, rfl, rfl, by show (0 : Int) < (m : Int); lia, ?_⟩
   exact ⟨_, rfl, _, rfl, _, rfl, rfl⟩
theorem scLe : FnScope ["arrow", "times"] ["arrow"] (defScope sLeast) := ⟨rfl, rfl, rfl, by decide +kernel, rfl, by decide +kernel, by decide +kernel⟩
theorem ok_least {f f1 : Addr} {fd fd1 : FuncData} (F : Fun K "least_arrow" "least_arrow" sLeast f fd)
  (G1 : FnOk P w K mg base CX0 1 f1 fd1 ["arrow"] spGone) (k1 : PySem.W.keepIn K (.ref f1) = true) (b1 : Binds K fd1 ["arrow"] []) (m1 : mg "times_gone" = some (.ref f1)) : FnOk P w K mg base CX0 2 f fd ["arrow"] spLeast := by
 refine F.ok scLe (fun vs H Q E h => ?_) (fun cdv A outer s H vs Q E hr h => ?_)
 ·obtain ⟨a, p, rfl, _⟩ := h
  rfl
 ·obtain ⟨a, p, rfl, ha, hz, hg, k⟩ := h
  refine ⟨_, pss_cons (ps_set (i := 1) scLe.nd rfl (Or.inl rfl) (pe_call G1 hr rfl m1 k1 b1 .nil pass0 (pa_cons (pv 0) pa_nil)))
   (pss_one (ps_ret (pe_tup (pa_cons (pe_op op_fdiv (pe_ix ix_tup (pv 0) pe_int (fun _ _ => rfl)) (pv 1)) (pa_cons (pe_op op_fdiv (pe_ix ix_tup (pv 0) pe_int (fun _ _ => rfl)) (pv 1)) pa_nil))))), ?_⟩
  have gp := RS.gone_pos hz
  refine ⟨_, rfl, a, p, rfl, ha, ?_⟩
  refine ⟨_, rfl, a, _, _, _, rfl, rfl, SqT.of ha, rfl, _, rfl, _, _, rfl, rfl, ⟨gp, hg⟩, ?_⟩
  refine ⟨_, rfl, a, _, _, _, rfl, rfl, SqT.of ha, rfl, _, rfl, _, _, rfl, rfl, ⟨gp, hg⟩, ?_⟩
  exact ⟨by show 2 <= sizeLine; decide, fun r hn => k r _ (same_upd hn) upd_same⟩
end
end K1
namespace K1
open PySem L2
open RS (Pt isShape lawSides gone least stepsM)
noncomputable abbrev sStepsOf : Stmt := top 45
inductive spStepsOf (vs : List V) (H : Hp) (Q : VK) (u3 : XK) : Prop
 | mk (l : _) (ps : _) (c0 : vs = [.ref l]) (c1 : Pts H l ps) (c2 : ps.length <= 100) (c3 : (∀ p ∈ ps, Bd 2500 p)) (c4 : isShape ps = true) (c5 : ∀ r H', Same H H' -> H r = none -> Pts H' r (stepsM (lawSides ps)) -> Q (.ref r) H') : spStepsOf  vs H Q u3
theorem rep_refs (n : Nat) (r : Addr) : (List.replicate n [V.ref r]).flatten = (List.replicate n r).map V.ref := by
 induction n with
 | zero => rfl
 | succ n ih => rw [List.replicate_succ, List.flatten_cons, ih, List.replicate_succ, List.map_cons]; rfl
theorem Ats.rep {H : Hp} {a : Addr} {p : Pt} (h : Tp H a p) : ∀ n : Nat, Ats H (List.replicate n a) (List.replicate n p)
 | 0 => .nil
 | n + 1 => .cons h (Ats.rep h n)
theorem Pts.put' {H : Hp} {l D : Addr} {ps : List Pt} {ys : List V} {o : HO} (h : Pts H l ps) (ne : l ≠ D) (hD : H D = some (.lst ys)) : Pts (upd H D o) l ps :=
 let ⟨as, a, b⟩ := h; ⟨as, by rw [upd_ne ne]; exact a, Ats.put hD b⟩
theorem sides_2500 {ps : List Pt} (hB : ∀ p ∈ ps, Bd 2500 p) {v : Pt} (hv : v ∈ lawSides ps) (hz : v ≠ (0, 0)) : 0 < gone v /\ gone v <= 5000 := by
 have b := RS.sides_bd (m := 2500) (fun p hp => hB p hp) v hv
 unfold RS.inB at b
 exact ⟨RS.gone_pos hz, RS.gone_le hz (m := 5000) (by omega) (by omega)⟩
section
variable {P : Program} {w : World} {K : PySem.W.Frag} {mg : Str -> Option Value} {base : Heap}
theorem scSO : FnScope ["corners", "steps", "side"] ["corners"] (defScope sStepsOf) := ⟨rfl, rfl, rfl, by decide +kernel, rfl, by decide +kernel, by decide +kernel⟩
theorem ok_steps_of {f f1 f2 f3 : Addr} {fd fd1 fd2 fd3 : FuncData} (F : Fun K "steps_of" "steps_of" sStepsOf f fd)
  (G1 : FnOk P w K mg base CX0 5 f1 fd1 ["corners"] spSidesP) (k1 : PySem.W.keepIn K (.ref f1) = true) (b1 : Binds K fd1 ["corners"] []) (m1 : mg "sides" = some (.ref f1))
  (G2 : FnOk P w K mg base CX0 2 f2 fd2 ["arrow"] spLeast) (k2 : PySem.W.keepIn K (.ref f2) = true) (b2 : Binds K fd2 ["arrow"] []) (m2 : mg "least_arrow" = some (.ref f2))
  (G3 : FnOk P w K mg base CX0 1 f3 fd3 ["arrow"] spGone) (k3 : PySem.W.keepIn K (.ref f3) = true) (b3 : Binds K fd3 ["arrow"] []) (m3 : mg "times_gone" = some (.ref f3)) : FnOk P w K mg base CX0 6 f fd ["corners"] spStepsOf := by
 refine F.ok scSO (fun vs H Q E h => ?_) (fun cdv A outer s H vs Q E hr h => ?_)
 ·obtain ⟨l, ps, rfl, _⟩ := h
  rfl
 ·obtain ⟨l, ps, rfl, hl, hn, hB, hs, k⟩ := h
  have hr1 := hr.mono (j := 1) (by decide)
  have hr2 := hr.mono (j := 2) (by decide)
  refine ⟨_, pss_cons (ps_set (i := 1) scSO.nd rfl (Or.inl rfl) (pe_lst pa_nil))
   (pss_cons (ps_for PassesOwn.never rfl (pi_list (pe_call G1 hr rfl m1 k1 b1 .nil pass0 (pa_cons (pv 0) pa_nil))) (pg_name (i := 2) scSO.nd rfl (Or.inl rfl))
    (pss_one (ps_expr (pe_bm PySem.F.plainAttrs_list PySem.F.slot_list_extend PySem.F.type_list_extend mt_extend (pv 1) (pa_cons (pe_op op_rep (pe_lst (pa_cons (pe_call G2 hr2 rfl m2 k2 b2 .nil pass0 (pa_cons (pv 2) pa_nil)) pa_nil)) (pe_call G3 hr1 rfl m3 k3 b3 .nil pass0 (pa_cons (pv 2) pa_nil))) pa_nil)))))
   (pss_one (ps_ret (pv 1)))), ?_⟩
  have b60 : ∀ p ∈ ps, Bd (2 ^ 60) p := fun p hp => (hB p hp).wide (by lia)
  refine ⟨Nat.zero_le _, fun D nD => ?_⟩
  have s0 : Same H (upd H D (.lst [])) := same_upd nD
  refine ⟨_, rfl, l, ps, rfl, Pts.same s0 hl, hn, b60, hs, fun r H1 s1 nr pr => ?_⟩
  obtain ⟨as, h1, h2⟩ := id pr
  have hlen : as.length = (lawSides ps).length := Paired.length h2
  have hD1 : H1 D = some (.lst []) := s1 _ _ upd_same
  have hz := (RS.shape_sides hs).1
  have lf := RS.sides_few ps
  refine ⟨r, rfl, ⟨_, SqL.of h1⟩, ?_⟩
  have rD : r ≠ D := fun z => by rw [z, upd_same] at nr; cases nr
  refine for_list (xs := as.map V.ref) (fun i σ H' => ∃ u, σ = [some (.ref l), some (.ref D), u] /\ Same H H' /\ Pts H' r (lawSides ps) /\ Ats H' as (lawSides ps) /\ H' r = some (.lst (as.map V.ref)) /\ Pts H' D (stepsM ((lawSides ps).take i)))
   ⟨none, rfl, s0.trans s1, pr, h2, h1, [], hD1, .nil⟩ (fun i σ H' _ ⟨_, _, _, _, _, q, _⟩ => SqL.of q) ?_ ?_
  ·rintro i x σ H' ex ⟨u, rfl, sm, pr', at', hr', pt⟩
   obtain ⟨a, ea, rfl⟩ := map_ref ex
   obtain ⟨v, ev, tv⟩ := paired_get at' i a ea
   have hv := List.mem_of_getElem? ev
   obtain ⟨g0, g1⟩ := sides_2500 hB hv (hz v hv)
   refine g_go ?_
   obtain ⟨ds, d1, d2⟩ := id pt
   have dlen : ds.length = (stepsM ((lawSides ps).take i)).length := Paired.length d2
   have sl : (stepsM ((lawSides ps).take i)).length <= 5000 * 100 := by
    have := RS.stepsM_len (m := 5000) (l := (lawSides ps).take i) (fun x hx => (sides_2500 hB (List.mem_of_mem_take hx) (hz x (List.mem_of_mem_take hx))).2)
    rw [List.length_take] at this
    have q : 5000 * (min i (lawSides ps).length) <= 5000 * 100 := Nat.mul_le_mul_left _ (by lia)
    lia
   refine ⟨_, rfl, .inl ⟨rfl, _, SqL.of d1⟩, _, rfl, a, v, rfl, tv, hz v hv, by lia, fun y H2 s2 ty => ?_⟩
   refine ⟨by show 1 <= sizeLine; decide, fun e ne => ?_⟩
   have s3 : Same H2 (upd H2 e (.lst [.ref y])) := same_upd ne
   have ty3 := s3 _ _ ty
   have he : upd H2 e (.lst [.ref y]) e = some (.lst [.ref y]) := upd_same
   generalize hH3 : upd H2 e (.lst [.ref y]) = H3 at s3 ty3 he ⊢
   have s23 := s2.trans s3
   refine ⟨_, rfl, a, v, rfl, s23 _ _ tv, e, gone v, _, rfl, rfl, he, by lia, by lia, ?_, fun g ng => ?_⟩
   ·show 1 * (gone v).toNat <= 2 ^ 24
    lia
   rw [rep_refs]
   have s4 : Same H3 (upd H3 g (.lst ((List.replicate (gone v).toNat y).map V.ref))) := same_upd ng
   have ty4 := s4 _ _ ty3
   have hg : upd H3 g (.lst ((List.replicate (gone v).toNat y).map V.ref)) g = some (.lst ((List.replicate (gone v).toNat y).map V.ref)) := upd_same
   generalize hH4 : upd H3 g (.lst ((List.replicate (gone v).toNat y).map V.ref)) = H4 at s4 ty4 hg ⊢
   have s24 := s23.trans s4
   have dD := s24 _ _ d1
   refine ⟨D, g, _, _, rfl, rfl, dD, hg, ?_, ?_⟩
   ·rw [List.length_map, List.length_map, List.length_replicate]
    show _ <= 2 ^ 24
    lia
   rw [<- List.map_append]
   refine ⟨_, rfl, same_set (sm.trans s24) nD, Pts.put' (Pts.same s24 pr') rD dD, Ats.put dD (Ats.same s24 at'), by rw [upd_ne rD]; exact s24 _ _ hr', ds ++ List.replicate (gone v).toNat y, upd_same, ?_⟩
   rw [RS.stepsM_take ev]
   exact Ats.put dD (Ats.app (Ats.same s24 d2) (Ats.rep ty4 _))
  ·rintro σ H' ⟨u, rfl, sm, _, _, _, pt⟩
   rw [List.length_map, hlen, List.take_of_length_le (Nat.le_refl _)] at pt
   exact ⟨_, rfl, k D H' sm nD pt⟩
end
end K1
namespace K1
open PySem L2
open RS (Pt arrow cross isShape lawSides dot moved sameWay along gone least sideLike restsM)
noncomputable abbrev sSideLike : Stmt := top 36
noncomputable abbrev sTaken : Stmt := top 37
inductive spSideLike (vs : List V) (H : Hp) (Q : VK) (u3 : XK) : Prop
 | mk (a : _) (l : _) (w : _) (ps : _) (c0 : vs = [.ref a, .ref l]) (c1 : Tp H a w) (c2 : Pts H l ps) (c3 : (∀ p ∈ ps, Bd (2 ^ 62) p)) (c4 : ∀ r H', Same H H' -> Tp H' r (sideLike w ps) -> Q (.ref r) H') : spSideLike  vs H Q u3
inductive spTaken (vs : List V) (H : Hp) (Q : VK) (u3 : XK) : Prop
 | mk (l : _) (b : _) (ps : _) (qs : _) (c0 : vs = [.ref l, .ref b]) (c1 : Pts H l ps) (c2 : Pts H b qs) (c3 : ps.length <= 100) (c4 : qs.length <= 100) (c5 : (∀ p ∈ ps, Bd (2 ^ 60) p)) (c6 : (∀ q ∈ qs, Bd (2 ^ 60) q)) (c7 : isShape ps = true) (c8 : isShape qs = true) (c9 : (∀ v ∈ lawSides qs, gone v <= gone (sideLike v (lawSides ps)))) (c10 : ∀ r t H', Same H H' -> H r = none -> H' t = some (.tup [.str "yes", .ref r]) -> Pts H' r (along (arrow (qs.headD (0, 0)) (ps.headD (0, 0))) (restsM (lawSides ps) (lawSides qs))) -> Q (.ref t) H') : spTaken  vs H Q u3
theorem like_step {w p : Pt} {l : List Pt} (h : ¬ sameWay p w = true) : sideLike w (p :: l) = sideLike w l := by
 unfold RS.sideLike
 rw [List.find?_cons_of_neg (by exact h)]
theorem like_here {w p : Pt} {l : List Pt} (h : sameWay p w = true) : sideLike w (p :: l) = p := by
 unfold RS.sideLike
 rw [List.find?_cons_of_pos (p := fun s => sameWay s w) h]
 rfl
theorem filter_next {l : List Pt} {i : Nat} {p : Pt} (h : l[i]? = some p) : (l.take (i + 1)).filter (fun r => decide (r ≠ (0, 0))) = (l.take i).filter (fun r => decide (r ≠ (0, 0))) ++ (if p ≠ (0, 0) then [p] else []) := by
 rw [take_next h, List.filter_append]
 congr 1
 by_cases q : p = (0, 0)
 ·rw [if_neg (fun z => z q), List.filter_cons_of_neg (by rw [q]; simp)]
  rfl
 ·rw [if_pos q, List.filter_cons_of_pos (p := fun r : Pt => decide (r ≠ (0, 0))) (decide_eq_true q)]
  rfl
theorem nodupAO : ((["arrow"] : List Str) ++ ([("others", 3)] : List (Str × Nat)).map (·.1)).Nodup := by decide +kernel
section
variable {P : Program} {w : World} {K : PySem.W.Frag} {mg : Str -> Option Value} {base : Heap}
theorem scSL : FnScope ["arrow", "arrows", "side"] ["arrow", "arrows"] (defScope sSideLike) := ⟨rfl, rfl, rfl, by decide +kernel, rfl, by decide +kernel, by decide +kernel⟩
theorem ok_side_like {f f1 : Addr} {fd fd1 : FuncData} (F : Fun K "side_like" "side_like" sSideLike f fd)
  (G1 : FnOk P w K mg base CX0 2 f1 fd1 ["one", "other"] (spBl2 (2 ^ 62) sameWay)) (k1 : PySem.W.keepIn K (.ref f1) = true) (b1 : Binds K fd1 ["one", "other"] []) (m1 : mg "same_way" = some (.ref f1)) : FnOk P w K mg base CX0 3 f fd ["arrow", "arrows"] spSideLike := by
 refine F.ok scSL (fun vs H Q E h => ?_) (fun cdv A outer s H vs Q E hr h => ?_)
 ·obtain ⟨a, l, w, ps, rfl, _⟩ := h
  rfl
 ·obtain ⟨a, l, w, ps, rfl, ha, hl, hB, k⟩ := h
  refine ⟨_, pss_cons (ps_for PassesOwn.never rfl (pi_list (pv 1)) (pg_name (i := 2) scSL.nd rfl (Or.inl rfl))
    (pss_one (ps_if (pt_val (pe_call G1 hr rfl m1 k1 b1 .nil pass0 (pa_cons (pv 2) (pa_cons (pv 0) pa_nil)))) (pss_one (ps_ret (pv 2))) pss_nil)))
   (pss_one (ps_ret (pe_tup (pa_cons pe_int (pa_cons pe_int pa_nil))))), ?_⟩
  obtain ⟨as, h1, h2⟩ := id hl
  have hlen : as.length = ps.length := Paired.length h2
  refine ⟨_, rfl, l, rfl, ⟨_, SqL.of h1⟩, ?_⟩
  refine for_list (xs := as.map V.ref) (fun i σ H' => (∃ u, σ = [some (.ref a), some (.ref l), u]) /\ H' = H /\ sideLike w ps = sideLike w (ps.drop i)) ⟨⟨none, rfl⟩, rfl, rfl⟩ (fun i σ H' _ ⟨_, e, _⟩ => by rw [e]; exact SqL.of h1) ?_ ?_
  ·rintro i x σ H' ex ⟨⟨u, rfl⟩, rfl, es⟩
   obtain ⟨b, eb, rfl⟩ := map_ref ex
   obtain ⟨p, ep, tp⟩ := paired_get h2 i b eb
   have hi : i < ps.length := (List.getElem?_eq_some_iff.mp ep).1
   have edr : ps.drop i = p :: ps.drop (i + 1) := by
    rw [List.drop_eq_getElem_cons hi]
    congr 1
    rw [List.getElem?_eq_getElem hi] at ep
    exact Option.some.inj ep
   rw [edr] at es
   refine g_go ?_
   refine ⟨_, rfl, _, rfl, b, a, p, w, rfl, tp, ha, hB p (List.mem_of_getElem? ep), _, rfl, ?_⟩
   refine ite2 (fun c => ?_) (fun c => ?_)
   ·rw [like_here c] at es
    rw [es] at k
    exact ⟨_, rfl, k b H' (Same.refl _) tp⟩
   ·rw [like_step c] at es
    exact ⟨⟨_, rfl⟩, rfl, es⟩
  ·rintro σ H' ⟨⟨u, rfl⟩, rfl, es⟩
   rw [List.length_map, hlen, List.drop_of_length_le (Nat.le_refl _)] at es
   refine ⟨by show 2 <= sizeLine; decide, fun r nr => k r _ (same_upd nr) ?_⟩
   rw [es]
   exact upd_same
theorem scTO : FnScope ["one", "other", "ones", "others", "arrow", "rests"] ["one", "other"] (defScope sTaken) := ⟨rfl, rfl, rfl, by decide +kernel, rfl, by decide +kernel, by decide +kernel⟩
theorem ok_taken {f f1 f2 f3 f4 f5 : Addr} {fd fd1 fd2 fd3 fd4 fd5 : FuncData} (F : Fun K "taken_off" "taken_off" sTaken f fd)
  (G1 : FnOk P w K mg base CX0 5 f1 fd1 ["corners"] spSidesP) (k1 : PySem.W.keepIn K (.ref f1) = true) (b1 : Binds K fd1 ["corners"] []) (m1 : mg "sides" = some (.ref f1))
  (G2 : FnOk P w K mg base CX0 1 f2 fd2 ["arrow"] spGone) (k2 : PySem.W.keepIn K (.ref f2) = true) (b2 : Binds K fd2 ["arrow"] []) (m2 : mg "times_gone" = some (.ref f2))
  (G3 : FnOk P w K mg base CX0 3 f3 fd3 ["arrow", "arrows"] spSideLike) (k3 : PySem.W.keepIn K (.ref f3) = true) (b3 : Binds K fd3 ["arrow", "arrows"] []) (m3 : mg "side_like" = some (.ref f3))
  (G4 : FnOk P w K mg base CX0 1 f4 fd4 ["start", "end"] (spPt2 arrow)) (k4 : PySem.W.keepIn K (.ref f4) = true) (b4 : Binds K fd4 ["start", "end"] []) (m4 : mg "arrow_from" = some (.ref f4))
  (G5 : FnOk P w K mg base CX0 2 f5 fd5 ["first", "arrows"] spAlong) (k5 : PySem.W.keepIn K (.ref f5) = true) (b5 : Binds K fd5 ["first", "arrows"] []) (m5 : mg "corners_along" = some (.ref f5)) : FnOk P w K mg base CX0 6 f fd ["one", "other"] spTaken := by
 refine F.ok scTO (fun vs H Q E h => ?_) (fun cdv A outer s H vs Q E hr h => ?_)
 ·obtain ⟨l, b, ps, qs, rfl, _⟩ := h
  rfl
 ·obtain ⟨l, b, ps, qs, rfl, hl, hb, hn, hm, hB, hC, hs, ht, hg, k⟩ := h
  have hu := hu_of hr
  have hr1 := hr.mono (j := 1) (by decide)
  have hr2 := hr.mono (j := 2) (by decide)
  have hr3 := hr.mono (j := 3) (by decide)
  refine ⟨_, pss_cons (ps_set (i := 2) scTO.nd rfl (Or.inl rfl) (pe_call G1 hr rfl m1 k1 b1 .nil pass0 (pa_cons (pv 0) pa_nil)))
   (pss_cons (ps_set (i := 3) scTO.nd rfl (Or.inr rfl) (pe_call G1 hr rfl m1 k1 b1 .nil pass0 (pa_cons (pv 1) pa_nil)))
   (pss_cons (ps_for PassesOwn.never rfl (pi_list (pv 3)) (pg_name (i := 4) scTO.nd rfl (Or.inl rfl))
    (pss_one (ps_if (pt_cmpR op_gt (pe_call G2 hr1 rfl m2 k2 b2 .nil pass0 (pa_cons (pv 4) pa_nil)) (pe_call G2 hr1 rfl m2 k2 b2 .nil pass0 (pa_cons (pe_call G3 hr3 rfl m3 k3 b3 .nil pass0 (pa_cons (pv 4) (pa_cons (pv 2) pa_nil))) pa_nil)) (nomark _)) pss_never pss_nil)))
   (pss_cons (ps_lc (j := 5) (tn := ["arrow"]) (cs := [("others", 3)]) (g := gName 0) (tt := tYes) (te := tCall (spPt2 arrow) [] E0 (tCons (tCall spSideLike [] E0 (tCons (tVar 0) (tCons (tVar 1) tNil))) (tCons (tVar 0) tNil)))
     (Caps.one (names' := [(".0", .local), ("arrow", .local), ("arrow_from", .globalImplicit), ("side_like", .globalImplicit), ("others", .cell)]) rfl rfl rfl rfl rfl rfl (by decide +kernel) rfl (by decide +kernel) (by decide +kernel)) rfl
     (pi_list (pv 2))
     (fun C s₀ H₀ fp xe => pg_name (i := 0) nodupAO rfl (Or.inl rfl) (.inr rfl))
     (fun C s₀ H₀ fp xe => pts_nil)
     (fun C s₀ H₀ fp xe => pe_call G4 hr1 rfl m4 k4 b4 .nil pass0 (pa_cons (pe_call G3 hr3 rfl m3 k3 b3 .nil pass0 (pa_cons (pv 0) (pa_cons (pv 1) pa_nil))) (pa_cons (pv 0) pa_nil))) scTO.nd rfl rfl rfl)
   (pss_cons (ps_lc (j := 5) (tn := ["rest"]) (cs := []) (g := gName 0) (te := tVar 0)
     (Caps.none (by decide +kernel) rfl (by decide +kernel)) rfl
     (pi_list (pv 5))
     (fun C s₀ H₀ fp xe => pg_name (i := 0) nodup1 rfl (Or.inl rfl) (.inr rfl))
     (fun C s₀ H₀ fp xe => pts_one (pt_cmpR (op_nePt hu) (pv 0) (pe_tup (pa_cons pe_int (pa_cons pe_int pa_nil))) (nomark _)))
     (fun C s₀ H₀ fp xe => pv 0) scTO.nd rfl rfl rfl)
   (pss_one (ps_ret (pe_tup (pa_cons pe_str (pa_cons (pe_call G5 hr2 rfl m5 k5 b5 .nil pass0 (pa_cons (pe_call G4 hr1 rfl m4 k4 b4 .nil pass0 (pa_cons (pe_ix ix_list (pv 1) pe_int (fun _ _ => rfl)) (pa_cons (pe_ix ix_list (pv 0) pe_int (fun _ _ => rfl)) pa_nil)))
    (pa_cons (pv 5) pa_nil))) pa_nil))))))))), ?_⟩
  have p0 := RS.shape_pos hs
  have q0 := RS.shape_pos ht
  obtain ⟨as, h1, h2⟩ := id hl
  obtain ⟨bs, g1, g2⟩ := id hb
  obtain ⟨a, ea, ta⟩ := Ats.get h2 (List.getElem?_eq_getElem p0)
  obtain ⟨c, ec, tc⟩ := Ats.get g2 (List.getElem?_eq_getElem q0)
  have bp := bd_sides' hB
  have bq := bd_sides' hC
  have lp := RS.sides_few ps
  refine ⟨_, rfl, l, ps, rfl, hl, hn, hB, hs, fun x H1 s1 nx px => ?_⟩
  refine ⟨_, rfl, b, qs, rfl, Pts.same s1 hb, hm, hC, ht, fun y H2 s2 ny py => ?_⟩
  have px2 := Pts.same s2 px
  have s02 := s1.trans s2
  generalize hA : lawSides ps = A1 at px px2 hg bp lp k
  generalize hA2 : lawSides qs = B1 at py hg bq k
  obtain ⟨xs, x1, x2⟩ := id px2
  obtain ⟨ys, y1, y2⟩ := id py
  have xlen : xs.length = A1.length := Paired.length x2
  have ylen : ys.length = B1.length := Paired.length y2
  refine ⟨_, rfl, y, rfl, ⟨_, SqL.of y1⟩, ?_⟩
  refine for_list (xs := ys.map V.ref) (fun i σ H' => (∃ u, σ = [some (.ref l), some (.ref b), some (.ref x), some (.ref y), u, none]) /\ Same H2 H') ⟨⟨none, rfl⟩, Same.refl _⟩ (fun i σ H' _ ⟨_, e⟩ => SqL.of (e _ _ y1)) ?_ ?_
  ·rintro i z σ H' ex ⟨⟨u, rfl⟩, sm⟩
   obtain ⟨v, ev, rfl⟩ := map_ref ex
   obtain ⟨p, ep, tp⟩ := paired_get y2 i v ev
   have hp := hg p (List.mem_of_getElem? ep)
   refine g_go ?_
   refine ⟨_, rfl, v, p, rfl, sm _ _ tp, _, rfl, _, rfl, v, x, p, A1, rfl, sm _ _ tp, Pts.same sm px2, bp, fun r H3 s3 tr => ?_⟩
   refine ⟨r, _, rfl, tr, _, _, rfl, rfl, _, rfl, ?_⟩
   rw [decide_eq_false (show ¬ gone (sideLike p A1) < gone p by omega)]
   exact iteF ⟨⟨_, rfl⟩, sm.trans s3⟩
  ·rintro σ H3 ⟨⟨u, rfl⟩, s3⟩
   have s03 := s02.trans s3
   refine ⟨_, rfl, x, rfl, ⟨_, SqL.of (s3 _ _ x1)⟩, fun D nD => ?_⟩
   refine lc_list (K := K) (a := x) (D := D) (xs := xs.map V.ref) (fun i σ H' => (∃ u, σ = [u, some (.ref y)]) /\ Same H3 H' /\ Pts H' D ((A1.map (fun w => arrow (sideLike w B1) w)).take i)) ⟨⟨none, rfl⟩, same_upd nD, [], upd_same, .nil⟩
    (fun i σ H' _ ⟨_, sm, _⟩ => SqL.of (sm _ _ (s3 _ _ x1))) ?_ ?_
   ·rintro i z σ H' ex ⟨⟨u, rfl⟩, sm, pt⟩
    obtain ⟨v, ev, rfl⟩ := map_ref ex
    obtain ⟨p, ep, tp⟩ := paired_get x2 i v ev
    have hi : i < A1.length := (List.getElem?_eq_some_iff.mp ep).1
    have tp' := sm _ _ (s3 _ _ tp)
    refine g_go ?_
    refine yes_go ?_
    refine ⟨_, rfl, _, rfl, v, y, p, B1, rfl, tp', Pts.same (s3.trans sm) py, bq, fun r H4 s4 tr => ?_⟩
    refine ⟨_, rfl, r, v, _, p, rfl, tr, s4 _ _ tp', fun r5 H5 s5 t5 => ?_⟩
    have er : (A1.map (fun w => arrow (sideLike w B1) w))[i]? = some (arrow (sideLike p B1) p) := by rw [List.getElem?_map, ep]; rfl
    have s45 := s4.trans s5
    obtain ⟨zs, z1, z2, z3, z4⟩ := pts_push nD (sm.trans s45) (Pts.same s45 pt) t5 (by rw [List.length_take, List.length_map]; exact size100 (by omega))
    exact ⟨zs, z1, z2, ⟨_, rfl⟩, z3, by rw [take_next er]; exact z4⟩
   ·rintro σ H4 ⟨_, s4, pD⟩
    rw [List.length_map, xlen, List.take_of_length_le (by rw [List.length_map]; exact Nat.le_refl _)] at pD
    have lR : (A1.map (fun w => arrow (sideLike w B1) w)).length <= 100 := by rw [List.length_map]; omega
    have eR : restsM A1 B1 = (A1.map (fun w => arrow (sideLike w B1) w)).filter (fun r => decide (r ≠ (0, 0))) := rfl
    rw [eR] at k
    generalize A1.map (fun w => arrow (sideLike w B1) w) = R1 at pD lR k
    obtain ⟨rs, r1, r2⟩ := id pD
    have rlen : rs.length = R1.length := Paired.length r2
    have s04 := s03.trans s4
    refine ⟨_, rfl, D, rfl, ⟨_, SqL.of r1⟩, fun M nM => ?_⟩
    refine lc_list (K := K) (a := D) (D := M) (xs := rs.map V.ref) (fun i σ H' => (∃ u, σ = [u]) /\ Same H4 H' /\ Pts H' M ((R1.take i).filter (fun r => decide (r ≠ (0, 0))))) ⟨⟨none, rfl⟩, same_upd nM, [], upd_same, .nil⟩
     (fun i σ H' _ ⟨_, sm, _⟩ => SqL.of (sm _ _ r1)) ?_ ?_
    ·rintro i z σ H' ex ⟨⟨u, rfl⟩, sm, pt⟩
     obtain ⟨v, ev, rfl⟩ := map_ref ex
     obtain ⟨p, ep, tp⟩ := paired_get r2 i v ev
     have hi : i < R1.length := (List.getElem?_eq_some_iff.mp ep).1
     refine g_go ?_
     refine ⟨_, rfl, by show 2 <= sizeLine; decide, fun t nt => ?_⟩
     have st : Same H' (upd H' t (.tup [.int 0, .int 0])) := same_upd nt
     have tz : Tp (upd H' t (.tup [.int 0, .int 0])) t (0, 0) := upd_same
     refine ⟨v, t, p, (0, 0), rfl, rfl, st _ _ (sm _ _ tp), tz, _, rfl, ?_⟩
     have fn := filter_next ep
     by_cases q : p = (0, 0)
     ·rw [if_neg (fun z => z q), List.append_nil] at fn
      rw [decide_eq_true q]
      exact iteF ⟨⟨_, rfl⟩, sm.trans st, by rw [fn]; exact Pts.same st pt⟩
     ·rw [if_pos q] at fn
      rw [decide_eq_false q]
      refine iteT ⟨_, rfl, ?_⟩
      obtain ⟨zs, z1, z2, z3, z4⟩ := pts_push nM (sm.trans st) (Pts.same st pt) (st _ _ (sm _ _ tp)) (by
       have := List.length_filter_le (fun r : Pt => decide (r ≠ (0, 0))) (R1.take i)
       rw [List.length_take] at this
       exact size100 (by omega))
      exact ⟨zs, z1, z2, ⟨_, rfl⟩, z3, by rw [fn]; exact z4⟩
    ·rintro σ H5 ⟨_, s5, pM⟩
     rw [List.length_map, rlen, List.take_of_length_le (Nat.le_refl _)] at pM
     have s05 := s04.trans s5
     have lF : (R1.filter (fun r => decide (r ≠ (0, 0)))).length <= 200 := Nat.le_trans (List.length_filter_le _ R1) (by omega)
     refine ⟨_, rfl, b, _, _, _, rfl, rfl, SqL.of (s05 _ _ g1), atI_nat (ref_get' ec), ?_⟩
     refine ⟨_, rfl, l, _, _, _, rfl, rfl, SqL.of (s05 _ _ h1), atI_nat (ref_get' ea), ?_⟩
     refine ⟨c, a, _, _, rfl, s05 _ _ tc, s05 _ _ ta, fun r6 H6 s6 t6 => ?_⟩
     refine ⟨_, rfl, r6, M, _, _, rfl, t6, Pts.same s6 pM, lF, fun r7 H7 s7 n7 p7 => ?_⟩
     refine ⟨by show 2 <= sizeLine; decide, fun t nt => ?_⟩
     have st : Same H7 (upd H7 t (.tup [.str "yes", .ref r7])) := same_upd nt
     rw [head_at q0, head_at p0] at k
     exact k r7 t _ (s05.trans (s6.trans (s7.trans st))) ((s05.trans s6).free n7) upd_same (Pts.same st p7)
end
end K1
namespace KH
open PySem PySem.W L2
open K1 (top)
noncomputable abbrev e (P : Params) (x : Str) (t : Nat) (v : Value) : DictEntry := ⟨PyData.keyHash P x, .str x t, v⟩
noncomputable abbrev r (a : Nat) : Value := .ref a
noncomputable abbrev i (k : Int) (t : Nat) : Value := .int k t
noncomputable abbrev z (k : Int) : Value := .int k 0
noncomputable abbrev s (x : Str) (t : Nat) : Value := .str x t
noncomputable abbrev t (x : String) : Value := .type x
noncomputable abbrev co (l : List Value) : Obj := ⟨.type "code", none, .fields l.toArray, #[]⟩
noncomputable abbrev tu (l : List Value) : Obj := ⟨.type "tuple", none, .seq l.toArray 0, #[]⟩
noncomputable abbrev fi (l : List Value) : Obj := ⟨.none, none, .fields l.toArray, #[]⟩
noncomputable abbrev fnT (x : Str) (k : Nat) (dV kV doc pm : Value) (an : Option Addr) (cdv ct : Value) : FuncData := fnOf x x (defArgs (top k)) (defBody (top k)) (defScope (top k)) dV kV doc pm an cdv ct
noncomputable abbrev f0 (x : Str) (k : Nat) : Obj := ⟨.none, none, .func ⟨x, x, defArgs (top k), .stmts (defBody (top k)), defScope (top k), 0, [], .none, .none, .none, .none, none, .none, .none, 0⟩, #[]⟩
noncomputable def heapK (P : Params) : Frag := (nat_lit 2, ⟨.none, none, (.dict #[] 0), #[]⟩) ::
 (nat_lit 3, ⟨(t "dict"), none, (.dict #[(e P "__name__" 165 (s "law_roundsum_k02_refused" 575)), (e P "__doc__" 166 .none), (e P "__package__" 167 .none), (e P "__loader__" 168 (.builtin "__main__.__loader__#opaque")), (e P "__spec__" 169 .none), (e P "__annotations__" 170 (r 6)), (e P "__builtins__" 171 (r 4)), (e P "__file__" 173 (s "/claim/cut.py" 172)), (e P "__cached__" 174 .none), (e P "arrow_from" 196 (r 21)), (e P "moved" 204 (r 28)), (e P "stretched" 212 (r 35)), (e P "product" 220 (r 42)), (e P "turn" 228 (r 49)), (e P "in_first_half" 235 (r 56)), (e P "goes_before" 243 (r 63)), (e P "same_way" 251 (r 70)), (e P "times_gone" 261 (r 77)), (e P "least_arrow" 269 (r 84)), (e P "corners_along" 279 (r 91)), (e P "RoundError" 299 (r 101)), (e P "NoShape" 315 (r 114)), (e P "NoPoints" 331 (r 126)), (e P "NoNumber" 347 (r 138)), (e P "TooLong" 363 (r 150)), (e P "NoNote" 379 (r 162)), (e P "MOST_POINTS" 383 (i 40 382)), (e P "arrows_round" 389 (r 169)), (e P "is_shape" 395 (r 174)), (e P "refuse_no_shape" 402 (r 181)), (e P "sides" 409 (r 188)), (e P "in_order" 415 (r 193)), (e P "left_turns" 424 (r 200)), (e P "hull" 434 (r 207)), (e P "holds" 445 (r 214)), (e P "reach" 451 (r 219)), (e P "MOST_TIMES" 455 (i 1000000 454)), (e P "all_in_order" 466 (r 226)), (e P "made_one" 475 (r 233)), (e P "together" 485 (r 240)), (e P "greater" 491 (r 245)), (e P "side_like" 500 (r 252)), (e P "taken_off" 506 (r 257)), (e P "double_area" 514 (r 262)), (e P "mixed" 523 (r 269)), (e P "shown" 531 (r 274)), (e P "MOST_STEPS" 535 (i 10 534)), (e P "steps_of" 544 (r 281)), (e P "refuse_too_long" 550 (r 286)), (e P "ways_to_part" 556 (r 291)), (e P "come_to_nought" 565 (r 298)), (e P "parted" 574 (r 305)), (e P "_law_cell_at" 584 (r 312)), (e P "_law_stir" 591 (r 319)), (e P "_law_cross" 599 (r 326)), (e P "_law_arrow" 607 (r 333)), (e P "_law_chain" 616 (r 340)), (e P "_law_hull" 622 (r 345)), (e P "_law_points" 628 (r 350)), (e P "_law_shape" 637 (r 357)), (e P "_law_which" 645 (r 364)), (e P "_law_one" 654 (r 371)), (e P "_law_two" 663 (r 378)), (e P "_law_met" 675 (r 385)), (e P "law" 681 (r 390))] 65), #[]⟩) ::
 (nat_lit 15, tu []) ::
 (nat_lit 17, tu [(s "start" 192), (s "end" 193)]) ::
 (nat_lit 18, tu []) ::
 (nat_lit 20, co [(s "arrow_from" 189), (s "arrow_from" 190), (s "/claim/cut.py" 191), (z 2), (z 2), (z 0), (z 0), (z 3), (r 15), (.bool true), (z 181), (r 16), .none, (r 17), (r 18), (r 19), (z 194), (z 2), (s "/claim/cut.py" 195)]) ::
 (nat_lit 21, ⟨(t "function"), none, (.func (fnT "arrow_from" 1 .none .none .none (s "roundsum.arrows" 187) none (r 20) .none)), #[]⟩) ::
 (nat_lit 22, tu []) ::
 (nat_lit 24, tu [(s "point" 200), (s "arrow" 201)]) ::
 (nat_lit 25, tu []) ::
 (nat_lit 27, co [(s "moved" 197), (s "moved" 198), (s "/claim/cut.py" 199), (z 4), (z 2), (z 0), (z 0), (z 3), (r 22), (.bool true), (z 181), (r 23), .none, (r 24), (r 25), (r 26), (z 202), (z 4), (s "/claim/cut.py" 203)]) ::
 (nat_lit 28, ⟨(t "function"), none, (.func (fnT "moved" 2 .none .none .none (s "roundsum.arrows" 187) none (r 27) .none)), #[]⟩) ::
 (nat_lit 29, tu []) ::
 (nat_lit 31, tu [(s "arrow" 208), (s "times" 209)]) ::
 (nat_lit 32, tu []) ::
 (nat_lit 34, co [(s "stretched" 205), (s "stretched" 206), (s "/claim/cut.py" 207), (z 6), (z 2), (z 0), (z 0), (z 3), (r 29), (.bool true), (z 181), (r 30), .none, (r 31), (r 32), (r 33), (z 210), (z 6), (s "/claim/cut.py" 211)]) ::
 (nat_lit 35, ⟨(t "function"), none, (.func (fnT "stretched" 3 .none .none .none (s "roundsum.arrows" 187) none (r 34) .none)), #[]⟩) ::
 (nat_lit 36, tu []) ::
 (nat_lit 38, tu [(s "one" 216), (s "other" 217)]) ::
 (nat_lit 39, tu []) ::
 (nat_lit 41, co [(s "product" 213), (s "product" 214), (s "/claim/cut.py" 215), (z 8), (z 2), (z 0), (z 0), (z 3), (r 36), (.bool true), (z 181), (r 37), .none, (r 38), (r 39), (r 40), (z 218), (z 8), (s "/claim/cut.py" 219)]) ::
 (nat_lit 42, ⟨(t "function"), none, (.func (fnT "product" 4 .none .none .none (s "roundsum.arrows" 187) none (r 41) .none)), #[]⟩) ::
 (nat_lit 43, tu []) ::
 (nat_lit 45, tu [(s "one" 224), (s "other" 225)]) ::
 (nat_lit 46, tu []) ::
 (nat_lit 48, co [(s "turn" 221), (s "turn" 222), (s "/claim/cut.py" 223), (z 10), (z 2), (z 0), (z 0), (z 3), (r 43), (.bool true), (z 181), (r 44), .none, (r 45), (r 46), (r 47), (z 226), (z 10), (s "/claim/cut.py" 227)]) ::
 (nat_lit 49, ⟨(t "function"), none, (.func (fnT "turn" 5 .none .none .none (s "roundsum.arrows" 187) none (r 48) .none)), #[]⟩) ::
 (nat_lit 50, tu []) ::
 (nat_lit 52, tu [(s "arrow" 232)]) ::
 (nat_lit 53, tu []) ::
 (nat_lit 55, co [(s "in_first_half" 229), (s "in_first_half" 230), (s "/claim/cut.py" 231), (z 12), (z 1), (z 0), (z 0), (z 3), (r 50), (.bool true), (z 181), (r 51), .none, (r 52), (r 53), (r 54), (z 233), (z 12), (s "/claim/cut.py" 234)]) ::
 (nat_lit 56, ⟨(t "function"), none, (.func (fnT "in_first_half" 6 .none .none .none (s "roundsum.arrows" 187) none (r 55) .none)), #[]⟩) ::
 (nat_lit 57, tu []) ::
 (nat_lit 59, tu [(s "one" 239), (s "other" 240)]) ::
 (nat_lit 60, tu []) ::
 (nat_lit 62, co [(s "goes_before" 236), (s "goes_before" 237), (s "/claim/cut.py" 238), (z 14), (z 2), (z 0), (z 0), (z 3), (r 57), (.bool true), (z 181), (r 58), .none, (r 59), (r 60), (r 61), (z 241), (z 14), (s "/claim/cut.py" 242)]) ::
 (nat_lit 63, ⟨(t "function"), none, (.func (fnT "goes_before" 7 .none .none .none (s "roundsum.arrows" 187) none (r 62) .none)), #[]⟩) ::
 (nat_lit 64, tu []) ::
 (nat_lit 66, tu [(s "one" 247), (s "other" 248)]) ::
 (nat_lit 67, tu []) ::
 (nat_lit 69, co [(s "same_way" 244), (s "same_way" 245), (s "/claim/cut.py" 246), (z 18), (z 2), (z 0), (z 0), (z 3), (r 64), (.bool true), (z 181), (r 65), .none, (r 66), (r 67), (r 68), (z 249), (z 18), (s "/claim/cut.py" 250)]) ::
 (nat_lit 70, ⟨(t "function"), none, (.func (fnT "same_way" 8 .none .none .none (s "roundsum.arrows" 187) none (r 69) .none)), #[]⟩) ::
 (nat_lit 71, tu []) ::
 (nat_lit 73, tu [(s "arrow" 255), (s "divisor" 256), (s "rest" 257), (s "remainder" 258)]) ::
 (nat_lit 74, tu []) ::
 (nat_lit 76, co [(s "times_gone" 252), (s "times_gone" 253), (s "/claim/cut.py" 254), (z 20), (z 1), (z 0), (z 0), (z 3), (r 71), (.bool true), (z 181), (r 72), .none, (r 73), (r 74), (r 75), (z 259), (z 20), (s "/claim/cut.py" 260)]) ::
 (nat_lit 77, ⟨(t "function"), none, (.func (fnT "times_gone" 9 .none .none .none (s "roundsum.arrows" 187) none (r 76) .none)), #[]⟩) ::
 (nat_lit 78, tu []) ::
 (nat_lit 80, tu [(s "arrow" 265), (s "times" 266)]) ::
 (nat_lit 81, tu []) ::
 (nat_lit 83, co [(s "least_arrow" 262), (s "least_arrow" 263), (s "/claim/cut.py" 264), (z 28), (z 1), (z 0), (z 0), (z 3), (r 78), (.bool true), (z 181), (r 79), .none, (r 80), (r 81), (r 82), (z 267), (z 28), (s "/claim/cut.py" 268)]) ::
 (nat_lit 84, ⟨(t "function"), none, (.func (fnT "least_arrow" 10 .none .none .none (s "roundsum.arrows" 187) none (r 83) .none)), #[]⟩) ::
 (nat_lit 85, tu []) ::
 (nat_lit 87, tu [(s "first" 273), (s "arrows" 274), (s "corners" 275), (s "arrow" 276)]) ::
 (nat_lit 88, tu []) ::
 (nat_lit 90, co [(s "corners_along" 270), (s "corners_along" 271), (s "/claim/cut.py" 272), (z 31), (z 2), (z 0), (z 0), (z 3), (r 85), (.bool true), (z 181), (r 86), .none, (r 87), (r 88), (r 89), (z 277), (z 31), (s "/claim/cut.py" 278)]) ::
 (nat_lit 91, ⟨(t "function"), none, (.func (fnT "corners_along" 11 .none .none .none (s "roundsum.arrows" 187) none (r 90) .none)), #[]⟩) ::
 (nat_lit 92, tu [(t "ValueError")]) ::
 (nat_lit 99, tu []) ::
 (nat_lit 100, ⟨(t "dict"), none, (.dict #[(e P "__module__" 289 (s "roundsum.errors" 280)), (e P "__firstlineno__" 293 (i 37 292)), (e P "__static_attributes__" 294 (r 99)), (e P "__weakref__" 296 (r 102)), (e P "__doc__" 297 .none)] 3), #[]⟩) ::
 (nat_lit 101, ⟨(t "type"), none, (.cls ⟨"RoundError", [(t "ValueError")], [(r 101), (t "ValueError"), (t "Exception"), (t "BaseException"), (t "object")], 100, "RoundError", true, [], [(r 114), (r 126), (r 138), (r 150), (r 162)], false, none, false⟩), #[(some (r 92)), none, (some (s "RoundError" 282)), (some (s "RoundError" 290)), (some (.builtin "ValueError.__new__")), (some (.bool true))]⟩) ::
 (nat_lit 102, ⟨(t "getset_descriptor"), none, (.fields #[(s "__weakref__" 295), (r 101), (.builtin "ExceptionGroup.__weakref__"), .none]), #[]⟩) ::
 (nat_lit 105, tu [(r 101)]) ::
 (nat_lit 112, tu []) ::
 (nat_lit 113, ⟨(t "dict"), none, (.dict #[(e P "__module__" 307 (s "roundsum.errors" 280)), (e P "__firstlineno__" 311 (i 39 310)), (e P "__static_attributes__" 312 (r 112)), (e P "__doc__" 313 .none)] 2), #[]⟩) ::
 (nat_lit 114, ⟨(t "type"), none, (.cls ⟨"NoShape", [(r 101)], [(r 114), (r 101), (t "ValueError"), (t "Exception"), (t "BaseException"), (t "object")], 113, "NoShape", true, [], [], false, none, false⟩), #[(some (r 105)), none, (some (s "NoShape" 300)), (some (s "NoShape" 308)), (some (.builtin "ValueError.__new__")), (some (.bool true))]⟩) ::
 (nat_lit 117, tu [(r 101)]) ::
 (nat_lit 124, tu []) ::
 (nat_lit 125, ⟨(t "dict"), none, (.dict #[(e P "__module__" 323 (s "roundsum.errors" 280)), (e P "__firstlineno__" 327 (i 41 326)), (e P "__static_attributes__" 328 (r 124)), (e P "__doc__" 329 .none)] 2), #[]⟩) ::
 (nat_lit 126, ⟨(t "type"), none, (.cls ⟨"NoPoints", [(r 101)], [(r 126), (r 101), (t "ValueError"), (t "Exception"), (t "BaseException"), (t "object")], 125, "NoPoints", true, [], [], false, none, false⟩), #[(some (r 117)), none, (some (s "NoPoints" 316)), (some (s "NoPoints" 324)), (some (.builtin "ValueError.__new__")), (some (.bool true))]⟩) ::
 (nat_lit 129, tu [(r 101)]) ::
 (nat_lit 136, tu []) ::
 (nat_lit 137, ⟨(t "dict"), none, (.dict #[(e P "__module__" 339 (s "roundsum.errors" 280)), (e P "__firstlineno__" 343 (i 43 342)), (e P "__static_attributes__" 344 (r 136)), (e P "__doc__" 345 .none)] 2), #[]⟩) ::
 (nat_lit 138, ⟨(t "type"), none, (.cls ⟨"NoNumber", [(r 101)], [(r 138), (r 101), (t "ValueError"), (t "Exception"), (t "BaseException"), (t "object")], 137, "NoNumber", true, [], [], false, none, false⟩), #[(some (r 129)), none, (some (s "NoNumber" 332)), (some (s "NoNumber" 340)), (some (.builtin "ValueError.__new__")), (some (.bool true))]⟩) ::
 (nat_lit 141, tu [(r 101)]) ::
 (nat_lit 148, tu []) ::
 (nat_lit 149, ⟨(t "dict"), none, (.dict #[(e P "__module__" 355 (s "roundsum.errors" 280)), (e P "__firstlineno__" 359 (i 45 358)), (e P "__static_attributes__" 360 (r 148)), (e P "__doc__" 361 .none)] 2), #[]⟩) ::
 (nat_lit 150, ⟨(t "type"), none, (.cls ⟨"TooLong", [(r 101)], [(r 150), (r 101), (t "ValueError"), (t "Exception"), (t "BaseException"), (t "object")], 149, "TooLong", true, [], [], false, none, false⟩), #[(some (r 141)), none, (some (s "TooLong" 348)), (some (s "TooLong" 356)), (some (.builtin "ValueError.__new__")), (some (.bool true))]⟩) ::
 (nat_lit 153, tu [(r 101)]) ::
 (nat_lit 160, tu []) ::
 (nat_lit 161, ⟨(t "dict"), none, (.dict #[(e P "__module__" 371 (s "roundsum.errors" 280)), (e P "__firstlineno__" 375 (i 47 374)), (e P "__static_attributes__" 376 (r 160)), (e P "__doc__" 377 .none)] 2), #[]⟩) ::
 (nat_lit 162, ⟨(t "type"), none, (.cls ⟨"NoNote", [(r 101)], [(r 162), (r 101), (t "ValueError"), (t "Exception"), (t "BaseException"), (t "object")], 161, "NoNote", true, [], [], false, none, false⟩), #[(some (r 153)), none, (some (s "NoNote" 364)), (some (s "NoNote" 372)), (some (.builtin "ValueError.__new__")), (some (.bool true))]⟩) ::
 (nat_lit 165, tu []) ::
 (nat_lit 168, co [(s "arrows_round" 384), (s "arrows_round" 385), (s "/claim/cut.py" 386), (z 51), (z 1), (z 0), (z 0), (z 3), (r 165), (.bool true), (z 181), (r 166), .none, .none, .none, (r 167), (z 387), (z 51), (s "/claim/cut.py" 388)]) ::
 (nat_lit 169, ⟨(t "function"), none, (.func (fnT "arrows_round" 21 .none .none .none (s "roundsum.shapes" 380) none (r 168) .none)), #[]⟩) ::
 (nat_lit 170, tu []) ::
 (nat_lit 173, co [(s "is_shape" 390), (s "is_shape" 391), (s "/claim/cut.py" 392), (z 53), (z 1), (z 0), (z 0), (z 3), (r 170), (.bool true), (z 181), (r 171), .none, .none, .none, (r 172), (z 393), (z 53), (s "/claim/cut.py" 394)]) ::
 (nat_lit 174, ⟨(t "function"), none, (.func (fnT "is_shape" 22 .none .none .none (s "roundsum.shapes" 380) none (r 173) .none)), #[]⟩) ::
 (nat_lit 175, tu []) ::
 (nat_lit 177, tu [(s "corners" 399)]) ::
 (nat_lit 178, tu []) ::
 (nat_lit 180, co [(s "refuse_no_shape" 396), (s "refuse_no_shape" 397), (s "/claim/cut.py" 398), (z 60), (z 1), (z 0), (z 0), (z 3), (r 175), (.bool true), (z 181), (r 176), .none, (r 177), (r 178), (r 179), (z 400), (z 60), (s "/claim/cut.py" 401)]) ::
 (nat_lit 181, ⟨(t "function"), none, (.func (fnT "refuse_no_shape" 23 .none .none .none (s "roundsum.shapes" 380) none (r 180) .none)), #[]⟩) ::
 (nat_lit 182, tu []) ::
 (nat_lit 184, tu [(s "corners" 406)]) ::
 (nat_lit 185, tu []) ::
 (nat_lit 187, co [(s "sides" 403), (s "sides" 404), (s "/claim/cut.py" 405), (z 63), (z 1), (z 0), (z 0), (z 3), (r 182), (.bool true), (z 181), (r 183), .none, (r 184), (r 185), (r 186), (z 407), (z 63), (s "/claim/cut.py" 408)]) ::
 (nat_lit 188, ⟨(t "function"), none, (.func (fnT "sides" 24 .none .none .none (s "roundsum.shapes" 380) none (r 187) .none)), #[]⟩) ::
 (nat_lit 189, tu []) ::
 (nat_lit 192, co [(s "in_order" 410), (s "in_order" 411), (s "/claim/cut.py" 412), (z 68), (z 1), (z 0), (z 0), (z 3), (r 189), (.bool true), (z 181), (r 190), .none, .none, .none, (r 191), (z 413), (z 68), (s "/claim/cut.py" 414)]) ::
 (nat_lit 193, ⟨(t "function"), none, (.func (fnT "in_order" 25 .none .none .none (s "roundsum.shapes" 380) none (r 192) .none)), #[]⟩) ::
 (nat_lit 194, tu []) ::
 (nat_lit 196, tu [(s "points" 419), (s "kept" 420), (s "point" 421)]) ::
 (nat_lit 197, tu []) ::
 (nat_lit 199, co [(s "left_turns" 416), (s "left_turns" 417), (s "/claim/cut.py" 418), (z 71), (z 1), (z 0), (z 0), (z 3), (r 194), (.bool true), (z 181), (r 195), .none, (r 196), (r 197), (r 198), (z 422), (z 71), (s "/claim/cut.py" 423)]) ::
 (nat_lit 200, ⟨(t "function"), none, (.func (fnT "left_turns" 26 .none .none .none (s "roundsum.shapes" 380) none (r 199) .none)), #[]⟩) ::
 (nat_lit 201, tu []) ::
 (nat_lit 203, tu [(s "points" 428), (s "ordered" 429), (s "upward" 430), (s "downward" 431)]) ::
 (nat_lit 204, tu []) ::
 (nat_lit 206, co [(s "hull" 425), (s "hull" 426), (s "/claim/cut.py" 427), (z 78), (z 1), (z 0), (z 0), (z 3), (r 201), (.bool true), (z 181), (r 202), .none, (r 203), (r 204), (r 205), (z 432), (z 78), (s "/claim/cut.py" 433)]) ::
 (nat_lit 207, ⟨(t "function"), none, (.func (fnT "hull" 27 .none .none .none (s "roundsum.shapes" 380) none (r 206) .none)), #[]⟩) ::
 (nat_lit 208, tu []) ::
 (nat_lit 210, tu [(s "corners" 438), (s "point" 439), (s "arrows" 440), (s "start" 441), (s "arrow" 442)]) ::
 (nat_lit 211, tu []) ::
 (nat_lit 213, co [(s "holds" 435), (s "holds" 436), (s "/claim/cut.py" 437), (z 87), (z 2), (z 0), (z 0), (z 3), (r 208), (.bool true), (z 181), (r 209), .none, (r 210), (r 211), (r 212), (z 443), (z 87), (s "/claim/cut.py" 444)]) ::
 (nat_lit 214, ⟨(t "function"), none, (.func (fnT "holds" 28 .none .none .none (s "roundsum.shapes" 380) none (r 213) .none)), #[]⟩) ::
 (nat_lit 215, tu []) ::
 (nat_lit 218, co [(s "reach" 446), (s "reach" 447), (s "/claim/cut.py" 448), (z 95), (z 2), (z 0), (z 0), (z 3), (r 215), (.bool true), (z 181), (r 216), .none, .none, .none, (r 217), (z 449), (z 95), (s "/claim/cut.py" 450)]) ::
 (nat_lit 219, ⟨(t "function"), none, (.func (fnT "reach" 29 .none .none .none (s "roundsum.shapes" 380) none (r 218) .none)), #[]⟩) ::
 (nat_lit 220, tu []) ::
 (nat_lit 222, tu [(s "ones" 459), (s "others" 460), (s "ordered" 461), (s "done" 462), (s "arrow" 463)]) ::
 (nat_lit 223, tu []) ::
 (nat_lit 225, co [(s "all_in_order" 456), (s "all_in_order" 457), (s "/claim/cut.py" 458), (z 100), (z 2), (z 0), (z 0), (z 3), (r 220), (.bool true), (z 181), (r 221), .none, (r 222), (r 223), (r 224), (z 464), (z 100), (s "/claim/cut.py" 465)]) ::
 (nat_lit 226, ⟨(t "function"), none, (.func (fnT "all_in_order" 32 .none .none .none (s "roundsum.sums" 452) none (r 225) .none)), #[]⟩) ::
 (nat_lit 227, tu []) ::
 (nat_lit 229, tu [(s "arrows" 470), (s "joined" 471), (s "arrow" 472)]) ::
 (nat_lit 230, tu []) ::
 (nat_lit 232, co [(s "made_one" 467), (s "made_one" 468), (s "/claim/cut.py" 469), (z 109), (z 1), (z 0), (z 0), (z 3), (r 227), (.bool true), (z 181), (r 228), .none, (r 229), (r 230), (r 231), (z 473), (z 109), (s "/claim/cut.py" 474)]) ::
 (nat_lit 233, ⟨(t "function"), none, (.func (fnT "made_one" 33 .none .none .none (s "roundsum.sums" 452) none (r 232) .none)), #[]⟩) ::
 (nat_lit 234, tu []) ::
 (nat_lit 236, tu [(s "one" 479), (s "other" 480), (s "ones" 481), (s "others" 482)]) ::
 (nat_lit 237, tu []) ::
 (nat_lit 239, co [(s "together" 476), (s "together" 477), (s "/claim/cut.py" 478), (z 117), (z 2), (z 0), (z 0), (z 3), (r 234), (.bool true), (z 181), (r 235), .none, (r 236), (r 237), (r 238), (z 483), (z 117), (s "/claim/cut.py" 484)]) ::
 (nat_lit 240, ⟨(t "function"), none, (.func (fnT "together" 34 .none .none .none (s "roundsum.sums" 452) none (r 239) .none)), #[]⟩) ::
 (nat_lit 241, tu []) ::
 (nat_lit 244, co [(s "greater" 486), (s "greater" 487), (s "/claim/cut.py" 488), (z 121), (z 2), (z 0), (z 0), (z 3), (r 241), (.bool true), (z 181), (r 242), .none, .none, .none, (r 243), (z 489), (z 121), (s "/claim/cut.py" 490)]) ::
 (nat_lit 245, ⟨(t "function"), none, (.func (fnT "greater" 35 .none .none .none (s "roundsum.sums" 452) none (r 244) .none)), #[]⟩) ::
 (nat_lit 246, tu []) ::
 (nat_lit 248, tu [(s "arrow" 495), (s "arrows" 496), (s "side" 497)]) ::
 (nat_lit 249, tu []) ::
 (nat_lit 251, co [(s "side_like" 492), (s "side_like" 493), (s "/claim/cut.py" 494), (z 128), (z 2), (z 0), (z 0), (z 3), (r 246), (.bool true), (z 181), (r 247), .none, (r 248), (r 249), (r 250), (z 498), (z 128), (s "/claim/cut.py" 499)]) ::
 (nat_lit 252, ⟨(t "function"), none, (.func (fnT "side_like" 36 .none .none .none (s "roundsum.sums" 452) none (r 251) .none)), #[]⟩) ::
 (nat_lit 253, tu []) ::
 (nat_lit 256, co [(s "taken_off" 501), (s "taken_off" 502), (s "/claim/cut.py" 503), (z 133), (z 2), (z 0), (z 0), (z 3), (r 253), (.bool true), (z 181), (r 254), .none, .none, .none, (r 255), (z 504), (z 133), (s "/claim/cut.py" 505)]) ::
 (nat_lit 257, ⟨(t "function"), none, (.func (fnT "taken_off" 37 .none .none .none (s "roundsum.sums" 452) none (r 256) .none)), #[]⟩) ::
 (nat_lit 258, tu []) ::
 (nat_lit 261, co [(s "double_area" 509), (s "double_area" 510), (s "/claim/cut.py" 511), (z 143), (z 1), (z 0), (z 0), (z 3), (r 258), (.bool true), (z 181), (r 259), .none, .none, .none, (r 260), (z 512), (z 143), (s "/claim/cut.py" 513)]) ::
 (nat_lit 262, ⟨(t "function"), none, (.func (fnT "double_area" 39 .none .none .none (s "roundsum.areas" 507) none (r 261) .none)), #[]⟩) ::
 (nat_lit 263, tu []) ::
 (nat_lit 265, tu [(s "one" 518), (s "other" 519), (s "both" 520)]) ::
 (nat_lit 266, tu []) ::
 (nat_lit 268, co [(s "mixed" 515), (s "mixed" 516), (s "/claim/cut.py" 517), (z 145), (z 2), (z 0), (z 0), (z 3), (r 263), (.bool true), (z 181), (r 264), .none, (r 265), (r 266), (r 267), (z 521), (z 145), (s "/claim/cut.py" 522)]) ::
 (nat_lit 269, ⟨(t "function"), none, (.func (fnT "mixed" 40 .none .none .none (s "roundsum.areas" 507) none (r 268) .none)), #[]⟩) ::
 (nat_lit 270, tu []) ::
 (nat_lit 273, co [(s "shown" 526), (s "shown" 527), (s "/claim/cut.py" 528), (z 149), (z 1), (z 0), (z 0), (z 3), (r 270), (.bool true), (z 181), (r 271), .none, .none, .none, (r 272), (z 529), (z 149), (s "/claim/cut.py" 530)]) ::
 (nat_lit 274, ⟨(t "function"), none, (.func (fnT "shown" 42 .none .none .none (s "roundsum.notes" 524) none (r 273) .none)), #[]⟩) ::
 (nat_lit 275, tu []) ::
 (nat_lit 277, tu [(s "corners" 539), (s "steps" 540), (s "side" 541)]) ::
 (nat_lit 278, tu []) ::
 (nat_lit 280, co [(s "steps_of" 536), (s "steps_of" 537), (s "/claim/cut.py" 538), (z 154), (z 1), (z 0), (z 0), (z 3), (r 275), (.bool true), (z 181), (r 276), .none, (r 277), (r 278), (r 279), (z 542), (z 154), (s "/claim/cut.py" 543)]) ::
 (nat_lit 281, ⟨(t "function"), none, (.func (fnT "steps_of" 45 .none .none .none (s "roundsum.parting" 532) none (r 280) .none)), #[]⟩) ::
 (nat_lit 282, tu []) ::
 (nat_lit 285, co [(s "refuse_too_long" 545), (s "refuse_too_long" 546), (s "/claim/cut.py" 547), (z 159), (z 1), (z 0), (z 0), (z 3), (r 282), (.bool true), (z 181), (r 283), .none, .none, .none, (r 284), (z 548), (z 159), (s "/claim/cut.py" 549)]) ::
 (nat_lit 286, ⟨(t "function"), none, (.func (fnT "refuse_too_long" 46 .none .none .none (s "roundsum.parting" 532) none (r 285) .none)), #[]⟩) ::
 (nat_lit 287, tu []) ::
 (nat_lit 290, co [(s "ways_to_part" 551), (s "ways_to_part" 552), (s "/claim/cut.py" 553), (z 162), (z 1), (z 0), (z 0), (z 3), (r 287), (.bool true), (z 181), (r 288), .none, .none, .none, (r 289), (z 554), (z 162), (s "/claim/cut.py" 555)]) ::
 (nat_lit 291, ⟨(t "function"), none, (.func (fnT "ways_to_part" 47 .none .none .none (s "roundsum.parting" 532) none (r 290) .none)), #[]⟩) ::
 (nat_lit 292, tu []) ::
 (nat_lit 294, tu [(s "arrows" 560), (s "end" 561), (s "arrow" 562)]) ::
 (nat_lit 295, tu []) ::
 (nat_lit 297, co [(s "come_to_nought" 557), (s "come_to_nought" 558), (s "/claim/cut.py" 559), (z 169), (z 1), (z 0), (z 0), (z 3), (r 292), (.bool true), (z 181), (r 293), .none, (r 294), (r 295), (r 296), (z 563), (z 169), (s "/claim/cut.py" 564)]) ::
 (nat_lit 298, ⟨(t "function"), none, (.func (fnT "come_to_nought" 48 .none .none .none (s "roundsum.parting" 532) none (r 297) .none)), #[]⟩) ::
 (nat_lit 299, tu []) ::
 (nat_lit 301, tu [(s "corners" 569), (s "chosen" 570), (s "rest" 571)]) ::
 (nat_lit 302, tu []) ::
 (nat_lit 304, co [(s "parted" 566), (s "parted" 567), (s "/claim/cut.py" 568), (z 174), (z 1), (z 0), (z 0), (z 3), (r 299), (.bool true), (z 181), (r 300), .none, (r 301), (r 302), (r 303), (z 572), (z 174), (s "/claim/cut.py" 573)]) ::
 (nat_lit 305, ⟨(t "function"), none, (.func (fnT "parted" 49 .none .none .none (s "roundsum.parting" 532) none (r 304) .none)), #[]⟩) ::
 (nat_lit 306, tu []) ::
 (nat_lit 308, tu [(s "script" 580), (s "k" 581)]) ::
 (nat_lit 309, tu []) ::
 (nat_lit 311, co [(s "_law_cell_at" 577), (s "_law_cell_at" 578), (s "/claim/cut.py" 579), (z 181), (z 2), (z 0), (z 0), (z 3), (r 306), (.bool true), (z 181), (r 307), .none, (r 308), (r 309), (r 310), (z 582), (z 181), (s "/claim/cut.py" 583)]) ::
 (nat_lit 312, ⟨(t "function"), none, (.func (fnT "_law_cell_at" 51 .none .none .none (s "law_roundsum_k02_refused" 575) none (r 311) .none)), #[]⟩) ::
 (nat_lit 313, tu []) ::
 (nat_lit 315, tu [(s "seed" 588)]) ::
 (nat_lit 316, tu []) ::
 (nat_lit 318, co [(s "_law_stir" 585), (s "_law_stir" 586), (s "/claim/cut.py" 587), (z 185), (z 1), (z 0), (z 0), (z 3), (r 313), (.bool true), (z 181), (r 314), .none, (r 315), (r 316), (r 317), (z 589), (z 185), (s "/claim/cut.py" 590)]) ::
 (nat_lit 319, ⟨(t "function"), none, (.func (fnT "_law_stir" 52 .none .none .none (s "law_roundsum_k02_refused" 575) none (r 318) .none)), #[]⟩) ::
 (nat_lit 320, tu []) ::
 (nat_lit 322, tu [(s "one" 595), (s "other" 596)]) ::
 (nat_lit 323, tu []) ::
 (nat_lit 325, co [(s "_law_cross" 592), (s "_law_cross" 593), (s "/claim/cut.py" 594), (z 188), (z 2), (z 0), (z 0), (z 3), (r 320), (.bool true), (z 181), (r 321), .none, (r 322), (r 323), (r 324), (z 597), (z 188), (s "/claim/cut.py" 598)]) ::
 (nat_lit 326, ⟨(t "function"), none, (.func (fnT "_law_cross" 53 .none .none .none (s "law_roundsum_k02_refused" 575) none (r 325) .none)), #[]⟩) ::
 (nat_lit 327, tu []) ::
 (nat_lit 329, tu [(s "one" 603), (s "other" 604)]) ::
 (nat_lit 330, tu []) ::
 (nat_lit 332, co [(s "_law_arrow" 600), (s "_law_arrow" 601), (s "/claim/cut.py" 602), (z 190), (z 2), (z 0), (z 0), (z 3), (r 327), (.bool true), (z 181), (r 328), .none, (r 329), (r 330), (r 331), (z 605), (z 190), (s "/claim/cut.py" 606)]) ::
 (nat_lit 333, ⟨(t "function"), none, (.func (fnT "_law_arrow" 54 .none .none .none (s "law_roundsum_k02_refused" 575) none (r 332) .none)), #[]⟩) ::
 (nat_lit 334, tu []) ::
 (nat_lit 336, tu [(s "points" 611), (s "found" 612), (s "point" 613)]) ::
 (nat_lit 337, tu []) ::
 (nat_lit 339, co [(s "_law_chain" 608), (s "_law_chain" 609), (s "/claim/cut.py" 610), (z 192), (z 1), (z 0), (z 0), (z 3), (r 334), (.bool true), (z 181), (r 335), .none, (r 336), (r 337), (r 338), (z 614), (z 192), (s "/claim/cut.py" 615)]) ::
 (nat_lit 340, ⟨(t "function"), none, (.func (fnT "_law_chain" 55 .none .none .none (s "law_roundsum_k02_refused" 575) none (r 339) .none)), #[]⟩) ::
 (nat_lit 341, tu []) ::
 (nat_lit 344, co [(s "_law_hull" 617), (s "_law_hull" 618), (s "/claim/cut.py" 619), (z 201), (z 1), (z 0), (z 0), (z 3), (r 341), (.bool true), (z 181), (r 342), .none, .none, .none, (r 343), (z 620), (z 201), (s "/claim/cut.py" 621)]) ::
 (nat_lit 345, ⟨(t "function"), none, (.func (fnT "_law_hull" 56 .none .none .none (s "law_roundsum_k02_refused" 575) none (r 344) .none)), #[]⟩) ::
 (nat_lit 346, tu []) ::
 (nat_lit 349, co [(s "_law_points" 623), (s "_law_points" 624), (s "/claim/cut.py" 625), (z 206), (z 3), (z 0), (z 0), (z 3), (r 346), (.bool true), (z 181), (r 347), .none, .none, .none, (r 348), (z 626), (z 206), (s "/claim/cut.py" 627)]) ::
 (nat_lit 350, ⟨(t "function"), none, (.func (fnT "_law_points" 57 .none .none .none (s "law_roundsum_k02_refused" 575) none (r 349) .none)), #[]⟩) ::
 (nat_lit 351, tu []) ::
 (nat_lit 353, tu [(s "script" 632), (s "at" 633), (s "most" 634)]) ::
 (nat_lit 354, tu []) ::
 (nat_lit 356, co [(s "_law_shape" 629), (s "_law_shape" 630), (s "/claim/cut.py" 631), (z 217), (z 3), (z 0), (z 0), (z 3), (r 351), (.bool true), (z 181), (r 352), .none, (r 353), (r 354), (r 355), (z 635), (z 217), (s "/claim/cut.py" 636)]) ::
 (nat_lit 357, ⟨(t "function"), none, (.func (fnT "_law_shape" 58 .none .none .none (s "law_roundsum_k02_refused" 575) none (r 356) .none)), #[]⟩) ::
 (nat_lit 358, tu []) ::
 (nat_lit 360, tu [(s "e" 641), (s "told" 642)]) ::
 (nat_lit 361, tu []) ::
 (nat_lit 363, co [(s "_law_which" 638), (s "_law_which" 639), (s "/claim/cut.py" 640), (z 219), (z 1), (z 0), (z 0), (z 3), (r 358), (.bool true), (z 181), (r 359), .none, (r 360), (r 361), (r 362), (z 643), (z 219), (s "/claim/cut.py" 644)]) ::
 (nat_lit 364, ⟨(t "function"), none, (.func (fnT "_law_which" 59 .none .none .none (s "law_roundsum_k02_refused" 575) none (r 363) .none)), #[]⟩) ::
 (nat_lit 365, tu []) ::
 (nat_lit 367, tu [(s "way" 649), (s "corners" 650), (s "times" 651)]) ::
 (nat_lit 368, tu []) ::
 (nat_lit 370, co [(s "_law_one" 646), (s "_law_one" 647), (s "/claim/cut.py" 648), (z 225), (z 3), (z 0), (z 0), (z 3), (r 365), (.bool true), (z 181), (r 366), .none, (r 367), (r 368), (r 369), (z 652), (z 225), (s "/claim/cut.py" 653)]) ::
 (nat_lit 371, ⟨(t "function"), none, (.func (fnT "_law_one" 60 .none .none .none (s "law_roundsum_k02_refused" 575) none (r 370) .none)), #[]⟩) ::
 (nat_lit 372, tu []) ::
 (nat_lit 374, tu [(s "way" 658), (s "corners" 659), (s "other" 660)]) ::
 (nat_lit 375, tu []) ::
 (nat_lit 377, co [(s "_law_two" 655), (s "_law_two" 656), (s "/claim/cut.py" 657), (z 241), (z 3), (z 0), (z 0), (z 3), (r 372), (.bool true), (z 181), (r 373), .none, (r 374), (r 375), (r 376), (z 661), (z 241), (s "/claim/cut.py" 662)]) ::
 (nat_lit 378, ⟨(t "function"), none, (.func (fnT "_law_two" 61 .none .none .none (s "law_roundsum_k02_refused" 575) none (r 377) .none)), #[]⟩) ::
 (nat_lit 379, tu []) ::
 (nat_lit 381, tu [(s "way" 667), (s "corners" 668), (s "other" 669), (s "times" 670), (s "which" 671), (s "e" 672)]) ::
 (nat_lit 382, tu []) ::
 (nat_lit 384, co [(s "_law_met" 664), (s "_law_met" 665), (s "/claim/cut.py" 666), (z 253), (z 4), (z 0), (z 0), (z 3), (r 379), (.bool true), (z 181), (r 380), .none, (r 381), (r 382), (r 383), (z 673), (z 253), (s "/claim/cut.py" 674)]) ::
 (nat_lit 385, ⟨(t "function"), none, (.func (fnT "_law_met" 62 .none .none .none (s "law_roundsum_k02_refused" 575) none (r 384) .none)), #[]⟩) ::
 (nat_lit 386, tu []) ::
 (nat_lit 389, co [(s "law" 676), (s "law" 677), (s "/claim/cut.py" 678), (z 265), (z 1), (z 0), (z 0), (z 3), (r 386), (.bool true), (z 181), (r 387), .none, .none, .none, (r 388), (z 679), (z 265), (s "/claim/cut.py" 680)]) ::
 (nat_lit 390, ⟨(t "function"), none, (.func (fnT "law" 63 .none .none .none (s "law_roundsum_k02_refused" 575) none (r 389) .none)), #[]⟩) :: []
noncomputable def heapAs : List Addr := [2, 3, 15, 17, 18, 20, 21, 22, 24, 25, 27, 28, 29, 31, 32, 34, 35, 36, 38, 39, 41, 42, 43, 45, 46, 48, 49, 50, 52, 53, 55, 56, 57, 59, 60, 62, 63, 64, 66, 67, 69, 70, 71, 73, 74, 76, 77, 78, 80, 81, 83, 84, 85, 87, 88, 90, 91, 92, 99, 100, 101, 102, 105, 112, 113, 114, 117, 124, 125, 126, 129, 136, 137, 138, 141, 148, 149, 150, 153, 160, 161, 162, 165, 168, 169, 170, 173, 174, 175, 177, 178, 180, 181, 182, 184, 185, 187, 188, 189, 192, 193, 194, 196, 197, 199, 200, 201, 203, 204, 206, 207, 208, 210, 211, 213, 214, 215, 218, 219, 220, 222, 223, 225, 226, 227, 229, 230, 232, 233, 234, 236, 237, 239, 240, 241, 244, 245, 246, 248, 249, 251, 252, 253, 256, 257, 258, 261, 262, 263, 265, 266, 268, 269, 270, 273, 274, 275, 277, 278, 280, 281, 282, 285, 286, 287, 290, 291, 292, 294, 295, 297, 298, 299, 301, 302, 304, 305, 306, 308, 309, 311, 312, 313, 315, 316, 318, 319, 320, 322, 323, 325, 326, 327, 329, 330, 332, 333, 334, 336, 337, 339, 340, 341, 344, 345, 346, 349, 350, 351, 353, 354, 356, 357, 358, 360, 361, 363, 364, 365, 367, 368, 370, 371, 372, 374, 375, 377, 378, 379, 381, 382, 384, 385, 386, 389, 390]
noncomputable def heapM (P : Params) : Frag := (nat_lit 11, tu []) ::
 (nat_lit 12, fi [(z 2), (z 0), (r 20), (z 4), (z 0), (r 27), (z 6), (z 0), (r 34), (z 8), (z 0), (r 41), (z 10), (z 0), (r 48), (z 12), (z 0), (r 55), (z 14), (z 0), (r 62), (z 18), (z 0), (r 69), (z 20), (z 0), (r 76), (z 28), (z 0), (r 83), (z 31), (z 0), (r 90), (z 37), (z 0), (r 97), (z 39), (z 0), (r 110), (z 41), (z 0), (r 122), (z 43), (z 0), (r 134), (z 45), (z 0), (r 146), (z 47), (z 0), (r 158), (z 51), (z 0), (r 168), (z 53), (z 0), (r 173), (z 60), (z 0), (r 180), (z 63), (z 0), (r 187), (z 68), (z 0), (r 192), (z 71), (z 0), (r 199), (z 78), (z 0), (r 206), (z 87), (z 0), (r 213), (z 95), (z 0), (r 218), (z 100), (z 0), (r 225), (z 109), (z 0), (r 232), (z 117), (z 0), (r 239), (z 121), (z 0), (r 244), (z 128), (z 0), (r 251), (z 133), (z 0), (r 256), (z 143), (z 0), (r 261), (z 145), (z 0), (r 268), (z 149), (z 0), (r 273), (z 154), (z 0), (r 280), (z 159), (z 0), (r 285), (z 162), (z 0), (r 290), (z 169), (z 0), (r 297), (z 174), (z 0), (r 304), (z 181), (z 0), (r 311), (z 185), (z 0), (r 318), (z 188), (z 0), (r 325), (z 190), (z 0), (r 332), (z 192), (z 0), (r 339), (z 201), (z 0), (r 344), (z 206), (z 0), (r 349), (z 217), (z 0), (r 356), (z 219), (z 0), (r 363), (z 225), (z 0), (r 370), (z 241), (z 0), (r 377), (z 253), (z 0), (r 384), (z 265), (z 0), (r 389)]) ::
 (nat_lit 13, co [(s "<module>" 182), (s "<module>" 183), (s "/claim/cut.py" 184), (z 1), (z 0), (z 0), (z 0), (z 0), (r 11), (.bool false), (z 181), (r 12), .none, .none, .none, .none, (z 185), (z 1), (s "/claim/cut.py" 186)]) ::
 (nat_lit 14, ⟨(t "frame"), none, .plain, #[(some (r 13)), (some (r 3)), (some (r 3)), none, (some (s "__main__" 164)), none, (some (r 0))]⟩) ::
 (nat_lit 16, fi []) ::
 (nat_lit 19, f0 "arrow_from" 1) ::
 (nat_lit 23, fi []) ::
 (nat_lit 26, f0 "moved" 2) ::
 (nat_lit 30, fi []) ::
 (nat_lit 33, f0 "stretched" 3) ::
 (nat_lit 37, fi []) ::
 (nat_lit 40, f0 "product" 4) ::
 (nat_lit 44, fi []) ::
 (nat_lit 47, f0 "turn" 5) ::
 (nat_lit 51, fi []) ::
 (nat_lit 54, f0 "in_first_half" 6) ::
 (nat_lit 58, fi []) ::
 (nat_lit 61, f0 "goes_before" 7) ::
 (nat_lit 65, fi []) ::
 (nat_lit 68, f0 "same_way" 8) ::
 (nat_lit 72, fi []) ::
 (nat_lit 75, f0 "times_gone" 9) ::
 (nat_lit 79, fi []) ::
 (nat_lit 82, f0 "least_arrow" 10) ::
 (nat_lit 86, fi []) ::
 (nat_lit 89, f0 "corners_along" 11) ::
 (nat_lit 93, ⟨(t "builtin_function_or_method"), none, (.fields #[(.builtin "type.__prepare__"), (t "type")]), #[]⟩) ::
 (nat_lit 94, ⟨(t "dict"), none, (.dict #[(e P "__module__" 289 (s "roundsum.errors" 280)), (e P "__qualname__" 291 (s "RoundError" 290)), (e P "__firstlineno__" 293 (i 37 292)), (e P "__static_attributes__" 294 (r 99))] 4), #[]⟩) ::
 (nat_lit 95, tu []) ::
 (nat_lit 96, fi []) ::
 (nat_lit 97, co [(s "RoundError" 284), (s "RoundError" 285), (s "/claim/cut.py" 286), (z 37), (z 0), (z 0), (z 0), (z 0), (r 95), (.bool false), (z 181), (r 96), .none, .none, .none, .none, (z 287), (z 37), (s "/claim/cut.py" 288)]) ::
 (nat_lit 98, ⟨(t "frame"), none, .plain, #[(some (r 97)), (some (r 3)), (some (r 94)), none, (some (s "roundsum.errors" 280)), none, (some (r 0))]⟩) ::
 (nat_lit 103, ⟨(t "super"), none, (.fields #[(r 101), (r 101), (r 101)]), #[]⟩) ::
 (nat_lit 104, ⟨(t "builtin_function_or_method"), none, (.fields #[(.builtin "object.__init_subclass__"), (r 101)]), #[]⟩) ::
 (nat_lit 106, ⟨(t "builtin_function_or_method"), none, (.fields #[(.builtin "type.__prepare__"), (t "type")]), #[]⟩) ::
 (nat_lit 107, ⟨(t "dict"), none, (.dict #[(e P "__module__" 307 (s "roundsum.errors" 280)), (e P "__qualname__" 309 (s "NoShape" 308)), (e P "__firstlineno__" 311 (i 39 310)), (e P "__static_attributes__" 312 (r 112))] 4), #[]⟩) ::
 (nat_lit 108, tu []) ::
 (nat_lit 109, fi []) ::
 (nat_lit 110, co [(s "NoShape" 302), (s "NoShape" 303), (s "/claim/cut.py" 304), (z 39), (z 0), (z 0), (z 0), (z 0), (r 108), (.bool false), (z 181), (r 109), .none, .none, .none, .none, (z 305), (z 39), (s "/claim/cut.py" 306)]) ::
 (nat_lit 111, ⟨(t "frame"), none, .plain, #[(some (r 110)), (some (r 3)), (some (r 107)), none, (some (s "roundsum.errors" 280)), none, (some (r 0))]⟩) ::
 (nat_lit 115, ⟨(t "super"), none, (.fields #[(r 114), (r 114), (r 114)]), #[]⟩) ::
 (nat_lit 116, ⟨(t "builtin_function_or_method"), none, (.fields #[(.builtin "object.__init_subclass__"), (r 114)]), #[]⟩) ::
 (nat_lit 118, ⟨(t "builtin_function_or_method"), none, (.fields #[(.builtin "type.__prepare__"), (t "type")]), #[]⟩) ::
 (nat_lit 119, ⟨(t "dict"), none, (.dict #[(e P "__module__" 323 (s "roundsum.errors" 280)), (e P "__qualname__" 325 (s "NoPoints" 324)), (e P "__firstlineno__" 327 (i 41 326)), (e P "__static_attributes__" 328 (r 124))] 4), #[]⟩) ::
 (nat_lit 120, tu []) ::
 (nat_lit 121, fi []) ::
 (nat_lit 122, co [(s "NoPoints" 318), (s "NoPoints" 319), (s "/claim/cut.py" 320), (z 41), (z 0), (z 0), (z 0), (z 0), (r 120), (.bool false), (z 181), (r 121), .none, .none, .none, .none, (z 321), (z 41), (s "/claim/cut.py" 322)]) ::
 (nat_lit 123, ⟨(t "frame"), none, .plain, #[(some (r 122)), (some (r 3)), (some (r 119)), none, (some (s "roundsum.errors" 280)), none, (some (r 0))]⟩) ::
 (nat_lit 127, ⟨(t "super"), none, (.fields #[(r 126), (r 126), (r 126)]), #[]⟩) ::
 (nat_lit 128, ⟨(t "builtin_function_or_method"), none, (.fields #[(.builtin "object.__init_subclass__"), (r 126)]), #[]⟩) ::
 (nat_lit 130, ⟨(t "builtin_function_or_method"), none, (.fields #[(.builtin "type.__prepare__"), (t "type")]), #[]⟩) ::
 (nat_lit 131, ⟨(t "dict"), none, (.dict #[(e P "__module__" 339 (s "roundsum.errors" 280)), (e P "__qualname__" 341 (s "NoNumber" 340)), (e P "__firstlineno__" 343 (i 43 342)), (e P "__static_attributes__" 344 (r 136))] 4), #[]⟩) ::
 (nat_lit 132, tu []) ::
 (nat_lit 133, fi []) ::
 (nat_lit 134, co [(s "NoNumber" 334), (s "NoNumber" 335), (s "/claim/cut.py" 336), (z 43), (z 0), (z 0), (z 0), (z 0), (r 132), (.bool false), (z 181), (r 133), .none, .none, .none, .none, (z 337), (z 43), (s "/claim/cut.py" 338)]) ::
 (nat_lit 135, ⟨(t "frame"), none, .plain, #[(some (r 134)), (some (r 3)), (some (r 131)), none, (some (s "roundsum.errors" 280)), none, (some (r 0))]⟩) ::
 (nat_lit 139, ⟨(t "super"), none, (.fields #[(r 138), (r 138), (r 138)]), #[]⟩) ::
 (nat_lit 140, ⟨(t "builtin_function_or_method"), none, (.fields #[(.builtin "object.__init_subclass__"), (r 138)]), #[]⟩) ::
 (nat_lit 142, ⟨(t "builtin_function_or_method"), none, (.fields #[(.builtin "type.__prepare__"), (t "type")]), #[]⟩) ::
 (nat_lit 143, ⟨(t "dict"), none, (.dict #[(e P "__module__" 355 (s "roundsum.errors" 280)), (e P "__qualname__" 357 (s "TooLong" 356)), (e P "__firstlineno__" 359 (i 45 358)), (e P "__static_attributes__" 360 (r 148))] 4), #[]⟩) ::
 (nat_lit 144, tu []) ::
 (nat_lit 145, fi []) ::
 (nat_lit 146, co [(s "TooLong" 350), (s "TooLong" 351), (s "/claim/cut.py" 352), (z 45), (z 0), (z 0), (z 0), (z 0), (r 144), (.bool false), (z 181), (r 145), .none, .none, .none, .none, (z 353), (z 45), (s "/claim/cut.py" 354)]) ::
 (nat_lit 147, ⟨(t "frame"), none, .plain, #[(some (r 146)), (some (r 3)), (some (r 143)), none, (some (s "roundsum.errors" 280)), none, (some (r 0))]⟩) ::
 (nat_lit 151, ⟨(t "super"), none, (.fields #[(r 150), (r 150), (r 150)]), #[]⟩) ::
 (nat_lit 152, ⟨(t "builtin_function_or_method"), none, (.fields #[(.builtin "object.__init_subclass__"), (r 150)]), #[]⟩) ::
 (nat_lit 154, ⟨(t "builtin_function_or_method"), none, (.fields #[(.builtin "type.__prepare__"), (t "type")]), #[]⟩) ::
 (nat_lit 155, ⟨(t "dict"), none, (.dict #[(e P "__module__" 371 (s "roundsum.errors" 280)), (e P "__qualname__" 373 (s "NoNote" 372)), (e P "__firstlineno__" 375 (i 47 374)), (e P "__static_attributes__" 376 (r 160))] 4), #[]⟩) ::
 (nat_lit 156, tu []) ::
 (nat_lit 157, fi []) ::
 (nat_lit 158, co [(s "NoNote" 366), (s "NoNote" 367), (s "/claim/cut.py" 368), (z 47), (z 0), (z 0), (z 0), (z 0), (r 156), (.bool false), (z 181), (r 157), .none, .none, .none, .none, (z 369), (z 47), (s "/claim/cut.py" 370)]) ::
 (nat_lit 159, ⟨(t "frame"), none, .plain, #[(some (r 158)), (some (r 3)), (some (r 155)), none, (some (s "roundsum.errors" 280)), none, (some (r 0))]⟩) ::
 (nat_lit 163, ⟨(t "super"), none, (.fields #[(r 162), (r 162), (r 162)]), #[]⟩) ::
 (nat_lit 164, ⟨(t "builtin_function_or_method"), none, (.fields #[(.builtin "object.__init_subclass__"), (r 162)]), #[]⟩) ::
 (nat_lit 166, fi []) ::
 (nat_lit 167, f0 "arrows_round" 21) ::
 (nat_lit 171, fi []) ::
 (nat_lit 172, f0 "is_shape" 22) ::
 (nat_lit 176, fi []) ::
 (nat_lit 179, f0 "refuse_no_shape" 23) ::
 (nat_lit 183, fi []) ::
 (nat_lit 186, f0 "sides" 24) ::
 (nat_lit 190, fi []) ::
 (nat_lit 191, f0 "in_order" 25) ::
 (nat_lit 195, fi []) ::
 (nat_lit 198, f0 "left_turns" 26) ::
 (nat_lit 202, fi []) ::
 (nat_lit 205, f0 "hull" 27) ::
 (nat_lit 209, fi []) ::
 (nat_lit 212, f0 "holds" 28) ::
 (nat_lit 216, fi []) ::
 (nat_lit 217, f0 "reach" 29) ::
 (nat_lit 221, fi []) ::
 (nat_lit 224, f0 "all_in_order" 32) ::
 (nat_lit 228, fi []) ::
 (nat_lit 231, f0 "made_one" 33) ::
 (nat_lit 235, fi []) ::
 (nat_lit 238, f0 "together" 34) ::
 (nat_lit 242, fi []) ::
 (nat_lit 243, f0 "greater" 35) ::
 (nat_lit 247, fi []) ::
 (nat_lit 250, f0 "side_like" 36) ::
 (nat_lit 254, fi []) ::
 (nat_lit 255, f0 "taken_off" 37) ::
 (nat_lit 259, fi []) ::
 (nat_lit 260, f0 "double_area" 39) ::
 (nat_lit 264, fi []) ::
 (nat_lit 267, f0 "mixed" 40) ::
 (nat_lit 271, fi []) ::
 (nat_lit 272, f0 "shown" 42) ::
 (nat_lit 276, fi []) ::
 (nat_lit 279, f0 "steps_of" 45) ::
 (nat_lit 283, fi []) ::
 (nat_lit 284, f0 "refuse_too_long" 46) ::
 (nat_lit 288, fi []) ::
 (nat_lit 289, f0 "ways_to_part" 47) ::
 (nat_lit 293, fi []) ::
 (nat_lit 296, f0 "come_to_nought" 48) ::
 (nat_lit 300, fi []) ::
 (nat_lit 303, f0 "parted" 49) ::
 (nat_lit 307, fi []) ::
 (nat_lit 310, f0 "_law_cell_at" 51) ::
 (nat_lit 314, fi []) ::
 (nat_lit 317, f0 "_law_stir" 52) ::
 (nat_lit 321, fi []) ::
 (nat_lit 324, f0 "_law_cross" 53) ::
 (nat_lit 328, fi []) ::
 (nat_lit 331, f0 "_law_arrow" 54) ::
 (nat_lit 335, fi []) ::
 (nat_lit 338, f0 "_law_chain" 55) ::
 (nat_lit 342, fi []) ::
 (nat_lit 343, f0 "_law_hull" 56) ::
 (nat_lit 347, fi []) ::
 (nat_lit 348, f0 "_law_points" 57) ::
 (nat_lit 352, fi []) ::
 (nat_lit 355, f0 "_law_shape" 58) ::
 (nat_lit 359, fi []) ::
 (nat_lit 362, f0 "_law_which" 59) ::
 (nat_lit 366, fi []) ::
 (nat_lit 369, f0 "_law_one" 60) ::
 (nat_lit 373, fi []) ::
 (nat_lit 376, f0 "_law_two" 61) ::
 (nat_lit 380, fi []) ::
 (nat_lit 383, f0 "_law_met" 62) ::
 (nat_lit 387, fi []) ::
 (nat_lit 388, f0 "law" 63) :: []
noncomputable def heapN (P : Params) : Frag := (nat_lit 3, ⟨(t "dict"), none, (.dict #[(e P "__name__" 165 (s "roundsum.shapes" 380)), (e P "__doc__" 166 .none), (e P "__package__" 167 .none), (e P "__loader__" 168 (.builtin "__main__.__loader__#opaque")), (e P "__spec__" 169 .none), (e P "__annotations__" 170 (r 6)), (e P "__builtins__" 171 (r 4)), (e P "__file__" 173 (s "/claim/cut.py" 172)), (e P "__cached__" 174 .none), (e P "arrow_from" 196 (r 21)), (e P "moved" 204 (r 28)), (e P "stretched" 212 (r 35)), (e P "product" 220 (r 42)), (e P "turn" 228 (r 49)), (e P "in_first_half" 235 (r 56)), (e P "goes_before" 243 (r 63)), (e P "same_way" 251 (r 70)), (e P "times_gone" 261 (r 77)), (e P "least_arrow" 269 (r 84)), (e P "corners_along" 279 (r 91)), (e P "RoundError" 299 (r 101)), (e P "NoShape" 315 (r 114)), (e P "NoPoints" 331 (r 126)), (e P "NoNumber" 347 (r 138)), (e P "TooLong" 363 (r 150)), (e P "NoNote" 379 (r 162))] 26), #[]⟩) ::
 (nat_lit 12, fi [(z 2), (z 0), (r 20), (z 4), (z 0), (r 27), (z 6), (z 0), (r 34), (z 8), (z 0), (r 41), (z 10), (z 0), (r 48), (z 12), (z 0), (r 55), (z 14), (z 0), (r 62), (z 18), (z 0), (r 69), (z 20), (z 0), (r 76), (z 28), (z 0), (r 83), (z 31), (z 0), (r 90), (z 37), (z 0), (r 97), (z 39), (z 0), (r 110), (z 41), (z 0), (r 122), (z 43), (z 0), (r 134), (z 45), (z 0), (r 146), (z 47), (z 0), (r 158)]) :: []
theorem hookE (P : Params) : heapAs = (heapK P).map (·.1) := by kernel_rfl
noncomputable abbrev hook : Hook := kHook heapK heapAs hookE
noncomputable abbrev pw : Program := PySem.Challenge.pw_roundsum_k02_refused
noncomputable def seenQ : Program := view pw [1, 2, 3, 4, 5, 6, 7, 8, 9, 10, 11, 13, 14, 15, 16, 17, 18, 20, 21, 22, 23, 24, 25, 26, 27, 28, 29, 31, 32, 33, 34, 35, 36, 37, 39, 40, 42, 44, 45, 46, 47, 48, 49, 51, 52, 53, 54, 55, 56, 57, 58, 59, 60, 61, 62, 63]
noncomputable def bootH (P : Params) : Heap := ((fencedOpening treeTable pw ⟨fun _ _ => 0, P⟩ 5592).getD {}).heap
noncomputable def objE (P : Params) (a : Nat) : Obj := match (heapM P).lookup a with
 | some o => o
 | none => match (heapK P).lookup a with
  | some o => o
  | none => ((bootH P).objs[a]?).getD default
noncomputable def objM (P : Params) (a : Nat) : Obj := match (heapN P).lookup a with
 | some o => o
 | none => objE P a
noncomputable def endH (P : Params) : Heap := ⟨((List.range 391).map (objE P)).toArray, {}⟩
noncomputable def midH (P : Params) : Heap := ⟨((List.range 165).map (objM P)).toArray, {}⟩
noncomputable def bd : List Stmt := behindTheImports pw
noncomputable def env0 : Env := { scope := pw.main.scope, locals := mainNs, globals := mainNs, cells := [], code := .ref 13, frame := some 14 }
noncomputable def cd0 : Code := .body bd env0
noncomputable def p0 : Pos := ⟨0, 0, 0, 0⟩
noncomputable def stA (P : Params) (os : OsState) : Shared := ((topGo treeTable pw ⟨fun _ _ => 0, P⟩ 11 ((some (.ref 6))) 12 ⟨bootH P, #[], {}, 181, os⟩ (topStub pw)).map (·.1)).getD {}
theorem hopen (w : World) : (fencedOpening treeTable pw w 5592).map (fun s => (s.heap, s.gens, s.drawn, s.toks)) = some (bootH w.params, #[], {}, 181) := by kernel_rfl
theorem hsize (w : World) : ((bootH w.params).isNs mainGlobals && (#[] : Array GenState).size == 0, (bootH w.params).objs.size, (bootH w.params).nsMap mainGlobals "__annotations__") = (true, 11, (some (.ref 6))) := by kernel_rfl
theorem hpre (w : World) (os : OsState) : topGo treeTable pw w 11 ((some (.ref 6))) 12 ⟨bootH w.params, #[], {}, 181, os⟩ (topStub pw) = some (stA w.params os, ⟨denote treeTable cd0, cd0, p0, [topFrame p0]⟩) := by kernel_rfl
set_option tactic.hygienic true in
theorem hblock (w : World) (os : OsState) : segRun treeTable pw w 11 ((some (.ref 6))) 1 1 (stA w.params os) (blockOf bd env0 cd0 p0 [topFrame p0]) = some (.next, stA w.params os, cd0, p0) := by kernel_rfl
set_option tactic.hygienic true in
theorem hone (w : World) (os : OsState) : segRun treeTable pw w 11 ((some (.ref 6))) 1 1612 (stA w.params os) (piecesOf (bd.take 20) env0 cd0 p0 [topFrame p0]) = some (.next, ⟨midH w.params, #[], {}, 382, os⟩, cd0, ⟨49, 0, 49, 8⟩) := by kernel_rfl
set_option tactic.hygienic true in
theorem htwo (w : World) (os : OsState) : segRun treeTable pw w 11 ((some (.ref 6))) 1 1123 ⟨midH w.params, #[], {}, 382, os⟩ (piecesOf (bd.drop 20) env0 cd0 ⟨49, 0, 49, 8⟩ [topFrame p0]) = some (.next, ⟨endH w.params, #[], {}, 682, os⟩, cd0, ⟨265, 0, 293, 15⟩) := by kernel_rfl
set_option tactic.hygienic true in
theorem hend (w : World) (os : OsState) : topRun treeTable pw w 11 ((some (.ref 6))) 2 ⟨endH w.params, #[], {}, 682, os⟩ ⟨doneF .next, cd0, ⟨265, 0, 293, 15⟩, [topFrame p0]⟩ = some ⟨endH w.params, #[], {}, 682, os⟩ := by kernel_rfl
theorem hrun (w : World) (os : OsState) : topRun treeTable pw w 11 ((some (.ref 6))) (12 + (1 + (1612 + (1123 + 2)))) ⟨bootH w.params, #[], {}, 181, os⟩ (topStub pw) = some ⟨endH w.params, #[], {}, 682, os⟩ := by
 refine go_top (hpre w os) (piece_block (hblock w os) ?_)
 have h := piece_app (hone w os) (piece_app (htwo w os) (piece_nil (env := env0) (hend w os)))
 rw [List.append_nil, List.take_append_drop] at h
 exact h
noncomputable abbrev seenX (s : Shared) : Bool := xlAt seenQ [] s && recOk (RowW.records PySem.Challenge.rw_roundsum_k02_refused.row.toRowW) s
theorem hlooks (w : World) : (fun os => ((staticsOk (importedModules pw.main.body) (bootH w.params) (endH w.params) && namesBound pw (endH w.params) && gensDone ⟨endH w.params, #[], {}, 682, os⟩ && laidKept (bootH w.params) (endH w.params)),
  openSeen seenQ [] (importedModules pw.main.body) seenX true ⟨endH w.params, #[], {}, 682, os⟩, hook.obs ⟨endH w.params, #[], {}, 682, os⟩)) = fun _ => (true, openGood seenQ [], hook.val w) := by kernel_rfl
theorem left_law : LeftO PySem.Challenge.rw_roundsum_k02_refused.row.prog seenQ [] seenX hook.obs hook.val 5592 := LeftO.of_pieces hopen hsize hrun rfl hlooks
end KH
namespace K1
open PySem L2
open RS (Pt Way isShape lawSides gone least stepsM waysM wayStep fits sum1 sum2 moved)
noncomputable abbrev sTooLong : Stmt := top 46
noncomputable abbrev sWays : Stmt := top 47
noncomputable abbrev sNought : Stmt := top 48
noncomputable abbrev sParted : Stmt := top 49
noncomputable def PrN (D : Addr) (H : Hp) (a : Addr) (w : Way) : Prop := ∃ x y, x ≠ D /\ y ≠ D /\ H a = some (.tup [.ref x, .ref y]) /\ Pts H x w.1 /\ Pts H y w.2
noncomputable def Pr (H : Hp) (a : Addr) (w : Way) : Prop := ∃ x y, H a = some (.tup [.ref x, .ref y]) /\ Pts H x w.1 /\ Pts H y w.2
noncomputable def Prs (H : Hp) (l : Addr) (ws : List Way) : Prop := ∃ as : List Addr, H l = some (.lst (as.map V.ref)) /\ Paired (Pr H) as ws
theorem PrN.same {D : Addr} {H H' : Hp} (s : Same H H') {a : Addr} {w : Way} (h : PrN D H a w) : PrN D H' a w :=
 let ⟨x, y, n1, n2, e, p, q⟩ := h; ⟨x, y, n1, n2, s _ _ e, Pts.same s p, Pts.same s q⟩
theorem PrN.put {D : Addr} {H : Hp} {a : Addr} {w : Way} {ys : List V} {o : HO} (hD : H D = some (.lst ys)) (h : PrN D H a w) : PrN D (upd H D o) a w :=
 let ⟨x, y, n1, n2, e, p, q⟩ := h
 ⟨x, y, n1, n2, by rw [upd_ne (ne_of e hD (by intro z; cases z))]; exact e, Pts.put' p n1 hD, Pts.put' q n2 hD⟩
theorem PrN.pr {D : Addr} {H : Hp} {a : Addr} {w : Way} (h : PrN D H a w) : Pr H a w := let ⟨x, y, _, _, e, p, q⟩ := h; ⟨x, y, e, p, q⟩
theorem Pr.same {H H' : Hp} (s : Same H H') {a : Addr} {w : Way} (h : Pr H a w) : Pr H' a w :=
 let ⟨x, y, e, p, q⟩ := h; ⟨x, y, s _ _ e, Pts.same s p, Pts.same s q⟩
theorem paired_imp {α β : Type} {F G : α -> β -> Prop} (h : ∀ a b, F a b -> G a b) {l : List α} {r : List β} (q : Paired F l r) : Paired G l r := Paired.mapP q h
theorem paired_app {α β : Type} {F : α -> β -> Prop} {l l' : List α} {r r' : List β} (q : Paired F l r) (h : Paired F l' r') : Paired F (l ++ l') (r ++ r') := by
 induction q with
 | nil => exact h
 | cons a _ ih => exact .cons a ih
inductive spTooLong (vs : List V) (H : Hp) (Q : VK) (u3 : XK) : Prop
 | mk (l : _) (ps : _) (c0 : vs = [.ref l]) (c1 : Pts H l ps) (c2 : ps.length <= 100) (c3 : (∀ p ∈ ps, Bd (2 ^ 60) p)) (c4 : isShape ps = true) (c5 : (stepsM (lawSides ps)).length <= 10) (c6 : ∀ H', Same H H' -> Q .non H') : spTooLong  vs H Q u3
inductive spWays (vs : List V) (H : Hp) (Q : VK) (u3 : XK) : Prop
 | mk (l : _) (ps : _) (c0 : vs = [.ref l]) (c1 : Pts H l ps) (c2 : ps.length <= 10) (c3 : ∀ r H', Same H H' -> Prs H' r (waysM ps) -> Q (.ref r) H') : spWays  vs H Q u3
inductive spNought (vs : List V) (H : Hp) (Q : VK) (u3 : XK) : Prop
 | mk (l : _) (ps : _) (c0 : vs = [.ref l]) (c1 : Pts H l ps) (c2 : ∀ H', Same H H' -> Q (.bl (decide ((sum1 ps, sum2 ps) = ((0, 0) : Pt)))) H') : spNought  vs H Q u3
inductive spParted (vs : List V) (H : Hp) (Q : VK) (u3 : XK) : Prop
 | mk (l : _) (ps : _) (c0 : vs = [.ref l]) (c1 : Pts H l ps) (c2 : ps.length <= 100) (c3 : (∀ p ∈ ps, Bd 1000 p)) (c4 : isShape ps = true) (c5 : (stepsM (lawSides ps)).length <= 10) (c6 : ∀ v H', Same H H' -> (!decide (v = V.non)) = (waysM (stepsM (lawSides ps))).any fits -> Q v H') : spParted  vs H Q u3
theorem bootSum : bootBuiltins "sum" = some (.builtin "sum") := by decide +kernel
theorem nodupS : ((["side"] : List Str) ++ ([] : List (Str × Nat)).map (·.1)).Nodup := by decide +kernel
theorem nodupCRS : ((["chosen", "rest"] : List Str) ++ ([("step", 2)] : List (Str × Nat)).map (·.1)).Nodup := by decide +kernel
theorem sum_take {l : List Pt} {i : Nat} {p : Pt} (h : l[i]? = some p) : (sum1 (l.take (i + 1)), sum2 (l.take (i + 1))) = moved (sum1 (l.take i), sum2 (l.take i)) p := by
 rw [take_next h, (RS.sum_app _ _).1, (RS.sum_app _ _).2]
 have e1 : sum1 [p] = p.1 := by simp [RS.sum1]
 have e2 : sum2 [p] = p.2 := by simp [RS.sum2]
 rw [e1, e2]
 rfl
section
variable {P : Program} {w : World} {K : PySem.W.Frag} {mg : Str -> Option Value} {base : Heap}
theorem scTL : FnScope ["corners"] ["corners"] (defScope sTooLong) := ⟨rfl, rfl, rfl, by decide +kernel, rfl, by decide +kernel, by decide +kernel⟩
theorem scWy : FnScope ["steps", "pairs", "step", "taking", "leaving"] ["steps"] (defScope sWays) := ⟨rfl, rfl, rfl, by decide +kernel, rfl, by decide +kernel, by decide +kernel⟩
theorem ok_ways {f : Addr} {fd : FuncData} (F : Fun K "ways_to_part" "ways_to_part" sWays f fd) : FnOk P w K mg base CX0 1 f fd ["steps"] spWays := by
 refine F.ok scWy (fun vs H Q E h => ?_) (fun cdv A outer s H vs Q E hr h => ?_)
 ·obtain ⟨l, ps, rfl, _⟩ := h
  rfl
 ·obtain ⟨l, ps, rfl, hl, hn, k⟩ := h
  refine ⟨_, pss_cons (ps_set (i := 1) scWy.nd rfl (Or.inl rfl) (pe_lst (pa_cons (pe_tup (pa_cons (pe_lst pa_nil) (pa_cons (pe_lst pa_nil) pa_nil))) pa_nil)))
   (pss_cons (ps_for PassesOwn.never rfl (pi_list (pv 0)) (pg_name (i := 2) scWy.nd rfl (Or.inr rfl))
    (pss_cons (ps_lc (j := 3) (tn := ["chosen", "rest"]) (cs := [("step", 2)]) (g := gTup K 2 (gCons (gName 0) (gCons (gName 1) gNil))) (tt := tYes) (te := tTup (tCons (tOp rCat (tVar 0) (tLst (tCons (tVar 2) tNil))) (tCons (tVar 1) tNil)))
     (Caps.one (names' := [(".0", .local), ("chosen", .local), ("rest", .local), ("step", .cell)]) rfl rfl rfl rfl rfl rfl (by decide +kernel) rfl (by decide +kernel) (by decide +kernel)) rfl
     (pi_list (pv 1))
     (fun C s₀ H₀ fp xe => pg_tup rfl (pgs_cons (pg_name (i := 0) nodupCRS rfl (Or.inl rfl) (.inr rfl)) (pgs_cons (pg_name (i := 1) nodupCRS rfl (Or.inl rfl) (.inr rfl)) pgs_nil)))
     (fun C s₀ H₀ fp xe => pts_nil)
     (fun C s₀ H₀ fp xe => pe_tup (pa_cons (pe_op op_cat (pv 0) (pe_lst (pa_cons (pv 2) pa_nil))) (pa_cons (pv 1) pa_nil))) scWy.nd rfl rfl rfl)
    (pss_cons (ps_lc (j := 4) (tn := ["chosen", "rest"]) (cs := [("step", 2)]) (g := gTup K 2 (gCons (gName 0) (gCons (gName 1) gNil))) (tt := tYes) (te := tTup (tCons (tVar 0) (tCons (tOp rCat (tVar 1) (tLst (tCons (tVar 2) tNil))) tNil)))
     (Caps.one (names' := [(".0", .local), ("chosen", .local), ("rest", .local), ("step", .cell)]) rfl rfl rfl rfl rfl rfl (by decide +kernel) rfl (by decide +kernel) (by decide +kernel)) rfl
     (pi_list (pv 1))
     (fun C s₀ H₀ fp xe => pg_tup rfl (pgs_cons (pg_name (i := 0) nodupCRS rfl (Or.inl rfl) (.inr rfl)) (pgs_cons (pg_name (i := 1) nodupCRS rfl (Or.inl rfl) (.inr rfl)) pgs_nil)))
     (fun C s₀ H₀ fp xe => pts_nil)
     (fun C s₀ H₀ fp xe => pe_tup (pa_cons (pv 0) (pa_cons (pe_op op_cat (pv 1) (pe_lst (pa_cons (pv 2) pa_nil))) pa_nil))) scWy.nd rfl rfl rfl)
    (pss_one (ps_set (i := 1) scWy.nd rfl (Or.inl rfl) (pe_op op_cat (pv 3) (pv 4)))))))
   (pss_one (ps_ret (pv 1)))), ?_⟩
  obtain ⟨as, h1, h2⟩ := id hl
  have hlen : as.length = ps.length := Paired.length h2
  refine ⟨Nat.zero_le _, fun d1 n1 => ⟨Nat.zero_le _, fun d2 n2 => ⟨by show 2 <= sizeLine; decide, fun d3 n3 => ⟨by show 1 <= sizeLine; decide, fun d4 n4 => ?_⟩⟩⟩⟩
  have t1 : Same H (upd H d1 (.lst [])) := same_upd n1
  have e1 : Pts (upd H d1 (.lst [])) d1 [] := ⟨[], upd_same, .nil⟩
  generalize upd H d1 (.lst []) = Ha at t1 e1 n2 n3 n4 ⊢
  have t2 : Same Ha (upd Ha d2 (.lst [])) := same_upd n2
  have e2 : Pts (upd Ha d2 (.lst [])) d2 [] := ⟨[], upd_same, .nil⟩
  generalize upd Ha d2 (.lst []) = Hb at t2 e2 n3 n4 ⊢
  have t3 : Same Hb (upd Hb d3 (.tup [.ref d1, .ref d2])) := same_upd n3
  have e3 : Pr (upd Hb d3 (.tup [.ref d1, .ref d2])) d3 ([], []) := ⟨d1, d2, upd_same, Pts.same (t2.trans t3) e1, Pts.same t3 e2⟩
  generalize upd Hb d3 (.tup [.ref d1, .ref d2]) = Hc at t3 e3 n4 ⊢
  have t4 : Same Hc (upd Hc d4 (.lst [.ref d3])) := same_upd n4
  have e4 : Prs (upd Hc d4 (.lst [.ref d3])) d4 (waysM (ps.take 0)) := ⟨[d3], upd_same, .cons (Pr.same t4 e3) .nil⟩
  generalize upd Hc d4 (.lst [.ref d3]) = Hd at t4 e4 ⊢
  have t0 := t1.trans (t2.trans (t3.trans t4))
  refine ⟨_, rfl, l, rfl, ⟨_, SqL.of (t0 _ _ h1)⟩, ?_⟩
  refine for_list (xs := as.map V.ref) (fun i σ H' => (∃ d u1 u2 u3, σ = [some (.ref l), some (.ref d), u1, u2, u3] /\ Prs H' d (waysM (ps.take i))) /\ Same H H') ⟨⟨d4, none, none, none, rfl, e4⟩, t0⟩ (fun i σ H' _ ⟨_, q⟩ => SqL.of (q _ _ h1)) ?_ ?_
  ·rintro i z σ H' ex ⟨⟨d, u1, u2, u3, rfl, pw⟩, sm⟩
   obtain ⟨a, ea, rfl⟩ := map_ref ex
   obtain ⟨p, ep, tp⟩ := paired_get h2 i a ea
   have tp' : Tp H' a p := sm _ _ tp
   refine g_go ?_
   obtain ⟨wl, wn⟩ := RS.ways_take_len (l := ps) (i := i) hn
   rw [RS.ways_take ep]
   generalize waysM (ps.take i) = ws at pw wl wn
   obtain ⟨ds, g1, g2⟩ := id pw
   have dlen : ds.length = ws.length := Paired.length g2
   refine ⟨_, rfl, d, rfl, ⟨_, SqL.of g1⟩, fun D nD => ?_⟩
   refine lc_list (K := K) (a := d) (D := D) (xs := ds.map V.ref) (fun j σ H5 => (∃ u v, σ = [u, v, some (.ref a)]) /\ Same H' H5 /\ ∃ es : List Addr, H5 D = some (.lst (es.map V.ref)) /\ es.length = j /\ Paired (PrN D H5) es ((ws.map (fun w => (w.1 ++ [p], w.2))).take j)) ⟨⟨none, none, rfl⟩, same_upd nD, [], upd_same, rfl, .nil⟩
    (fun j σ H5 _ ⟨_, s5, _⟩ => SqL.of (s5 _ _ g1)) ?_ ?_
   ·rintro j y σ H5 ey ⟨⟨u, v, rfl⟩, s5, es, hD, el, pes⟩
    obtain ⟨t, et, rfl⟩ := map_ref ey
    obtain ⟨w, ew, x1, x2, tw, px, py⟩ := paired_get g2 j t et
    have hj : j < ws.length := (List.getElem?_eq_some_iff.mp ew).1
    obtain ⟨cs, c1, c2⟩ := id px
    have cl : cs.length <= 10 := by rw [Paired.length c2]; exact (wl w (List.mem_of_getElem? ew)).1
    refine ⟨t, _, rfl, SqT.of (s5 _ _ tw), rfl, _, _, rfl, _, _, rfl, rfl, ?_⟩
    refine yes_go ?_
    refine ⟨_, rfl, _, rfl, by show 1 <= sizeLine; decide, fun m nm => ?_⟩
    have sa : Same H5 (upd H5 m (.lst [.ref a])) := same_upd nm
    have ma : upd H5 m (.lst [.ref a]) m = some (.lst [.ref a]) := upd_same
    generalize upd H5 m (.lst [.ref a]) = H6 at sa ma ⊢
    have s56 := s5.trans sa
    refine ⟨x1, m, _, _, rfl, rfl, s56 _ _ c1, ma, by rw [List.length_map]; show _ <= 2 ^ 24; simp; lia, fun n nn => ?_⟩
    have sb : Same H6 (upd H6 n (.lst (cs.map V.ref ++ [.ref a]))) := same_upd nn
    have nb : upd H6 n (.lst (cs.map V.ref ++ [.ref a])) n = some (.lst (cs.map V.ref ++ [.ref a])) := upd_same
    have nD6 : n ≠ D := fun z => by rw [z, sa _ _ hD] at nn; cases nn
    generalize upd H6 n (.lst (cs.map V.ref ++ [.ref a])) = H7 at sb nb ⊢
    have s57 := s56.trans sb
    refine ⟨_, rfl, by show 2 <= sizeLine; decide, fun q nq => ?_⟩
    have sc : Same H7 (upd H7 q (.tup [.ref n, .ref x2])) := same_upd nq
    have qc : upd H7 q (.tup [.ref n, .ref x2]) q = some (.tup [.ref n, .ref x2]) := upd_same
    generalize upd H7 q (.tup [.ref n, .ref x2]) = H8 at sc qc ⊢
    have s58 := s57.trans sc
    have x2D : x2 ≠ D := fun z => by
     obtain ⟨_, q1, _⟩ := id py
     rw [z, nD] at q1
     cases q1
    have pn : Pts H8 n (w.1 ++ [p]) := ⟨cs ++ [a], by rw [List.map_append]; exact sc _ _ nb, Ats.app (Ats.same s58 c2) (.cons (s58 _ _ tp') .nil)⟩
    have s5D := (sa.trans sb).trans sc
    have hD8 := s5D _ _ hD
    refine ⟨_, hD8, by rw [List.length_map]; show _ < 2 ^ 24; lia, ⟨_, _, rfl⟩, same_set s58 nD, es ++ [q], by rw [upd_same, List.map_append]; rfl, by rw [List.length_append, el]; rfl, ?_⟩
    have er : (ws.map (fun w => (w.1 ++ [p], w.2)))[j]? = some (w.1 ++ [p], w.2) := by rw [List.getElem?_map, ew]; rfl
    rw [take_next er]
    refine paired_imp (fun _ _ h => PrN.put hD8 h) (paired_app (paired_imp (fun _ _ h => PrN.same s5D h) pes) (.cons ⟨n, x2, nD6, x2D, qc, pn, Pts.same s58 py⟩ .nil))
   ·rintro σ H5 ⟨_, s5, es, hD, el, pes⟩
    rw [List.length_map, dlen, List.take_of_length_le (by rw [List.length_map]; exact Nat.le_refl _)] at pes
    rw [List.length_map, dlen] at el
    refine ⟨_, rfl, d, rfl, ⟨_, SqL.of (s5 _ _ g1)⟩, fun M nM => ?_⟩
    refine lc_list (K := K) (a := d) (D := M) (xs := ds.map V.ref) (fun j σ H6 => (∃ u v, σ = [u, v, some (.ref a)]) /\ Same H5 H6 /\ ∃ fs : List Addr, H6 M = some (.lst (fs.map V.ref)) /\ fs.length = j /\ Paired (PrN M H6) fs ((ws.map (fun w => (w.1, w.2 ++ [p]))).take j)) ⟨⟨none, none, rfl⟩, same_upd nM, [], upd_same, rfl, .nil⟩
     (fun j σ H6 _ ⟨_, s6, _⟩ => SqL.of (s6 _ _ (s5 _ _ g1))) ?_ ?_
    ·rintro j y σ H6 ey ⟨⟨u, v, rfl⟩, s6, fs, hM, fl, pfs⟩
     obtain ⟨t, et, rfl⟩ := map_ref ey
     obtain ⟨w, ew, x1, x2, tw, px, py⟩ := paired_get g2 j t et
     have hj : j < ws.length := (List.getElem?_eq_some_iff.mp ew).1
     obtain ⟨cs, c1, c2⟩ := id py
     have cl : cs.length <= 10 := by rw [Paired.length c2]; exact (wl w (List.mem_of_getElem? ew)).2
     have s56' := s5.trans s6
     refine ⟨t, _, rfl, SqT.of (s56' _ _ tw), rfl, _, _, rfl, _, _, rfl, rfl, ?_⟩
     refine yes_go ?_
     refine ⟨_, rfl, _, rfl, _, rfl, by show 1 <= sizeLine; decide, fun m nm => ?_⟩
     have sa : Same H6 (upd H6 m (.lst [.ref a])) := same_upd nm
     have ma : upd H6 m (.lst [.ref a]) m = some (.lst [.ref a]) := upd_same
     generalize upd H6 m (.lst [.ref a]) = H7 at sa ma ⊢
     have s57 := s56'.trans sa
     refine ⟨x2, m, _, _, rfl, rfl, s57 _ _ c1, ma, by rw [List.length_map]; show _ <= 2 ^ 24; simp; lia, fun n nn => ?_⟩
     have sb : Same H7 (upd H7 n (.lst (cs.map V.ref ++ [.ref a]))) := same_upd nn
     have nb : upd H7 n (.lst (cs.map V.ref ++ [.ref a])) n = some (.lst (cs.map V.ref ++ [.ref a])) := upd_same
     have nM6 : n ≠ M := fun z => by rw [z, sa _ _ hM] at nn; cases nn
     generalize upd H7 n (.lst (cs.map V.ref ++ [.ref a])) = H8 at sb nb ⊢
     have s58 := s57.trans sb
     refine ⟨by show 2 <= sizeLine; decide, fun q nq => ?_⟩
     have sc : Same H8 (upd H8 q (.tup [.ref x1, .ref n])) := same_upd nq
     have qc : upd H8 q (.tup [.ref x1, .ref n]) q = some (.tup [.ref x1, .ref n]) := upd_same
     generalize upd H8 q (.tup [.ref x1, .ref n]) = H9 at sc qc ⊢
     have s59 := s58.trans sc
     have x1M : x1 ≠ M := fun z => by
      obtain ⟨_, q1, _⟩ := id (Pts.same s5 px)
      rw [z, nM] at q1
      cases q1
     have pn : Pts H9 n (w.2 ++ [p]) := ⟨cs ++ [a], by rw [List.map_append]; exact sc _ _ nb, Ats.app (Ats.same s59 c2) (.cons (s59 _ _ tp') .nil)⟩
     have s6D := (sa.trans sb).trans sc
     have hM9 := s6D _ _ hM
     refine ⟨_, hM9, by rw [List.length_map]; show _ < 2 ^ 24; (clear hlen h1 hn hM9 x1M qc nq nb nM6 nn ma tw ew ey et hD nD dlen g1 n4 n3 n2 n1 nm cl nM el ex ea c1 hM ep; omega), ⟨_, _, rfl⟩, same_set (s6.trans s6D) nM, fs ++ [q], by rw [upd_same, List.map_append]; rfl, by rw [List.length_append, fl]; rfl, ?_⟩
     have er : (ws.map (fun w => (w.1, w.2 ++ [p])))[j]? = some (w.1, w.2 ++ [p]) := by rw [List.getElem?_map, ew]; rfl
     rw [take_next er]
     refine paired_imp (fun _ _ h => PrN.put hM9 h) (paired_app (paired_imp (fun _ _ h => PrN.same s6D h) pfs) (.cons ⟨x1, n, x1M, nM6, qc, Pts.same s59 px, pn⟩ .nil))
    ·rintro σ H6 ⟨_, s6, fs, hM, fl, pfs⟩
     rw [List.length_map, dlen, List.take_of_length_le (by rw [List.length_map]; exact Nat.le_refl _)] at pfs
     rw [List.length_map, dlen] at fl
     refine ⟨_, rfl, _, rfl, D, M, _, _, rfl, rfl, s6 _ _ hD, hM, by rw [List.length_map, List.length_map]; show _ <= 2 ^ 24; lia, fun r nr => ?_⟩
     rw [<- List.map_append]
     have sr : Same H6 (upd H6 r (.lst ((es ++ fs).map V.ref))) := same_upd nr
     refine ⟨⟨r, _, _, _, rfl, es ++ fs, upd_same, ?_⟩, (sm.trans s5).trans (s6.trans sr)⟩
     exact paired_app (paired_imp (fun _ _ h => Pr.same (s6.trans sr) h.pr) pes) (paired_imp (fun _ _ h => Pr.same sr h.pr) pfs)
  ·rintro σ H' ⟨⟨d, u1, u2, u3, rfl, pw⟩, sm⟩
   rw [List.length_map, hlen, List.take_of_length_le (Nat.le_refl _)] at pw
   exact ⟨_, rfl, k d H' sm pw⟩
theorem scNo : FnScope ["arrows", "end", "arrow"] ["arrows"] (defScope sNought) := ⟨rfl, rfl, rfl, by decide +kernel, rfl, by decide +kernel, by decide +kernel⟩
theorem ok_nought {f f1 : Addr} {fd fd1 : FuncData} (F : Fun K "come_to_nought" "come_to_nought" sNought f fd)
  (G1 : FnOk P w K mg base CX0 1 f1 fd1 ["point", "arrow"] (spPt2 moved)) (k1 : PySem.W.keepIn K (.ref f1) = true) (b1 : Binds K fd1 ["point", "arrow"] []) (m1 : mg "moved" = some (.ref f1)) : FnOk P w K mg base CX0 2 f fd ["arrows"] spNought := by
 refine F.ok scNo (fun vs H Q E h => ?_) (fun cdv A outer s H vs Q E hr h => ?_)
 ·obtain ⟨l, ps, rfl, _⟩ := h
  rfl
 ·obtain ⟨l, ps, rfl, hl, k⟩ := h
  have hu := hu_of hr
  refine ⟨_, pss_cons (ps_set (i := 1) scNo.nd rfl (Or.inl rfl) (pe_tup (pa_cons pe_int (pa_cons pe_int pa_nil))))
   (pss_cons (ps_for PassesOwn.never rfl (pi_list (pv 0)) (pg_name (i := 2) scNo.nd rfl (Or.inl rfl))
    (pss_one (ps_set (i := 1) scNo.nd rfl (Or.inl rfl) (pe_call G1 hr rfl m1 k1 b1 .nil pass0 (pa_cons (pv 1) (pa_cons (pv 2) pa_nil))))))
   (pss_one (ps_ret (pe_cmpR (op_eqPt hu) (pv 1) (pe_tup (pa_cons pe_int (pa_cons pe_int pa_nil))) (nomark _))))), ?_⟩
  obtain ⟨as, h1, h2⟩ := id hl
  have hlen : as.length = ps.length := Paired.length h2
  refine ⟨by show 2 <= sizeLine; decide, fun d nd => ?_⟩
  have s0 : Same H (upd H d (.tup [.int 0, .int 0])) := same_upd nd
  have t0 : Tp (upd H d (.tup [.int 0, .int 0])) d (sum1 (ps.take 0), sum2 (ps.take 0)) := upd_same
  generalize upd H d (.tup [.int 0, .int 0]) = H1 at s0 t0 ⊢
  refine ⟨_, rfl, l, rfl, ⟨_, SqL.of (s0 _ _ h1)⟩, ?_⟩
  refine for_list (xs := as.map V.ref) (fun i σ H' => (∃ e u, σ = [some (.ref l), some (.ref e), u] /\ Tp H' e (sum1 (ps.take i), sum2 (ps.take i))) /\ Same H H') ⟨⟨d, none, rfl, t0⟩, s0⟩ (fun i σ H' _ ⟨_, q⟩ => SqL.of (q _ _ h1)) ?_ ?_
  ·rintro i z σ H' ex ⟨⟨e, u, rfl, te⟩, sm⟩
   obtain ⟨a, ea, rfl⟩ := map_ref ex
   obtain ⟨p, ep, tp⟩ := paired_get h2 i a ea
   refine g_go ?_
   refine ⟨_, rfl, _, rfl, e, a, _, p, rfl, te, sm _ _ tp, fun r H2 s2 tr => ?_⟩
   rw [<- sum_take ep] at tr
   exact ⟨⟨r, _, rfl, tr⟩, sm.trans s2⟩
  ·rintro σ H' ⟨⟨e, u, rfl, te⟩, sm⟩
   rw [List.length_map, hlen, List.take_of_length_le (Nat.le_refl _)] at te
   refine ⟨_, rfl, by show 2 <= sizeLine; decide, fun t nt => ?_⟩
   have st : Same H' (upd H' t (.tup [.int 0, .int 0])) := same_upd nt
   exact ⟨e, t, _, (0, 0), rfl, rfl, st _ _ te, upd_same, k _ (sm.trans st)⟩
end
end K1
namespace K1
open PySem L2
open RS (Pt arrow cross isShape lawSides togetherM areaM areaTo)
noncomputable abbrev sDouble : Stmt := top 39
inductive spDouble (vs : List V) (H : Hp) (Q : VK) (u3 : XK) : Prop
 | mk (l : _) (ps : _) (c0 : vs = [.ref l]) (c1 : Pts H l ps) (c2 : ps.length <= 100) (c3 : (∀ p ∈ ps, Bd (2 ^ 60) p)) (c4 : isShape ps = true) (c5 : ∀ H', Same H H' -> Q (.int (areaM ps)) H') : spDouble  vs H Q u3
theorem nodupCS : ((["corner", "side"] : List Str) ++ ([] : List (Str × Nat)).map (·.1)).Nodup := by decide +kernel
theorem zip_side_len {ps : List Pt} : (List.zipWith cross ps (lawSides ps)).length = (lawSides ps).length := by
 rw [List.length_zipWith]
 have := RS.sides_few ps
 lia
section
variable {P : Program} {w : World} {K : PySem.W.Frag} {mg : Str -> Option Value} {base : Heap}
theorem scDA : FnScope ["corners"] ["corners"] (defScope sDouble) := ⟨rfl, rfl, rfl, by decide +kernel, rfl, by decide +kernel, by decide +kernel⟩
theorem ok_double {f f1 f2 : Addr} {fd fd1 fd2 : FuncData} (F : Fun K "double_area" "double_area" sDouble f fd)
  (G1 : FnOk P w K mg base CX0 5 f1 fd1 ["corners"] spSidesP) (k1 : PySem.W.keepIn K (.ref f1) = true) (b1 : Binds K fd1 ["corners"] []) (m1 : mg "sides" = some (.ref f1))
  (G2 : FnOk P w K mg base CX0 1 f2 fd2 ["one", "other"] (spInt2 (2 ^ 62) cross)) (k2 : PySem.W.keepIn K (.ref f2) = true) (b2 : Binds K fd2 ["one", "other"] []) (m2 : mg "turn" = some (.ref f2))
  (mz : mg "zip" = none) (ms : mg "sum" = none) : FnOk P w K mg base CX0 6 f fd ["corners"] spDouble := by
 refine F.ok scDA (fun vs H Q E h => ?_) (fun cdv A outer s H vs Q E hr h => ?_)
 ·obtain ⟨l, ps, rfl, _⟩ := h
  rfl
 ·obtain ⟨l, ps, rfl, hl, hn, hB, hs, k⟩ := h
  have hr1 := hr.mono (j := 1) (by decide)
  refine ⟨_, pss_one (ps_ret (pe_callB (call_sum_ints rfl) rfl ms bootSum (pa_cons
   (pe_lc (tn := ["corner", "side"]) (cs := []) (g := gTup K 2 (gCons (gName 0) (gCons (gName 1) gNil))) (tt := tYes) (te := tCall (spInt2 (2 ^ 62) cross) [] E0 (tCons (tVar 0) (tCons (tVar 1) tNil))) (Caps.none (by decide +kernel) rfl (by decide +kernel)) rfl
    (pi_zip rfl mz (pa_cons (pv 0) (pa_cons (pe_call G1 hr rfl m1 k1 b1 .nil pass0 (pa_cons (pv 0) pa_nil)) pa_nil)))
    (fun C s₀ H₀ fp xe => pg_tup rfl (pgs_cons (pg_name (i := 0) nodupCS rfl (Or.inl rfl) (.inr rfl)) (pgs_cons (pg_name (i := 1) nodupCS rfl (Or.inl rfl) (.inr rfl)) pgs_nil)))
    (fun C s₀ H₀ fp xe => pts_nil)
    (fun C s₀ H₀ fp xe => pe_call G2 hr1 rfl m2 k2 b2 .nil pass0 (pa_cons (pv 0) (pa_cons (pv 1) pa_nil)))) pa_nil))), ?_⟩
  obtain ⟨as, h1, h2⟩ := id hl
  have hlen : as.length = ps.length := Paired.length h2
  refine ⟨_, rfl, _, rfl, l, ps, rfl, hl, hn, hB, hs, fun r H1 s1 nr pr => ?_⟩
  obtain ⟨bs, g1, g2⟩ := id pr
  have glen : bs.length = (lawSides ps).length := Paired.length g2
  have al := Ats.same s1 h2
  have lf := RS.sides_few ps
  refine ⟨l, r, rfl, ⟨_, SqL.of (s1 _ _ h1)⟩, ⟨_, SqL.of g1⟩, fun D nD => ?_⟩
  refine lc_zip (K := K) (a := l) (b := r) (D := D) (xs := as.map V.ref) (ys := bs.map V.ref) (fun i σ H' => (∃ u v, σ = [u, v]) /\ Same H1 H' /\ H' D = some (.lst (((List.zipWith cross ps (lawSides ps)).take i).map V.int))) ⟨⟨none, none, rfl⟩, same_upd nD, upd_same⟩
   (fun i σ H' ⟨_, sm, _⟩ => ⟨SqL.of (sm _ _ (s1 _ _ h1)), SqL.of (sm _ _ g1)⟩) ?_ ?_
  ·rintro i x y σ H' t ex ey ht ⟨⟨u, v, rfl⟩, sm, hD⟩
   obtain ⟨a, ea, rfl⟩ := map_ref ex
   obtain ⟨b, eb, rfl⟩ := map_ref ey
   obtain ⟨p, ep, tp⟩ := paired_get al i a ea
   obtain ⟨q, eq, tq⟩ := paired_get g2 i b eb
   have st := sm.trans (same_upd (o := .tup [.ref a, .ref b]) ht)
   refine ⟨t, _, rfl, SqT.of upd_same, rfl, _, _, rfl, _, _, rfl, rfl, ?_⟩
   refine yes_go ?_
   refine ⟨_, rfl, _, rfl, a, b, p, q, rfl, st _ _ tp, st _ _ tq, (hB p (List.mem_of_getElem? ep)).wide (by lia), ?_⟩
   have er : (List.zipWith cross ps (lawSides ps))[i]? = some (cross p q) := by rw [List.getElem?_zipWith, ep, eq]
   have hD' : upd H' t (.tup [.ref a, .ref b]) D = some (.lst (((List.zipWith cross ps (lawSides ps)).take i).map V.int)) := same_upd ht _ _ hD
   refine ⟨_, hD', size100 (by rw [List.length_map, List.length_take, zip_side_len]; lia), ⟨_, _, rfl⟩, same_set st nD, ?_⟩
   rw [upd_same, take_next er, List.map_append]
   rfl
  ·rintro i σ H' hi hi1 hi2 ⟨_, sm, hD⟩
   have ei : (List.zipWith cross ps (lawSides ps)).length <= i := by
    rw [zip_side_len]
    rw [List.length_map] at hi hi1
    rw [List.length_map] at hi hi2
    lia
   rw [List.take_of_length_le ei] at hD
   refine ⟨D, _, rfl, SqL.of hD, ?_⟩
   rw [RS.prog_area]
   exact k H' (s1.trans sm)
end
end K1
namespace K1
open PySem L2
open RS (Pt isShape areaM togetherM)
noncomputable abbrev sMixed : Stmt := top 40
noncomputable def mixedM (ps qs : List Pt) : Int := areaM (togetherM ps qs) - areaM ps - areaM qs
inductive spMixed (vs : List V) (H : Hp) (Q : VK) (u3 : XK) : Prop
 | mk (l : _) (b : _) (ps : _) (qs : _) (c0 : vs = [.ref l, .ref b]) (c1 : Pts H l ps) (c2 : Pts H b qs) (c3 : ps.length <= 40) (c4 : qs.length <= 40) (c5 : (∀ p ∈ ps, Bd (2 ^ 30) p)) (c6 : (∀ q ∈ qs, Bd (2 ^ 30) q)) (c7 : isShape ps = true) (c8 : isShape qs = true) (c9 : ∀ H', Same H H' -> Q (.int (mixedM ps qs)) H') : spMixed  vs H Q u3
section
variable {P : Program} {w : World} {K : PySem.W.Frag} {mg : Str -> Option Value} {base : Heap}
theorem scMx : FnScope ["one", "other", "both"] ["one", "other"] (defScope sMixed) := ⟨rfl, rfl, rfl, by decide +kernel, rfl, by decide +kernel, by decide +kernel⟩
theorem ok_mixed {f f1 f2 : Addr} {fd fd1 fd2 : FuncData} (F : Fun K "mixed" "mixed" sMixed f fd)
  (G1 : FnOk P w K mg base CX0 6 f1 fd1 ["one", "other"] spTogether) (k1 : PySem.W.keepIn K (.ref f1) = true) (b1 : Binds K fd1 ["one", "other"] []) (m1 : mg "together" = some (.ref f1))
  (G2 : FnOk P w K mg base CX0 6 f2 fd2 ["corners"] spDouble) (k2 : PySem.W.keepIn K (.ref f2) = true) (b2 : Binds K fd2 ["corners"] []) (m2 : mg "double_area" = some (.ref f2)) : FnOk P w K mg base CX0 7 f fd ["one", "other"] spMixed := by
 refine F.ok scMx (fun vs H Q E h => ?_) (fun cdv A outer s H vs Q E hr h => ?_)
 ·obtain ⟨l, b, ps, qs, rfl, _⟩ := h
  rfl
 ·obtain ⟨l, b, ps, qs, rfl, hl, hb, hn, hm, hB, hC, hs, ht, k⟩ := h
  refine ⟨_, pss_cons (ps_set (i := 2) scMx.nd rfl (Or.inl rfl) (pe_call G1 hr rfl m1 k1 b1 .nil pass0 (pa_cons (pv 0) (pa_cons (pv 1) pa_nil))))
   (pss_one (ps_ret (pe_op op_sub (pe_op op_sub (pe_call G2 hr rfl m2 k2 b2 .nil pass0 (pa_cons (pv 2) pa_nil)) (pe_call G2 hr rfl m2 k2 b2 .nil pass0 (pa_cons (pv 0) pa_nil))) (pe_call G2 hr rfl m2 k2 b2 .nil pass0 (pa_cons (pv 1) pa_nil))))), ?_⟩
  have p0 := RS.shape_pos hs
  refine ⟨_, rfl, _, rfl, l, b, ps, qs, rfl, hl, hb, by lia, by lia, (fun p hp => (hB p hp).wide' (by lia)), (fun p hp => (hC p hp).wide' (by omega)), hs, ht, fun r H1 s1 nr pr => ?_⟩
  have bt : ∀ p ∈ togetherM ps qs, Bd (2 ^ 60) p := fun p hp => by
   have := RS.together_bd (m := 2 ^ 30) (N := 80) (by lia) (fun p hp => hB p hp) (fun p hp => hC p hp) (by lia) p hp
   unfold RS.inB at this
   unfold Bd
   lia
  have lt : (togetherM ps qs).length <= 100 := by
   have := RS.together_len (cs := ps) (es := qs) p0
   lia
  refine ⟨_, rfl, r, _, rfl, pr, lt, bt, RS.together_shape hs ht, fun H2 s2 => ?_⟩
  refine ⟨_, rfl, l, ps, rfl, Pts.same (s1.trans s2) hl, by omega, (fun p hp => (hB p hp).wide' (by lia)), hs, fun H3 s3 => ?_⟩
  refine ⟨_, _, rfl, rfl, _, rfl, b, qs, rfl, Pts.same (s1.trans (s2.trans s3)) hb, by omega, (fun p hp => (hC p hp).wide' (by omega)), ht, fun H4 s4 => ?_⟩
  exact ⟨_, _, rfl, rfl, k H4 (s1.trans (s2.trans (s3.trans s4)))⟩
end
end K1
namespace K1
open PySem L2
noncomputable abbrev sWhich : Stmt := top 59
structure Five (mg : Str -> Option Value) (cN cM cP cS cT : Addr) : Prop where
 mN : mg "NoNote" = some (.ref cN)
 mM : mg "NoNumber" = some (.ref cM)
 mP : mg "NoPoints" = some (.ref cP)
 mS : mg "NoShape" = some (.ref cS)
 mT : mg "TooLong" = some (.ref cT)
structure Told5 (K : PySem.W.Frag) (cN cM cP cS cT D : Addr) (b0 b1 b2 b3 b4 : Bool) : Prop where
 ex : ExcF K D
 bN : PySem.W.kitOne K (.ref D) (.ref cN) = some b0
 bM : PySem.W.kitOne K (.ref D) (.ref cM) = some b1
 bP : PySem.W.kitOne K (.ref D) (.ref cP) = some b2
 bS : PySem.W.kitOne K (.ref D) (.ref cS) = some b3
 bT : PySem.W.kitOne K (.ref D) (.ref cT) = some b4
 bV : PySem.W.kitOne K (.ref D) (.type "ValueError") = some true
inductive spWhich (D : Addr) (out : Str) (vs : List V) (H : Hp) (Q : VK) (u3 : XK) : Prop
 | mk (e : _) (c0 : vs = [.ref e]) (c1 : H e = some (ExcO e (.ref D))) (c2 : ∀ H', Same H H' -> Q (.str out) H') : spWhich D out vs H Q u3
theorem bootVE : bootBuiltins "ValueError" = some (.type "ValueError") := by decide +kernel
section
variable {P : Program} {w : World} {K : PySem.W.Frag} {mg : Str -> Option Value} {base : Heap}
theorem scWh : FnScope ["e", "told"] ["e"] (defScope sWhich) := ⟨rfl, rfl, rfl, by decide +kernel, rfl, by decide +kernel, by decide +kernel⟩
theorem ok_which {cN cM cP cS cT D f : Addr} {fd : FuncData} {b0 b1 b2 b3 b4 : Bool} {j : Nat} {out : Str} (F : Fun K "_law_which" "_law_which" sWhich f fd) (C : Five mg cN cM cP cS cT) (T : Told5 K cN cM cP cS cT D b0 b1 b2 b3 b4)
  (hc : [b0, b1, b2, b3, b4].countP id = 1) (hj : [b0, b1, b2, b3, b4][j]? = some true) (hno : ∀ m, m < j -> [b0, b1, b2, b3, b4][m]? = some false) (hw : (["note", "number", "points", "shape", "long"] : List Str)[j]? = some out)
  (mis : mg "isinstance" = none) (mve : mg "ValueError" = none) : FnOkM P w K mg base 1 f fd ["e"] (spWhich D out) := by
 refine F.okM scWh (fun vs H Q E h => ?_) (fun cdv A outer s H vs Q E hr h => ?_)
 ·obtain ⟨e, rfl, _⟩ := h
  rfl
 ·obtain ⟨e, rfl, he, k⟩ := h
  refine ⟨_, pss_cons (ps_set (i := 1) scWh.nd rfl (Or.inl rfl) (pe_lst (pa_cons (pe_callB call_isi_exc rfl mis bootIsi (pa_cons (pv 0) (pa_cons (pe_glob (v := .ref cN) rfl C.mN rfl) pa_nil)))
    (pa_cons (pe_callB call_isi_exc rfl mis bootIsi (pa_cons (pv 0) (pa_cons (pe_glob (v := .ref cM) rfl C.mM rfl) pa_nil))) (pa_cons (pe_callB call_isi_exc rfl mis bootIsi (pa_cons (pv 0) (pa_cons (pe_glob (v := .ref cP) rfl C.mP rfl) pa_nil))) pa_nil)))))
   (pss_cons (ps_set (i := 1) scWh.nd rfl (Or.inl rfl) (pe_op op_cat (pv 1) (pe_lst (pa_cons (pe_callB call_isi_exc rfl mis bootIsi (pa_cons (pv 0) (pa_cons (pe_glob (v := .ref cS) rfl C.mS rfl) pa_nil)))
    (pa_cons (pe_callB call_isi_exc rfl mis bootIsi (pa_cons (pv 0) (pa_cons (pe_glob (v := .ref cT) rfl C.mT rfl) pa_nil))) pa_nil)))))
   (pss_cons (ps_if (PW.pt (pw_or (pt_not (pt_val (pe_callB call_isi_exc rfl mis bootIsi (pa_cons (pv 0) (pa_cons (pe_bltn (v := .ty "ValueError") rfl mve bootVE rfl) pa_nil)))))
    (pw_or1 (pt_cmpR op_ne (pe_bm PySem.F.plainAttrs_list PySem.F.slot_list_count PySem.F.type_list_count mt_countT (pv 1) (pa_cons pe_bl pa_nil)) pe_int (nomark _))))) pss_never pss_nil)
   (pss_one (ps_ret (pe_ix ix_list (pe_lst (pa_cons pe_str (pa_cons pe_str (pa_cons pe_str (pa_cons pe_str (pa_cons pe_str pa_nil)))))) (pe_bm PySem.F.plainAttrs_list PySem.F.slot_list_index PySem.F.type_list_index mt_indexT (pv 1) (pa_cons pe_bl pa_nil)) (fun _ _ => rfl)))))), ?_⟩
  refine ⟨_, rfl, e, D, _, _, rfl, he, T.ex, (fun u r => by cases r; exact T.bN), ?_⟩
  refine ⟨_, rfl, e, D, _, _, rfl, he, T.ex, (fun u r => by cases r; exact T.bM), ?_⟩
  refine ⟨_, rfl, e, D, _, _, rfl, he, T.ex, (fun u r => by cases r; exact T.bP), ?_⟩
  refine ⟨by show 3 <= sizeLine; decide, fun d1 n1 => ?_⟩
  have s1 : Same H (upd H d1 (.lst [.bl b0, .bl b1, .bl b2])) := same_upd n1
  have h1 : upd H d1 (.lst [.bl b0, .bl b1, .bl b2]) d1 = some (.lst [.bl b0, .bl b1, .bl b2]) := upd_same
  generalize upd H d1 (.lst [.bl b0, .bl b1, .bl b2]) = H1 at s1 h1 ⊢
  have he1 := s1 _ _ he
  refine ⟨_, rfl, ?_⟩
  refine ⟨_, rfl, e, D, _, _, rfl, he1, T.ex, (fun u r => by cases r; exact T.bS), ?_⟩
  refine ⟨_, rfl, e, D, _, _, rfl, he1, T.ex, (fun u r => by cases r; exact T.bT), ?_⟩
  refine ⟨by show 2 <= sizeLine; decide, fun d2 n2 => ?_⟩
  have s2 : Same H1 (upd H1 d2 (.lst [.bl b3, .bl b4])) := same_upd n2
  have h2 : upd H1 d2 (.lst [.bl b3, .bl b4]) d2 = some (.lst [.bl b3, .bl b4]) := upd_same
  generalize upd H1 d2 (.lst [.bl b3, .bl b4]) = H2 at s2 h2 ⊢
  refine ⟨d1, d2, _, _, rfl, rfl, s2 _ _ h1, h2, by show 5 <= sizeLine; decide, fun d3 n3 => ?_⟩
  have s3 : Same H2 (upd H2 d3 (.lst ([b0, b1, b2, b3, b4].map V.bl))) := same_upd n3
  have h3 : upd H2 d3 (.lst ([b0, b1, b2, b3, b4].map V.bl)) d3 = some (.lst ([b0, b1, b2, b3, b4].map V.bl)) := upd_same
  show tSeq _ _ _ _ (upd H2 d3 (.lst ([b0, b1, b2, b3, b4].map V.bl)))
  generalize upd H2 d3 (.lst ([b0, b1, b2, b3, b4].map V.bl)) = H3 at s3 h3 ⊢
  have he3 := s3 _ _ (s2 _ _ he1)
  refine ⟨_, rfl, e, D, _, true, rfl, he3, T.ex, (fun u r => by cases r; exact T.bV), _, rfl, iteF ?_⟩
  refine ⟨_, rfl, .inl ⟨rfl, _, SqL.of h3⟩, d3, _, rfl, rfl, h3, rfl, _, rfl, ?_⟩
  rw [hc]
  refine iteF ?_
  refine ⟨by show 5 <= sizeLine; decide, fun d4 n4 => ?_⟩
  have s4 : Same H3 (upd H3 d4 (.lst ((["note", "number", "points", "shape", "long"] : List Str).map V.str))) := same_upd n4
  have h4 : upd H3 d4 (.lst ((["note", "number", "points", "shape", "long"] : List Str).map V.str)) d4 = some (.lst ((["note", "number", "points", "shape", "long"] : List Str).map V.str)) := upd_same
  refine ⟨_, rfl, .inl ⟨rfl, _, SqL.of (s4 _ _ h3)⟩, d3, _, j, rfl, rfl, s4 _ _ h3, hj, hno, d4, _, _, _, rfl, rfl, SqL.of h4, atI_nat (by rw [List.getElem?_map, hw]; rfl), ?_⟩
  exact k _ (s1.trans (s2.trans (s3.trans s4)))
end
end K1
namespace K1
open PySem L2
open RS (Pt Way isShape lawSides gone least stepsM waysM wayStep fits sum1 sum2 moved)
inductive spTooLongX (cT : Addr) (vs : List V) (H : Hp) (Q : VK) (E : XK) : Prop
 | mk (l : _) (ps : _) (c0 : vs = [.ref l]) (c1 : Pts H l ps) (c2 : ps.length <= 100) (c3 : (∀ p ∈ ps, Bd (2 ^ 60) p)) (c4 : isShape ps = true) (c5 : ∀ H', Same H H' -> ((stepsM (lawSides ps)).length <= 10 -> Q .non H') /\ (10 < (stepsM (lawSides ps)).length -> E (.ref cT) none H')) : spTooLongX cT vs H Q E
section
variable {P : Program} {w : World} {K : PySem.W.Frag} {mg : Str -> Option Value} {base : Heap}
theorem ok_too_longX {cT f f1 f2 : Addr} {fd fd1 fd2 : FuncData} {tk : Tok} (F : Fun K "refuse_too_long" "refuse_too_long" sTooLong f fd)
  (G1 : FnOk P w K mg base CX0 5 f1 fd1 ["corners"] spSidesP) (k1 : PySem.W.keepIn K (.ref f1) = true) (b1 : Binds K fd1 ["corners"] []) (m1 : mg "sides" = some (.ref f1))
  (G2 : FnOk P w K mg base CX0 1 f2 fd2 ["arrow"] spGone) (k2 : PySem.W.keepIn K (.ref f2) = true) (b2 : Binds K fd2 ["arrow"] []) (m2 : mg "times_gone" = some (.ref f2))
  (ms : mg "sum" = none) (mt : mg "MOST_STEPS" = some (.int 10 tk)) (mT : mg "TooLong" = some (.ref cT)) (xT : PySem.W.excIn K cT vErr "ValueError.__new__" = true) : FnOk P w K mg base (CXR P w) 6 f fd ["corners"] (spTooLongX cT) := by
 refine F.okR scTL (fun vs H Q E h => ?_) (fun cdv A outer s H vs Q E hr h => ?_)
 ·obtain ⟨l, ps, rfl, _⟩ := h
  rfl
 ·obtain ⟨l, ps, rfl, hl, hn, hB, hs, k⟩ := h
  have hr1 := hr.mono (j := 1) (by decide)
  refine ⟨_, pss_one (ps_if (pt_cmpR op_gt (pe_callB (call_sum_ints rfl) rfl ms bootSum (pa_cons
   (pe_lc (tn := ["side"]) (cs := []) (g := gName 0) (tt := tYes) (te := tCall spGone [] E0 (tCons (tVar 0) tNil)) (Caps.none (by decide +kernel) rfl (by decide +kernel)) rfl
    (pi_list (pe_call G1 hr rfl m1 k1 b1 .nil pass0 (pa_cons (pv 0) pa_nil)))
    (fun C s₀ H₀ fp xe => pg_name (i := 0) nodupS rfl (Or.inl rfl) (.inr rfl))
    (fun C s₀ H₀ fp xe => pts_nil)
    (fun C s₀ H₀ fp xe => pe_call G2 hr1 rfl m2 k2 b2 .nil pass0 (pa_cons (pv 0) pa_nil))) pa_nil)) (pe_glob (v := .int 10) rfl mt ⟨tk, rfl⟩) (nomark _)) (pss_one (ps_raise raiseR rfl rfl mT xT (pa_cons pe_str pa_nil))) pss_nil), ?_⟩
  refine ⟨_, rfl, l, ps, rfl, hl, hn, hB, hs, fun r H1 s1 nr pr => ?_⟩
  obtain ⟨as, h1, h2⟩ := id pr
  have hlen : as.length = (lawSides ps).length := Paired.length h2
  have lf := RS.sides_few ps
  refine ⟨r, rfl, ⟨_, SqL.of h1⟩, fun D nD => ?_⟩
  refine lc_list (K := K) (a := r) (D := D) (xs := as.map V.ref) (fun i σ H' => (∃ u, σ = [u]) /\ Same H1 H' /\ H' D = some (.lst ((((lawSides ps).map gone).take i).map V.int))) ⟨⟨none, rfl⟩, same_upd nD, upd_same⟩
   (fun i σ H' _ ⟨_, sm, _⟩ => SqL.of (sm _ _ h1)) ?_ ?_
  ·rintro i x σ H' ex ⟨⟨u, rfl⟩, sm, hD⟩
   obtain ⟨b, eb, rfl⟩ := map_ref ex
   obtain ⟨p, ep, tp⟩ := paired_get h2 i b eb
   have hi : i < (lawSides ps).length := (List.getElem?_eq_some_iff.mp ep).1
   refine g_go ?_
   refine yes_go ?_
   refine ⟨_, rfl, b, p, rfl, sm _ _ tp, ?_⟩
   have er : ((lawSides ps).map gone)[i]? = some (gone p) := by rw [List.getElem?_map, ep]; rfl
   refine ⟨_, hD, size100 (by rw [List.length_map, List.length_take, List.length_map]; (clear ms m2 k2 m1 k1 er hi ep ex hlen h1 nr hs eb hD mT mt nD xT; omega)), ⟨_, rfl⟩, same_set sm nD, ?_⟩
   rw [upd_same, take_next er, List.map_append]
   rfl
  ·rintro σ H' ⟨_, sm, hD⟩
   rw [List.length_map, hlen, List.take_of_length_le (by rw [List.length_map]; exact Nat.le_refl _)] at hD
   refine ⟨D, _, rfl, SqL.of hD, _, _, rfl, rfl, _, rfl, ?_⟩
   rw [<- RS.gone_sum]
   have q := k H' (s1.trans sm)
   refine ite2 (fun c => ⟨by show 1 <= sizeLine; decide, q.2 ?_⟩) (fun c => q.1 ?_)
   ·have := of_decide_eq_true c
    lia
   ·refine Nat.not_lt.mp fun z => c (decide_eq_true ?_)
    omega
end
end K1
namespace K1
open PySem L2
open RS (Pt Way isShape lawSides gone least stepsM waysM wayStep fits sum1 sum2 moved hull pairsM along joinM)
inductive spPart02 (cT : Addr) (vs : List V) (H : Hp) (Q : VK) (E : XK) : Prop
 | mk (l : _) (ps : _) (c0 : vs = [.ref l]) (c1 : Pts H l ps) (c2 : ps.length <= 100) (c3 : (∀ p ∈ ps, Bd 2500 p)) (c4 : isShape ps = true) (c5 : (10 < (stepsM (lawSides ps)).length -> ∀ H', Same H H' -> E (.ref cT) none H')) (c6 : ((stepsM (lawSides ps)).length <= 10 -> ∀ v H', Same H H' -> Q v H')) : spPart02 cT vs H Q E
section
variable {P : Program} {w : World} {K : PySem.W.Frag} {mg : Str -> Option Value} {base : Heap}
theorem scPa : FnScope ["corners", "chosen", "rest"] ["corners"] (defScope sParted) := ⟨rfl, rfl, rfl, by decide +kernel, rfl, by decide +kernel, by decide +kernel⟩
theorem ok_part02 {cT f f1 f2 f3 f4 f5 f6 : Addr} {fd fd1 fd2 fd3 fd4 fd5 fd6 : FuncData} (F : Fun K "parted" "parted" sParted f fd)
  (G1 : FnOk P w K mg base (CXR P w) 6 f1 fd1 ["corners"] (spTooLongX cT)) (k1 : PySem.W.keepIn K (.ref f1) = true) (b1 : Binds K fd1 ["corners"] []) (m1 : mg "refuse_too_long" = some (.ref f1))
  (G2 : FnOk P w K mg base CX0 6 f2 fd2 ["corners"] spStepsOf) (k2 : PySem.W.keepIn K (.ref f2) = true) (b2 : Binds K fd2 ["corners"] []) (m2 : mg "steps_of" = some (.ref f2))
  (G3 : FnOk P w K mg base CX0 1 f3 fd3 ["steps"] spWays) (k3 : PySem.W.keepIn K (.ref f3) = true) (b3 : Binds K fd3 ["steps"] []) (m3 : mg "ways_to_part" = some (.ref f3))
  (G4 : FnOk P w K mg base CX0 2 f4 fd4 ["arrows"] spNought) (k4 : PySem.W.keepIn K (.ref f4) = true) (b4 : Binds K fd4 ["arrows"] []) (m4 : mg "come_to_nought" = some (.ref f4))
  (G5 : FnOk P w K mg base CX0 3 f5 fd5 ["arrows"] spJoin) (k5 : PySem.W.keepIn K (.ref f5) = true) (b5 : Binds K fd5 ["arrows"] []) (m5 : mg "made_one" = some (.ref f5))
  (G6 : FnOk P w K mg base CX0 2 f6 fd6 ["first", "arrows"] spAlong) (k6 : PySem.W.keepIn K (.ref f6) = true) (b6 : Binds K fd6 ["first", "arrows"] []) (m6 : mg "corners_along" = some (.ref f6))
  (ml : mg "len" = none) : FnOk P w K mg base (CXR P w) 7 f fd ["corners"] (spPart02 cT) := by
 refine F.okR scPa (fun vs H Q E h => ?_) (fun cdv A outer s H vs Q E hr h => ?_)
 ·obtain ⟨l, ps, rfl, _⟩ := h
  rfl
 ·obtain ⟨l, ps, rfl, hl, hn, hB, hs, kE, k⟩ := h
  have hr1 := hr.mono (j := 1) (by decide)
  have hr2 := hr.mono (j := 2) (by decide)
  have hr3 := hr.mono (j := 3) (by decide)
  refine ⟨_, pss_cons (ps_expr (pe_call G1 hr rfl m1 k1 b1 .nil passR (pa_cons (pv 0) pa_nil)))
   (pss_cons (PS.nox (ps_for PassesOwn.never rfl (pi_list (pe_call G3 hr1 rfl m3 k3 b3 .nil pass0 (pa_cons (pe_call G2 hr rfl m2 k2 b2 .nil pass0 (pa_cons (pv 0) pa_nil)) pa_nil))) (pg_tup rfl (pgs_cons (pg_name (i := 1) scPa.nd rfl (Or.inl rfl)) (pgs_cons (pg_name (i := 2) scPa.nd rfl (Or.inl rfl)) pgs_nil)))
    (pss_one (ps_if (PW.pt (pw_and (pt_cmpR op_gt (pe_callB call_len_seq rfl ml PySem.boot_len (pa_cons (pv 1) pa_nil)) pe_int (nomark _)) (pw_and (pt_cmpR op_gt (pe_callB call_len_seq rfl ml PySem.boot_len (pa_cons (pv 2) pa_nil)) pe_int (nomark _)) (pw_and1 (pt_val (pe_call G4 hr2 rfl m4 k4 b4 .nil pass0 (pa_cons (pv 1) pa_nil)))))))
     (pss_one (ps_ret (pe_tup (pa_cons (pe_call G6 hr2 rfl m6 k6 b6 .nil pass0 (pa_cons (pe_ix ix_list (pv 0) pe_int (fun _ _ => rfl)) (pa_cons (pe_call G5 hr3 rfl m5 k5 b5 .nil pass0 (pa_cons (pv 1) pa_nil)) pa_nil)))
      (pa_cons (pe_call G6 hr2 rfl m6 k6 b6 .nil pass0 (pa_cons (pe_tup (pa_cons pe_int (pa_cons pe_int pa_nil))) (pa_cons (pe_call G5 hr3 rfl m5 k5 b5 .nil pass0 (pa_cons (pv 2) pa_nil)) pa_nil))) pa_nil))))) pss_nil))))
   (pss_one (ps_ret pe_non))), ?_⟩
  have b60 : ∀ p ∈ ps, Bd (2 ^ 60) p := fun p hp => (hB p hp).wide (by omega)
  obtain ⟨as, h1, h2⟩ := id hl
  have p0 := RS.shape_pos hs
  obtain ⟨c, ec, tc⟩ := Ats.get h2 (List.getElem?_eq_getElem p0)
  refine ⟨_, rfl, l, ps, rfl, hl, hn, b60, hs, fun H1 s1 => ⟨fun h10 => ?_, fun h11 => kE h11 H1 s1⟩⟩
  have k := k h10
  refine ⟨_, rfl, l, ps, rfl, Pts.same s1 hl, hn, hB, hs, fun r H2 s2 nr pr => ?_⟩
  have sb : ∀ s ∈ stepsM (lawSides ps), Bd (2 ^ 40) s := fun s hsm => by
   have := RS.steps_bd (m := 5000) (RS.shape_sides hs).1 (RS.sides_bd (m := 2500) (fun p hp => hB p hp)) s hsm
   unfold RS.inB at this
   unfold Bd
   lia
  generalize stepsM (lawSides ps) = ss at h10 pr sb k
  refine ⟨r, ss, rfl, pr, h10, fun r3 H3 s3 pw => ?_⟩
  have wl := (RS.ways_take_len (l := ss) (i := ss.length) h10).1
  rw [List.take_of_length_le (Nat.le_refl _)] at wl
  have wb := RS.ways_sub ss [([], [])] (fun p => Bd (2 ^ 40) p) (fun w hw => by rw [List.mem_singleton.mp hw]; exact ⟨fun p hp => (by cases hp), fun p hp => (by cases hp)⟩) sb
  have wb : ∀ w ∈ waysM ss, (∀ p ∈ w.1, Bd (2 ^ 40) p) /\ ∀ p ∈ w.2, Bd (2 ^ 40) p := wb
  have wlen : ∀ w ∈ waysM ss, w.1.length + w.2.length <= 10 := fun w hw => by
   have := (RS.ways_split.mp hw).len
   lia
  generalize waysM ss = ws at pw wl wb k wlen
  obtain ⟨ds, d1, d2⟩ := id pw
  have dlen : ds.length = ws.length := Paired.length d2
  have s03 := s1.trans (s2.trans s3)
  refine ⟨r3, rfl, ⟨_, SqL.of d1⟩, ?_⟩
  refine for_list (xs := ds.map V.ref) (fun i σ H' => (∃ u v, σ = [some (.ref l), u, v]) /\ Same H3 H') ⟨⟨none, none, rfl⟩, Same.refl _⟩ (fun i σ H' _ ⟨_, q⟩ => SqL.of (q _ _ d1)) ?_ ?_
  ·rintro i z σ H' ex ⟨⟨u, v, rfl⟩, sm⟩
   obtain ⟨t, et, rfl⟩ := map_ref ex
   obtain ⟨w, ew, x1, x2, tw, px, py⟩ := paired_get d2 i t et
   have hw := List.mem_of_getElem? ew
   obtain ⟨l1, l2⟩ := wl w hw
   obtain ⟨w1, w2⟩ := wb w hw
   obtain ⟨xs, e1, e2⟩ := id px
   obtain ⟨ys, f1, f2⟩ := id py
   have xl : xs.length = w.1.length := Paired.length e2
   have yl : ys.length = w.2.length := Paired.length f2
   refine ⟨t, _, rfl, SqT.of (sm _ _ tw), rfl, _, _, rfl, _, _, rfl, rfl, ?_⟩
   refine ⟨_, rfl, x1, _, rfl, .inl (SqL.of (sm _ _ e1)), _, _, rfl, rfl, _, rfl, ?_⟩
   refine ite2 (fun c1 => ?_) (fun c1 => iteF ?_)
   ·have c1' : 0 < w.1.length := by
     have := of_decide_eq_true c1
     rw [List.length_map, xl] at this
     lia
    refine ⟨_, rfl, x2, _, rfl, .inl (SqL.of (sm _ _ f1)), _, _, rfl, rfl, _, rfl, ?_⟩
    refine ite2 (fun c2 => ?_) (fun c2 => iteF ?_)
    ·have c2' : 0 < w.2.length := by
      have := of_decide_eq_true c2
      rw [List.length_map, yl] at this
      lia
     refine ⟨_, rfl, x1, w.1, rfl, Pts.same sm px, fun H5 s5 => ⟨_, rfl, ?_⟩⟩
     have s35 := sm.trans s5
     refine ite2 (fun c3 => ?_) (fun c3 => ?_)
     ·have s05 := s03.trans s35
      refine ⟨_, rfl, l, _, _, _, rfl, rfl, SqL.of (s05 _ _ h1), atI_nat (ref_get' ec), ?_⟩
      refine ⟨_, rfl, x1, w.1, rfl, Pts.same s35 px, by lia, w1, fun j1 H6 s6 n6 p6 => ?_⟩
      have jl : (RS.joinM w.1).length <= 200 := by
       unfold RS.joinM
       rw [List.length_reverse]
       have := RS.join_len w.1 []
       simp only [List.length_nil] at this
       lia
      refine ⟨c, j1, _, _, rfl, s6 _ _ (s05 _ _ tc), p6, jl, fun r7 H7 s7 n7 p7 => ?_⟩
      refine ⟨by show 2 <= sizeLine; decide, fun z nz => ?_⟩
      have sz : Same H7 (upd H7 z (.tup [.int 0, .int 0])) := same_upd nz
      have tz : Tp (upd H7 z (.tup [.int 0, .int 0])) z (0, 0) := upd_same
      generalize upd H7 z (.tup [.int 0, .int 0]) = H8 at sz tz ⊢
      have s58 := s6.trans (s7.trans sz)
      refine ⟨_, rfl, x2, w.2, rfl, Pts.same (s35.trans s58) py, by lia, w2, fun j2 H9 s9 n9 p9 => ?_⟩
      have jl2 : (RS.joinM w.2).length <= 200 := by
       unfold RS.joinM
       rw [List.length_reverse]
       have := RS.join_len w.2 []
       simp only [List.length_nil] at this
       lia
      refine ⟨z, j2, _, _, rfl, s9 _ _ tz, p9, jl2, fun r10 H10 s10 n10 p10 => ?_⟩
      refine ⟨by show 2 <= sizeLine; decide, fun t11 n11 => ?_⟩
      have s11 : Same H10 (upd H10 t11 (.tup [.ref r7, .ref r10])) := same_upd n11
      exact k _ _ (s05.trans (s58.trans (s9.trans (s10.trans s11))))
     ·exact ⟨⟨_, _, rfl⟩, s35⟩
    ·exact ⟨⟨_, _, rfl⟩, sm⟩
   ·exact ⟨⟨_, _, rfl⟩, sm⟩
  ·rintro σ H' ⟨⟨u, v, rfl⟩, sm⟩
   exact k _ _ (s03.trans sm)
end
end K1
namespace K1
open PySem L2
open RS (Pt arrow cross popW chainR chain swap order hull dedP sortD)
noncomputable abbrev sInOrder : Stmt := top 25
noncomputable abbrev sLeft : Stmt := top 26
noncomputable abbrev sHullP : Stmt := top 27
section
variable {P : Program} {w : World} {K : PySem.W.Frag} {mg : Str -> Option Value} {base : Heap}
theorem scIO : FnScope ["points", "heights_first"] ["points"] (defScope sInOrder) := ⟨rfl, rfl, rfl, by decide +kernel, rfl, by decide +kernel, by decide +kernel⟩
theorem ok_in_order {f : Addr} {fd : FuncData} (F : Fun K "in_order" "in_order" sInOrder f fd) (mso : mg "sorted" = none) (mse : mg "set" = none) : FnOk P w K mg base CX0 1 f fd ["points"] (spPtsN 60 (2 ^ 60) order) := by
 refine F.ok scIO (fun vs H Q E h => ?_) (fun cdv A outer s H vs Q E hr h => ?_)
 ·obtain ⟨l, ps, rfl, _⟩ := h
  rfl
 ·obtain ⟨l, ps, rfl, hl, hn0, hn, hB, k⟩ := h
  have hu8 := hu8_of hr
  refine ⟨_, pss_cons (ps_set (i := 1) scIO.nd rfl (Or.inl rfl) (pe_callB (call_sorted_pts rfl) rfl mso bootSorted (pa_cons (pe_callTy (call_set_pts rfl hu8) rfl mse bootSet (pa_cons
     (pe_lc (tn := ["point"]) (cs := []) (g := gName 0) (tt := tYes) (te := tTup (tCons (tOp (rIxT K) (tVar 0) (tC (.int 1))) (tCons (tOp (rIxT K) (tVar 0) (tC (.int 0))) tNil))) (Caps.none (by decide +kernel) rfl (by decide +kernel)) rfl
      (pi_list (pv 0))
      (fun C s₀ H₀ fp xe => pg_name (i := 0) nodup1 rfl (Or.inl rfl) (.inr rfl))
      (fun C s₀ H₀ fp xe => pts_nil)
      (fun C s₀ H₀ fp xe => pe_tup (pa_cons (pe_ix ix_tup (pv 0) pe_int (fun _ _ => rfl)) (pa_cons (pe_ix ix_tup (pv 0) pe_int (fun _ _ => rfl)) pa_nil)))) pa_nil)) pa_nil)))
   (pss_one (ps_ret (pe_lc (tn := ["up", "right"]) (cs := []) (g := gTup K 2 (gCons (gName 0) (gCons (gName 1) gNil))) (tt := tYes) (te := tTup (tCons (tVar 1) (tCons (tVar 0) tNil))) (Caps.none (by decide +kernel) rfl (by decide +kernel)) rfl
    (pi_list (pv 1))
    (fun C s₀ H₀ fp xe => pg_tup (n := 2) rfl (pgs_cons (pg_name (i := 0) nodupUR rfl (Or.inl rfl) (.inr rfl)) (pgs_cons (pg_name (i := 1) nodupUR rfl (Or.inl rfl) (.inr rfl)) pgs_nil)))
    (fun C s₀ H₀ fp xe => pts_nil)
    (fun C s₀ H₀ fp xe => pe_tup (pa_cons (pv 1) (pa_cons (pv 0) pa_nil)))))), ?_⟩
  obtain ⟨as, h1, h2⟩ := id hl
  have hlen : as.length = ps.length := Paired.length h2
  refine ⟨_, rfl, l, rfl, ⟨_, SqL.of h1⟩, fun D1 n1 => ?_⟩
  refine lc_list (K := K) (a := l) (D := D1) (xs := as.map V.ref) (fun i σ H' => (∃ u, σ = [u]) /\ Same H H' /\ Pts H' D1 ((ps.map swap).take i)) ⟨⟨none, rfl⟩, same_upd n1, [], upd_same, .nil⟩
   (fun i σ H' _ ⟨_, sm, _⟩ => SqL.of (sm _ _ h1)) ?_ ?_
  ·rintro i x σ H' ex ⟨⟨u, rfl⟩, sm, pt⟩
   obtain ⟨a, ea, rfl⟩ := map_ref ex
   obtain ⟨p, ep, tp⟩ := paired_get h2 i a ea
   have hi : i < ps.length := (List.getElem?_eq_some_iff.mp ep).1
   refine g_go ?_
   refine yes_go ?_
   have ta := SqT.of (K := K) (sm _ _ tp)
   refine ⟨_, rfl, a, _, _, _, rfl, rfl, ta, rfl, _, rfl, a, _, _, _, rfl, rfl, ta, rfl, by show 2 <= sizeLine; decide, fun t nt => ?_⟩
   have er : (ps.map swap)[i]? = some (swap p) := by rw [List.getElem?_map, ep]; rfl
   obtain ⟨ys, y1, y2, y3, y4⟩ := pts_push (r := t) (v := swap p) n1 (sm.trans (same_upd (o := .tup [.int p.2, .int p.1]) nt)) (Pts.same (same_upd nt) pt) upd_same (by rw [List.length_take, List.length_map]; exact size100 (by omega))
   exact ⟨ys, y1, y2, ⟨_, rfl⟩, y3, by rw [take_next er]; exact y4⟩
  ·rintro σ H2 ⟨_, sm, pt⟩
   rw [List.length_map, hlen, List.take_of_length_le (by rw [List.length_map]; exact Nat.le_refl _)] at pt
   obtain ⟨bs, c1, c2⟩ := pt
   have blen : bs.length = (ps.map swap).length := Paired.length c2
   have blen2 : bs.length = ps.length := by rw [blen, List.length_map]
   refine ⟨D1, bs, _, rfl, c1, c2, by omega, fun S nS => ?_⟩
   have sS := sm.trans (same_upd (o := SetO P w S (dedP ((ps.map swap).zip bs))) nS)
   have zl : ((ps.map swap).zip bs).length = ps.length := by rw [List.length_zip, List.length_map]; omega
   have etp : ∀ p ∈ dedP ((ps.map swap).zip bs), Tp (upd H2 S (SetO P w S (dedP ((ps.map swap).zip bs)))) p.2 p.1 := fun p hp => same_upd nS _ _ (zip_tp c2 p (RS.dedP_sub hp))
   refine ⟨S, _, rfl, upd_same, etp, RS.dedP_nodup _, by have := RS.dedP_len ((ps.map swap).zip bs); omega, fun D2 srt n2 perm pw => ?_⟩
   have ek : srt.map (·.1) = sortD (ps.map swap) := by rw [srt_keys perm pw, zip_fst blen]
   have ats : Ats (upd H2 S (SetO P w S (dedP ((ps.map swap).zip bs)))) (srt.map (·.2)) (sortD (ps.map swap)) := by
    rw [<- ek]
    exact srt_ats fun p hp => etp p (perm.mem_iff.mp hp)
   have emap : srt.map (fun p => V.ref p.2) = (srt.map (·.2)).map V.ref := by rw [List.map_map]; rfl
   rw [emap]
   dsimp only [cxOf, Cx.nox] at n2 ⊢
   have s3 := sS.trans (same_upd (o := .lst ((srt.map (·.2)).map V.ref)) n2)
   have a3 := Ats.same (same_upd (o := .lst ((srt.map (·.2)).map V.ref)) n2) ats
   generalize hcs : srt.map (·.2) = cs at s3 a3 ⊢
   have d3 : upd (upd H2 S (SetO P w S (dedP ((ps.map swap).zip bs)))) D2 (.lst (cs.map V.ref)) D2 = some (.lst (cs.map V.ref)) := upd_same
   generalize hH3 : upd (upd H2 S (SetO P w S (dedP ((ps.map swap).zip bs)))) D2 (.lst (cs.map V.ref)) = H3 at s3 a3 d3 ⊢
   have clen : cs.length = (sortD (ps.map swap)).length := Paired.length a3
   have slen : (sortD (ps.map swap)).length <= ps.length := by have := RS.sortD_len (ps.map swap); rw [List.length_map] at this; exact this
   refine ⟨_, rfl, D2, rfl, ⟨_, SqL.of d3⟩, fun D nD => ?_⟩
   refine lc_list (K := K) (a := D2) (D := D) (xs := cs.map V.ref) (fun i σ H' => (∃ u v, σ = [u, v]) /\ Same H3 H' /\ Pts H' D ((order ps).take i)) ⟨⟨none, none, rfl⟩, same_upd nD, [], upd_same, .nil⟩
    (fun i σ H' _ ⟨_, sm, _⟩ => SqL.of (sm _ _ d3)) ?_ ?_
   ·rintro i x σ H' ex ⟨⟨u, v, rfl⟩, sm', pt⟩
    obtain ⟨a, ea, rfl⟩ := map_ref ex
    obtain ⟨p, ep, tp⟩ := paired_get a3 i a ea
    have hi : i < (sortD (ps.map swap)).length := (List.getElem?_eq_some_iff.mp ep).1
    refine ⟨a, _, rfl, SqT.of (sm' _ _ tp), rfl, _, _, rfl, _, _, rfl, rfl, ?_⟩
    refine yes_go ?_
    refine ⟨_, rfl, _, rfl, by show 2 <= sizeLine; decide, fun t nt => ?_⟩
    have er : (order ps)[i]? = some (swap p) := by unfold order; rw [List.getElem?_map, ep]; rfl
    obtain ⟨ys, y1, y2, y3, y4⟩ := pts_push (r := t) (v := swap p) nD (sm'.trans (same_upd (o := .tup [.int p.2, .int p.1]) nt)) (Pts.same (same_upd nt) pt) upd_same (by rw [List.length_take]; exact size100 (by omega))
    exact ⟨ys, y1, y2, ⟨_, _, rfl⟩, y3, by rw [take_next er]; exact y4⟩
   ·rintro σ H4 ⟨_, sm', pt⟩
    have olen : (order ps).length = cs.length := by unfold order; rw [List.length_map, clen]
    rw [List.length_map, <- olen, List.take_of_length_le (Nat.le_refl _)] at pt
    exact k D H4 (s3.trans sm') (s3.free nD) pt
theorem scLT : FnScope ["points", "kept", "point"] ["points"] (defScope sLeft) := ⟨rfl, rfl, rfl, by decide +kernel, rfl, by decide +kernel, by decide +kernel⟩
theorem ok_left {f f1 f2 : Addr} {fd fd1 fd2 : FuncData} (F : Fun K "left_turns" "left_turns" sLeft f fd)
  (G1 : FnOk P w K mg base CX0 1 f1 fd1 ["one", "other"] (spInt2 (2 ^ 62) cross)) (k1 : PySem.W.keepIn K (.ref f1) = true) (b1 : Binds K fd1 ["one", "other"] []) (m1 : mg "turn" = some (.ref f1))
  (G2 : FnOk P w K mg base CX0 1 f2 fd2 ["start", "end"] (spPt2 arrow)) (k2 : PySem.W.keepIn K (.ref f2) = true) (b2 : Binds K fd2 ["start", "end"] []) (m2 : mg "arrow_from" = some (.ref f2))
  (ml : mg "len" = none) : FnOk P w K mg base CX0 2 f fd ["points"] (spPts1 (2 ^ 60) chain) := by
 refine F.ok scLT (fun vs H Q E h => ?_) (fun cdv A outer s H vs Q E hr h => ?_)
 ·obtain ⟨l, ps, rfl, _⟩ := h
  rfl
 ·obtain ⟨l, ps, rfl, hl, hn, hB, k⟩ := h
  refine ⟨_, pss_cons (ps_set (i := 1) scLT.nd rfl (Or.inl rfl) (pe_lst pa_nil))
   (pss_cons (ps_for PassesOwn.never rfl (pi_list (pv 0)) (pg_name (i := 2) scLT.nd rfl (Or.inl rfl))
    (pss_cons (ps_while PassesOwn.never (PW.pt (pw_and (pt_cmpR op_gt (pe_callB call_len_seq rfl ml PySem.boot_len (pa_cons (pv 1) pa_nil)) pe_int (nomark _))
      (pw_and1 (pt_cmpR op_le (pe_call G1 hr rfl m1 k1 b1 .nil pass0 (pa_cons (pe_call G2 hr rfl m2 k2 b2 .nil pass0 (pa_cons (pe_ix ix_list (pv 1) (pe_un un_neg pe_int) (fun _ _ => rfl)) (pa_cons (pe_ix ix_list (pv 1) (pe_un un_neg pe_int) (fun _ _ => rfl)) pa_nil)))
       (pa_cons (pe_call G2 hr rfl m2 k2 b2 .nil pass0 (pa_cons (pe_ix ix_list (pv 1) (pe_un un_neg pe_int) (fun _ _ => rfl)) (pa_cons (pv 2) pa_nil))) pa_nil))) pe_int (nomark _)))))
     (pss_one (ps_expr (pe_bm0 PySem.F.plainAttrs_list PySem.F.slot_list_pop PySem.F.type_list_pop mt_pop (pv 1)))))
    (pss_one (ps_expr (pe_bm PySem.F.plainAttrs_list PySem.F.slot_list_append PySem.F.type_list_append mt_append (pv 1) (pa_cons (pv 2) pa_nil))))))
   (pss_one (ps_ret (pv 1)))), ?_⟩
  obtain ⟨as, h1, h2⟩ := id hl
  have hlen : as.length = ps.length := Paired.length h2
  refine ⟨Nat.zero_le _, fun D nD => ?_⟩
  have s0 : Same H (upd H D (.lst [])) := same_upd nD
  refine ⟨_, rfl, l, rfl, ⟨_, SqL.of (s0 _ _ h1)⟩, ?_⟩
  refine for_list (xs := as.map V.ref) (fun i σ H' => (∃ u, σ = [some (.ref l), some (.ref D), u]) /\ Same H H' /\ Pts H' D (chainR (ps.take i)).reverse) ⟨⟨none, rfl⟩, s0, [], upd_same, .nil⟩
   (fun i σ H' _ ⟨_, sm, _⟩ => SqL.of (sm _ _ h1)) ?_ ?_
  ·rintro i x σ H' ex ⟨⟨u, rfl⟩, sm, pt⟩
   obtain ⟨a, ea, rfl⟩ := map_ref ex
   obtain ⟨p, ep, tp⟩ := paired_get h2 i a ea
   have hpB : Bd (2 ^ 60) p := hB p (List.mem_of_getElem? ep)
   have hi : i < ps.length := (List.getElem?_eq_some_iff.mp ep).1
   have inB : ∀ x ∈ chainR (ps.take i), Bd (2 ^ 60) x := fun x hx => hB x (List.mem_of_mem_take (RS.mem_chain (by unfold RS.chain; exact List.mem_reverse.mpr hx)))
   have inL : (chainR (ps.take i)).length <= 100 := by
    have := RS.chain_len (ps.take i)
    unfold RS.chain at this
    rw [List.length_reverse, List.length_take] at this
    omega
   refine ⟨fun m σ H' => σ = [some (.ref l), some (.ref D), some (.ref a)] /\ Same H H' /\ ∃ st, m = st.length /\ Pts H' D st.reverse /\ popW st p = popW (chainR (ps.take i)) p /\ (∀ x ∈ st, Bd (2 ^ 60) x) /\ st.length <= 100,
    ⟨_, rfl, sm, _, rfl, pt, rfl, inB, inL⟩, ?_⟩
   rintro m σ H2 ⟨rfl, sm2, st, rfl, pt2, ew, sB, sL⟩
   obtain ⟨ds, d1, d2⟩ := pt2
   have dlen : ds.length = st.length := by rw [Paired.length d2, List.length_reverse]
   refine ⟨_, rfl, D, _, rfl, .inl (SqL.of d1), _, _, rfl, rfl, _, rfl, ?_⟩
   refine ite2 (fun c => ?_) (fun c => iteF ?_)
   ·have c' : 1 < st.length := by
     have := of_decide_eq_true c
     rw [List.length_map, dlen] at this
     omega
    match st, c', ew, sB, sL, d2, dlen with
    | b :: a' :: r, _, ew, sB, sL, d2, dlen =>
     obtain ⟨x, y, es, rfl, tx, ty, te⟩ := two_last d2
     have xe : ((es ++ [x, y]).map V.ref) = es.map V.ref ++ [V.ref x, V.ref y] := by rw [List.map_append]; rfl
     rw [xe] at d1
     have i1 : atI (es.map V.ref ++ [V.ref x, V.ref y]) (-1) = some (V.ref y) := atI_neg1 (by simp)
     have i2 : atI (es.map V.ref ++ [V.ref x, V.ref y]) (-2) = some (V.ref x) := atI_at (j := es.length) (by simp; omega) (by simp) (by simp)
     refine ⟨_, rfl, _, rfl, D, _, _, _, rfl, rfl, SqL.of d1, i2, ?_⟩
     refine ⟨_, rfl, _, rfl, D, _, _, _, rfl, rfl, SqL.of d1, i1, x, y, a', b, rfl, tx, ty, fun r1 H3 s3 t3 => ?_⟩
     refine ⟨_, rfl, _, rfl, D, _, _, _, rfl, rfl, SqL.of (s3 _ _ d1), i1, _, rfl, y, a, b, p, rfl, s3 _ _ ty, s3 _ _ (sm2 _ _ tp), fun r2 H4 s4 t4 => ?_⟩
     refine ⟨r1, r2, arrow a' b, arrow b p, rfl, s4 _ _ t3, t4, bd_arrow (sB a' (by simp)) (sB b (by simp)), _, _, rfl, rfl, _, rfl, ?_⟩
     have s24 := s3.trans s4
     have d4 := s24 _ _ d1
     refine ite2 (fun c2 => ?_) (fun c2 => ?_)
     ·have c2' : ¬ 0 < cross (arrow a' b) (arrow b p) := Int.not_lt.mpr (of_decide_eq_true c2)
      refine ⟨fun σ' H' => σ' = [some (.ref l), some (.ref D), some (.ref a)] /\ Same H H' /\ ∃ st, st.length < (b :: a' :: r).length /\ Pts H' D st.reverse /\ popW st p = popW (chainR (ps.take i)) p /\ (∀ x ∈ st, Bd (2 ^ 60) x) /\ st.length <= 100,
      fun σ' H' ⟨q1, q2, st, q3, q4⟩ => ⟨_, q3, q1, q2, st, rfl, q4⟩, ?_⟩
      rw [popW_drop c2'] at ew
      have edl : (es.map V.ref ++ [V.ref x, V.ref y]).dropLast = (es ++ [x]).map V.ref := by
       have : es.map V.ref ++ [V.ref x, V.ref y] = (es ++ [x]).map V.ref ++ [V.ref y] := by simp
       rw [this, List.dropLast_concat]
      refine ⟨_, rfl, .inl ⟨rfl, _, SqL.of d4⟩, D, _, V.ref y, rfl, rfl, d4, by simp, ?_⟩
      refine ⟨rfl, same_set (sm2.trans s24) nD, a' :: r, by simp, ⟨es ++ [x], by rw [upd_same, edl], ?_⟩, ew, fun z hz => sB z (List.mem_cons_of_mem _ hz), by simp at sL ⊢; omega⟩
      rw [List.reverse_cons]
      exact Ats.put d4 (Ats.app (Ats.same s24 te) (.cons (s24 _ _ tx) .nil))
     ·have c2' : 0 < cross (arrow a' b) (arrow b p) := Int.not_le.mp fun z => c2 (decide_eq_true z)
      rw [popW_stay c2'] at ew
      refine ⟨_, rfl, .inl ⟨rfl, _, SqL.of d4⟩, _, rfl, D, _, _, rfl, rfl, d4, size100 (by simp at dlen sL ⊢; omega), ?_⟩
      have pp : Pts H4 D (b :: a' :: r).reverse := ⟨es ++ [x, y], by rw [d4, xe], Ats.same s24 d2⟩
      obtain ⟨ys, y1, y2, y3, y4⟩ := pts_push nD (sm2.trans s24) pp (s24 _ _ (sm2 _ _ tp)) (by rw [List.length_reverse]; exact size100 (by omega))
      rw [d4] at y1
      cases y1
      refine ⟨⟨_, rfl⟩, y3, ?_⟩
      rw [take_next ep, RS.chainR_snoc, <- ew, List.reverse_cons]
      exact y4
   ·have c' : ¬ 1 < st.length := fun z => c (decide_eq_true (by rw [List.length_map, dlen]; omega))
    rw [popW_short c'] at ew
    refine ⟨_, rfl, .inl ⟨rfl, _, SqL.of d1⟩, _, rfl, D, _, _, rfl, rfl, d1, size100 (by rw [List.length_map]; omega), ?_⟩
    obtain ⟨ys, y1, y2, y3, y4⟩ := pts_push nD sm2 ⟨ds, d1, d2⟩ (sm2 _ _ tp) (by rw [List.length_reverse]; exact size100 (by omega))
    rw [d1] at y1
    cases y1
    refine ⟨⟨_, rfl⟩, y3, ?_⟩
    rw [take_next ep, RS.chainR_snoc, <- ew, List.reverse_cons]
    exact y4
  ·rintro σ H' ⟨⟨u, rfl⟩, sm, pt⟩
   refine ⟨_, rfl, ?_⟩
   rw [List.length_map, hlen, List.take_of_length_le (Nat.le_refl _)] at pt
   exact k D H' sm nD pt
theorem scHP : FnScope ["points", "ordered", "upward", "downward"] ["points"] (defScope sHullP) := ⟨rfl, rfl, rfl, by decide +kernel, rfl, by decide +kernel, by decide +kernel⟩
theorem ok_hullP {f f1 f2 : Addr} {fd fd1 fd2 : FuncData} {tk : Tok} (F : Fun K "hull" "hull" sHullP f fd)
  (G1 : FnOk P w K mg base CX0 1 f1 fd1 ["points"] (spPtsN 60 (2 ^ 60) order)) (k1 : PySem.W.keepIn K (.ref f1) = true) (b1 : Binds K fd1 ["points"] []) (m1 : mg "in_order" = some (.ref f1))
  (G2 : FnOk P w K mg base CX0 2 f2 fd2 ["points"] (spPts1 (2 ^ 60) chain)) (k2 : PySem.W.keepIn K (.ref f2) = true) (b2 : Binds K fd2 ["points"] []) (m2 : mg "left_turns" = some (.ref f2))
  (ml : mg "len" = none) (mli : mg "list" = none) (mre : mg "reversed" = none) (mt : mg "MOST_POINTS" = some (.int 40 tk)) : FnOk P w K mg base CX0 3 f fd ["points"] (spPtsN 40 (2 ^ 60) hull) := by
 refine F.ok scHP (fun vs H Q E h => ?_) (fun cdv A outer s H vs Q E hr h => ?_)
 ·obtain ⟨l, ps, rfl, _⟩ := h
  rfl
 ·obtain ⟨l, ps, rfl, hl, hn0, hn, hB, k⟩ := h
  have hr1 := hr.mono (j := 1) (by decide)
  refine ⟨_, pss_cons (ps_if (pt_not (pt_chain op_le op_le pe_int (pe_callB call_len_seq rfl ml PySem.boot_len (pa_cons (pv 0) pa_nil)) (pe_glob (v := .int 40) rfl mt ⟨tk, rfl⟩))) pss_never pss_nil)
   (pss_cons (ps_set (i := 1) scHP.nd rfl (Or.inl rfl) (pe_call G1 hr1 rfl m1 k1 b1 .nil pass0 (pa_cons (pv 0) pa_nil)))
   (pss_cons (ps_if (pt_cmpR op_eq (pe_callB call_len_seq rfl ml PySem.boot_len (pa_cons (pv 1) pa_nil)) pe_int (nomark _)) (pss_one (ps_ret (pv 1))) pss_nil)
   (pss_cons (ps_set (i := 2) scHP.nd rfl (Or.inl rfl) (pe_call G2 hr rfl m2 k2 b2 .nil pass0 (pa_cons (pv 1) pa_nil)))
   (pss_cons (ps_set (i := 3) scHP.nd rfl (Or.inl rfl) (pe_call G2 hr rfl m2 k2 b2 .nil pass0 (pa_cons (pe_lrev rfl rfl mli rfl mre (pv 1)) pa_nil)))
   (pss_one (ps_ret (pe_op op_cat (pe_slice sl_list (pv 2) po_none (po_some (pe_un un_neg pe_int))) (pe_slice sl_list (pv 3) po_none (po_some (pe_un un_neg pe_int)))))))))), ?_⟩
  obtain ⟨as, h1, h2⟩ := id hl
  have hlen : as.length = ps.length := Paired.length h2
  have el : (as.map V.ref).length = ps.length := by rw [List.length_map, hlen]
  refine ⟨_, rfl, l, _, rfl, .inl (SqL.of h1), _, _, rfl, rfl, _, rfl, ?_⟩
  rw [decide_eq_true (show (1 : Int) <= ((as.map V.ref).length : Int) by omega)]
  refine iteT ?_
  refine ⟨_, _, rfl, rfl, _, rfl, ?_⟩
  rw [decide_eq_true (show ((as.map V.ref).length : Int) <= 40 by omega)]
  refine iteF ?_
  refine ⟨_, rfl, l, ps, rfl, hl, hn0, by omega, hB, fun D H4 s4 nDH pt => ?_⟩
  have oB : ∀ p ∈ order ps, Bd (2 ^ 60) p := fun p hp => hB p (RS.mem_order.mp hp)
  have oL := RS.order_len ps
  obtain ⟨os, o1, o2⟩ := id pt
  have oslen : os.length = (order ps).length := Paired.length o2
  refine ⟨_, rfl, D, _, rfl, .inl (SqL.of o1), rfl, _, rfl, ?_⟩
  unfold hull at k
  refine ite2 (fun c => ?_) (fun c => ?_)
  ·have c' : (order ps).length = 1 := by
    have := of_decide_eq_true c
    injection this with this
    rw [List.length_map, oslen] at this
    omega
   rw [if_pos c'] at k
   exact ⟨_, rfl, k D H4 s4 nDH pt⟩
  ·have c' : ¬ (order ps).length = 1 := fun z => c (decide_eq_true (by rw [List.length_map, oslen, z]; rfl))
   rw [if_neg c'] at k
   refine ⟨_, rfl, D, order ps, rfl, pt, by omega, oB, fun r1 H5 s5 nr1 p5 => ?_⟩
   refine ⟨_, rfl, D, _, rfl, SqL.of (s5 _ _ o1), fun d2 nd2 => ?_⟩
   rw [<- List.map_reverse]
   have s6 : Same H5 (upd H5 d2 (.lst (os.reverse.map V.ref))) := same_upd nd2
   have p7 : Pts (upd H5 d2 (.lst (os.reverse.map V.ref))) d2 (order ps).reverse := ⟨_, upd_same, Ats.same (s5.trans s6) (Ats.rev o2)⟩
   generalize hH7 : upd H5 d2 (.lst (os.reverse.map V.ref)) = H7 at s6 p7 ⊢
   refine ⟨d2, _, rfl, p7, by rw [List.length_reverse]; omega, fun p hp => oB p (List.mem_reverse.mp hp), fun r2 H8 s8 nr2 p8 => ?_⟩
   obtain ⟨us, u1, u2⟩ := p5
   obtain ⟨vs', v1, v2⟩ := p8
   have s68 := s6.trans s8
   refine ⟨_, rfl, _, rfl, _, rfl, r1, _, rfl, SqL.of (s68 _ _ u1), fun d1 nd1 => ?_⟩
   rw [cut_init, <- List.map_dropLast]
   have s9 : Same H8 (upd H8 d1 (.lst (us.dropLast.map V.ref))) := same_upd nd1
   have e9 : upd H8 d1 (.lst (us.dropLast.map V.ref)) d1 = some (.lst (us.dropLast.map V.ref)) := upd_same
   generalize hH9 : upd H8 d1 (.lst (us.dropLast.map V.ref)) = H9 at s9 e9 ⊢
   refine ⟨_, rfl, _, rfl, _, rfl, r2, _, rfl, SqL.of (s9 _ _ v1), fun d3 nd3 => ?_⟩
   rw [cut_init, <- List.map_dropLast]
   have s10 : Same H9 (upd H9 d3 (.lst (vs'.dropLast.map V.ref))) := same_upd nd3
   have e10 : upd H9 d3 (.lst (vs'.dropLast.map V.ref)) d3 = some (.lst (vs'.dropLast.map V.ref)) := upd_same
   have ul : us.length = (chain (order ps)).length := Paired.length u2
   have vl : vs'.length = (chain (order ps).reverse).length := Paired.length v2
   have l1 := RS.chain_len (order ps)
   have l2 := RS.chain_len (order ps).reverse
   rw [List.length_reverse] at l2
   generalize hH10 : upd H9 d3 (.lst (vs'.dropLast.map V.ref)) = H10 at s10 e10 ⊢
   refine ⟨d1, d3, _, _, rfl, rfl, s10 _ _ e9, e10, ?_, fun r nr => ?_⟩
   ·rw [List.length_map, List.length_map, List.length_dropLast, List.length_dropLast]
    exact Nat.le_of_lt (size100 (by omega))
   rw [<- List.map_append]
   have s8a : Same H8 H10 := s9.trans s10
   have all : Same H H10 := s4.trans (s5.trans (s68.trans s8a))
   exact k r _ (all.trans (same_upd nr)) (all.free nr) ⟨_, upd_same, Ats.same (same_upd nr) (Ats.app (Ats.init (Ats.same (s68.trans s8a) u2)) (Ats.init (Ats.same s8a v2)))⟩
end
end K1
namespace K1
open PySem L2
open RS (Pt arrow cross isShape dot holdsM cellAt lawShape)
noncomputable abbrev sReach : Stmt := top 29
theorem bootMax : bootBuiltins "max" = some (.builtin "max") := by decide +kernel
inductive spReach (vs : List V) (H : Hp) (Q : VK) (u3 : XK) : Prop
 | mk (l : _) (a : _) (ps : _) (d : _) (c0 : vs = [.ref l, .ref a]) (c1 : Pts H l ps) (c2 : Tp H a d) (c3 : ps.length <= 100) (c4 : (∀ p ∈ ps, Bd (2 ^ 60) p)) (c5 : isShape ps = true) (c6 : ∀ H' m, Same H H' -> m ∈ ps.map (dot d) -> (∀ x ∈ ps.map (dot d), x <= m) -> Q (.int m) H') : spReach  vs H Q u3
theorem nodupCA : ((["corner"] : List Str) ++ ([("arrow", 1)] : List (Str × Nat)).map (·.1)).Nodup := by decide +kernel
section
variable {P : Program} {w : World} {K : PySem.W.Frag} {mg : Str -> Option Value} {base : Heap}
theorem scRc : FnScope ["corners", "arrow"] ["corners", "arrow"] (defScope sReach) := ⟨rfl, rfl, rfl, by decide +kernel, rfl, by decide +kernel, by decide +kernel⟩
theorem ok_reach {f f1 f2 : Addr} {fd fd1 fd2 : FuncData} (F : Fun K "reach" "reach" sReach f fd)
  (G1 : FnOk P w K mg base CX0 4 f1 fd1 ["corners"] spRef) (k1 : PySem.W.keepIn K (.ref f1) = true) (b1 : Binds K fd1 ["corners"] []) (m1 : mg "refuse_no_shape" = some (.ref f1))
  (G2 : FnOk P w K mg base CX0 1 f2 fd2 ["one", "other"] (spInt2 (2 ^ 62) dot)) (k2 : PySem.W.keepIn K (.ref f2) = true) (b2 : Binds K fd2 ["one", "other"] []) (m2 : mg "product" = some (.ref f2))
  (mm : mg "max" = none) : FnOk P w K mg base CX0 5 f fd ["corners", "arrow"] spReach := by
 refine F.ok scRc (fun vs H Q E h => ?_) (fun cdv A outer s H vs Q E hr h => ?_)
 ·obtain ⟨l, a, ps, d, rfl, _⟩ := h
  rfl
 ·obtain ⟨l, a, ps, d, rfl, hl, ha, hn, hB, hs, k⟩ := h
  have hr1 := hr.mono (j := 1) (by decide)
  refine ⟨_, pss_cons (ps_expr (pe_call G1 hr rfl m1 k1 b1 .nil pass0 (pa_cons (pv 0) pa_nil)))
   (pss_one (ps_ret (pe_callB (call_max_ints rfl) rfl mm bootMax (pa_cons
    (pe_lc (tn := ["corner"]) (cs := [("arrow", 1)]) (g := gName 0) (tt := tYes) (te := tCall (spInt2 (2 ^ 62) dot) [] E0 (tCons (tVar 0) (tCons (tVar 1) tNil)))
     (Caps.one (names' := [(".0", .local), ("corner", .local), ("product", .globalImplicit), ("arrow", .cell)]) rfl rfl rfl rfl rfl rfl (by decide +kernel) rfl (by decide +kernel) (by decide +kernel)) rfl
     (pi_list (pv 0))
     (fun C s₀ H₀ fp xe => pg_name (i := 0) nodupCA rfl (Or.inl rfl) (.inr rfl))
     (fun C s₀ H₀ fp xe => pts_nil)
     (fun C s₀ H₀ fp xe => pe_call G2 hr1 rfl m2 k2 b2 .nil pass0 (pa_cons (pv 0) (pa_cons (pv 1) pa_nil)))) pa_nil)))), ?_⟩
  refine ⟨_, rfl, l, ps, rfl, hl, hn, hB, hs, fun H1 s1 => ?_⟩
  obtain ⟨as, h1, h2⟩ := id hl
  have hlen : as.length = ps.length := Paired.length h2
  have h0 := RS.shape_pos hs
  refine ⟨_, rfl, l, rfl, ⟨_, SqL.of (s1 _ _ h1)⟩, fun D nD => ?_⟩
  refine lc_list (K := K) (a := l) (D := D) (xs := as.map V.ref) (fun i σ H' => (∃ u, σ = [u, some (.ref a)]) /\ Same H1 H' /\ H' D = some (.lst (((ps.map (dot d)).take i).map V.int))) ⟨⟨none, rfl⟩, same_upd nD, upd_same⟩
   (fun i σ H' _ ⟨_, sm, _⟩ => SqL.of (sm _ _ (s1 _ _ h1))) ?_ ?_
  ·rintro i x σ H' ex ⟨⟨u, rfl⟩, sm, hD⟩
   obtain ⟨b, eb, rfl⟩ := map_ref ex
   obtain ⟨p, ep, tp⟩ := paired_get h2 i b eb
   have hi : i < ps.length := (List.getElem?_eq_some_iff.mp ep).1
   refine g_go ?_
   refine yes_go ?_
   have sH := s1.trans sm
   refine ⟨_, rfl, _, rfl, b, a, p, d, rfl, sH _ _ tp, sH _ _ ha, (hB p (List.mem_of_getElem? ep)).wide (by omega), ?_⟩
   have er : (ps.map (dot d))[i]? = some (dot p d) := by rw [List.getElem?_map, ep, RS.dot_comm p d]; rfl
   refine ⟨_, hD, size100 (by rw [List.length_map, List.length_take, List.length_map]; omega), ⟨_, rfl⟩, same_set sm nD, ?_⟩
   rw [upd_same, take_next er, List.map_append]
   rfl
  ·rintro σ H' ⟨_, sm, hD⟩
   rw [List.length_map, hlen, List.take_of_length_le (by rw [List.length_map]; exact Nat.le_refl _)] at hD
   exact ⟨D, _, rfl, SqL.of hD, fun z => by rw [List.map_eq_nil_iff] at z; rw [z] at h0; simp at h0, fun m q1 q2 => k H' m (s1.trans sm) q1 q2⟩
end
end K1
namespace K1
open PySem L2
open RS (Pt isShape)
noncomputable abbrev sShown : Stmt := top 42
inductive spShown (vs : List V) (H : Hp) (Q : VK) (u3 : XK) : Prop
 | mk (l : _) (ps : _) (c0 : vs = [.ref l]) (c1 : Pts H l ps) (c2 : ps.length <= 100) (c3 : (∀ p ∈ ps, Bd (2 ^ 60) p)) (c4 : (∀ p ∈ ps, Sm p)) (c5 : isShape ps = true) (c6 : ∀ H', Same H H' -> Q (.str (textM ps)) H') : spShown  vs H Q u3
noncomputable def rInS : R2 := fun x y H Q => ∃ i j, x = .str i /\ y = .str j /\ Q (.bl (!(Builtin.Str.occurrences j i 0 j.length 1).isEmpty)) H
theorem nodupRU : ((["right", "up"] : List Str) ++ ([] : List (Str × Nat)).map (·.1)).Nodup := by decide +kernel
section
variable {P : Program} {w : World} {K : PySem.W.Frag} {mg : Str -> Option Value} {base : Heap}
theorem scSn : FnScope ["corners"] ["corners"] (defScope sShown) := ⟨rfl, rfl, rfl, by decide +kernel, rfl, by decide +kernel, by decide +kernel⟩
theorem ok_shown {f f1 : Addr} {fd fd1 : FuncData} (F : Fun K "shown" "shown" sShown f fd)
  (G1 : FnOk P w K mg base CX0 4 f1 fd1 ["corners"] spRef) (k1 : PySem.W.keepIn K (.ref f1) = true) (b1 : Binds K fd1 ["corners"] []) (m1 : mg "refuse_no_shape" = some (.ref f1)) : FnOk P w K mg base CX0 5 f fd ["corners"] spShown := by
 refine F.ok scSn (fun vs H Q E h => ?_) (fun cdv A outer s H vs Q E hr h => ?_)
 ·obtain ⟨l, ps, rfl, _⟩ := h
  rfl
 ·obtain ⟨l, ps, rfl, hl, hn, hB, hS, hs, k⟩ := h
  refine ⟨_, pss_cons (ps_expr (pe_call G1 hr rfl m1 k1 b1 .nil pass0 (pa_cons (pv 0) pa_nil)))
   (pss_one (ps_ret (pe_bm PySem.F.plainAttrs_str PySem.F.slot_str_join PySem.F.type_str_join mt_join pe_str (pa_cons
    (pe_lc (tn := ["right", "up"]) (cs := []) (g := gTup K 2 (gCons (gName 0) (gCons (gName 1) gNil))) (tt := tYes) (te := tF2 (tVar 0) (tVar 1) comma) (Caps.none (by decide +kernel) rfl (by decide +kernel)) rfl
     (pi_list (pv 0))
     (fun C s₀ H₀ fp xe => pg_tup rfl (pgs_cons (pg_name (i := 0) nodupRU rfl (Or.inl rfl) (.inr rfl)) (pgs_cons (pg_name (i := 1) nodupRU rfl (Or.inl rfl) (.inr rfl)) pgs_nil)))
     (fun C s₀ H₀ fp xe => pts_nil)
     (fun C s₀ H₀ fp xe => pe_f2 (pv 0) (pv 1))) pa_nil)))), ?_⟩
  refine ⟨_, rfl, l, ps, rfl, hl, hn, hB, hs, fun H1 s1 => ?_⟩
  obtain ⟨as, h1, h2⟩ := id hl
  have hlen : as.length = ps.length := Paired.length h2
  refine ⟨rfl, _, rfl, l, rfl, ⟨_, SqL.of (s1 _ _ h1)⟩, fun D nD => ?_⟩
  refine lc_list (K := K) (a := l) (D := D) (xs := as.map V.ref) (fun i σ H' => (∃ u v, σ = [u, v]) /\ Same H1 H' /\ H' D = some (.lst (((ps.map wordM).take i).map V.str))) ⟨⟨none, none, rfl⟩, same_upd nD, upd_same⟩
   (fun i σ H' _ ⟨_, sm, _⟩ => SqL.of (sm _ _ (s1 _ _ h1))) ?_ ?_
  ·rintro i x σ H' ex ⟨⟨u, v, rfl⟩, sm, hD⟩
   obtain ⟨b, eb, rfl⟩ := map_ref ex
   obtain ⟨p, ep, tp⟩ := paired_get h2 i b eb
   have hi : i < ps.length := (List.getElem?_eq_some_iff.mp ep).1
   obtain ⟨z1, z2⟩ := hS p (List.mem_of_getElem? ep)
   have wl := word_len (hS p (List.mem_of_getElem? ep))
   have wl2 : (Str.empty ++ num p.1 ++ comma).length <= 17 := by
    have := strLen_append (Str.empty ++ num p.1 ++ comma) (num p.2)
    unfold wordM at wl
    omega
   refine ⟨b, _, rfl, SqT.of (sm _ _ (s1 _ _ tp)), rfl, _, _, rfl, _, _, rfl, rfl, ?_⟩
   refine yes_go ?_
   refine ⟨_, rfl, p.1, rfl, num_log z1, Nat.le_trans wl2 (by decide), _, rfl, p.2, rfl, num_log z2, Nat.le_trans wl (by decide), ?_⟩
   have er : (ps.map wordM)[i]? = some (wordM p) := by rw [List.getElem?_map, ep]; rfl
   refine ⟨_, hD, size100 (by rw [List.length_map, List.length_take, List.length_map]; omega), ⟨_, _, rfl⟩, same_set sm nD, ?_⟩
   rw [upd_same, take_next er, List.map_append]
   rfl
  ·rintro σ H' ⟨_, sm, hD⟩
   rw [List.length_map, hlen, List.take_of_length_le (by rw [List.length_map]; exact Nat.le_refl _)] at hD
   refine ⟨_, D, ps.map wordM, rfl, rfl, SqL.of hD, ?_, k H' (s1.trans sm)⟩
   have e : blank1.length = 1 := by rw [blank_is]; rfl
   have sl : ∀ l : List Pt, (∀ p ∈ l, Sm p) -> ((l.map wordM).map (·.length)).sum <= 17 * l.length := fun l => by
    induction l with
    | nil => simp
    | cons p l ih =>
     intro hl
     have a := word_len (hl p List.mem_cons_self)
     have b := ih fun x hx => hl x (List.mem_cons_of_mem _ hx)
     rw [List.map_cons, List.map_cons, List.sum_cons, List.length_cons]
     omega
   have := sl ps hS
   show _ + _ * blank1.length <= _
   rw [e, List.length_map]
   omega
end
end K1
namespace K1
open PySem L2
open RS (Pt arrow cross isShape lawSides dot)
inductive spBad1 (cS : Addr) (vs : List V) (H : Hp) (Q : VK) (E : XK) : Prop
 | mk (l : _) (ps : _) (c0 : vs = [.ref l]) (c1 : Pts H l ps) (c2 : ps.length <= 100) (c3 : (∀ p ∈ ps, Bd (2 ^ 60) p)) (c4 : isShape ps = false) (c5 : ∀ H', Same H H' -> E (.ref cS) none H') : spBad1 cS vs H Q E
inductive spBad2 (cS : Addr) (vs : List V) (H : Hp) (Q : VK) (E : XK) : Prop
 | mk (l : _) (v : _) (ps : _) (c0 : vs = [.ref l, v]) (c1 : Pts H l ps) (c2 : ps.length <= 100) (c3 : (∀ p ∈ ps, Bd (2 ^ 60) p)) (c4 : isShape ps = false) (c5 : ∀ H', Same H H' -> E (.ref cS) none H') : spBad2 cS vs H Q E
inductive spBadB (cS : Addr) (vs : List V) (H : Hp) (Q : VK) (E : XK) : Prop
 | mk (l : _) (b : _) (ps : _) (qs : _) (c0 : vs = [.ref l, .ref b]) (c1 : Pts H l ps) (c2 : ps.length <= 100) (c3 : (∀ p ∈ ps, Bd (2 ^ 60) p)) (c4 : isShape ps = true) (c5 : Pts H b qs) (c6 : qs.length <= 100) (c7 : (∀ p ∈ qs, Bd (2 ^ 60) p)) (c8 : isShape qs = false) (c9 : ∀ H', Same H H' -> E (.ref cS) none H') : spBadB cS vs H Q E
section
variable {P : Program} {w : World} {K : PySem.W.Frag} {mg : Str -> Option Value} {base : Heap}
theorem bad_refuse {cS f f1 : Addr} {fd fd1 : FuncData} (F : Fun K "refuse_no_shape" "refuse_no_shape" sRefuse f fd)
  (G1 : FnOk P w K mg base CX0 3 f1 fd1 ["corners"] (spPtsBl (2 ^ 60) isShape)) (k1 : PySem.W.keepIn K (.ref f1) = true) (b1 : Binds K fd1 ["corners"] []) (m1 : mg "is_shape" = some (.ref f1))
  (mS : mg "NoShape" = some (.ref cS)) (xS : PySem.W.excIn K cS vErr "ValueError.__new__" = true) : FnOk P w K mg base (CXR P w) 4 f fd ["corners"] (spBad1 cS) := by
 refine F.okR scRe (fun vs H Q E h => ?_) (fun cdv A outer s H vs Q E hr h => ?_)
 ·obtain ⟨l, ps, rfl, _⟩ := h
  rfl
 ·obtain ⟨l, ps, rfl, hl, hn, hB, hs, k⟩ := h
  refine ⟨_, pss_one (ps_if (pt_not (pt_val (pe_call G1 hr rfl m1 k1 b1 .nil pass0 (pa_cons (pv 0) pa_nil)))) (pss_one (ps_raise raiseR rfl rfl mS xS (pa_cons pe_str pa_nil))) pss_nil), ?_⟩
  refine ⟨_, rfl, l, ps, rfl, hl, hn, hB, fun H' s' => ⟨_, rfl, ?_⟩⟩
  rw [hs]
  exact iteT ⟨by show 1 <= sizeLine; decide, k H' s'⟩
theorem bad_sides {cS f f1 : Addr} {fd fd1 : FuncData} (F : Fun K "sides" "sides" sSidesP f fd)
  (G1 : FnOk P w K mg base (CXR P w) 4 f1 fd1 ["corners"] (spBad1 cS)) (k1 : PySem.W.keepIn K (.ref f1) = true) (b1 : Binds K fd1 ["corners"] []) (m1 : mg "refuse_no_shape" = some (.ref f1)) : FnOk P w K mg base (CXR P w) 5 f fd ["corners"] (spBad1 cS) := by
 refine F.okR scSP (fun vs H Q E h => ?_) (fun cdv A outer s H vs Q E hr h => ?_)
 ·obtain ⟨l, ps, rfl, _⟩ := h
  rfl
 ·obtain ⟨l, ps, rfl, hl, hn, hB, hs, k⟩ := h
  have hr := hr.mono (j := 4) (by decide)
  refine ⟨_, pss_cons (ps_expr (pe_call G1 hr rfl m1 k1 b1 .nil passR (pa_cons (pv 0) pa_nil))) pss_never, ?_⟩
  exact ⟨_, rfl, l, ps, rfl, hl, hn, hB, hs, k⟩
theorem bad_holds {cS f f1 : Addr} {fd fd1 : FuncData} (F : Fun K "holds" "holds" sHolds f fd)
  (G1 : FnOk P w K mg base (CXR P w) 5 f1 fd1 ["corners"] (spBad1 cS)) (k1 : PySem.W.keepIn K (.ref f1) = true) (b1 : Binds K fd1 ["corners"] []) (m1 : mg "sides" = some (.ref f1)) : FnOk P w K mg base (CXR P w) 6 f fd ["corners", "point"] (spBad2 cS) := by
 refine F.okR scHo (fun vs H Q E h => ?_) (fun cdv A outer s H vs Q E hr h => ?_)
 ·obtain ⟨l, v, ps, rfl, _⟩ := h
  rfl
 ·obtain ⟨l, v, ps, rfl, hl, hn, hB, hs, k⟩ := h
  have hr := hr.mono (j := 5) (by decide)
  refine ⟨_, pss_cons (ps_set (i := 2) scHo.nd rfl (Or.inl rfl) (pe_call G1 hr rfl m1 k1 b1 .nil passR (pa_cons (pv 0) pa_nil))) pss_never, ?_⟩
  exact ⟨_, rfl, l, ps, rfl, hl, hn, hB, hs, k⟩
theorem bad_reach {cS f f1 : Addr} {fd fd1 : FuncData} (F : Fun K "reach" "reach" sReach f fd)
  (G1 : FnOk P w K mg base (CXR P w) 4 f1 fd1 ["corners"] (spBad1 cS)) (k1 : PySem.W.keepIn K (.ref f1) = true) (b1 : Binds K fd1 ["corners"] []) (m1 : mg "refuse_no_shape" = some (.ref f1)) : FnOk P w K mg base (CXR P w) 5 f fd ["corners", "arrow"] (spBad2 cS) := by
 refine F.okR scRc (fun vs H Q E h => ?_) (fun cdv A outer s H vs Q E hr h => ?_)
 ·obtain ⟨l, v, ps, rfl, _⟩ := h
  rfl
 ·obtain ⟨l, v, ps, rfl, hl, hn, hB, hs, k⟩ := h
  have hr := hr.mono (j := 4) (by decide)
  refine ⟨_, pss_cons (ps_expr (pe_call G1 hr rfl m1 k1 b1 .nil passR (pa_cons (pv 0) pa_nil))) pss_never, ?_⟩
  exact ⟨_, rfl, l, ps, rfl, hl, hn, hB, hs, k⟩
theorem bad_greater {cS f f1 : Addr} {fd fd1 : FuncData} (F : Fun K "greater" "greater" sGreater f fd)
  (G1 : FnOk P w K mg base (CXR P w) 4 f1 fd1 ["corners"] (spBad1 cS)) (k1 : PySem.W.keepIn K (.ref f1) = true) (b1 : Binds K fd1 ["corners"] []) (m1 : mg "refuse_no_shape" = some (.ref f1)) : FnOk P w K mg base (CXR P w) 5 f fd ["corners", "times"] (spBad2 cS) := by
 refine F.okR scGr (fun vs H Q E h => ?_) (fun cdv A outer s H vs Q E hr h => ?_)
 ·obtain ⟨l, v, ps, rfl, _⟩ := h
  rfl
 ·obtain ⟨l, v, ps, rfl, hl, hn, hB, hs, k⟩ := h
  have hr := hr.mono (j := 4) (by decide)
  refine ⟨_, pss_cons (ps_expr (pe_call G1 hr rfl m1 k1 b1 .nil passR (pa_cons (pv 0) pa_nil))) pss_never, ?_⟩
  exact ⟨_, rfl, l, ps, rfl, hl, hn, hB, hs, k⟩
theorem bad_shown {cS f f1 : Addr} {fd fd1 : FuncData} (F : Fun K "shown" "shown" sShown f fd)
  (G1 : FnOk P w K mg base (CXR P w) 4 f1 fd1 ["corners"] (spBad1 cS)) (k1 : PySem.W.keepIn K (.ref f1) = true) (b1 : Binds K fd1 ["corners"] []) (m1 : mg "refuse_no_shape" = some (.ref f1)) : FnOk P w K mg base (CXR P w) 5 f fd ["corners"] (spBad1 cS) := by
 refine F.okR scSn (fun vs H Q E h => ?_) (fun cdv A outer s H vs Q E hr h => ?_)
 ·obtain ⟨l, ps, rfl, _⟩ := h
  rfl
 ·obtain ⟨l, ps, rfl, hl, hn, hB, hs, k⟩ := h
  have hr := hr.mono (j := 4) (by decide)
  refine ⟨_, pss_cons (ps_expr (pe_call G1 hr rfl m1 k1 b1 .nil passR (pa_cons (pv 0) pa_nil))) pss_never, ?_⟩
  exact ⟨_, rfl, l, ps, rfl, hl, hn, hB, hs, k⟩
theorem bad_parted {cS f f1 : Addr} {fd fd1 : FuncData} (F : Fun K "parted" "parted" sParted f fd)
  (G1 : FnOk P w K mg base (CXR P w) 6 f1 fd1 ["corners"] (spBad1 cS)) (k1 : PySem.W.keepIn K (.ref f1) = true) (b1 : Binds K fd1 ["corners"] []) (m1 : mg "refuse_too_long" = some (.ref f1)) : FnOk P w K mg base (CXR P w) 7 f fd ["corners"] (spBad1 cS) := by
 refine F.okR scPa (fun vs H Q E h => ?_) (fun cdv A outer s H vs Q E hr h => ?_)
 ·obtain ⟨l, ps, rfl, _⟩ := h
  rfl
 ·obtain ⟨l, ps, rfl, hl, hn, hB, hs, k⟩ := h
  have hr := hr.mono (j := 6) (by decide)
  refine ⟨_, pss_cons (ps_expr (pe_call G1 hr rfl m1 k1 b1 .nil passR (pa_cons (pv 0) pa_nil))) pss_never, ?_⟩
  exact ⟨_, rfl, l, ps, rfl, hl, hn, hB, hs, k⟩
theorem bad_together {cS f f1 : Addr} {fd fd1 : FuncData} (F : Fun K "together" "together" sTogether f fd)
  (G1 : FnOk P w K mg base (CXR P w) 5 f1 fd1 ["corners"] (spBad1 cS)) (k1 : PySem.W.keepIn K (.ref f1) = true) (b1 : Binds K fd1 ["corners"] []) (m1 : mg "sides" = some (.ref f1)) : FnOk P w K mg base (CXR P w) 6 f fd ["one", "other"] (spBad2 cS) := by
 refine F.okR scTo (fun vs H Q E h => ?_) (fun cdv A outer s H vs Q E hr h => ?_)
 ·obtain ⟨l, v, ps, rfl, _⟩ := h
  rfl
 ·obtain ⟨l, v, ps, rfl, hl, hn, hB, hs, k⟩ := h
  have hr := hr.mono (j := 5) (by decide)
  refine ⟨_, pss_cons (ps_set (i := 2) scTo.nd rfl (Or.inl rfl) (pe_call G1 hr rfl m1 k1 b1 .nil passR (pa_cons (pv 0) pa_nil))) pss_never, ?_⟩
  exact ⟨_, rfl, l, ps, rfl, hl, hn, hB, hs, k⟩
theorem bad_taken {cS f f1 : Addr} {fd fd1 : FuncData} (F : Fun K "taken_off" "taken_off" sTaken f fd)
  (G1 : FnOk P w K mg base (CXR P w) 5 f1 fd1 ["corners"] (spBad1 cS)) (k1 : PySem.W.keepIn K (.ref f1) = true) (b1 : Binds K fd1 ["corners"] []) (m1 : mg "sides" = some (.ref f1)) : FnOk P w K mg base (CXR P w) 6 f fd ["one", "other"] (spBad2 cS) := by
 refine F.okR scTO (fun vs H Q E h => ?_) (fun cdv A outer s H vs Q E hr h => ?_)
 ·obtain ⟨l, v, ps, rfl, _⟩ := h
  rfl
 ·obtain ⟨l, v, ps, rfl, hl, hn, hB, hs, k⟩ := h
  have hr := hr.mono (j := 5) (by decide)
  refine ⟨_, pss_cons (ps_set (i := 2) scTO.nd rfl (Or.inl rfl) (pe_call G1 hr rfl m1 k1 b1 .nil passR (pa_cons (pv 0) pa_nil))) pss_never, ?_⟩
  exact ⟨_, rfl, l, ps, rfl, hl, hn, hB, hs, k⟩
theorem badB_together {cS f f1 : Addr} {fd fd1 : FuncData} (F : Fun K "together" "together" sTogether f fd)
  (G0 : FnOk P w K mg base CX0 5 f1 fd1 ["corners"] spSidesP)
  (G1 : FnOk P w K mg base (CXR P w) 5 f1 fd1 ["corners"] (spBad1 cS)) (k1 : PySem.W.keepIn K (.ref f1) = true) (b1 : Binds K fd1 ["corners"] []) (m1 : mg "sides" = some (.ref f1)) : FnOk P w K mg base (CXR P w) 6 f fd ["one", "other"] (spBadB cS) := by
 refine F.okR scTo (fun vs H Q E h => ?_) (fun cdv A outer s H vs Q E hr h => ?_)
 ·obtain ⟨l, b, ps, qs, rfl, _⟩ := h
  rfl
 ·obtain ⟨l, b, ps, qs, rfl, hl, hn, hB, hs, gl, gn, gB, gs, k⟩ := h
  have hr := hr.mono (j := 5) (by decide)
  refine ⟨_, pss_cons (ps_set (i := 2) scTo.nd rfl (Or.inl rfl) (pe_call G0 hr rfl m1 k1 b1 .nil pass0 (pa_cons (pv 0) pa_nil)))
   (pss_cons (ps_set (i := 3) scTo.nd rfl (Or.inl rfl) (pe_call G1 hr rfl m1 k1 b1 .nil passR (pa_cons (pv 1) pa_nil))) pss_never), ?_⟩
  refine ⟨_, rfl, l, ps, rfl, hl, hn, hB, hs, fun r H1 s1 nr pr => ?_⟩
  exact ⟨_, rfl, b, qs, rfl, Pts.same s1 gl, gn, gB, gs, fun H2 s2 => k H2 (s1.trans s2)⟩
theorem badB_taken {cS f f1 : Addr} {fd fd1 : FuncData} (F : Fun K "taken_off" "taken_off" sTaken f fd)
  (G0 : FnOk P w K mg base CX0 5 f1 fd1 ["corners"] spSidesP)
  (G1 : FnOk P w K mg base (CXR P w) 5 f1 fd1 ["corners"] (spBad1 cS)) (k1 : PySem.W.keepIn K (.ref f1) = true) (b1 : Binds K fd1 ["corners"] []) (m1 : mg "sides" = some (.ref f1)) : FnOk P w K mg base (CXR P w) 6 f fd ["one", "other"] (spBadB cS) := by
 refine F.okR scTO (fun vs H Q E h => ?_) (fun cdv A outer s H vs Q E hr h => ?_)
 ·obtain ⟨l, b, ps, qs, rfl, _⟩ := h
  rfl
 ·obtain ⟨l, b, ps, qs, rfl, hl, hn, hB, hs, gl, gn, gB, gs, k⟩ := h
  have hr := hr.mono (j := 5) (by decide)
  refine ⟨_, pss_cons (ps_set (i := 2) scTO.nd rfl (Or.inl rfl) (pe_call G0 hr rfl m1 k1 b1 .nil pass0 (pa_cons (pv 0) pa_nil)))
   (pss_cons (ps_set (i := 3) scTO.nd rfl (Or.inr rfl) (pe_call G1 hr rfl m1 k1 b1 .nil passR (pa_cons (pv 1) pa_nil))) pss_never), ?_⟩
  refine ⟨_, rfl, l, ps, rfl, hl, hn, hB, hs, fun r H1 s1 nr pr => ?_⟩
  exact ⟨_, rfl, b, qs, rfl, Pts.same s1 gl, gn, gB, gs, fun H2 s2 => k H2 (s1.trans s2)⟩
theorem bad_mixed {cS f f1 : Addr} {fd fd1 : FuncData} (F : Fun K "mixed" "mixed" sMixed f fd)
  (G1 : FnOk P w K mg base (CXR P w) 6 f1 fd1 ["one", "other"] (spBad2 cS)) (k1 : PySem.W.keepIn K (.ref f1) = true) (b1 : Binds K fd1 ["one", "other"] []) (m1 : mg "together" = some (.ref f1)) : FnOk P w K mg base (CXR P w) 7 f fd ["one", "other"] (spBad2 cS) := by
 refine F.okR scMx (fun vs H Q E h => ?_) (fun cdv A outer s H vs Q E hr h => ?_)
 ·obtain ⟨l, v, ps, rfl, _⟩ := h
  rfl
 ·obtain ⟨l, v, ps, rfl, hl, hn, hB, hs, k⟩ := h
  refine ⟨_, pss_cons (ps_set (i := 2) scMx.nd rfl (Or.inl rfl) (pe_call G1 hr rfl m1 k1 b1 .nil passR (pa_cons (pv 0) (pa_cons (pv 1) pa_nil)))) pss_never, ?_⟩
  exact ⟨_, rfl, _, rfl, l, v, ps, rfl, hl, hn, hB, hs, k⟩
theorem badB_mixed {cS f f1 : Addr} {fd fd1 : FuncData} (F : Fun K "mixed" "mixed" sMixed f fd)
  (G1 : FnOk P w K mg base (CXR P w) 6 f1 fd1 ["one", "other"] (spBadB cS)) (k1 : PySem.W.keepIn K (.ref f1) = true) (b1 : Binds K fd1 ["one", "other"] []) (m1 : mg "together" = some (.ref f1)) : FnOk P w K mg base (CXR P w) 7 f fd ["one", "other"] (spBadB cS) := by
 refine F.okR scMx (fun vs H Q E h => ?_) (fun cdv A outer s H vs Q E hr h => ?_)
 ·obtain ⟨l, b, ps, qs, rfl, _⟩ := h
  rfl
 ·obtain ⟨l, b, ps, qs, rfl, hl, hn, hB, hs, gl, gn, gB, gs, k⟩ := h
  refine ⟨_, pss_cons (ps_set (i := 2) scMx.nd rfl (Or.inl rfl) (pe_call G1 hr rfl m1 k1 b1 .nil passR (pa_cons (pv 0) (pa_cons (pv 1) pa_nil)))) pss_never, ?_⟩
  exact ⟨_, rfl, _, rfl, l, b, ps, qs, rfl, hl, hn, hB, hs, gl, gn, gB, gs, k⟩
theorem bad_double {cS f f1 f2 : Addr} {fd fd1 fd2 : FuncData} (F : Fun K "double_area" "double_area" sDouble f fd)
  (G1 : FnOk P w K mg base (CXR P w) 5 f1 fd1 ["corners"] (spBad1 cS)) (k1 : PySem.W.keepIn K (.ref f1) = true) (b1 : Binds K fd1 ["corners"] []) (m1 : mg "sides" = some (.ref f1))
  (G2 : FnOk P w K mg base CX0 1 f2 fd2 ["one", "other"] (spInt2 (2 ^ 62) cross)) (k2 : PySem.W.keepIn K (.ref f2) = true) (b2 : Binds K fd2 ["one", "other"] []) (m2 : mg "turn" = some (.ref f2))
  (mz : mg "zip" = none) (ms : mg "sum" = none) : FnOk P w K mg base (CXR P w) 6 f fd ["corners"] (spBad1 cS) := by
 refine F.okR scDA (fun vs H Q E h => ?_) (fun cdv A outer s H vs Q E hr h => ?_)
 ·obtain ⟨l, ps, rfl, _⟩ := h
  rfl
 ·obtain ⟨l, ps, rfl, hl, hn, hB, hs, k⟩ := h
  have hr1 := hr.mono (j := 1) (by decide)
  refine ⟨_, pss_one (ps_ret (pe_callB (call_sum_ints rfl) rfl ms bootSum (pa_cons
   (pe_lc (tn := ["corner", "side"]) (cs := []) (g := gTup K 2 (gCons (gName 0) (gCons (gName 1) gNil))) (tt := tYes) (te := tCall (spInt2 (2 ^ 62) cross) [] E0 (tCons (tVar 0) (tCons (tVar 1) tNil))) (Caps.none (by decide +kernel) rfl (by decide +kernel)) rfl
    (pi_zip rfl mz (pa_cons (pv 0) (pa_cons (pe_call G1 hr rfl m1 k1 b1 .nil passR (pa_cons (pv 0) pa_nil)) pa_nil)))
    (fun C s₀ H₀ fp xe => pg_tup rfl (pgs_cons (pg_name (i := 0) nodupCS rfl (Or.inl rfl) (.inr rfl)) (pgs_cons (pg_name (i := 1) nodupCS rfl (Or.inl rfl) (.inr rfl)) pgs_nil)))
    (fun C s₀ H₀ fp xe => pts_nil)
    (fun C s₀ H₀ fp xe => pe_call G2 hr1 rfl m2 k2 b2 .nil pass0 (pa_cons (pv 0) (pa_cons (pv 1) pa_nil)))) pa_nil))), ?_⟩
  exact ⟨_, rfl, _, rfl, l, ps, rfl, hl, hn, hB, hs, k⟩
theorem bad_steps {cS f f1 : Addr} {fd fd1 : FuncData} (F : Fun K "steps_of" "steps_of" sStepsOf f fd)
  (G1 : FnOk P w K mg base (CXR P w) 5 f1 fd1 ["corners"] (spBad1 cS)) (k1 : PySem.W.keepIn K (.ref f1) = true) (b1 : Binds K fd1 ["corners"] []) (m1 : mg "sides" = some (.ref f1)) : FnOk P w K mg base (CXR P w) 6 f fd ["corners"] (spBad1 cS) := by
 refine F.okR scSO (fun vs H Q E h => ?_) (fun cdv A outer s H vs Q E hr h => ?_)
 ·obtain ⟨l, ps, rfl, _⟩ := h
  rfl
 ·obtain ⟨l, ps, rfl, hl, hn, hB, hs, k⟩ := h
  refine ⟨_, pss_cons (ps_set (i := 1) scSO.nd rfl (Or.inl rfl) (pe_lst pa_nil))
   (pss_cons (ps_for PassesOwn.leaving rfl (pi_list (pe_call G1 hr rfl m1 k1 b1 .nil passR (pa_cons (pv 0) pa_nil))) (pg_name (i := 2) scSO.nd rfl (Or.inl rfl)) pss_never) pss_never), ?_⟩
  refine ⟨Nat.zero_le _, fun D nD => ?_⟩
  have s0 : Same H (upd H D (.lst [])) := same_upd nD
  exact ⟨_, rfl, l, ps, rfl, Pts.same s0 hl, hn, hB, hs, fun H1 s1 => k H1 (s0.trans s1)⟩
theorem bad_too_long {cS f f1 f2 : Addr} {fd fd1 fd2 : FuncData} {tk : Tok} (F : Fun K "refuse_too_long" "refuse_too_long" sTooLong f fd)
  (G1 : FnOk P w K mg base (CXR P w) 5 f1 fd1 ["corners"] (spBad1 cS)) (k1 : PySem.W.keepIn K (.ref f1) = true) (b1 : Binds K fd1 ["corners"] []) (m1 : mg "sides" = some (.ref f1))
  (G2 : FnOk P w K mg base CX0 1 f2 fd2 ["arrow"] spGone) (k2 : PySem.W.keepIn K (.ref f2) = true) (b2 : Binds K fd2 ["arrow"] []) (m2 : mg "times_gone" = some (.ref f2))
  (ms : mg "sum" = none) (mt : mg "MOST_STEPS" = some (.int 10 tk)) : FnOk P w K mg base (CXR P w) 6 f fd ["corners"] (spBad1 cS) := by
 refine F.okR scTL (fun vs H Q E h => ?_) (fun cdv A outer s H vs Q E hr h => ?_)
 ·obtain ⟨l, ps, rfl, _⟩ := h
  rfl
 ·obtain ⟨l, ps, rfl, hl, hn, hB, hs, k⟩ := h
  have hr1 := hr.mono (j := 1) (by decide)
  refine ⟨_, pss_one (ps_if (pt_cmpR op_gt (pe_callB (call_sum_ints rfl) rfl ms bootSum (pa_cons
   (pe_lc (tn := ["side"]) (cs := []) (g := gName 0) (tt := tYes) (te := tCall spGone [] E0 (tCons (tVar 0) tNil)) (Caps.none (by decide +kernel) rfl (by decide +kernel)) rfl
    (pi_list (pe_call G1 hr rfl m1 k1 b1 .nil passR (pa_cons (pv 0) pa_nil)))
    (fun C s₀ H₀ fp xe => pg_name (i := 0) nodupS rfl (Or.inl rfl) (.inr rfl))
    (fun C s₀ H₀ fp xe => pts_nil)
    (fun C s₀ H₀ fp xe => pe_call G2 hr1 rfl m2 k2 b2 .nil pass0 (pa_cons (pv 0) pa_nil))) pa_nil)) (pe_glob (v := .int 10) rfl mt ⟨tk, rfl⟩) (nomark _)) pss_never pss_nil), ?_⟩
  exact ⟨_, rfl, l, ps, rfl, hl, hn, hB, hs, k⟩
inductive spNum (cM : Addr) (vs : List V) (H : Hp) (Q : VK) (E : XK) : Prop
 | mk (l : _) (t : _) (ps : _) (c0 : vs = [.ref l, .int t]) (c1 : Pts H l ps) (c2 : ps.length <= 100) (c3 : (∀ p ∈ ps, Bd (2 ^ 60) p)) (c4 : isShape ps = true) (c5 : (t < 0 \/ 1000000 < t)) (c6 : ∀ H', Same H H' -> E (.ref cM) none H') : spNum cM vs H Q E
theorem bad_times {cM f f1 : Addr} {fd fd1 : FuncData} {tk : Tok} (F : Fun K "greater" "greater" sGreater f fd)
  (G1 : FnOk P w K mg base CX0 4 f1 fd1 ["corners"] spRef) (k1 : PySem.W.keepIn K (.ref f1) = true) (b1 : Binds K fd1 ["corners"] []) (m1 : mg "refuse_no_shape" = some (.ref f1))
  (mt : mg "MOST_TIMES" = some (.int 1000000 tk)) (mM : mg "NoNumber" = some (.ref cM)) (xM : PySem.W.excIn K cM vErr "ValueError.__new__" = true) : FnOk P w K mg base (CXR P w) 5 f fd ["corners", "times"] (spNum cM) := by
 refine F.okR scGr (fun vs H Q E h => ?_) (fun cdv A outer s H vs Q E hr h => ?_)
 ·obtain ⟨l, t, ps, rfl, _⟩ := h
  rfl
 ·obtain ⟨l, t, ps, rfl, hl, hn, hB, hs, ht, k⟩ := h
  refine ⟨_, pss_cons (ps_expr (pe_call G1 hr rfl m1 k1 b1 .nil pass0 (pa_cons (pv 0) pa_nil)))
   (pss_cons (ps_if (pt_not (pt_chain op_le op_le pe_int (pv 1) (pe_glob (v := .int 1000000) rfl mt ⟨tk, rfl⟩))) (pss_one (ps_raise raiseR rfl rfl mM xM (pa_cons pe_str pa_nil))) pss_nil) pss_never), ?_⟩
  refine ⟨_, rfl, l, ps, rfl, hl, hn, hB, hs, fun H1 s1 => ?_⟩
  refine ⟨_, rfl, _, _, rfl, rfl, _, rfl, ?_⟩
  refine ite2 (fun c => ?_) (fun c => ?_)
  ·have c := of_decide_eq_true c
   refine ⟨_, _, rfl, rfl, _, rfl, ?_⟩
   rw [decide_eq_false (by omega)]
   exact iteT ⟨by show 1 <= sizeLine; decide, k H1 s1⟩
  ·exact ⟨_, rfl, iteT ⟨by show 1 <= sizeLine; decide, k H1 s1⟩⟩
inductive spNoPts (cP : Addr) (vs : List V) (H : Hp) (Q : VK) (E : XK) : Prop
 | mk (l : _) (ps : _) (c0 : vs = [.ref l]) (c1 : Pts H l ps) (c2 : (ps.length = 0 \/ 40 < ps.length)) (c3 : ps.length <= 1000) (c4 : ∀ H', Same H H' -> E (.ref cP) none H') : spNoPts cP vs H Q E
theorem bad_hull {cP f : Addr} {fd : FuncData} {tk : Tok} (F : Fun K "hull" "hull" sHullP f fd) (ml : mg "len" = none)
  (mt : mg "MOST_POINTS" = some (.int 40 tk)) (mP : mg "NoPoints" = some (.ref cP)) (xP : PySem.W.excIn K cP vErr "ValueError.__new__" = true) : FnOk P w K mg base (CXR P w) 1 f fd ["points"] (spNoPts cP) := by
 refine F.okR scHP (fun vs H Q E h => ?_) (fun cdv A outer s H vs Q E hr h => ?_)
 ·obtain ⟨l, ps, rfl, _⟩ := h
  rfl
 ·obtain ⟨l, ps, rfl, hl, hn, hm, k⟩ := h
  obtain ⟨as, h1, h2⟩ := id hl
  have hlen : as.length = ps.length := Paired.length h2
  refine ⟨_, pss_cons (ps_if (pt_not (pt_chain op_le op_le pe_int (pe_callB call_len_seq rfl ml PySem.boot_len (pa_cons (pv 0) pa_nil)) (pe_glob (v := .int 40) rfl mt ⟨tk, rfl⟩))) (pss_one (ps_raise raiseR rfl rfl mP xP (pa_cons pe_str pa_nil))) pss_nil) pss_never, ?_⟩
  refine ⟨_, rfl, l, _, rfl, .inl (SqL.of h1), _, _, rfl, rfl, _, rfl, ?_⟩
  rw [List.length_map, hlen]
  refine ite2 (fun c => ?_) (fun c => ?_)
  ·have c := of_decide_eq_true c
   refine ⟨_, _, rfl, rfl, _, rfl, ?_⟩
   rw [decide_eq_false (by omega)]
   exact iteT ⟨by show 1 <= sizeLine; decide, k H (Same.refl _)⟩
  ·exact ⟨_, rfl, iteT ⟨by show 1 <= sizeLine; decide, k H (Same.refl _)⟩⟩
end
end K1
namespace L2
open PySem PySem.Spec PyProof.Rows
section
variable {P : Program} {w : World} {K : PySem.W.Frag} {mg : Str -> Option Value} {base : Heap} {CX : CXT} {k : Nat} {f : Addr} {fd : FuncData} {ps : List Str} {sp sp' : Sp}
theorem FnOk.up (F : FnOk P w K mg base CX0 k f fd ps sp) : FnOk P w K mg base (CXR P w) k f fd ps sp :=
 ⟨F.len, fun A outer s H args us vs Q E hr he hb hv hs => codeAny_mono (F.run A outer s H args us vs Q E hr he hb hv hs) fun r s' q => by
  cases r with
  | ok v =>
   cases v with
   | ret u => exact q
   | _ => exact False.elim q
  | error e => exact False.elim q⟩
noncomputable def orS (sp sp' : Sp) : Sp := fun vs H Q E => sp vs H Q E \/ sp' vs H Q E
theorem FnOk.or (F : FnOk P w K mg base CX k f fd ps sp) (G : FnOk P w K mg base CX k f fd ps sp') : FnOk P w K mg base CX k f fd ps (orS sp sp') :=
 ⟨fun vs H Q E q => q.elim (F.len vs H Q E) (G.len vs H Q E), fun A outer s H args us vs Q E hr he hb hv hs => hs.elim (F.run A outer s H args us vs Q E hr he hb hv) (G.run A outer s H args us vs Q E hr he hb hv)⟩
end
end L2
namespace K1
open PySem L2
open RS (Pt isShape lawSides)
noncomputable abbrev sOne : Stmt := top 60
noncomputable abbrev sTwo : Stmt := top 61
noncomputable abbrev sMet : Stmt := top 62
inductive spOne (s0 s1 s2 s3 s4 s5 s6 s7 : Sp) (vs : List V) (H : Hp) (Q : VK) (E : XK) : Prop
 | mk (way : Int) (l : Addr) (t : Int) (c0 : vs = [.int way, .ref l, .int t]) (c1 : 0 <= way) (c2 : way < 8) (c3 : (way = 0 -> s0 [.ref l] H Q E)) (c4 : (way = 1 -> ∀ d, H d = none -> s1 [.ref l, .ref d] (upd H d (.tup [.int 0, .int 0])) Q E)) (c5 : (way = 2 -> ∀ d, H d = none -> s2 [.ref l, .ref d] (upd H d (.tup [.int 1, .int 2])) Q E)) (c6 : (way = 3 -> s3 [.ref l, .int t] H Q E)) (c7 : (way = 4 -> s4 [.ref l] H Q E)) (c8 : (way = 5 -> s5 [.ref l] H Q E)) (c9 : (way = 6 -> s6 [.ref l] H Q E)) (c10 : (way = 7 -> s7 [.ref l] H Q E)) : spOne s0 s1 s2 s3 s4 s5 s6 s7 vs H Q E
inductive spTwo (s0 s1 s2 : Sp) (vs : List V) (H : Hp) (Q : VK) (E : XK) : Prop
 | mk (way : Int) (l : Addr) (b : Addr) (c0 : vs = [.int way, .ref l, .ref b]) (c1 : 8 <= way) (c2 : way < 14) (c3 : (way = 8 -> s0 [.ref l, .ref b] H Q E)) (c4 : (way = 9 -> s0 [.ref b, .ref l] H Q E)) (c5 : (way = 10 -> s1 [.ref l, .ref b] H Q E)) (c6 : (way = 11 -> s1 [.ref b, .ref l] H Q E)) (c7 : (way = 12 -> s2 [.ref l, .ref b] H Q E)) (c8 : (way = 13 -> s2 [.ref b, .ref l] H Q E)) : spTwo s0 s1 s2 vs H Q E
noncomputable def EM (D : Addr) (out : Str) (Q : VK) : XK := fun cls _ H1 => cls = .ref D /\ ∀ H2, Same H1 H2 -> Q (.str out) H2
inductive spMet (s0 s1 s2 : Sp) (D : Addr) (out : Str) (vs : List V) (H : Hp) (Q : VK) (u3 : XK) : Prop
 | mk (way : Int) (l : Addr) (b : Addr) (t : Int) (c0 : vs = [.int way, .ref l, .ref b, .int t]) (c1 : ∀ Q' : VK, (∀ v H1, Q (.str "told") H1 -> Q' v H1) -> (way < 8 -> s0 [.int way, .ref l, .int t] H Q' (EM D out Q)) /\ (8 <= way -> way < 14 -> s1 [.int way, .ref l, .ref b] H Q' (EM D out Q)) /\ (14 <= way -> s2 [.ref l] H Q' (EM D out Q))) : spMet s0 s1 s2 D out vs H Q u3
theorem w_is {a b : Int} (h : decide (V.int a = V.int b) = true) : a = b := by
 have := of_decide_eq_true h
 injection this
theorem w_not {a b : Int} (h : ¬ decide (V.int a = V.int b) = true) : a ≠ b := fun e => h (decide_eq_true (by rw [e]))
section
variable {P : Program} {w : World} {K : PySem.W.Frag} {mg : Str -> Option Value} {base : Heap}
theorem scOn : FnScope ["way", "corners", "times"] ["way", "corners", "times"] (defScope sOne) := ⟨rfl, rfl, rfl, by decide +kernel, rfl, by decide +kernel, by decide +kernel⟩
theorem ok_one {f f0 f1 f2 f3 f4 f5 f6 f7 : Addr} {fd fd0 fd1 fd2 fd3 fd4 fd5 fd6 fd7 : FuncData} {s0 s1 s2 s3 s4 s5 s6 s7 : Sp} (F : Fun K "_law_one" "_law_one" sOne f fd)
  (G0 : FnOk P w K mg base (CXR P w) 8 f0 fd0 ["corners"] s0) (k0 : PySem.W.keepIn K (.ref f0) = true) (b0 : Binds K fd0 ["corners"] []) (m0 : mg "sides" = some (.ref f0))
  (G1 : FnOk P w K mg base (CXR P w) 8 f1 fd1 ["corners", "point"] s1) (k1 : PySem.W.keepIn K (.ref f1) = true) (b1 : Binds K fd1 ["corners", "point"] []) (m1 : mg "holds" = some (.ref f1))
  (G2 : FnOk P w K mg base (CXR P w) 8 f2 fd2 ["corners", "arrow"] s2) (k2 : PySem.W.keepIn K (.ref f2) = true) (b2 : Binds K fd2 ["corners", "arrow"] []) (m2 : mg "reach" = some (.ref f2))
  (G3 : FnOk P w K mg base (CXR P w) 8 f3 fd3 ["corners", "times"] s3) (k3 : PySem.W.keepIn K (.ref f3) = true) (b3 : Binds K fd3 ["corners", "times"] []) (m3 : mg "greater" = some (.ref f3))
  (G4 : FnOk P w K mg base (CXR P w) 8 f4 fd4 ["corners"] s4) (k4 : PySem.W.keepIn K (.ref f4) = true) (b4 : Binds K fd4 ["corners"] []) (m4 : mg "double_area" = some (.ref f4))
  (G5 : FnOk P w K mg base (CXR P w) 8 f5 fd5 ["corners"] s5) (k5 : PySem.W.keepIn K (.ref f5) = true) (b5 : Binds K fd5 ["corners"] []) (m5 : mg "steps_of" = some (.ref f5))
  (G6 : FnOk P w K mg base (CXR P w) 8 f6 fd6 ["corners"] s6) (k6 : PySem.W.keepIn K (.ref f6) = true) (b6 : Binds K fd6 ["corners"] []) (m6 : mg "parted" = some (.ref f6))
  (G7 : FnOk P w K mg base (CXR P w) 8 f7 fd7 ["corners"] s7) (k7 : PySem.W.keepIn K (.ref f7) = true) (b7 : Binds K fd7 ["corners"] []) (m7 : mg "shown" = some (.ref f7)) :
  FnOk P w K mg base (CXR P w) 9 f fd ["way", "corners", "times"] (spOne s0 s1 s2 s3 s4 s5 s6 s7) := by
 refine F.okR scOn (fun vs H Q E h => ?_) (fun cdv A outer s H vs Q E hr h => ?_)
 ·obtain ⟨way, l, t, rfl, _⟩ := h
  rfl
 ·obtain ⟨way, l, t, rfl, w0, w8, q0, q1, q2, q3, q4, q5, q6, q7⟩ := h
  refine ⟨_, pss_cons (ps_if (pt_cmpR op_eq (pv 0) pe_int (nomark _)) (pss_one (ps_ret (pe_call G0 hr rfl m0 k0 b0 .nil passR (pa_cons (pv 1) pa_nil)))) pss_nil)
   (pss_cons (ps_if (pt_cmpR op_eq (pv 0) pe_int (nomark _)) (pss_one (ps_ret (pe_call G1 hr rfl m1 k1 b1 .nil passR (pa_cons (pv 1) (pa_cons (pe_tup (pa_cons pe_int (pa_cons pe_int pa_nil))) pa_nil))))) pss_nil)
   (pss_cons (ps_if (pt_cmpR op_eq (pv 0) pe_int (nomark _)) (pss_one (ps_ret (pe_call G2 hr rfl m2 k2 b2 .nil passR (pa_cons (pv 1) (pa_cons (pe_tup (pa_cons pe_int (pa_cons pe_int pa_nil))) pa_nil))))) pss_nil)
   (pss_cons (ps_if (pt_cmpR op_eq (pv 0) pe_int (nomark _)) (pss_one (ps_ret (pe_call G3 hr rfl m3 k3 b3 .nil passR (pa_cons (pv 1) (pa_cons (pv 2) pa_nil))))) pss_nil)
   (pss_cons (ps_if (pt_cmpR op_eq (pv 0) pe_int (nomark _)) (pss_one (ps_ret (pe_call G4 hr rfl m4 k4 b4 .nil passR (pa_cons (pv 1) pa_nil)))) pss_nil)
   (pss_cons (ps_if (pt_cmpR op_eq (pv 0) pe_int (nomark _)) (pss_one (ps_ret (pe_call G5 hr rfl m5 k5 b5 .nil passR (pa_cons (pv 1) pa_nil)))) pss_nil)
   (pss_cons (ps_if (pt_cmpR op_eq (pv 0) pe_int (nomark _)) (pss_one (ps_ret (pe_call G6 hr rfl m6 k6 b6 .nil passR (pa_cons (pv 1) pa_nil)))) pss_nil)
   (pss_one (ps_ret (pe_call G7 hr rfl m7 k7 b7 .nil passR (pa_cons (pv 1) pa_nil)))))))))), ?_⟩
  refine ⟨_, rfl, rfl, _, rfl, ite2 (fun c => ⟨_, rfl, q0 (w_is c)⟩) (fun c0 => ?_)⟩
  refine ⟨_, rfl, rfl, _, rfl, ite2 (fun c => ⟨_, rfl, by show 2 <= sizeLine; decide, q1 (w_is c)⟩) (fun c1 => ?_)⟩
  refine ⟨_, rfl, rfl, _, rfl, ite2 (fun c => ⟨_, rfl, by show 2 <= sizeLine; decide, q2 (w_is c)⟩) (fun c2 => ?_)⟩
  refine ⟨_, rfl, rfl, _, rfl, ite2 (fun c => ⟨_, rfl, _, rfl, q3 (w_is c)⟩) (fun c3 => ?_)⟩
  refine ⟨_, rfl, rfl, _, rfl, ite2 (fun c => ⟨_, rfl, q4 (w_is c)⟩) (fun c4 => ?_)⟩
  refine ⟨_, rfl, rfl, _, rfl, ite2 (fun c => ⟨_, rfl, q5 (w_is c)⟩) (fun c5 => ?_)⟩
  refine ⟨_, rfl, rfl, _, rfl, ite2 (fun c => ⟨_, rfl, q6 (w_is c)⟩) (fun c6 => ?_)⟩
  have n0 := w_not c0
  have n1 := w_not c1
  have n2 := w_not c2
  have n3 := w_not c3
  have n4 := w_not c4
  have n5 := w_not c5
  have n6 := w_not c6
  exact ⟨_, rfl, q7 (by omega)⟩
theorem scTw : FnScope ["way", "corners", "other"] ["way", "corners", "other"] (defScope sTwo) := ⟨rfl, rfl, rfl, by decide +kernel, rfl, by decide +kernel, by decide +kernel⟩
theorem ok_two {f f0 f1 f2 : Addr} {fd fd0 fd1 fd2 : FuncData} {s0 s1 s2 : Sp} (F : Fun K "_law_two" "_law_two" sTwo f fd)
  (G0 : FnOk P w K mg base (CXR P w) 8 f0 fd0 ["one", "other"] s0) (k0 : PySem.W.keepIn K (.ref f0) = true) (b0 : Binds K fd0 ["one", "other"] []) (m0 : mg "together" = some (.ref f0))
  (G1 : FnOk P w K mg base (CXR P w) 8 f1 fd1 ["one", "other"] s1) (k1 : PySem.W.keepIn K (.ref f1) = true) (b1 : Binds K fd1 ["one", "other"] []) (m1 : mg "taken_off" = some (.ref f1))
  (G2 : FnOk P w K mg base (CXR P w) 8 f2 fd2 ["one", "other"] s2) (k2 : PySem.W.keepIn K (.ref f2) = true) (b2 : Binds K fd2 ["one", "other"] []) (m2 : mg "mixed" = some (.ref f2)) :
  FnOk P w K mg base (CXR P w) 9 f fd ["way", "corners", "other"] (spTwo s0 s1 s2) := by
 refine F.okR scTw (fun vs H Q E h => ?_) (fun cdv A outer s H vs Q E hr h => ?_)
 ·obtain ⟨way, l, b, rfl, _⟩ := h
  rfl
 ·obtain ⟨way, l, b, rfl, w0, w8, q0, q1, q2, q3, q4, q5⟩ := h
  refine ⟨_, pss_cons (ps_if (pt_cmpR op_eq (pv 0) pe_int (nomark _)) (pss_one (ps_ret (pe_call G0 hr rfl m0 k0 b0 .nil passR (pa_cons (pv 1) (pa_cons (pv 2) pa_nil))))) pss_nil)
   (pss_cons (ps_if (pt_cmpR op_eq (pv 0) pe_int (nomark _)) (pss_one (ps_ret (pe_call G0 hr rfl m0 k0 b0 .nil passR (pa_cons (pv 2) (pa_cons (pv 1) pa_nil))))) pss_nil)
   (pss_cons (ps_if (pt_cmpR op_eq (pv 0) pe_int (nomark _)) (pss_one (ps_ret (pe_call G1 hr rfl m1 k1 b1 .nil passR (pa_cons (pv 1) (pa_cons (pv 2) pa_nil))))) pss_nil)
   (pss_cons (ps_if (pt_cmpR op_eq (pv 0) pe_int (nomark _)) (pss_one (ps_ret (pe_call G1 hr rfl m1 k1 b1 .nil passR (pa_cons (pv 2) (pa_cons (pv 1) pa_nil))))) pss_nil)
   (pss_cons (ps_if (pt_cmpR op_eq (pv 0) pe_int (nomark _)) (pss_one (ps_ret (pe_call G2 hr rfl m2 k2 b2 .nil passR (pa_cons (pv 1) (pa_cons (pv 2) pa_nil))))) pss_nil)
   (pss_one (ps_ret (pe_call G2 hr rfl m2 k2 b2 .nil passR (pa_cons (pv 2) (pa_cons (pv 1) pa_nil))))))))), ?_⟩
  refine ⟨_, rfl, rfl, _, rfl, ite2 (fun c => ⟨_, rfl, _, rfl, q0 (w_is c)⟩) (fun c0 => ?_)⟩
  refine ⟨_, rfl, rfl, _, rfl, ite2 (fun c => ⟨_, rfl, _, rfl, q1 (w_is c)⟩) (fun c1 => ?_)⟩
  refine ⟨_, rfl, rfl, _, rfl, ite2 (fun c => ⟨_, rfl, _, rfl, q2 (w_is c)⟩) (fun c2 => ?_)⟩
  refine ⟨_, rfl, rfl, _, rfl, ite2 (fun c => ⟨_, rfl, _, rfl, q3 (w_is c)⟩) (fun c3 => ?_)⟩
  refine ⟨_, rfl, rfl, _, rfl, ite2 (fun c => ⟨_, rfl, _, rfl, q4 (w_is c)⟩) (fun c4 => ?_)⟩
  have n0 := w_not c0
  have n1 := w_not c1
  have n2 := w_not c2
  have n3 := w_not c3
  have n4 := w_not c4
  exact ⟨_, rfl, _, rfl, q5 (by omega)⟩
theorem scMe : FnScope ["way", "corners", "other", "times", "which", "e"] ["way", "corners", "other", "times"] (defScope sMet) := ⟨rfl, rfl, rfl, by decide +kernel, rfl, by decide +kernel, by decide +kernel⟩
theorem ok_met {D cR f f0 f1 f2 fw : Addr} {fd fd0 fd1 fd2 fdw : FuncData} {s0 s1 s2 : Sp} {out : Str} (F : Fun K "_law_met" "_law_met" sMet f fd)
  (G0 : FnOk P w K mg base (CXR P w) 9 f0 fd0 ["way", "corners", "times"] s0) (k0 : PySem.W.keepIn K (.ref f0) = true) (b0 : Binds K fd0 ["way", "corners", "times"] []) (m0 : mg "_law_one" = some (.ref f0))
  (G1 : FnOk P w K mg base (CXR P w) 9 f1 fd1 ["way", "corners", "other"] s1) (k1 : PySem.W.keepIn K (.ref f1) = true) (b1 : Binds K fd1 ["way", "corners", "other"] []) (m1 : mg "_law_two" = some (.ref f1))
  (G2 : FnOk P w K mg base (CXR P w) 9 f2 fd2 ["points"] s2) (k2 : PySem.W.keepIn K (.ref f2) = true) (b2 : Binds K fd2 ["points"] []) (m2 : mg "hull" = some (.ref f2))
  (Gw : FnOkM P w K mg base 1 fw fdw ["e"] (spWhich D out)) (kw : PySem.W.keepIn K (.ref fw) = true) (bw : Binds K fdw ["e"] []) (mw : mg "_law_which" = some (.ref fw))
  (mR : mg "RoundError" = some (.ref cR)) (xR : PySem.W.exmOne K (.ref D) (.ref cR) = some true) : FnOk P w K mg base CX0 10 f fd ["way", "corners", "other", "times"] (spMet s0 s1 s2 D out) := by
 refine F.ok scMe (fun vs H Q E h => ?_) (fun cdv A outer s H vs Q E hr h => ?_)
 ·obtain ⟨way, l, b, t, rfl, _⟩ := h
  rfl
 ·obtain ⟨way, l, b, t, rfl, k⟩ := h
  have hr1 := hr.mono (j := 1) (by decide)
  refine ⟨_, pss_cons (ps_set (i := 4) scMe.nd rfl (Or.inl rfl) pe_str)
   (pss_cons (ps_try (i := 5) (RX := EM D out Q) scMe.nd rfl rfl rfl rfl rfl mR (fun cls H1 q => by rw [q.1]; exact xR)
    (fun pins => pss_one (ps_if (pt_cmpR op_lt (pv 0) pe_int (nomark _)) (pss_one (ps_expr (pe_call G0 hr rfl m0 k0 b0 .nil passT (pa_cons (pv 0) (pa_cons (pv 1) (pa_cons (pv 3) pa_nil))))))
     (pss_one (ps_if (pt_cmpR op_lt (pv 0) pe_int (nomark _)) (pss_one (ps_expr (pe_call G1 hr rfl m1 k1 b1 .nil passT (pa_cons (pv 0) (pa_cons (pv 1) (pa_cons (pv 2) pa_nil))))))
      (pss_one (ps_expr (pe_call G2 hr rfl m2 k2 b2 .nil passT (pa_cons (pv 1) pa_nil))))))))
    (fun pins e => pss_one (ps_set (i := 4) scMe.nd rfl (Or.inl rfl) (pe_callM Gw (hr1.marked _) rfl mw kw bw (pa_cons (pv 5) pa_nil)))))
   (pss_one (ps_ret (pv 4)))), ?_⟩
  refine ⟨?_, ?_⟩
  ·refine ⟨_, rfl, _, _, rfl, rfl, _, rfl, ?_⟩
   refine ite2 (fun c => ?_) (fun c => ?_)
   ·refine ⟨_, rfl, _, rfl, _, rfl, (k _ ?_).1 (of_decide_eq_true c)⟩
    exact fun v H1 q => ⟨_, rfl, q⟩
   have c : ¬ way < 8 := fun z => c (decide_eq_true z)
   refine ⟨_, rfl, _, _, rfl, rfl, _, rfl, ?_⟩
   refine ite2 (fun c2 => ?_) (fun c2 => ?_)
   ·refine ⟨_, rfl, _, rfl, _, rfl, (k _ ?_).2.1 (by omega) (of_decide_eq_true c2)⟩
    exact fun v H1 q => ⟨_, rfl, q⟩
   have c2 : ¬ way < 14 := fun z => c2 (decide_eq_true z)
   refine ⟨_, rfl, (k _ ?_).2.2 (by omega)⟩
   exact fun v H1 q => ⟨_, rfl, q⟩
  ·rintro e cls H1 ⟨rfl, kE⟩ ne
   refine ⟨_, rfl, e, rfl, upd_same, fun H2 s2 => ?_⟩
   exact ⟨_, rfl, kE H2 ((same_upd ne).trans s2)⟩
end
end K1
namespace L2
open PySem PySem.Spec PyProof.Rows
theorem lc_range {D : Addr} {lo : Int} {n : Nat} {g : TG} {tt : TT} {te : TE} {Fin : Hp -> Prop} {σ0 : St} {H0 : Hp} (Pv : Nat -> St -> Hp -> Prop) (h0 : Pv 0 σ0 H0)
  (hs : ∀ i σ H, i < n -> Pv i σ H -> g (.int (lo + i)) σ H fun σ2 H2 => tt σ2 H2 fun b H3 => if b = true then te σ2 H3 fun y H4 => ∃ ys, H4 D = some (.lst ys) /\ ys.length < sizeLine /\ Pv (i + 1) σ2 (upd H4 D (.lst (ys ++ [y]))) else Pv (i + 1) σ2 H3)
  (hd : ∀ σ H, Pv n σ H -> Fin H) :
  ∃ W : Nat -> Nat -> St -> Hp -> Prop, (∃ m, W 0 m σ0 H0) /\ LcGo (Itr lo n) D g tt te Fin W := by
 refine ⟨fun i m σ H => m = n - i /\ i <= n /\ Pv i σ H, ⟨n, by simp, Nat.zero_le _, h0⟩, ?_⟩
 rintro i m σ H ⟨rfl, hi, p⟩
 by_cases hlt : i < n
 ·refine .inr ⟨hlt, Pv (i + 1), fun σ' H' p' => ⟨n - (i + 1), by omega, rfl, hlt, p'⟩, fun x H' y => ?_⟩
  obtain ⟨e, y⟩ := y
  subst e y
  exact hs i σ _ hlt p
 ·have e : i = n := by omega
  subst e
  exact .inl ⟨Nat.le_refl _, hd σ H p⟩
end L2
namespace K1
open PySem L2
open RS (Pt isShape cellAt lawShape lawSides round arrow good stepsM hull)
theorem round_at {ps : List Pt} {k : Nat} {p q : Pt} (hp : ps[k]? = some p) (hq : ps[(k + 1) % ps.length]? = some q) : (round ps)[k]? = some (arrow p q) := by
 have hk : k < ps.length := (List.getElem?_eq_some_iff.mp hp).1
 unfold round
 rw [List.getElem?_zipWith, hp]
 have e : (ps.drop 1 ++ ps.take 1)[k]? = some q := by
  rw [<- hq]
  rcases Nat.lt_or_ge (k + 1) ps.length with h | h
  ·rw [List.getElem?_append_left (by rw [List.length_drop]; omega), List.getElem?_drop, Nat.mod_eq_of_lt h, Nat.add_comm]
  ·have e1 : k + 1 = ps.length := by lia
   rw [List.getElem?_append_right (by rw [List.length_drop]; omega), List.length_drop, e1, Nat.mod_self]
   have e2 : k - (ps.length - 1) = 0 := by lia
   rw [e2, List.getElem?_take]
   simp
 rw [e]
theorem twice_no {ps : List Pt} {p : Pt} {k : Nat} (hk : ps[k]? = some p) (hl : k + 1 = ps.length) : isShape (ps ++ [p]) = false := by
 have e1 : (ps ++ [p])[k]? = some p := by rw [List.getElem?_append_left (by omega)]; exact hk
 have e2 : (ps ++ [p])[(k + 1) % (ps ++ [p]).length]? = some p := by
  have : (k + 1) % (ps ++ [p]).length = ps.length := by
   rw [List.length_append]
   show (k + 1) % (ps.length + 1) = ps.length
   rw [hl]
   exact Nat.mod_eq_of_lt (Nat.lt_succ_self _)
  rw [this, List.getElem?_append_right (Nat.le_refl _), Nat.sub_self]
  rfl
 have m := List.mem_of_getElem? (round_at e1 e2)
 have z : arrow p p = (0, 0) := by unfold RS.arrow; simp
 rw [z] at m
 rw [RS.shape_good]
 unfold RS.good
 have l : lawSides (ps ++ [p]) = round (ps ++ [p]) := by
  unfold RS.lawSides
  rw [if_neg (by rw [List.length_append]; show ¬ ps.length + 1 < 2; omega)]
 rw [l, if_pos (.inr m)]
noncomputable def O1 (cS cM cT : Addr) : Sp := spOne (orS (spBad1 cS) spSidesP) (orS (spBad2 cS) spHolds) (orS (spBad2 cS) spReach) (orS (spBad2 cS) (orS spGreater (spNum cM))) (orS (spBad1 cS) spDouble) (orS (spBad1 cS) spStepsOf) (orS (spBad1 cS) (spPart02 cT)) (orS (spBad1 cS) spShown)
noncomputable def O2 (cS : Addr) : Sp := spTwo (orS (spBad2 cS) (orS (spBadB cS) spTogether)) (orS (spBad2 cS) (orS (spBadB cS) spTaken)) (orS (spBad2 cS) (orS (spBadB cS) spMixed))
noncomputable def O3 (cP : Addr) : Sp := orS (spNoPts cP) (spPtsN 40 (2 ^ 60) hull)
section
variable {cS cM cT cP D l b : Addr} {out : Str} {way t : Int} {ps qs : List Pt} {H : Hp} {Q : VK} {E : XK}
theorem met_shape (h0 : 0 <= way) (h1 : way < 14) (hl : Pts H l ps) (nl : ps.length <= 100) (bl : ∀ p ∈ ps, Bd (2 ^ 60) p) (sl : isShape ps = false) (hb : Pts H b qs) (nb : qs.length <= 100) (bb : ∀ p ∈ qs, Bd (2 ^ 60) p) (sb : isShape qs = true)
  (k : ∀ H', Same H H' -> Q (.str "shape") H') : spMet (O1 cS cM cT) (O2 cS) (O3 cP) cS "shape" [.int way, .ref l, .ref b, .int t] H Q E := by
 have kE : ∀ H1, Same H H1 -> EM cS "shape" Q (.ref cS) none H1 := fun H1 s1 => ⟨rfl, fun H2 s2 => k H2 (s1.trans s2)⟩
 refine ⟨way, l, b, t, rfl, fun Q' _ => ⟨fun h => ?_, fun h h' => ?_, fun h => absurd h1 (by omega)⟩⟩
 ·have b1 : spBad1 cS [.ref l] H Q' (EM cS "shape" Q) := ⟨l, ps, rfl, hl, nl, bl, sl, kE⟩
  have b2 : ∀ d o, H d = none -> spBad2 cS [.ref l, .ref d] (upd H d o) Q' (EM cS "shape" Q) := fun d o nd => ⟨l, _, ps, rfl, Pts.same (same_upd nd) hl, nl, bl, sl, fun H' s' => kE H' ((same_upd nd).trans s')⟩
  exact ⟨way, l, t, rfl, h0, h, fun _ => .inl b1, fun _ d nd => .inl (b2 d _ nd), fun _ d nd => .inl (b2 d _ nd), fun _ => .inl ⟨l, _, ps, rfl, hl, nl, bl, sl, kE⟩, fun _ => .inl b1, fun _ => .inl b1, fun _ => .inl b1, fun _ => .inl b1⟩
 ·have b2 : spBad2 cS [.ref l, .ref b] H Q' (EM cS "shape" Q) := ⟨l, _, ps, rfl, hl, nl, bl, sl, kE⟩
  have bB : spBadB cS [.ref b, .ref l] H Q' (EM cS "shape" Q) := ⟨b, l, qs, ps, rfl, hb, nb, bb, sb, hl, nl, bl, sl, kE⟩
  exact ⟨way, l, b, rfl, h, h', fun _ => .inl b2, fun _ => .inr (.inl bB), fun _ => .inl b2, fun _ => .inr (.inl bB), fun _ => .inl b2, fun _ => .inr (.inl bB)⟩
theorem one_way {s0 s1 s2 s3 s4 s5 s6 s7 : Sp} (h : 0 <= way /\ way < 8) (q0 : way = 0 -> s0 [.ref l] H Q E) (q1 : way = 1 -> ∀ d, H d = none -> s1 [.ref l, .ref d] (upd H d (.tup [.int 0, .int 0])) Q E) (q2 : way = 2 -> ∀ d, H d = none -> s2 [.ref l, .ref d] (upd H d (.tup [.int 1, .int 2])) Q E)
  (q3 : way = 3 -> s3 [.ref l, .int t] H Q E) (q4 : way = 4 -> s4 [.ref l] H Q E) (q5 : way = 5 -> s5 [.ref l] H Q E) (q6 : way = 6 -> s6 [.ref l] H Q E) (q7 : way = 7 -> s7 [.ref l] H Q E) : spOne s0 s1 s2 s3 s4 s5 s6 s7 [.int way, .ref l, .int t] H Q E :=
 ⟨way, l, t, rfl, h.1, h.2, q0, q1, q2, q3, q4, q5, q6, q7⟩
theorem met_number (hl : Pts H l ps) (nl : ps.length <= 100) (bl : ∀ p ∈ ps, Bd (2 ^ 60) p) (sl : isShape ps = true) (ht : t < 0 \/ 1000000 < t)
  (k : ∀ H', Same H H' -> Q (.str "number") H') : spMet (O1 cS cM cT) (O2 cS) (O3 cP) cM "number" [.int 3, .ref l, .ref b, .int t] H Q E := by
 have kE : ∀ H1, Same H H1 -> EM cM "number" Q (.ref cM) none H1 := fun H1 s1 => ⟨rfl, fun H2 s2 => k H2 (s1.trans s2)⟩
 refine ⟨3, l, b, t, rfl, fun Q' _ => ⟨fun h => ?_, fun h => absurd h (by decide), fun h => absurd h (by decide)⟩⟩
 exact one_way ⟨by decide, by decide⟩ (fun z => absurd z (by decide)) (fun z => absurd z (by decide)) (fun z => absurd z (by decide)) (fun _ => .inr (.inr ⟨l, t, ps, rfl, hl, nl, bl, sl, ht, kE⟩)) (fun z => absurd z (by decide)) (fun z => absurd z (by decide)) (fun z => absurd z (by decide)) (fun z => absurd z (by decide))
theorem met_points (hl : Pts H l ps) (nl : ps.length = 0 \/ 40 < ps.length) (nm : ps.length <= 1000) (k : ∀ H', Same H H' -> Q (.str "points") H') : spMet (O1 cS cM cT) (O2 cS) (O3 cP) cP "points" [.int 14, .ref l, .ref b, .int t] H Q E := by
 have kE : ∀ H1, Same H H1 -> EM cP "points" Q (.ref cP) none H1 := fun H1 s1 => ⟨rfl, fun H2 s2 => k H2 (s1.trans s2)⟩
 exact ⟨14, l, b, t, rfl, fun Q' _ => ⟨fun h => absurd h (by decide), fun _ h => absurd h (by decide), fun _ => .inl ⟨l, ps, rfl, hl, nl, nm, kE⟩⟩⟩
theorem met_hull (hl : Pts H l ps) (n0 : 0 < ps.length) (nl : ps.length <= 40) (bl : ∀ p ∈ ps, Bd (2 ^ 60) p) (k : ∀ H', Same H H' -> Q (.str "told") H') : spMet (O1 cS cM cT) (O2 cS) (O3 cP) D out [.int 14, .ref l, .ref b, .int t] H Q E :=
 ⟨14, l, b, t, rfl, fun Q' hq => ⟨fun h => absurd h (by decide), fun _ h => absurd h (by decide), fun _ => .inr ⟨l, ps, rfl, hl, n0, nl, bl, fun r H' s' _ _ => hq _ _ (k H' s')⟩⟩⟩
theorem met_long (hl : Pts H l ps) (nl : ps.length <= 100) (bl : ∀ p ∈ ps, Bd 2500 p) (sl : isShape ps = true) (hs : 10 < (stepsM (lawSides ps)).length) (k : ∀ H', Same H H' -> Q (.str "long") H') :
  spMet (O1 cS cM cT) (O2 cS) (O3 cP) cT "long" [.int 6, .ref l, .ref b, .int t] H Q E := by
 have kE : ∀ H1, Same H H1 -> EM cT "long" Q (.ref cT) none H1 := fun H1 s1 => ⟨rfl, fun H2 s2 => k H2 (s1.trans s2)⟩
 refine ⟨6, l, b, t, rfl, fun Q' _ => ⟨fun h => ?_, fun h => absurd h (by decide), fun h => absurd h (by decide)⟩⟩
 exact one_way ⟨by decide, by decide⟩ (fun z => absurd z (by decide)) (fun z => absurd z (by decide)) (fun z => absurd z (by decide)) (fun z => absurd z (by decide)) (fun z => absurd z (by decide)) (fun z => absurd z (by decide))
  (fun _ => .inr ⟨l, ps, rfl, hl, nl, bl, sl, fun _ H1 s1 => kE H1 s1, fun z => absurd hs (Nat.not_lt.mpr z)⟩) (fun z => absurd z (by decide))
theorem met_part (hl : Pts H l ps) (nl : ps.length <= 100) (bl : ∀ p ∈ ps, Bd 2500 p) (sl : isShape ps = true) (hs : (stepsM (lawSides ps)).length <= 10) (k : ∀ H', Same H H' -> Q (.str "told") H') :
  spMet (O1 cS cM cT) (O2 cS) (O3 cP) D out [.int 6, .ref l, .ref b, .int t] H Q E := by
 refine ⟨6, l, b, t, rfl, fun Q' hq => ⟨fun h => ?_, fun h => absurd h (by decide), fun h => absurd h (by decide)⟩⟩
 exact one_way ⟨by decide, by decide⟩ (fun z => absurd z (by decide)) (fun z => absurd z (by decide)) (fun z => absurd z (by decide)) (fun z => absurd z (by decide)) (fun z => absurd z (by decide)) (fun z => absurd z (by decide))
  (fun _ => .inr ⟨l, ps, rfl, hl, nl, bl, sl, fun z => absurd hs (Nat.not_le.mpr z), fun _ v H' s' => hq v H' (k H' s')⟩) (fun z => absurd z (by decide))
theorem met_told (hw : way ≠ 6) (h0 : 0 <= way) (h1 : way < 14) (h2 : way = 8 \/ way = 10 \/ way = 12 \/ way < 8) (h3 : way = 3 -> 0 <= t /\ t <= 1000000) (hl : Pts H l ps) (nl : ps.length <= 20) (bl : ∀ p ∈ ps, Bd 2000 p) (sl : isShape ps = true) (k : ∀ H', Same H H' -> Q (.str "told") H') :
  spMet (O1 cS cM cT) (O2 cS) (O3 cP) D out [.int way, .ref l, .ref l, .int t] H Q E := by
 have wd : ∀ n : Int, 2000 <= n -> ∀ p ∈ ps, Bd n p := fun n hn p hp => (bl p hp).wide hn
 have b60 := wd (2 ^ 60) (by decide)
 have n100 : ps.length <= 100 := by omega
 have sm : ∀ p ∈ ps, Sm p := fun p hp => by
  have := bl p hp
  unfold Bd at this
  unfold Sm
  omega
 refine ⟨way, l, l, t, rfl, fun Q' hq => ⟨fun h => ?_, fun h h' => ?_, fun h => absurd h1 (by omega)⟩⟩
 ·have kt : ∀ v H', Same H H' -> Q' v H' := fun v H' s' => hq v H' (k H' s')
  refine one_way ⟨h0, h⟩ (fun _ => .inr ⟨l, ps, rfl, hl, n100, b60, sl, fun r H' s' _ _ => kt _ H' s'⟩)
   (fun _ d nd => .inr ⟨l, d, ps, (0, 0), rfl, Pts.same (same_upd nd) hl, upd_same, n100, b60, (by unfold Bd; decide), sl, fun H' s' => kt _ H' ((same_upd nd).trans s')⟩)
   (fun _ d nd => .inr ⟨l, d, ps, (1, 2), rfl, Pts.same (same_upd nd) hl, upd_same, n100, b60, sl, fun H' m s' _ _ => kt _ H' ((same_upd nd).trans s')⟩)
   (fun z => .inr (.inl ⟨l, ps, t, rfl, hl, n100, b60, sl, (h3 z).1, (h3 z).2, fun r H' s' _ _ => kt _ H' s'⟩))
   (fun _ => .inr ⟨l, ps, rfl, hl, n100, b60, sl, fun H' s' => kt _ H' s'⟩)
   (fun _ => .inr ⟨l, ps, rfl, hl, n100, wd 2500 (by decide), sl, fun r H' s' _ _ => kt _ H' s'⟩)
   (fun z => absurd z hw)
   (fun _ => .inr ⟨l, ps, rfl, hl, n100, b60, sm, sl, fun H' s' => kt _ H' s'⟩)
 ·have kt : ∀ v H', Same H H' -> Q' v H' := fun v H' s' => hq v H' (k H' s')
  have sd := RS.shape_sided sl
  have self : ∀ v ∈ lawSides ps, RS.gone v <= RS.gone (RS.sideLike v (lawSides ps)) := fun v hv => by
   rw [RS.like_mem sd.st hv (RS.same_self (sd.nz v hv))]
   exact Int.le_refl _
  exact ⟨way, l, l, rfl, h, h', fun _ => .inr (.inr ⟨l, l, ps, ps, rfl, hl, hl, n100, n100, wd (2 ^ 38) (by decide), wd (2 ^ 38) (by decide), sl, sl, fun r H' s' _ _ => kt _ H' s'⟩), fun z => absurd h2 (by omega),
   fun _ => .inr (.inr ⟨l, l, ps, ps, rfl, hl, hl, n100, n100, b60, b60, sl, sl, self, fun r u H' s' _ _ _ => kt _ H' s'⟩), fun z => absurd h2 (by omega),
   fun _ => .inr (.inr ⟨l, l, ps, ps, rfl, hl, hl, by omega, by omega, wd (2 ^ 30) (by decide), wd (2 ^ 30) (by decide), sl, sl, fun H' s' => kt _ H' s'⟩), fun z => absurd h2 (by omega)⟩
end
end K1
namespace K1
open PySem L2
open RS (Pt isShape cellAt lawShape lawSides stepsM hull)
noncomputable abbrev sLaw : Stmt := top 63
inductive spLaw (K : PySem.W.Frag) (vs : List V) (H : Hp) (Q : VK) (u3 : XK) : Prop
 | mk (a : Addr) (ns : List Int) (c0 : vs = [.ref a]) (c1 : SqL K H a (ns.map V.int)) (c2 : ∀ H', Q (.bl true) H') : spLaw K vs H Q u3
noncomputable def BadL (H : Hp) (l : Addr) : Prop := ∃ ps, Pts H l ps /\ ps.length <= 100 /\ (∀ p ∈ ps, Bd (2 ^ 60) p) /\ isShape ps = false
theorem BadL.same {H H' : Hp} {l : Addr} (s : Same H H') (h : BadL H l) : BadL H' l := let ⟨ps, p, r⟩ := h; ⟨ps, Pts.same s p, r⟩
theorem Pts.putN {H : Hp} {l D : Addr} {ps : List Pt} {ys : List V} {o : HO} (h : Pts H l ps) (ne : l ≠ D) (hD : H D = some (.lst ys)) : Pts (upd H D o) l ps :=
 let ⟨as, a, b⟩ := h; ⟨as, by rw [upd_ne ne]; exact a, Ats.put hD b⟩
theorem BadL.put {H : Hp} {l D : Addr} {ys : List V} {o : HO} (h : BadL H l) (ne : l ≠ D) (hD : H D = some (.lst ys)) : BadL (upd H D o) l := let ⟨ps, p, r⟩ := h; ⟨ps, Pts.putN p ne hD, r⟩
theorem pts_there {H : Hp} {l D : Addr} {ps : List Pt} (h : Pts H l ps) (n : H D = none) : l ≠ D := fun z => by
 obtain ⟨_, q, _⟩ := h
 rw [z, n] at q
 cases q
theorem small_bd {ps : List Pt} (h : ps.all (fun p => decide (-1000 <= p.1 /\ p.1 <= 1000 /\ -1000 <= p.2 /\ p.2 <= 1000)) = true) {n : Int} (hn : 1000 <= n) : ∀ p ∈ ps, Bd n p := fun p hp => by
 have := of_decide_eq_true (List.all_eq_true.mp h p hp)
 unfold Bd
 omega
theorem bad_lit {H : Hp} {l : Addr} {ps : List Pt} (h : Pts H l ps) (n : ps.length <= 100) (b : ps.all (fun p => decide (-1000 <= p.1 /\ p.1 <= 1000 /\ -1000 <= p.2 /\ p.2 <= 1000)) = true) (s : isShape ps = false) : BadL H l := ⟨ps, h, n, small_bd b (by decide), s⟩
theorem times_at (fr x : Int) (h : 0 <= fr) : ∃ tt, atI [V.int (-1), V.int 1000001, V.int (-1 - fr), V.int (1000001 + fr)] (x % 4) = some (V.int tt) /\ (tt < 0 \/ 1000000 < tt) := by
 have h1 := Int.emod_nonneg x (show (4 : Int) ≠ 0 by decide)
 have h2 := Int.emod_lt_of_pos x (show (0 : Int) < 4 by decide)
 have : x % 4 = 0 \/ x % 4 = 1 \/ x % 4 = 2 \/ x % 4 = 3 := by omega
 rcases this with e | e | e | e
 ·exact ⟨-1, by rw [e]; rfl, by decide⟩
 ·exact ⟨1000001, by rw [e]; rfl, by decide⟩
 ·exact ⟨-1 - fr, by rw [e]; rfl, by omega⟩
 ·exact ⟨1000001 + fr, by rw [e]; rfl, by omega⟩
theorem five_at {w0 w1 w2 w3 w4 : Addr} {B : Addr -> Prop} (x : Int) (h0 : B w0) (h1 : B w1) (h2 : B w2) (h3 : B w3) (h4 : B w4) : ∃ w, atI [V.ref w0, V.ref w1, V.ref w2, V.ref w3, V.ref w4] (x % 5) = some (V.ref w) /\ B w := by
 have a1 := Int.emod_nonneg x (show (5 : Int) ≠ 0 by decide)
 have a2 := Int.emod_lt_of_pos x (show (0 : Int) < 5 by decide)
 have : x % 5 = 0 \/ x % 5 = 1 \/ x % 5 = 2 \/ x % 5 = 3 \/ x % 5 = 4 := by omega
 rcases this with e | e | e | e | e
 ·exact ⟨w0, by rw [e]; rfl, h0⟩
 ·exact ⟨w1, by rw [e]; rfl, h1⟩
 ·exact ⟨w2, by rw [e]; rfl, h2⟩
 ·exact ⟨w3, by rw [e]; rfl, h3⟩
 ·exact ⟨w4, by rw [e]; rfl, h4⟩
noncomputable def inOf (e : Expr) : Int := match e with
 | .Constant (.int i) _ _ => i
 | _ => 0
noncomputable def isIn (e : Expr) : Bool := match e with
 | .Constant (.int _) _ _ => true
 | _ => false
noncomputable def okWay (e : Expr) : Bool := decide (inOf e ≠ 6 /\ 0 <= inOf e /\ inOf e < 14 /\ (inOf e = 8 \/ inOf e = 10 \/ inOf e = 12 \/ inOf e < 8))
noncomputable def tInts (es : List Expr) : TA := fun _ H Q => Q (es.map fun e => V.int (inOf e)) H
theorem star_c {c : Const} {k : Nat} {p : Pos} {es : List Expr} {env : Env} : starEach (.Constant c k p :: es) env = (false, eval (.Constant c k p) env) :: starEach es env := rfl
theorem pa_ints {X : Cx} : ∀ {es : List Expr}, es.all isIn = true -> PA X es (tInts es)
 | [], _ => pa_nil
 | e :: es, h => by
  rw [List.all_cons, Bool.and_eq_true] at h
  have ih := pa_ints (X := X) h.2
  cases e with
  | Constant c k p =>
   cases c with
   | int x => exact pa_cons pe_int ih star_c
   | _ => exact absurd h.1 (by intro z; cases z)
  | _ => exact absurd h.1 (by intro z; cases z)
theorem nodupKC : ((["k"] : List Str) ++ ([("cell", 2)] : List (Str × Nat)).map (·.1)).Nodup := by decide +kernel
noncomputable def lineM (m n : Nat) (c : Int) : List Pt := (List.range m).map fun i => (((i : Nat) : Int), ((i : Nat) : Int) * c)
theorem stick_long (s : Int) (h : 0 <= s /\ s < 9) : isShape [(0, 0), (6 + s, 0)] = true /\ 10 < (stepsM (lawSides [(0, 0), (6 + s, 0)])).length := by
 have : s = 0 \/ s = 1 \/ s = 2 \/ s = 3 \/ s = 4 \/ s = 5 \/ s = 6 \/ s = 7 \/ s = 8 := by omega
 rcases this with rfl | rfl | rfl | rfl | rfl | rfl | rfl | rfl | rfl <;> exact ⟨by decide +kernel, by decide +kernel⟩
theorem stick_short : isShape [(0, 0), (5, 0)] = true /\ (stepsM (lawSides [(0, 0), (5, 0)])).length <= 10 := ⟨by decide +kernel, by decide +kernel⟩
noncomputable def isPt (e : Expr) : Bool := match e with
 | .Tuple [.Constant (.int _) _ _, .Constant (.int _) _ _] _ _ => true
 | _ => false
noncomputable def ptOf (e : Expr) : Pt := match e with
 | .Tuple [.Constant (.int i) _ _, .Constant (.int j) _ _] _ _ => (i, j)
 | _ => (0, 0)
noncomputable def tPtsA : List Expr -> TA
 | [] => tNil
 | e :: es => tCons (tTup (tCons (tC (.int (ptOf e).1)) (tCons (tC (.int (ptOf e).2)) tNil))) (tPtsA es)
theorem star_tup {ts : List Expr} {c : Nat} {p : Pos} {es : List Expr} {env : Env} : starEach (.Tuple ts c p :: es) env = (false, eval (.Tuple ts c p) env) :: starEach es env := rfl
theorem star_lst {ts : List Expr} {p : Pos} {es : List Expr} {env : Env} : starEach (.List ts p :: es) env = (false, eval (.List ts p) env) :: starEach es env := rfl
theorem star_bin {x y : Expr} {o : Operator} {p : Pos} {es : List Expr} {env : Env} : starEach (.BinOp x o y p :: es) env = (false, eval (.BinOp x o y p) env) :: starEach es env := rfl
theorem isPt_is {e : Expr} (h : isPt e = true) : ∃ i j k1 k2 p1 p2 c p, e = .Tuple [.Constant (.int i) k1 p1, .Constant (.int j) k2 p2] c p := by
 unfold isPt at h
 split at h
 ·exact ⟨_, _, _, _, _, _, _, _, rfl⟩
 ·cases h
theorem pa_pts {X : Cx} : ∀ {es : List Expr}, es.all isPt = true -> PA X es (tPtsA es)
 | [], _ => pa_nil
 | e :: es, h => by
  rw [List.all_cons, Bool.and_eq_true] at h
  have ih := pa_pts (X := X) h.2
  obtain ⟨i, j, k1, k2, p1, p2, c, p, rfl⟩ := isPt_is h.1
  exact pa_cons (pe_tup (pa_cons pe_int (pa_cons pe_int pa_nil star_c) star_c)) ih star_tup
theorem pts_run {σ : St} : ∀ {es : List Expr} {H : Hp} {Q : List V -> Hp -> Prop}, (∀ as H', Same H H' -> Ats H' as (es.map ptOf) -> Q (as.map V.ref) H') -> tPtsA es σ H Q
 | [], H, Q, h => h [] H (Same.refl _) .nil
 | e :: es, H, Q, h => by
  refine ⟨by show 2 <= sizeLine; decide, fun t nt => pts_run fun as H' s' ha => ?_⟩
  exact h (t :: as) H' ((same_upd nt).trans s') (.cons (s' _ _ upd_same) ha)
theorem lst_run {σ : St} {es : List Expr} {H : Hp} {Q : VK} (n : es.length <= 100) (h : ∀ l H', Same H H' -> H l = none -> Pts H' l (es.map ptOf) -> Q (.ref l) H') : tLst (tPtsA es) σ H Q := by
 refine pts_run fun as H' s' ha => ⟨?_, fun l nl => ?_⟩
 ·have := Paired.length ha
  rw [List.length_map] at this
  rw [List.length_map]
  exact Nat.le_of_lt (size100 (by omega))
 ·exact h l _ (s'.trans (same_upd nl)) (s'.free nl) ⟨as, upd_same, Ats.same (same_upd nl) ha⟩
theorem set_wrong {X : Cx} {i : Nat} {x zx : Str} {a : Expr} {es1 es2 : List Expr} {pos pos' zp p1 p2 p3 p4 p5 p6 : Pos} (hN : X.N.Nodup) (hi : X.N[i]? = some x) (hx : Loc X.env.scope x) (ha : PE X a (tVar 1)) (hz : PE X (.Name zx zp) (tVar 3)) (h1 : es1.all isPt = true) (h2 : es2.all isPt = true)
  (hf : X.fn x = true \/ X.env.scope.names.lookup x = some .local) : PS X (.Assign [.Name x pos'] (.List [.List [] p1, .BinOp a .Add (.List [.Name zx zp] p2) p3, .List es1 p4, .List es2 p5] p6) pos)
   (tAsg (tLst (tCons (tLst tNil) (tCons (tOp rCat (tVar 1) (tLst (tCons (tVar 3) tNil))) (tCons (tLst (tPtsA es1)) (tCons (tLst (tPtsA es2)) tNil))))) (gName i)) :=
 ps_set hN hi hx (pe_lst (pa_cons (pe_lst pa_nil) (pa_cons (pe_op op_cat ha (pe_lst (pa_cons hz pa_nil rfl))) (pa_cons (pe_lst (pa_pts h1)) (pa_cons (pe_lst (pa_pts h2)) pa_nil star_lst) star_lst) star_bin) star_lst)) rfl hf
end K1
namespace K1
open PySem L2
open RS (Pt isShape cellAt lawShape lawSides stepsM hull)
theorem line_len (m n : Nat) (c : Int) : (lineM m n c).length = m := by
 unfold lineM
 rw [List.length_map, List.length_range]
theorem line_next (m n : Nat) (c : Int) : lineM (m + 1) n c = lineM m n c ++ [((m : Int), (m : Int) * c)] := by
 unfold lineM
 rw [List.range_succ, List.map_append]
 rfl
theorem line_bd {m n : Nat} {c : Int} (hm : m <= 1000) (h1 : 0 <= c /\ c < 3) : ∀ p ∈ lineM m n c, Bd (2 ^ 60) p := fun p hp => by
 unfold lineM at hp
 obtain ⟨i, hi, rfl⟩ := List.mem_map.mp hp
 have := List.mem_range.mp hi
 have hc : c = 0 \/ c = 1 \/ c = 2 := by omega
 unfold Bd
 dsimp only
 rcases hc with rfl | rfl | rfl <;> omega
section
variable {P : Program} {w : World} {K : PySem.W.Frag} {mg : Str -> Option Value} {base : Heap}
theorem scLaw : FnScope ["script", "corners", "cell", "last", "wrong", "bad", "far", "times", "way", "many", "line", "size"] ["script"] (defScope sLaw) := ⟨rfl, rfl, rfl, by decide +kernel, rfl, by decide +kernel, by decide +kernel⟩
theorem ok_law {cS cM cT cP f f1 f2 fM : Addr} {fd fd1 fd2 fdM : FuncData} (F : Fun K "law" "law" sLaw f fd)
  (G1 : FnOk P w K mg base CX0 4 f1 fd1 ["script", "at", "most"] (spPoints K lawShape)) (k1 : PySem.W.keepIn K (.ref f1) = true) (b1 : Binds K fd1 ["script", "at", "most"] []) (m1 : mg "_law_shape" = some (.ref f1))
  (G2 : FnOk P w K mg base CX0 1 f2 fd2 ["script", "k"] (spCell K)) (k2 : PySem.W.keepIn K (.ref f2) = true) (b2 : Binds K fd2 ["script", "k"] []) (m2 : mg "_law_cell_at" = some (.ref f2))
  (GS : FnOk P w K mg base CX0 10 fM fdM ["way", "corners", "other", "times"] (spMet (O1 cS cM cT) (O2 cS) (O3 cP) cS "shape")) (GN : FnOk P w K mg base CX0 10 fM fdM ["way", "corners", "other", "times"] (spMet (O1 cS cM cT) (O2 cS) (O3 cP) cM "number"))
  (GP : FnOk P w K mg base CX0 10 fM fdM ["way", "corners", "other", "times"] (spMet (O1 cS cM cT) (O2 cS) (O3 cP) cP "points")) (GL : FnOk P w K mg base CX0 10 fM fdM ["way", "corners", "other", "times"] (spMet (O1 cS cM cT) (O2 cS) (O3 cP) cT "long"))
  (kM : PySem.W.keepIn K (.ref fM) = true) (bM : Binds K fdM ["way", "corners", "other", "times"] []) (mM : mg "_law_met" = some (.ref fM))
  (mli : mg "list" = none) (mr : mg "range" = none) : FnOk P w K mg base CX0 11 f fd ["script"] (spLaw K) := by
 refine F.ok scLaw (fun vs H Q E h => ?_) (fun cdv A outer s H vs Q E hr h => ?_)
 ·obtain ⟨a, ns, rfl, _⟩ := h
  rfl
 ·obtain ⟨a, ns, rfl, hS, k⟩ := h
  have hr1 := hr.mono (j := 1) (by decide)
  have hr4 := hr.mono (j := 4) (by decide)
  refine ⟨_, @pss_cons _ _ _ _ _ (ps_set (i := 1) scLaw.nd rfl (Or.inl rfl) (pe_call G1 hr4 rfl m1 k1 b1 .nil pass0 (pa_cons (pv 0) (pa_cons pe_int (pa_cons pe_int pa_nil)))))
   (@pss_cons _ _ _ _ _ (ps_set (i := 2) scLaw.nd rfl (Or.inr rfl) (pe_call G2 hr1 rfl m2 k2 b2 .nil pass0 (pa_cons (pv 0) (pa_cons pe_int pa_nil))))
   (@pss_cons _ _ _ _ _ (ps_set (i := 3) scLaw.nd rfl (Or.inl rfl) (pe_ix ix_list (pv 1) (pe_un un_neg pe_int) (fun _ _ => rfl)))
   (@pss_cons _ _ _ _ _ (set_wrong (i := 4) scLaw.nd rfl (Or.inl rfl) (pv 1) (pv 3) (by kernel_rfl) (by kernel_rfl) (.inr rfl))
   (@pss_cons _ _ _ _ _ (ps_expr (pe_bm PySem.F.plainAttrs_list PySem.F.slot_list_append PySem.F.type_list_append mt_append (pv 4) (pa_cons (pe_lst (pa_pts (by kernel_rfl))) pa_nil star_lst)))
   (@pss_cons _ _ _ _ _ (ps_set (i := 5) scLaw.nd rfl (Or.inl rfl) (pe_ix ix_list (pv 4) (pe_op op_mod (pv 2) pe_int) (fun _ _ => rfl)))
   (@pss_cons _ _ _ _ _ (ps_set (i := 6) scLaw.nd rfl (Or.inl rfl) (pe_op op_mod (pe_op op_fdiv (pe_call G2 hr1 rfl m2 k2 b2 .nil pass0 (pa_cons (pv 0) (pa_cons pe_int pa_nil))) pe_int) (pe_op op_pow pe_int pe_int)))
   (@pss_cons _ _ _ _ _ (ps_set (i := 7) scLaw.nd rfl (Or.inl rfl) (pe_ix ix_list (pe_lst (pa_cons (pe_un un_neg pe_int) (pa_cons pe_int (pa_cons (pe_op op_sub (pe_un un_neg pe_int) (pv 6)) (pa_cons (pe_op op_add pe_int (pv 6)) pa_nil))))) (pe_op op_mod (pe_call G2 hr1 rfl m2 k2 b2 .nil pass0 (pa_cons (pv 0) (pa_cons pe_int pa_nil))) pe_int) (fun _ _ => rfl)))
   (@pss_cons _ _ _ _ _ (ps_for PassesOwn.never rfl (pi_range1 rfl mr (pa_cons pe_int pa_nil)) (pg_name (i := 8) scLaw.nd rfl (Or.inl rfl)) (pss_one (ps_if (pt_cmpR op_ne (pe_call GS hr rfl mM kM bM .nil pass0 (pa_cons (pv 8) (pa_cons (pe_callTy call_list_of rfl mli bootList (pa_cons (pv 5) pa_nil)) (pa_cons (pe_callTy call_list_of rfl mli bootList (pa_cons (pv 1) pa_nil)) (pa_cons (pv 7) pa_nil))))) pe_str (nomark _)) pss_never pss_nil)))
   (@pss_cons _ _ _ _ _ (ps_if (PW.pt (pw_or (pt_cmpR op_ne (pe_call GN hr rfl mM kM bM .nil pass0 (pa_cons pe_int (pa_cons (pv 1) (pa_cons (pv 1) (pa_cons (pv 7) pa_nil))))) pe_str (nomark _)) (pw_or1 (pt_cmpR op_ne (pe_call GS hr rfl mM kM bM .nil pass0 (pa_cons pe_int (pa_cons (pv 1) (pa_cons (pv 1) (pa_cons pe_int pa_nil))))) pe_str (nomark _))))) pss_never pss_nil)
   (@pss_cons _ _ _ _ _ (ps_if (pt_cmpR op_ne (pe_call GS hr rfl mM kM bM .nil pass0 (pa_cons pe_int (pa_cons (pv 1) (pa_cons (pv 1) (pa_cons pe_int pa_nil))))) pe_str (nomark _)) pss_never pss_nil)
   (@pss_cons _ _ _ _ _ (ps_set (i := 9) scLaw.nd rfl (Or.inl rfl) (pe_op op_add pe_int (pe_op op_mod (pe_op op_fdiv (pv 2) pe_int) pe_int)))
   (@pss_cons _ _ _ _ _ (ps_lc (j := 10) (tn := ["k"]) (cs := [("cell", 2)]) (g := gName 0) (tt := tYes) (te := tTup (tCons (tVar 0) (tCons (tOp (rI CMul fun i j => .int (i * j)) (tVar 0) (tOp (rI (fun _ j => 0 < j) fun i j => .int (i % j)) (tOp (rI CDiv fun i j => .int (i / j)) (tVar 1) (tC (.int 160))) (tC (.int 3)))) tNil)))
     (Caps.one (names' := [(".0", .local), ("k", .local), ("cell", .cell)]) rfl rfl rfl rfl rfl rfl (by decide +kernel) rfl (by decide +kernel) (by decide +kernel)) rfl
     (pi_range1 rfl mr (pa_cons (pv 9) pa_nil))
     (fun C s₀ H₀ fp xe => pg_name (i := 0) nodupKC rfl (Or.inl rfl) (.inr rfl))
     (fun C s₀ H₀ fp xe => pts_nil)
     (fun C s₀ H₀ fp xe => pe_tup (pa_cons (pv 0) (pa_cons (pe_op op_mul (pv 0) (pe_op op_mod (pe_op op_fdiv (pv 1) pe_int) pe_int)) pa_nil))) scLaw.nd rfl rfl rfl)
   (@pss_cons _ _ _ _ _ (ps_if (PW.pt (pw_or (pt_cmpR op_ne (pe_call GP hr rfl mM kM bM .nil pass0 (pa_cons pe_int (pa_cons (pv 10) (pa_cons (pe_lst pa_nil) (pa_cons pe_int pa_nil))))) pe_str (nomark _)) (pw_or1 (pt_cmpR op_ne (pe_call GP hr rfl mM kM bM .nil pass0 (pa_cons pe_int (pa_cons (pe_lst pa_nil) (pa_cons (pe_lst pa_nil) (pa_cons pe_int pa_nil))))) pe_str (nomark _))))) pss_never pss_nil)
   (@pss_cons _ _ _ _ _ (ps_if (pt_cmpR op_ne (pe_call GS hr rfl mM kM bM .nil pass0 (pa_cons pe_int (pa_cons (pe_slice sl_list (pv 10) po_none (po_some pe_int)) (pa_cons (pe_lst pa_nil) (pa_cons pe_int pa_nil))))) pe_str (nomark _)) pss_never pss_nil)
   (@pss_cons _ _ _ _ _ (ps_set (i := 11) scLaw.nd rfl (Or.inl rfl) (pe_op op_mod (pe_op op_fdiv (pv 2) pe_int) pe_int))
   (@pss_cons _ _ _ _ _ (ps_if (PW.pt (pw_or (pt_cmpR op_ne (pe_call GL hr rfl mM kM bM .nil pass0 (pa_cons pe_int (pa_cons (pe_lst (pa_cons (pe_tup (pa_cons pe_int (pa_cons pe_int pa_nil))) (pa_cons (pe_tup (pa_cons (pe_op op_add pe_int (pv 11)) (pa_cons pe_int pa_nil))) pa_nil))) (pa_cons (pe_lst pa_nil) (pa_cons pe_int pa_nil))))) pe_str (nomark _)) (pw_or1 (pt_cmpR op_ne (pe_call GS hr rfl mM kM bM .nil pass0 (pa_cons pe_int (pa_cons (pe_lst (pa_cons (pe_tup (pa_cons pe_int (pa_cons pe_int pa_nil))) (pa_cons (pe_tup (pa_cons pe_int (pa_cons pe_int pa_nil))) pa_nil))) (pa_cons (pe_lst pa_nil) (pa_cons pe_int pa_nil))))) pe_str (nomark _))))) pss_never pss_nil)
   (@pss_cons _ _ _ _ _ (ps_for PassesOwn.never rfl (pi_list (pe_lst (pa_ints (by kernel_rfl)))) (pg_name (i := 8) scLaw.nd rfl (Or.inl rfl)) (pss_one (ps_if (pt_cmpR op_ne (pe_call GS hr rfl mM kM bM .nil pass0 (pa_cons (pv 8) (pa_cons (pv 1) (pa_cons (pv 1) (pa_cons pe_int pa_nil))))) pe_str (nomark _)) pss_never pss_nil)))
   (@pss_one _ _ _ (ps_ret pe_bl))))))))))))))))))), ?_⟩
  refine ⟨_, rfl, a, ns, 0, 10, rfl, hS, by decide, by decide, by decide, fun c H1 s1 nc p1 => ?_⟩
  have lne : RS.lawPoints ns 0 10 ≠ [] := fun z => by
   have := (RS.law_len ns 0 10 (by decide)).2
   rw [z] at this
   simp at this
  have sl : isShape (lawShape ns 0 10) = true := RS.hull_shape lne
  have l0 : (lawShape ns 0 10).length <= 20 := by
   have e1 := RS.hull_len (RS.lawPoints ns 0 10)
   have e2 := (RS.law_len ns 0 10 (by decide)).1
   unfold RS.lawShape
   have e3 : (10 : Int).toNat = 10 := rfl
   omega
  have b0 : ∀ p ∈ lawShape ns 0 10, Bd 2000 p := fun p hp => RS.law_bd ns 0 10 p (RS.mem_hull hp)
  generalize lawShape ns 0 10 = cs at p1 sl l0 b0
  have p0 := RS.shape_pos sl
  obtain ⟨as, h1, h2⟩ := id p1
  have hlen : as.length = cs.length := Paired.length h2
  have b60 : ∀ p ∈ cs, Bd (2 ^ 60) p := fun p hp => (b0 p hp).wide (by decide)
  refine ⟨_, rfl, a, ns, 4, rfl, Same.seq s1 hS, by decide, ?_⟩
  generalize cellAt ns 4 = cell
  have hj : cs.length - 1 < cs.length := by omega
  obtain ⟨al, eal, tal⟩ := Ats.get h2 (List.getElem?_eq_getElem hj)
  have lat : atI (as.map V.ref) (-1) = some (V.ref al) := atI_at (j := cs.length - 1) (by rw [List.length_map]; omega) (by rw [List.length_map]; omega) (by rw [List.getElem?_map, eal]; rfl)
  refine ⟨_, rfl, 1, rfl, c, _, _, _, rfl, rfl, SqL.of h1, lat, ?_⟩
  refine ⟨Nat.zero_le _, fun w0 n0 => ?_⟩
  have s2 : Same H1 (upd H1 w0 (.lst [])) := same_upd n0
  have q0 : Pts (upd H1 w0 (.lst [])) w0 [] := ⟨[], upd_same, .nil⟩
  generalize upd H1 w0 (.lst []) = H2 at s2 q0 ⊢
  refine ⟨_, rfl, _, rfl, by show 1 <= sizeLine; decide, fun d nd => ?_⟩
  have s3 : Same H2 (upd H2 d (.lst [.ref al])) := same_upd nd
  refine ⟨c, d, _, _, rfl, rfl, s3 _ _ (s2 _ _ h1), upd_same, ?_, fun w1 n1 => ?_⟩
  ·rw [List.length_map]
   show _ + 1 <= 2 ^ 24
   omega
  have s24 : Same H2 (upd (upd H2 d (.lst [.ref al])) w1 (.lst (as.map V.ref ++ [.ref al]))) := s3.trans (same_upd n1)
  have q1 : Pts (upd (upd H2 d (.lst [.ref al])) w1 (.lst (as.map V.ref ++ [.ref al]))) w1 (cs ++ [cs[cs.length - 1]]) :=
   ⟨as ++ [al], by rw [upd_same, List.map_append]; rfl, Ats.app (Ats.same (s2.trans s24) h2) (.cons ((s2.trans s24) _ _ tal) .nil)⟩
  generalize upd (upd H2 d (.lst [.ref al])) w1 (.lst (as.map V.ref ++ [.ref al])) = H3 at s24 q1 ⊢
  refine lst_run (by show 2 <= 100; decide) fun w2 H4 s5 n2 q2 => ?_
  have q2 : Pts H4 w2 [(3, 0), (0, 0)] := q2
  refine lst_run (by show 4 <= 100; decide) fun w3 H5 s6 n3 q3 => ?_
  have q3 : Pts H5 w3 [(0, 0), (2, 0), (4, 0), (1, 3)] := q3
  refine ⟨by show 4 <= sizeLine; decide, fun wr nr => ?_⟩
  have r0 := Pts.same (s24.trans (s5.trans s6)) q0
  have r1 := Pts.same (s5.trans s6) q1
  have r2 := Pts.same s6 q2
  have sH5 := s1.trans (s2.trans (s24.trans (s5.trans s6)))
  have pc5 := Pts.same (s2.trans (s24.trans (s5.trans s6))) p1
  have e0 := pts_there r0 nr
  have e1 := pts_there r1 nr
  have e2 := pts_there r2 nr
  have e3 := pts_there q3 nr
  have ec := pts_there pc5 nr
  have nrH := sH5.free nr
  have s7 : Same H5 (upd H5 wr (.lst [.ref w0, .ref w1, .ref w2, .ref w3])) := same_upd nr
  have hwr : upd H5 wr (.lst [.ref w0, .ref w1, .ref w2, .ref w3]) wr = some (.lst [.ref w0, .ref w1, .ref w2, .ref w3]) := upd_same
  clear nr
  generalize upd H5 wr (.lst [.ref w0, .ref w1, .ref w2, .ref w3]) = H6 at s7 hwr ⊢
  refine ⟨_, rfl, .inl ⟨rfl, _, SqL.of hwr⟩, ?_⟩
  refine lst_run (by show 3 <= 100; decide) fun w4 H7 s8 n4 q4 => ?_
  have q4 : Pts H7 w4 [(0, 1), (0, 0), (1, 0)] := q4
  have hD := s8 _ _ hwr
  have e4 : w4 ≠ wr := fun z => by
   rw [z, hwr] at n4
   cases n4
  refine ⟨wr, _, _, rfl, rfl, hD, by show 4 < sizeLine; decide, ?_⟩
  have s78 := s7.trans s8
  have sH8 : Same H (upd H7 wr (.lst [.ref w0, .ref w1, .ref w2, .ref w3, .ref w4])) := same_set (sH5.trans s78) nrH
  have hwr8 : upd H7 wr (.lst [.ref w0, .ref w1, .ref w2, .ref w3, .ref w4]) wr = some (.lst [.ref w0, .ref w1, .ref w2, .ref w3, .ref w4]) := upd_same
  have p8 : Pts (upd H7 wr (.lst [.ref w0, .ref w1, .ref w2, .ref w3, .ref w4])) c cs := Pts.putN (Pts.same s78 pc5) ec hD
  have B0 : BadL (upd H7 wr (.lst [.ref w0, .ref w1, .ref w2, .ref w3, .ref w4])) w0 := BadL.put (bad_lit (Pts.same s78 r0) (by decide) rfl (by decide +kernel)) e0 hD
  have B1 : BadL (upd H7 wr (.lst [.ref w0, .ref w1, .ref w2, .ref w3, .ref w4])) w1 := BadL.put ⟨_, Pts.same s78 r1, by rw [List.length_append]; show _ + 1 <= 100; omega, fun p hp => by
   rcases List.mem_append.mp hp with z | z
   ·exact b60 p z
   ·rw [List.mem_singleton.mp z]
    exact b60 _ (List.getElem_mem hj), twice_no (List.getElem?_eq_getElem hj) (by omega)⟩ e1 hD
  have B2 : BadL (upd H7 wr (.lst [.ref w0, .ref w1, .ref w2, .ref w3, .ref w4])) w2 := BadL.put (bad_lit (Pts.same s78 r2) (by decide) (by decide +kernel) (by decide +kernel)) e2 hD
  have B3 : BadL (upd H7 wr (.lst [.ref w0, .ref w1, .ref w2, .ref w3, .ref w4])) w3 := BadL.put (bad_lit (Pts.same s78 q3) (by decide) (by decide +kernel) (by decide +kernel)) e3 hD
  have B4 : BadL (upd H7 wr (.lst [.ref w0, .ref w1, .ref w2, .ref w3, .ref w4])) w4 := BadL.put (bad_lit q4 (by decide) (by decide +kernel) (by decide +kernel)) e4 hD
  show tSeq _ _ _ _ (upd H7 wr (.lst [.ref w0, .ref w1, .ref w2, .ref w3, .ref w4]))
  generalize upd H7 wr (.lst [.ref w0, .ref w1, .ref w2, .ref w3, .ref w4]) = H8 at sH8 hwr8 p8 B0 B1 B2 B3 B4 ⊢
  obtain ⟨wb, hat, Bb⟩ := five_at (B := BadL H8) cell B0 B1 B2 B3 B4
  clear B0 B1 B2 B3 B4 q4 q3 r0 r1 r2 q0 q1 q2 e0 e1 e2 e3 e4
  refine ⟨_, rfl, _, rfl, _, _, rfl, rfl, (by show (0 : Int) < 5; decide), wr, _, _, _, rfl, rfl, SqL.of hwr8, hat, ?_⟩
  refine ⟨_, rfl, a, ns, 5, rfl, Same.seq sH8 hS, by decide, _, _, rfl, rfl, ⟨by decide, by decide⟩, _, _, rfl, rfl, ⟨by decide, by decide, by decide⟩, _, _, rfl, rfl, (by show (0 : Int) < 10 ^ 20; decide), ?_⟩
  have f0 : (0 : Int) <= cellAt ns 5 / 4 % (10 ^ (20 : Int).toNat) := Int.emod_nonneg _ (by decide)
  obtain ⟨tt, hat2, htt⟩ := times_at (cellAt ns 5 / 4 % (10 ^ (20 : Int).toNat)) (cellAt ns 5) f0
  refine ⟨1, rfl, 1, rfl, _, rfl, _, _, rfl, rfl, _, rfl, _, _, rfl, rfl, by show 4 <= sizeLine; decide, fun L nL => ?_⟩
  refine ⟨_, rfl, a, ns, 5, rfl, Same.seq (sH8.trans (same_upd nL)) hS, by decide, _, _, rfl, rfl, (by show (0 : Int) < 4; decide), L, _, _, _, rfl, rfl, SqL.of upd_same, hat2, ?_⟩
  have s9 : Same H8 (upd H8 L (.lst [.int (-1), .int 1000001, .int (-1 - cellAt ns 5 / 4 % (10 ^ (20 : Int).toNat)), .int (1000001 + cellAt ns 5 / 4 % (10 ^ (20 : Int).toNat))])) := same_upd nL
  show tSeq _ _ _ _ (upd H8 L (.lst [.int (-1), .int 1000001, .int (-1 - cellAt ns 5 / 4 % (10 ^ (20 : Int).toNat)), .int (1000001 + cellAt ns 5 / 4 % (10 ^ (20 : Int).toNat))]))
  generalize upd H8 L (.lst [.int (-1), .int 1000001, .int (-1 - cellAt ns 5 / 4 % (10 ^ (20 : Int).toNat)), .int (1000001 + cellAt ns 5 / 4 % (10 ^ (20 : Int).toNat))]) = H9 at s9 ⊢
  have p9 := Pts.same s9 p8
  obtain ⟨bs, pb, nb, bb, sb⟩ := BadL.same s9 Bb
  obtain ⟨bas, hb1, hb2⟩ := id pb
  obtain ⟨as9, hc1, hc2⟩ := id p9
  refine ⟨_, rfl, by decide, by decide, ?_⟩
  refine for_range (fun i σ H' => (∃ u, σ = [some (.ref a), some (.ref c), some (.int cell), some (.ref al), some (.ref wr), some (.ref wb), some (.int (cellAt ns 5 / 4 % (10 ^ (20 : Int).toNat))), some (.int tt), u, none, none, none]) /\ Same H9 H') ⟨⟨none, rfl⟩, Same.refl _⟩ ?_ ?_
  ·rintro i σ H' hi ⟨⟨u, rfl⟩, sm⟩
   have hi : i < 14 := hi
   rw [Int.zero_add]
   refine g_go ?_
   refine ⟨_, rfl, _, rfl, wb, _, rfl, .inl (SqL.of (sm _ _ hb1)), fun l1 n1 => ?_⟩
   have t1 : Same H' (upd H' l1 (.lst (bas.map V.ref))) := same_upd n1
   have u1 : Pts (upd H' l1 (.lst (bas.map V.ref))) l1 bs := ⟨bas, upd_same, Ats.same (sm.trans t1) hb2⟩
   generalize upd H' l1 (.lst (bas.map V.ref)) = K1' at t1 u1 ⊢
   refine ⟨_, rfl, c, _, rfl, .inl (SqL.of ((sm.trans t1) _ _ hc1)), fun l2 n2 => ?_⟩
   have t2 : Same K1' (upd K1' l2 (.lst (as9.map V.ref))) := same_upd n2
   have u2 : Pts (upd K1' l2 (.lst (as9.map V.ref))) l2 cs := ⟨as9, upd_same, Ats.same (sm.trans (t1.trans t2)) hc2⟩
   refine ⟨_, rfl, ?_⟩
   refine met_shape (ps := bs) (qs := cs) (by omega) (by omega) (Pts.same t2 u1) nb bb sb u2 (by omega) b60 sl fun Hz sz => ?_
   exact ⟨rfl, _, rfl, iteNS rfl ⟨⟨_, rfl⟩, sm.trans (t1.trans (t2.trans sz))⟩⟩
  rintro σ HA ⟨⟨u, rfl⟩, sA⟩
  have pA := Pts.same sA p9
  refine ⟨_, rfl, _, rfl, _, rfl, ?_⟩
  refine met_number pA (by omega) b60 sl htt fun HB sB => ?_
  have pB := Pts.same sB pA
  refine ⟨rfl, _, rfl, iteNS rfl ?_⟩
  refine ⟨_, rfl, _, rfl, ?_⟩
  refine met_told (by decide) (by decide) (by decide) (.inr (.inr (.inr (by decide)))) (fun _ => ⟨by decide, by decide⟩) pB l0 b0 sl fun HC sC => ?_
  have pC := Pts.same sC pB
  refine ⟨rfl, _, rfl, iteNS rfl ?_⟩
  refine ⟨_, rfl, _, rfl, ?_⟩
  refine met_told (by decide) (by decide) (by decide) (.inr (.inr (.inr (by decide)))) (fun _ => ⟨by decide, by decide⟩) pC l0 b0 sl fun HD sD => ?_
  have pD := Pts.same sD pC
  refine ⟨rfl, _, rfl, iteNS rfl ?_⟩
  have m0 := Int.emod_nonneg (cell / 5) (show (30 : Int) ≠ 0 by decide)
  have m1' := Int.emod_lt_of_pos (cell / 5) (show (0 : Int) < 30 by decide)
  refine ⟨_, rfl, _, _, rfl, rfl, ⟨by decide, by decide⟩, _, _, rfl, rfl, (by show (0 : Int) < 30; decide), _, _, rfl, rfl, ?_⟩
  generalize hmany : 41 + cell / 5 % 30 = many
  have k0 := Int.emod_nonneg (cell / 160) (show (3 : Int) ≠ 0 by decide)
  have k1' := Int.emod_lt_of_pos (cell / 160) (show (0 : Int) < 3 by decide)
  obtain ⟨mn, hmn⟩ : ∃ mn : Nat, many = (mn : Int) := ⟨many.toNat, by omega⟩
  subst hmn
  refine ⟨_, rfl, _, rfl, by omega, by omega, fun D nDl => ?_⟩
  refine lc_range (lo := 0) (n := mn) (D := D) (fun i σ H' => (∃ u, σ = [u, some (.int cell)]) /\ Same HD H' /\ Pts H' D (lineM i 0 (cell / 160 % 3))) ⟨⟨none, rfl⟩, same_upd nDl, [], upd_same, .nil⟩ ?_ ?_
  ·rintro i σ H' hi ⟨⟨u, rfl⟩, sm, pt⟩
   rw [Int.zero_add]
   refine g_go ?_
   refine yes_go ?_
   refine ⟨_, rfl, _, rfl, _, rfl, _, _, rfl, rfl, ⟨by decide, by decide⟩, _, _, rfl, rfl, (by show (0 : Int) < 3; decide), _, _, rfl, rfl, .inl ⟨by omega, by omega⟩, by show 2 <= sizeLine; decide, fun t nt => ?_⟩
   have st : Same H' (upd H' t (.tup [.int (i : Int), .int ((i : Int) * (cell / 160 % 3))])) := same_upd nt
   obtain ⟨ys, y1, y2, y3, y4⟩ := pts_push (r := t) (v := ((i : Int), (i : Int) * (cell / 160 % 3))) nDl (sm.trans st) (Pts.same st pt) upd_same (by rw [line_len]; exact size100 (by omega))
   exact ⟨ys, y1, y2, ⟨_, rfl⟩, y3, by rw [line_next]; exact y4⟩
  rintro σ HE ⟨_, sE, pE⟩
  have pcE := Pts.same sE pD
  obtain ⟨las, hl1, hl2⟩ := id pE
  have llen : las.length = mn := by rw [Paired.length hl2, line_len]
  refine ⟨_, rfl, Nat.zero_le _, fun x1 nx1 => ?_⟩
  refine met_points (Pts.same (same_upd nx1) pE) (.inr (by rw [line_len]; omega)) (by rw [line_len]; omega) fun HF sF => ?_
  refine ⟨rfl, _, rfl, iteNS rfl ?_⟩
  refine ⟨Nat.zero_le _, fun x2 nx2 => ⟨Nat.zero_le _, fun x3 nx3 => ?_⟩⟩
  refine met_points (ps := []) (Pts.same (same_upd nx3) ⟨[], upd_same, .nil⟩) (.inl rfl) (by decide) fun HG sG => ?_
  refine ⟨rfl, _, rfl, iteNS rfl ?_⟩
  have sEG : Same HE HG := (same_upd nx1).trans (sF.trans ((same_upd nx2).trans ((same_upd nx3).trans sG)))
  refine ⟨_, rfl, _, rfl, D, _, rfl, SqL.of (sEG _ _ hl1), fun x4 nx4 => ?_⟩
  rw [show (40 : Int) = ((40 : Nat) : Int) from rfl, cut_to]
  have s4x : Same HG (upd HG x4 (.lst ((las.map V.ref).take 40))) := same_upd nx4
  have p4x : Pts (upd HG x4 (.lst ((las.map V.ref).take 40))) x4 ((lineM mn 0 (cell / 160 % 3)).take 40) := ⟨las.take 40, by rw [upd_same, List.map_take], Ats.take 40 (Ats.same (sEG.trans s4x) hl2)⟩
  refine ⟨Nat.zero_le _, fun x5 nx5 => ?_⟩
  refine met_hull (Pts.same (same_upd nx5) p4x) (by rw [List.length_take, line_len]; omega) (by rw [List.length_take]; omega) (fun p hp => line_bd (by omega) ⟨k0, k1'⟩ p (List.mem_of_mem_take hp)) fun HI sI => ?_
  refine ⟨rfl, _, rfl, iteNS rfl ?_⟩
  have z0 := Int.emod_nonneg (cell / 160) (show (9 : Int) ≠ 0 by decide)
  have z1 := Int.emod_lt_of_pos (cell / 160) (show (0 : Int) < 9 by decide)
  have pcI : Pts HI c cs := Pts.same (sEG.trans (s4x.trans ((same_upd nx5).trans sI))) pcE
  refine ⟨_, rfl, _, _, rfl, rfl, ⟨by decide, by decide⟩, _, _, rfl, rfl, (by show (0 : Int) < 9; decide), ?_⟩
  generalize cell / 160 % 9 = sz at z0 z1
  obtain ⟨g1, g2⟩ := stick_long sz ⟨z0, z1⟩
  refine ⟨by show 2 <= sizeLine; decide, fun t1 nt1 => ?_⟩
  refine ⟨_, rfl, _, _, rfl, rfl, by show 2 <= sizeLine; decide, fun t2 nt2 => ⟨by show 2 <= sizeLine; decide, fun x6 nx6 => ⟨Nat.zero_le _, fun x7 nx7 => ?_⟩⟩⟩
  have v2 := (same_upd (o := .tup [.int (6 + sz), .int 0]) nt2)
  have v3 := (same_upd (o := .lst [.ref t1, .ref t2]) nx6)
  have v4 := (same_upd (o := .lst []) nx7)
  refine met_long (ps := [(0, 0), (6 + sz, 0)]) ⟨[t1, t2], v4 _ _ upd_same, .cons (v4 _ _ (v3 _ _ (v2 _ _ upd_same))) (.cons (v4 _ _ (v3 _ _ upd_same)) .nil)⟩ (by show 2 <= 100; decide) (fun p hp => by
   rcases List.mem_cons.mp hp with rfl | hp
   ·unfold Bd; decide
   ·rw [List.mem_singleton.mp hp]
    unfold Bd
    dsimp only
    omega) g1 g2 fun HJ sJ => ?_
  refine ⟨rfl, _, rfl, iteNS rfl ?_⟩
  have pcJ := Pts.same ((same_upd nt1).trans (v2.trans (v3.trans (v4.trans sJ)))) pcI
  refine ⟨by show 2 <= sizeLine; decide, fun t3 nt3 => ⟨by show 2 <= sizeLine; decide, fun t4 nt4 => ⟨by show 2 <= sizeLine; decide, fun x8 nx8 => ⟨Nat.zero_le _, fun x9 nx9 => ?_⟩⟩⟩⟩
  have o2 := (same_upd (o := .tup [.int 5, .int 0]) nt4)
  have o3 := (same_upd (o := .lst [.ref t3, .ref t4]) nx8)
  have o4 := (same_upd (o := .lst []) nx9)
  refine met_part (ps := [(0, 0), (5, 0)]) ⟨[t3, t4], o4 _ _ upd_same, .cons (o4 _ _ (o3 _ _ (o2 _ _ upd_same))) (.cons (o4 _ _ (o3 _ _ upd_same)) .nil)⟩ (by decide) (small_bd (by decide +kernel) (by decide)) stick_short.1 stick_short.2 fun HL sL' => ?_
  refine ⟨rfl, _, rfl, iteNS rfl ?_⟩
  have pcL := Pts.same ((same_upd nt3).trans (o2.trans (o3.trans (o4.trans sL')))) pcJ
  refine ⟨by show 9 <= sizeLine; decide, fun xw nxw => ⟨xw, rfl, ⟨_, SqL.of upd_same⟩, ?_⟩⟩
  refine for_list (fun i σ H' => (∃ u v, σ = [some (.ref a), some (.ref c), some (.int cell), some (.ref al), some (.ref wr), some (.ref wb), some (.int (cellAt ns 5 / 4 % (10 ^ (20 : Int).toNat))), some (.int tt), u, some (.int (mn : Int)), some (.ref D), v]) /\ Same _ H') ⟨⟨_, _, rfl⟩, Same.refl _⟩ (fun i σ H' _ ⟨_, q⟩ => SqL.of (q _ _ upd_same)) ?_ ?_
  ·rintro i x σ H' ex ⟨⟨u, v, rfl⟩, sm⟩
   rw [List.getElem?_map] at ex
   obtain ⟨e, he, rfl⟩ := Option.map_eq_some_iff.mp ex
   have okE := List.all_eq_true.mp (show List.all _ okWay = true by kernel_rfl) e (List.mem_of_getElem? he)
   obtain ⟨o1, o2, o3, o4⟩ := of_decide_eq_true okE
   refine g_go ?_
   refine ⟨_, rfl, _, rfl, _, rfl, ?_⟩
   refine met_told o1 o2 o3 o4 (fun _ => ⟨by decide, by decide⟩) (Pts.same ((same_upd nxw).trans sm) pcL) l0 b0 sl fun Hz sz => ?_
   exact ⟨rfl, _, rfl, iteNS rfl ⟨⟨_, _, rfl⟩, sm.trans sz⟩⟩
  rintro σ H' ⟨⟨u, v, rfl⟩, sm⟩
  exact k H'
end
end K1
namespace K1
open PySem L2
noncomputable def Left (K : PySem.W.Frag) (x : Str) (st : Stmt) (f : Addr) : Prop := ∃ fd, Fun K x x st f fd
theorem left_mk {K : PySem.W.Frag} {x : Str} {st : Stmt} {f : Addr} {oc : Value} {od an : Option Addr} {osl : Array (Option Value)} {kV doc pm cdv ct : Value}
  (l : K.lookup f = some ⟨oc, od, .func (PySem.W.fnOf x x (defArgs st) (defBody st) (defScope st) .none kV doc pm an cdv ct), osl⟩) (c : PySem.W.codeIn K cdv x = true) (k : PySem.W.keepIn K (.ref f) = true) : Left K x st f := ⟨_, fun_mk l c k⟩
theorem len3 {l : List Value} (h : l.length = 3) : ∃ a b c, l = [a, b, c] := by
 obtain ⟨a, t, rfl⟩ := List.exists_cons_of_length_pos (Nat.lt_of_lt_of_eq (Nat.succ_pos 2) h.symm)
 obtain ⟨b, c, rfl⟩ := RS.two_of (Nat.succ.inj h)
 exact ⟨a, b, c, rfl⟩
theorem len4 {l : List Value} (h : l.length = 4) : ∃ a b c d, l = [a, b, c, d] := by
 obtain ⟨a, t, rfl⟩ := List.exists_cons_of_length_pos (Nat.lt_of_lt_of_eq (Nat.succ_pos 3) h.symm)
 obtain ⟨b, c, d, rfl⟩ := len3 (Nat.succ.inj h)
 exact ⟨a, b, c, d, rfl⟩
theorem all_mk {l : PySem.W.OpenLaw} {w : World} {K : PySem.W.Frag} {h : Heap} {mg : Str -> Option Value} {fa fAF fMV fSR fPR fTU fFH fGB fSW fTI fLE fAL fRO fIS fRF fSD fIO fLT fHP fHO fRC fMG fJO fTG fGR fSL fTO fDA fMX fSN fSO fTL fWY fNO fPA fCE fST fLC fLA fCH fHU fPO fSH fWI fON fTW fME fLW : Addr} (X : K.In h) (G : h.Ns mainGlobals mg) (hfa : mg "law" = some (.ref fa))
  {oc kV dc pm cd ct : Value} {od an : Option Addr} {sl : Array (Option Value)}
  (aAF : PySem.W.nsIn K mainGlobals "arrow_from" = some (some (.ref fAF)))
  (lAF : Left K "arrow_from" sArrowFrom fAF)
  (aMV : PySem.W.nsIn K mainGlobals "moved" = some (some (.ref fMV)))
  (lMV : Left K "moved" sMoved fMV)
  (aSR : PySem.W.nsIn K mainGlobals "stretched" = some (some (.ref fSR)))
  (lSR : Left K "stretched" sStretched fSR)
  (aPR : PySem.W.nsIn K mainGlobals "product" = some (some (.ref fPR)))
  (lPR : Left K "product" sProduct fPR)
  (aTU : PySem.W.nsIn K mainGlobals "turn" = some (some (.ref fTU)))
  (lTU : Left K "turn" sTurn fTU)
  (aFH : PySem.W.nsIn K mainGlobals "in_first_half" = some (some (.ref fFH)))
  (lFH : Left K "in_first_half" sFirst fFH)
  (aGB : PySem.W.nsIn K mainGlobals "goes_before" = some (some (.ref fGB)))
  (lGB : Left K "goes_before" sBefore fGB)
  (aSW : PySem.W.nsIn K mainGlobals "same_way" = some (some (.ref fSW)))
  (lSW : Left K "same_way" sSameWay fSW)
  (aTI : PySem.W.nsIn K mainGlobals "times_gone" = some (some (.ref fTI)))
  (lTI : Left K "times_gone" sTimes fTI)
  (aLE : PySem.W.nsIn K mainGlobals "least_arrow" = some (some (.ref fLE)))
  (lLE : Left K "least_arrow" sLeast fLE)
  (aAL : PySem.W.nsIn K mainGlobals "corners_along" = some (some (.ref fAL)))
  (lAL : Left K "corners_along" sAlong fAL)
  (aRO : PySem.W.nsIn K mainGlobals "arrows_round" = some (some (.ref fRO)))
  (lRO : Left K "arrows_round" sRound fRO)
  (aIS : PySem.W.nsIn K mainGlobals "is_shape" = some (some (.ref fIS)))
  (lIS : Left K "is_shape" sIsShape fIS)
  (aRF : PySem.W.nsIn K mainGlobals "refuse_no_shape" = some (some (.ref fRF)))
  (lRF : Left K "refuse_no_shape" sRefuse fRF)
  (aSD : PySem.W.nsIn K mainGlobals "sides" = some (some (.ref fSD)))
  (lSD : Left K "sides" sSidesP fSD)
  (aIO : PySem.W.nsIn K mainGlobals "in_order" = some (some (.ref fIO)))
  (lIO : Left K "in_order" sInOrder fIO)
  (aLT : PySem.W.nsIn K mainGlobals "left_turns" = some (some (.ref fLT)))
  (lLT : Left K "left_turns" sLeft fLT)
  (aHP : PySem.W.nsIn K mainGlobals "hull" = some (some (.ref fHP)))
  (lHP : Left K "hull" sHullP fHP)
  (aHO : PySem.W.nsIn K mainGlobals "holds" = some (some (.ref fHO)))
  (lHO : Left K "holds" sHolds fHO)
  (aRC : PySem.W.nsIn K mainGlobals "reach" = some (some (.ref fRC)))
  (lRC : Left K "reach" sReach fRC)
  (aMG : PySem.W.nsIn K mainGlobals "all_in_order" = some (some (.ref fMG)))
  (lMG : Left K "all_in_order" sAllIn fMG)
  (aJO : PySem.W.nsIn K mainGlobals "made_one" = some (some (.ref fJO)))
  (lJO : Left K "made_one" sMadeOne fJO)
  (aTG : PySem.W.nsIn K mainGlobals "together" = some (some (.ref fTG)))
  (lTG : Left K "together" sTogether fTG)
  (aGR : PySem.W.nsIn K mainGlobals "greater" = some (some (.ref fGR)))
  (lGR : Left K "greater" sGreater fGR)
  (aSL : PySem.W.nsIn K mainGlobals "side_like" = some (some (.ref fSL)))
  (lSL : Left K "side_like" sSideLike fSL)
  (aTO : PySem.W.nsIn K mainGlobals "taken_off" = some (some (.ref fTO)))
  (lTO : Left K "taken_off" sTaken fTO)
  (aDA : PySem.W.nsIn K mainGlobals "double_area" = some (some (.ref fDA)))
  (lDA : Left K "double_area" sDouble fDA)
  (aMX : PySem.W.nsIn K mainGlobals "mixed" = some (some (.ref fMX)))
  (lMX : Left K "mixed" sMixed fMX)
  (aSN : PySem.W.nsIn K mainGlobals "shown" = some (some (.ref fSN)))
  (lSN : Left K "shown" sShown fSN)
  (aSO : PySem.W.nsIn K mainGlobals "steps_of" = some (some (.ref fSO)))
  (lSO : Left K "steps_of" sStepsOf fSO)
  (aTL : PySem.W.nsIn K mainGlobals "refuse_too_long" = some (some (.ref fTL)))
  (lTL : Left K "refuse_too_long" sTooLong fTL)
  (aWY : PySem.W.nsIn K mainGlobals "ways_to_part" = some (some (.ref fWY)))
  (lWY : Left K "ways_to_part" sWays fWY)
  (aNO : PySem.W.nsIn K mainGlobals "come_to_nought" = some (some (.ref fNO)))
  (lNO : Left K "come_to_nought" sNought fNO)
  (aPA : PySem.W.nsIn K mainGlobals "parted" = some (some (.ref fPA)))
  (lPA : Left K "parted" sParted fPA)
  (aCE : PySem.W.nsIn K mainGlobals "_law_cell_at" = some (some (.ref fCE)))
  (lCE : Left K "_law_cell_at" sCell fCE)
  (aST : PySem.W.nsIn K mainGlobals "_law_stir" = some (some (.ref fST)))
  (lST : Left K "_law_stir" sStir fST)
  (aLC : PySem.W.nsIn K mainGlobals "_law_cross" = some (some (.ref fLC)))
  (lLC : Left K "_law_cross" sLCross fLC)
  (aLA : PySem.W.nsIn K mainGlobals "_law_arrow" = some (some (.ref fLA)))
  (lLA : Left K "_law_arrow" sLArrow fLA)
  (aCH : PySem.W.nsIn K mainGlobals "_law_chain" = some (some (.ref fCH)))
  (lCH : Left K "_law_chain" sChain fCH)
  (aHU : PySem.W.nsIn K mainGlobals "_law_hull" = some (some (.ref fHU)))
  (lHU : Left K "_law_hull" sHull fHU)
  (aPO : PySem.W.nsIn K mainGlobals "_law_points" = some (some (.ref fPO)))
  (lPO : Left K "_law_points" sPoints fPO)
  (aSH : PySem.W.nsIn K mainGlobals "_law_shape" = some (some (.ref fSH)))
  (lSH : Left K "_law_shape" sShape fSH)
  (aWI : PySem.W.nsIn K mainGlobals "_law_which" = some (some (.ref fWI)))
  (lWI : Left K "_law_which" sWhich fWI)
  (aON : PySem.W.nsIn K mainGlobals "_law_one" = some (some (.ref fON)))
  (lON : Left K "_law_one" sOne fON)
  (aTW : PySem.W.nsIn K mainGlobals "_law_two" = some (some (.ref fTW)))
  (lTW : Left K "_law_two" sTwo fTW)
  (aME : PySem.W.nsIn K mainGlobals "_law_met" = some (some (.ref fME)))
  (lME : Left K "_law_met" sMet fME)
  (aLW : PySem.W.nsIn K mainGlobals "law" = some (some (.ref fLW)))
  (lLW : K.lookup fLW = some ⟨oc, od, .func (PySem.W.fnOf "law" "law" (defArgs sLaw) (defBody sLaw) (defScope sLaw) .none kV dc pm an cd ct), sl⟩) (cLW : PySem.W.codeIn K cd "law" = true) (kLW : PySem.W.keepIn K (.ref fLW) = true)
  (z_zip : PySem.W.nsIn K mainGlobals "zip" = some none)
  (z_len : PySem.W.nsIn K mainGlobals "len" = some none)
  (z_all : PySem.W.nsIn K mainGlobals "all" = some none)
  (z_sorted : PySem.W.nsIn K mainGlobals "sorted" = some none)
  (z_set : PySem.W.nsIn K mainGlobals "set" = some none)
  (z_list : PySem.W.nsIn K mainGlobals "list" = some none)
  (z_reversed : PySem.W.nsIn K mainGlobals "reversed" = some none)
  (z_range : PySem.W.nsIn K mainGlobals "range" = some none)
  (z_isinstance : PySem.W.nsIn K mainGlobals "isinstance" = some none)
  (z_sum : PySem.W.nsIn K mainGlobals "sum" = some none)
  (z_abs : PySem.W.nsIn K mainGlobals "abs" = some none)
  (z_max : PySem.W.nsIn K mainGlobals "max" = some none)
  (z_ValueError : PySem.W.nsIn K mainGlobals "ValueError" = some none)
  {cR : Addr} (y_R : PySem.W.nsIn K mainGlobals "RoundError" = some (some (.ref cR)))
  {cN : Addr} (y_N : PySem.W.nsIn K mainGlobals "NoNote" = some (some (.ref cN)))
  {cM : Addr} (y_M : PySem.W.nsIn K mainGlobals "NoNumber" = some (some (.ref cM)))
  {cP : Addr} (y_P : PySem.W.nsIn K mainGlobals "NoPoints" = some (some (.ref cP)))
  {cS : Addr} (y_S : PySem.W.nsIn K mainGlobals "NoShape" = some (some (.ref cS)))
  {cT : Addr} (y_T : PySem.W.nsIn K mainGlobals "TooLong" = some (some (.ref cT)))
  (T_M : Told5 K cN cM cP cS cT cM false true false false false) (E_M : PySem.W.exmOne K (.ref cM) (.ref cR) = some true)
  (T_P : Told5 K cN cM cP cS cT cP false false true false false) (E_P : PySem.W.exmOne K (.ref cP) (.ref cR) = some true)
  (T_S : Told5 K cN cM cP cS cT cS false false false true false) (E_S : PySem.W.exmOne K (.ref cS) (.ref cR) = some true)
  (T_T : Told5 K cN cM cP cS cT cT false false false false true) (E_T : PySem.W.exmOne K (.ref cT) (.ref cR) = some true)
  {t_MOST_POINTS : Tok} (z_MOST_POINTS : PySem.W.nsIn K mainGlobals "MOST_POINTS" = some (some (.int 40 t_MOST_POINTS)))
  {t_MOST_TIMES : Tok} (z_MOST_TIMES : PySem.W.nsIn K mainGlobals "MOST_TIMES" = some (some (.int 1000000 t_MOST_TIMES)))
  {t_MOST_STEPS : Tok} (z_MOST_STEPS : PySem.W.nsIn K mainGlobals "MOST_STEPS" = some (some (.int 10 t_MOST_STEPS)))
  : ∃ fd : FuncData, (∀ (s : Shared) (v : Value), BindsTo s fd ⟨[v], []⟩ [("script", v)]) /\ ∀ base : Heap, K.In base -> base.Ns mainGlobals mg -> FnOk l.prog w K mg base CX0 11 fa fd ["script"] (spLaw K) := by
 have e := hfa.symm.trans (PySem.W.mg_of X G aLW)
 cases e
 obtain ⟨dAF, FAF⟩ := lAF
 have bAF := FAF.binds (ps := ["start", "end"]) fun _ _ _ _ _ _ us hl => by obtain ⟨_, _, rfl⟩ := RS.two_of hl; rfl
 have mAF := PySem.W.mg_of X G aAF
 obtain ⟨dMV, FMV⟩ := lMV
 have bMV := FMV.binds (ps := ["point", "arrow"]) fun _ _ _ _ _ _ us hl => by obtain ⟨_, _, rfl⟩ := RS.two_of hl; rfl
 have mMV := PySem.W.mg_of X G aMV
 obtain ⟨dSR, FSR⟩ := lSR
 have bSR := FSR.binds (ps := ["arrow", "times"]) fun _ _ _ _ _ _ us hl => by obtain ⟨_, _, rfl⟩ := RS.two_of hl; rfl
 have mSR := PySem.W.mg_of X G aSR
 obtain ⟨dPR, FPR⟩ := lPR
 have bPR := FPR.binds (ps := ["one", "other"]) fun _ _ _ _ _ _ us hl => by obtain ⟨_, _, rfl⟩ := RS.two_of hl; rfl
 have mPR := PySem.W.mg_of X G aPR
 obtain ⟨dTU, FTU⟩ := lTU
 have bTU := FTU.binds (ps := ["one", "other"]) fun _ _ _ _ _ _ us hl => by obtain ⟨_, _, rfl⟩ := RS.two_of hl; rfl
 have mTU := PySem.W.mg_of X G aTU
 obtain ⟨dFH, FFH⟩ := lFH
 have bFH := FFH.binds (ps := ["arrow"]) fun _ _ _ _ _ _ us hl => by obtain ⟨_, rfl⟩ := List.length_eq_one_iff.mp hl; rfl
 have mFH := PySem.W.mg_of X G aFH
 obtain ⟨dGB, FGB⟩ := lGB
 have bGB := FGB.binds (ps := ["one", "other"]) fun _ _ _ _ _ _ us hl => by obtain ⟨_, _, rfl⟩ := RS.two_of hl; rfl
 have mGB := PySem.W.mg_of X G aGB
 obtain ⟨dSW, FSW⟩ := lSW
 have bSW := FSW.binds (ps := ["one", "other"]) fun _ _ _ _ _ _ us hl => by obtain ⟨_, _, rfl⟩ := RS.two_of hl; rfl
 have mSW := PySem.W.mg_of X G aSW
 obtain ⟨dTI, FTI⟩ := lTI
 have bTI := FTI.binds (ps := ["arrow"]) fun _ _ _ _ _ _ us hl => by obtain ⟨_, rfl⟩ := List.length_eq_one_iff.mp hl; rfl
 have mTI := PySem.W.mg_of X G aTI
 obtain ⟨dLE, FLE⟩ := lLE
 have bLE := FLE.binds (ps := ["arrow"]) fun _ _ _ _ _ _ us hl => by obtain ⟨_, rfl⟩ := List.length_eq_one_iff.mp hl; rfl
 have mLE := PySem.W.mg_of X G aLE
 obtain ⟨dAL, FAL⟩ := lAL
 have bAL := FAL.binds (ps := ["first", "arrows"]) fun _ _ _ _ _ _ us hl => by obtain ⟨_, _, rfl⟩ := RS.two_of hl; rfl
 have mAL := PySem.W.mg_of X G aAL
 obtain ⟨dRO, FRO⟩ := lRO
 have bRO := FRO.binds (ps := ["corners"]) fun _ _ _ _ _ _ us hl => by obtain ⟨_, rfl⟩ := List.length_eq_one_iff.mp hl; rfl
 have mRO := PySem.W.mg_of X G aRO
 obtain ⟨dIS, FIS⟩ := lIS
 have bIS := FIS.binds (ps := ["corners"]) fun _ _ _ _ _ _ us hl => by obtain ⟨_, rfl⟩ := List.length_eq_one_iff.mp hl; rfl
 have mIS := PySem.W.mg_of X G aIS
 obtain ⟨dRF, FRF⟩ := lRF
 have bRF := FRF.binds (ps := ["corners"]) fun _ _ _ _ _ _ us hl => by obtain ⟨_, rfl⟩ := List.length_eq_one_iff.mp hl; rfl
 have mRF := PySem.W.mg_of X G aRF
 obtain ⟨dSD, FSD⟩ := lSD
 have bSD := FSD.binds (ps := ["corners"]) fun _ _ _ _ _ _ us hl => by obtain ⟨_, rfl⟩ := List.length_eq_one_iff.mp hl; rfl
 have mSD := PySem.W.mg_of X G aSD
 obtain ⟨dIO, FIO⟩ := lIO
 have bIO := FIO.binds (ps := ["points"]) fun _ _ _ _ _ _ us hl => by obtain ⟨_, rfl⟩ := List.length_eq_one_iff.mp hl; rfl
 have mIO := PySem.W.mg_of X G aIO
 obtain ⟨dLT, FLT⟩ := lLT
 have bLT := FLT.binds (ps := ["points"]) fun _ _ _ _ _ _ us hl => by obtain ⟨_, rfl⟩ := List.length_eq_one_iff.mp hl; rfl
 have mLT := PySem.W.mg_of X G aLT
 obtain ⟨dHP, FHP⟩ := lHP
 have bHP := FHP.binds (ps := ["points"]) fun _ _ _ _ _ _ us hl => by obtain ⟨_, rfl⟩ := List.length_eq_one_iff.mp hl; rfl
 have mHP := PySem.W.mg_of X G aHP
 obtain ⟨dHO, FHO⟩ := lHO
 have bHO := FHO.binds (ps := ["corners", "point"]) fun _ _ _ _ _ _ us hl => by obtain ⟨_, _, rfl⟩ := RS.two_of hl; rfl
 have mHO := PySem.W.mg_of X G aHO
 obtain ⟨dRC, FRC⟩ := lRC
 have bRC := FRC.binds (ps := ["corners", "arrow"]) fun _ _ _ _ _ _ us hl => by obtain ⟨_, _, rfl⟩ := RS.two_of hl; rfl
 have mRC := PySem.W.mg_of X G aRC
 obtain ⟨dMG, FMG⟩ := lMG
 have bMG := FMG.binds (ps := ["ones", "others"]) fun _ _ _ _ _ _ us hl => by obtain ⟨_, _, rfl⟩ := RS.two_of hl; rfl
 have mMG := PySem.W.mg_of X G aMG
 obtain ⟨dJO, FJO⟩ := lJO
 have bJO := FJO.binds (ps := ["arrows"]) fun _ _ _ _ _ _ us hl => by obtain ⟨_, rfl⟩ := List.length_eq_one_iff.mp hl; rfl
 have mJO := PySem.W.mg_of X G aJO
 obtain ⟨dTG, FTG⟩ := lTG
 have bTG := FTG.binds (ps := ["one", "other"]) fun _ _ _ _ _ _ us hl => by obtain ⟨_, _, rfl⟩ := RS.two_of hl; rfl
 have mTG := PySem.W.mg_of X G aTG
 obtain ⟨dGR, FGR⟩ := lGR
 have bGR := FGR.binds (ps := ["corners", "times"]) fun _ _ _ _ _ _ us hl => by obtain ⟨_, _, rfl⟩ := RS.two_of hl; rfl
 have mGR := PySem.W.mg_of X G aGR
 obtain ⟨dSL, FSL⟩ := lSL
 have bSL := FSL.binds (ps := ["arrow", "arrows"]) fun _ _ _ _ _ _ us hl => by obtain ⟨_, _, rfl⟩ := RS.two_of hl; rfl
 have mSL := PySem.W.mg_of X G aSL
 obtain ⟨dTO, FTO⟩ := lTO
 have bTO := FTO.binds (ps := ["one", "other"]) fun _ _ _ _ _ _ us hl => by obtain ⟨_, _, rfl⟩ := RS.two_of hl; rfl
 have mTO := PySem.W.mg_of X G aTO
 obtain ⟨dDA, FDA⟩ := lDA
 have bDA := FDA.binds (ps := ["corners"]) fun _ _ _ _ _ _ us hl => by obtain ⟨_, rfl⟩ := List.length_eq_one_iff.mp hl; rfl
 have mDA := PySem.W.mg_of X G aDA
 obtain ⟨dMX, FMX⟩ := lMX
 have bMX := FMX.binds (ps := ["one", "other"]) fun _ _ _ _ _ _ us hl => by obtain ⟨_, _, rfl⟩ := RS.two_of hl; rfl
 have mMX := PySem.W.mg_of X G aMX
 obtain ⟨dSN, FSN⟩ := lSN
 have bSN := FSN.binds (ps := ["corners"]) fun _ _ _ _ _ _ us hl => by obtain ⟨_, rfl⟩ := List.length_eq_one_iff.mp hl; rfl
 have mSN := PySem.W.mg_of X G aSN
 obtain ⟨dSO, FSO⟩ := lSO
 have bSO := FSO.binds (ps := ["corners"]) fun _ _ _ _ _ _ us hl => by obtain ⟨_, rfl⟩ := List.length_eq_one_iff.mp hl; rfl
 have mSO := PySem.W.mg_of X G aSO
 obtain ⟨dTL, FTL⟩ := lTL
 have bTL := FTL.binds (ps := ["corners"]) fun _ _ _ _ _ _ us hl => by obtain ⟨_, rfl⟩ := List.length_eq_one_iff.mp hl; rfl
 have mTL := PySem.W.mg_of X G aTL
 obtain ⟨dWY, FWY⟩ := lWY
 have bWY := FWY.binds (ps := ["steps"]) fun _ _ _ _ _ _ us hl => by obtain ⟨_, rfl⟩ := List.length_eq_one_iff.mp hl; rfl
 have mWY := PySem.W.mg_of X G aWY
 obtain ⟨dNO, FNO⟩ := lNO
 have bNO := FNO.binds (ps := ["arrows"]) fun _ _ _ _ _ _ us hl => by obtain ⟨_, rfl⟩ := List.length_eq_one_iff.mp hl; rfl
 have mNO := PySem.W.mg_of X G aNO
 obtain ⟨dPA, FPA⟩ := lPA
 have bPA := FPA.binds (ps := ["corners"]) fun _ _ _ _ _ _ us hl => by obtain ⟨_, rfl⟩ := List.length_eq_one_iff.mp hl; rfl
 have mPA := PySem.W.mg_of X G aPA
 obtain ⟨dCE, FCE⟩ := lCE
 have bCE := FCE.binds (ps := ["script", "k"]) fun _ _ _ _ _ _ us hl => by obtain ⟨_, _, rfl⟩ := RS.two_of hl; rfl
 have mCE := PySem.W.mg_of X G aCE
 obtain ⟨dST, FST⟩ := lST
 have bST := FST.binds (ps := ["seed"]) fun _ _ _ _ _ _ us hl => by obtain ⟨_, rfl⟩ := List.length_eq_one_iff.mp hl; rfl
 have mST := PySem.W.mg_of X G aST
 obtain ⟨dLC, FLC⟩ := lLC
 have bLC := FLC.binds (ps := ["one", "other"]) fun _ _ _ _ _ _ us hl => by obtain ⟨_, _, rfl⟩ := RS.two_of hl; rfl
 have mLC := PySem.W.mg_of X G aLC
 obtain ⟨dLA, FLA⟩ := lLA
 have bLA := FLA.binds (ps := ["one", "other"]) fun _ _ _ _ _ _ us hl => by obtain ⟨_, _, rfl⟩ := RS.two_of hl; rfl
 have mLA := PySem.W.mg_of X G aLA
 obtain ⟨dCH, FCH⟩ := lCH
 have bCH := FCH.binds (ps := ["points"]) fun _ _ _ _ _ _ us hl => by obtain ⟨_, rfl⟩ := List.length_eq_one_iff.mp hl; rfl
 have mCH := PySem.W.mg_of X G aCH
 obtain ⟨dHU, FHU⟩ := lHU
 have bHU := FHU.binds (ps := ["points"]) fun _ _ _ _ _ _ us hl => by obtain ⟨_, rfl⟩ := List.length_eq_one_iff.mp hl; rfl
 have mHU := PySem.W.mg_of X G aHU
 obtain ⟨dPO, FPO⟩ := lPO
 have bPO := FPO.binds (ps := ["script", "at", "most"]) fun _ _ _ _ _ _ us hl => by obtain ⟨_, _, _, rfl⟩ := len3 hl; rfl
 have mPO := PySem.W.mg_of X G aPO
 obtain ⟨dSH, FSH⟩ := lSH
 have bSH := FSH.binds (ps := ["script", "at", "most"]) fun _ _ _ _ _ _ us hl => by obtain ⟨_, _, _, rfl⟩ := len3 hl; rfl
 have mSH := PySem.W.mg_of X G aSH
 obtain ⟨dWI, FWI⟩ := lWI
 have bWI := FWI.binds (ps := ["e"]) fun _ _ _ _ _ _ us hl => by obtain ⟨_, rfl⟩ := List.length_eq_one_iff.mp hl; rfl
 have mWI := PySem.W.mg_of X G aWI
 obtain ⟨dON, FON⟩ := lON
 have bON := FON.binds (ps := ["way", "corners", "times"]) fun _ _ _ _ _ _ us hl => by obtain ⟨_, _, _, rfl⟩ := len3 hl; rfl
 have mON := PySem.W.mg_of X G aON
 obtain ⟨dTW, FTW⟩ := lTW
 have bTW := FTW.binds (ps := ["way", "corners", "other"]) fun _ _ _ _ _ _ us hl => by obtain ⟨_, _, _, rfl⟩ := len3 hl; rfl
 have mTW := PySem.W.mg_of X G aTW
 obtain ⟨dME, FME⟩ := lME
 have bME := FME.binds (ps := ["way", "corners", "other", "times"]) fun _ _ _ _ _ _ us hl => by obtain ⟨_, _, _, _, rfl⟩ := len4 hl; rfl
 have mME := PySem.W.mg_of X G aME
 have FLW := fun_mk (st := sLaw) lLW cLW kLW
 have n_zip := PySem.W.mg_none_of X G z_zip
 have n_len := PySem.W.mg_none_of X G z_len
 have n_all := PySem.W.mg_none_of X G z_all
 have n_sorted := PySem.W.mg_none_of X G z_sorted
 have n_set := PySem.W.mg_none_of X G z_set
 have n_list := PySem.W.mg_none_of X G z_list
 have n_reversed := PySem.W.mg_none_of X G z_reversed
 have n_range := PySem.W.mg_none_of X G z_range
 have n_isinstance := PySem.W.mg_none_of X G z_isinstance
 have n_sum := PySem.W.mg_none_of X G z_sum
 have n_abs := PySem.W.mg_none_of X G z_abs
 have n_max := PySem.W.mg_none_of X G z_max
 have n_ValueError := PySem.W.mg_none_of X G z_ValueError
 have m_R := PySem.W.mg_of X G y_R
 have m_N := PySem.W.mg_of X G y_N
 have m_M := PySem.W.mg_of X G y_M
 have m_P := PySem.W.mg_of X G y_P
 have m_S := PySem.W.mg_of X G y_S
 have m_T := PySem.W.mg_of X G y_T
 have C5 : Five mg cN cM cP cS cT := ⟨m_N, m_M, m_P, m_S, m_T⟩
 have n_MOST_POINTS := PySem.W.mg_of X G z_MOST_POINTS
 have n_MOST_TIMES := PySem.W.mg_of X G z_MOST_TIMES
 have n_MOST_STEPS := PySem.W.mg_of X G z_MOST_STEPS
 refine ⟨PySem.W.fnOf "law" "law" (defArgs sLaw) (defBody sLaw) (defScope sLaw) .none kV dc pm an cd ct, fun s v => .of_eq rfl, fun base _ _ => ?_⟩
 have gAF := ok_arrow_from (P := l.prog) (w := w) (mg := mg) (base := base) FAF
 have gTU := ok_turn (P := l.prog) (w := w) (mg := mg) (base := base) FTU
 have gPR := ok_product (P := l.prog) (w := w) (mg := mg) (base := base) FPR
 have gMV := ok_moved (P := l.prog) (w := w) (mg := mg) (base := base) FMV
 have gSR := ok_stretched (P := l.prog) (w := w) (mg := mg) (base := base) FSR
 have gSW := ok_same FSW gTU FTU.kp bTU mTU gPR FPR.kp bPR mPR
 have gAL := ok_along FAL gMV FMV.kp bMV mMV
 have gRO := ok_round (P := l.prog) (w := w) (base := base) FRO FAF bAF mAF n_zip
 have gGB := ok_before (P := l.prog) (w := w) (base := base) FGB FFH bFH mFH FTU bTU mTU
 have gIS := ok_is_shape FIS gRO FRO.kp bRO mRO gGB FGB.kp bGB mGB n_zip n_len n_all
 have gCE := ok_cell (P := l.prog) (w := w) (base := base) FCE n_len
 have gST := ok_stir (P := l.prog) (w := w) (mg := mg) (base := base) FST
 have gLC := ok_lcross (P := l.prog) (w := w) (mg := mg) (base := base) FLC
 have gLA := ok_larrow (P := l.prog) (w := w) (mg := mg) (base := base) FLA
 have gCH := ok_chain FCH gLC FLC.kp bLC mLC gLA FLA.kp bLA mLA n_len
 have gHU := ok_hull FHU gCH FCH.kp bCH mCH n_len n_sorted n_set n_list n_reversed
 have gPO := ok_points FPO gCE FCE.kp bCE mCE gST FST.kp bST mST n_range
 have gSH := ok_shape FSH gPO FPO.kp bPO mPO gHU FHU.kp bHU mHU
 have gRF := ok_refuse FRF gIS FIS.kp bIS mIS
 have gSD := ok_sidesP FSD gRF FRF.kp bRF mRF gRO FRO.kp bRO mRO n_len
 have gHO := ok_holds FHO gSD FSD.kp bSD mSD gTU FTU.kp bTU mTU gAF FAF.kp bAF mAF gPR FPR.kp bPR mPR n_len n_zip
 have gRC := ok_reach FRC gRF FRF.kp bRF mRF gPR FPR.kp bPR mPR n_max
 have gIO := ok_in_order (P := l.prog) (w := w) (base := base) FIO n_sorted n_set
 have gLT := ok_left FLT gTU FTU.kp bTU mTU gAF FAF.kp bAF mAF n_len
 have gHP := ok_hullP FHP gIO FIO.kp bIO mIO gLT FLT.kp bLT mLT n_len n_list n_reversed n_MOST_POINTS
 have gMG := ok_merge FMG gGB FGB.kp bGB mGB n_len
 have gJO := ok_join FJO gSW FSW.kp bSW mSW gMV FMV.kp bMV mMV n_len
 have gTG := ok_together FTG gSD FSD.kp bSD mSD gMV FMV.kp bMV mMV gMG FMG.kp bMG mMG gJO FJO.kp bJO mJO gAL FAL.kp bAL mAL
 have gGR := ok_greater FGR gRF FRF.kp bRF mRF gSR FSR.kp bSR mSR n_MOST_TIMES
 have gTI := ok_times (P := l.prog) (w := w) (base := base) FTI n_abs
 have gLE := ok_least FLE gTI FTI.kp bTI mTI
 have gSL := ok_side_like FSL gSW FSW.kp bSW mSW
 have gTO := ok_taken FTO gSD FSD.kp bSD mSD gTI FTI.kp bTI mTI gSL FSL.kp bSL mSL gAF FAF.kp bAF mAF gAL FAL.kp bAL mAL
 have gDA := ok_double FDA gSD FSD.kp bSD mSD gTU FTU.kp bTU mTU n_zip n_sum
 have gMX := ok_mixed FMX gTG FTG.kp bTG mTG gDA FDA.kp bDA mDA
 have gSN := ok_shown FSN gRF FRF.kp bRF mRF
 have gSO := ok_steps_of FSO gSD FSD.kp bSD mSD gLE FLE.kp bLE mLE gTI FTI.kp bTI mTI
 have gTL := ok_too_longX FTL gSD FSD.kp bSD mSD gTI FTI.kp bTI mTI n_sum n_MOST_STEPS m_T T_T.ex.ex
 have gWY := ok_ways (P := l.prog) (w := w) (mg := mg) (base := base) FWY
 have gNO := ok_nought FNO gMV FMV.kp bMV mMV
 have gPA := ok_part02 FPA gTL FTL.kp bTL mTL gSO FSO.kp bSO mSO gWY FWY.kp bWY mWY gNO FNO.kp bNO mNO gJO FJO.kp bJO mJO gAL FAL.kp bAL mAL n_len
 have xRF := bad_refuse FRF gIS FIS.kp bIS mIS m_S T_S.ex.ex
 have xSD := bad_sides FSD xRF FRF.kp bRF mRF
 have xHO := bad_holds FHO xSD FSD.kp bSD mSD
 have xRC := bad_reach FRC xRF FRF.kp bRF mRF
 have xGR := bad_greater FGR xRF FRF.kp bRF mRF
 have yGR := bad_times FGR gRF FRF.kp bRF mRF n_MOST_TIMES m_M T_M.ex.ex
 have xSN := bad_shown FSN xRF FRF.kp bRF mRF
 have xDA := bad_double FDA xSD FSD.kp bSD mSD gTU FTU.kp bTU mTU n_zip n_sum
 have xSO := bad_steps FSO xSD FSD.kp bSD mSD
 have xTL := bad_too_long FTL xSD FSD.kp bSD mSD gTI FTI.kp bTI mTI n_sum n_MOST_STEPS
 have xPA := bad_parted FPA xTL FTL.kp bTL mTL
 have xTG := bad_together FTG xSD FSD.kp bSD mSD
 have yTG := badB_together FTG gSD xSD FSD.kp bSD mSD
 have xTO := bad_taken FTO xSD FSD.kp bSD mSD
 have yTO := badB_taken FTO gSD xSD FSD.kp bSD mSD
 have xMX := bad_mixed FMX xTG FTG.kp bTG mTG
 have yMX := badB_mixed FMX yTG FTG.kp bTG mTG
 have xHP := bad_hull (P := l.prog) (w := w) (base := base) FHP n_len n_MOST_POINTS m_P T_P.ex.ex
 have uSD := FnOk.or (xSD.mono (k := 8) (by decide)) (gSD.up.mono (k := 8) (by decide))
 have uHO := FnOk.or (xHO.mono (k := 8) (by decide)) (gHO.up.mono (k := 8) (by decide))
 have uRC := FnOk.or (xRC.mono (k := 8) (by decide)) (gRC.up.mono (k := 8) (by decide))
 have uGR := FnOk.or (xGR.mono (k := 8) (by decide)) (FnOk.or (gGR.up.mono (k := 8) (by decide)) (yGR.mono (k := 8) (by decide)))
 have uDA := FnOk.or (xDA.mono (k := 8) (by decide)) (gDA.up.mono (k := 8) (by decide))
 have uSO := FnOk.or (xSO.mono (k := 8) (by decide)) (gSO.up.mono (k := 8) (by decide))
 have uPA := FnOk.or (xPA.mono (k := 8) (by decide)) (gPA.mono (k := 8) (by decide))
 have uSN := FnOk.or (xSN.mono (k := 8) (by decide)) (gSN.up.mono (k := 8) (by decide))
 have uTG := FnOk.or (xTG.mono (k := 8) (by decide)) (FnOk.or (yTG.mono (k := 8) (by decide)) (gTG.up.mono (k := 8) (by decide)))
 have uTO := FnOk.or (xTO.mono (k := 8) (by decide)) (FnOk.or (yTO.mono (k := 8) (by decide)) (gTO.up.mono (k := 8) (by decide)))
 have uMX := FnOk.or (xMX.mono (k := 8) (by decide)) (FnOk.or (yMX.mono (k := 8) (by decide)) (gMX.up.mono (k := 8) (by decide)))
 have uHP := FnOk.or (xHP.mono (k := 9) (by decide)) (gHP.up.mono (k := 9) (by decide))
 have iS := ok_which (j := 3) (out := "shape") (P := l.prog) (w := w) (base := base) FWI C5 T_S rfl rfl (by decide) rfl n_isinstance n_ValueError
 have iM := ok_which (j := 1) (out := "number") (P := l.prog) (w := w) (base := base) FWI C5 T_M rfl rfl (by decide) rfl n_isinstance n_ValueError
 have iP := ok_which (j := 2) (out := "points") (P := l.prog) (w := w) (base := base) FWI C5 T_P rfl rfl (by decide) rfl n_isinstance n_ValueError
 have iT := ok_which (j := 4) (out := "long") (P := l.prog) (w := w) (base := base) FWI C5 T_T rfl rfl (by decide) rfl n_isinstance n_ValueError
 have gON := ok_one FON uSD FSD.kp bSD mSD uHO FHO.kp bHO mHO uRC FRC.kp bRC mRC uGR FGR.kp bGR mGR uDA FDA.kp bDA mDA uSO FSO.kp bSO mSO uPA FPA.kp bPA mPA uSN FSN.kp bSN mSN
 have gTW := ok_two FTW uTG FTG.kp bTG mTG uTO FTO.kp bTO mTO uMX FMX.kp bMX mMX
 have gME := True.intro
 exact ok_law FLW gSH FSH.kp bSH mSH gCE FCE.kp bCE mCE (ok_met FME gON FON.kp bON mON gTW FTW.kp bTW mTW uHP FHP.kp bHP mHP iS FWI.kp bWI mWI m_R E_S) (ok_met FME gON FON.kp bON mON gTW FTW.kp bTW mTW uHP FHP.kp bHP mHP iM FWI.kp bWI mWI m_R E_M) (ok_met FME gON FON.kp bON mON gTW FTW.kp bTW mTW uHP FHP.kp bHP mHP iP FWI.kp bWI mWI m_R E_P) (ok_met FME gON FON.kp bON mON gTW FTW.kp bTW mTW uHP FHP.kp bHP mHP iT FWI.kp bWI mWI m_R E_T) FME.kp bME mME n_list n_range
theorem walk {l : PySem.W.OpenLaw} {q : Program} {loose : List Str} {XP : (Str -> Option Value) -> Heap -> Prop} {YP : World -> Heap -> Prop} {d : DefRec} {K : Params -> PySem.W.Frag} (hn : l.most = some 63) (hdf : d.params.defaults = [])
  (hY : ∀ (w : World) (h : Heap), YP w h -> (K w.params).In h)
  (F : ∀ (w : World) (mg : Str -> Option Value) (fa : Addr) (h : Heap), (K w.params).In h -> h.Ns mainGlobals mg -> mg d.name = some (.ref fa) ->
   ∃ fd : FuncData, (∀ (s : Shared) (u : Value), BindsTo s fd ⟨[u], []⟩ [("script", u)]) /\ ∀ base : Heap, (K w.params).In base -> base.Ns mainGlobals mg -> FnOk l.prog w (K w.params) mg base CX0 11 fa fd ["script"] (spLaw (K w.params))) :
  PySem.W.WalkO q loose XP YP l.row.toRowW d [] (fun f vs => PySem.call f vs) :=
 L2.walk_of (n := 63) (k := 11) (x := "script") (CX := fun _ => CX0) (sp := fun w => spLaw (K w.params)) hn (by decide) hdf ⟨rfl, by decide, by decide⟩ hY F (fun _ _ a ns _ _ hS => ⟨a, ns, rfl, hS, fun _ => rfl⟩) fun _ _ _ _ _ z => z
end K1
open PySem PySem.W PyProof.Rows
set_option maxRecDepth 100000 in
set_option maxHeartbeats 0 in
theorem PySem.Challenge.cw_roundsum_k02_refused_holds : PySem.Challenge.rw_roundsum_k02_refused.Holds := by
 w_on; o_law
 refine holds_open (q := KH.seenQ) (loose := []) (Xt := KH.seenX) (XP := XL KH.seenQ []) (Yf := (kHook KH.heapK KH.heapAs KH.hookE).obs) (Ya := (kHook KH.heapK KH.heapAs KH.hookE).val) (YP := (kHook KH.heapK KH.heapAs KH.hookE).says) KH.left_law (kHook KH.heapK KH.heapAs KH.hookE).of (kHook KH.heapK KH.heapAs KH.hookE).keeps
  (fun s e => xl_of s (Bool.and_eq_true_iff.mp e).1) XL.keeps (by rfl) (by rfl) (by rfl) (fun s e => recFacts_of (Bool.and_eq_true_iff.mp e).2) (by rfl) (by first | assumption | decide +kernel) (by decide +kernel) ⟨rfl, rfl, rfl, rfl, rfl, by decide +kernel⟩ ?hw ?hc
 case hw => w_witness2
 k_fill
 refine K1.walk (l := PySem.Challenge.rw_roundsum_k02_refused) rfl rfl (fun w h Y => PySem.W.kIn_of Y) ?F
 case F =>
  intro w mg fa h KX G hmg
  refine' K1.all_mk KX G hmg ?aAF (K1.left_mk ?lAF ?cAF ?kAF) ?aMV (K1.left_mk ?lMV ?cMV ?kMV) ?aSR (K1.left_mk ?lSR ?cSR ?kSR) ?aPR (K1.left_mk ?lPR ?cPR ?kPR) ?aTU (K1.left_mk ?lTU ?cTU ?kTU) ?aFH (K1.left_mk ?lFH ?cFH ?kFH) ?aGB (K1.left_mk ?lGB ?cGB ?kGB) ?aSW (K1.left_mk ?lSW ?cSW ?kSW) ?aTI (K1.left_mk ?lTI ?cTI ?kTI) ?aLE (K1.left_mk ?lLE ?cLE ?kLE) ?aAL (K1.left_mk ?lAL ?cAL ?kAL) ?aRO (K1.left_mk ?lRO ?cRO ?kRO) ?aIS (K1.left_mk ?lIS ?cIS ?kIS) ?aRF (K1.left_mk ?lRF ?cRF ?kRF) ?aSD (K1.left_mk ?lSD ?cSD ?kSD) ?aIO (K1.left_mk ?lIO ?cIO ?kIO) ?aLT (K1.left_mk ?lLT ?cLT ?kLT) ?aHP (K1.left_mk ?lHP ?cHP ?kHP) ?aHO (K1.left_mk ?lHO ?cHO ?kHO) ?aRC (K1.left_mk ?lRC ?cRC ?kRC) ?aMG (K1.left_mk ?lMG ?cMG ?kMG) ?aJO (K1.left_mk ?lJO ?cJO ?kJO) ?aTG (K1.left_mk ?lTG ?cTG ?kTG) ?aGR (K1.left_mk ?lGR ?cGR ?kGR) ?aSL (K1.left_mk ?lSL ?cSL ?kSL) ?aTO (K1.left_mk ?lTO ?cTO ?kTO) ?aDA (K1.left_mk ?lDA ?cDA ?kDA) ?aMX (K1.left_mk ?lMX ?cMX ?kMX) ?aSN (K1.left_mk ?lSN ?cSN ?kSN) ?aSO (K1.left_mk ?lSO ?cSO ?kSO) ?aTL (K1.left_mk ?lTL ?cTL ?kTL) ?aWY (K1.left_mk ?lWY ?cWY ?kWY) ?aNO (K1.left_mk ?lNO ?cNO ?kNO) ?aPA (K1.left_mk ?lPA ?cPA ?kPA) ?aCE (K1.left_mk ?lCE ?cCE ?kCE) ?aST (K1.left_mk ?lST ?cST ?kST) ?aLC (K1.left_mk ?lLC ?cLC ?kLC) ?aLA (K1.left_mk ?lLA ?cLA ?kLA) ?aCH (K1.left_mk ?lCH ?cCH ?kCH) ?aHU (K1.left_mk ?lHU ?cHU ?kHU) ?aPO (K1.left_mk ?lPO ?cPO ?kPO) ?aSH (K1.left_mk ?lSH ?cSH ?kSH) ?aWI (K1.left_mk ?lWI ?cWI ?kWI) ?aON (K1.left_mk ?lON ?cON ?kON) ?aTW (K1.left_mk ?lTW ?cTW ?kTW) ?aME (K1.left_mk ?lME ?cME ?kME) ?aLW ?lLW ?cLW ?kLW ?z_zip ?z_len ?z_all ?z_sorted ?z_set ?z_list ?z_reversed ?z_range ?z_isinstance ?z_sum ?z_abs ?z_max ?z_ValueError ?y_R ?y_N ?y_M ?y_P ?y_S ?y_T ⟨⟨?xeM, ?gaM, ?naM, ?clM, ?sbM, ?soM⟩, ?qNM, ?qMM, ?qPM, ?qSM, ?qTM, ?qVM⟩ ?exM ⟨⟨?xeP, ?gaP, ?naP, ?clP, ?sbP, ?soP⟩, ?qNP, ?qMP, ?qPP, ?qSP, ?qTP, ?qVP⟩ ?exP ⟨⟨?xeS, ?gaS, ?naS, ?clS, ?sbS, ?soS⟩, ?qNS, ?qMS, ?qPS, ?qSS, ?qTS, ?qVS⟩ ?exS ⟨⟨?xeT, ?gaT, ?naT, ?clT, ?sbT, ?soT⟩, ?qNT, ?qMT, ?qPT, ?qST, ?qTT, ?qVT⟩ ?exT ?z_MOST_POINTS ?z_MOST_TIMES ?z_MOST_STEPS
  (case aAF => k_is); (case lAF => k_is); (case cAF => k_is); (case kAF => k_is)
  (case aMV => k_is); (case lMV => k_is); (case cMV => k_is); (case kMV => k_is)
  (case aSR => k_is); (case lSR => k_is); (case cSR => k_is); (case kSR => k_is)
  (case aPR => k_is); (case lPR => k_is); (case cPR => k_is); (case kPR => k_is)
  (case aTU => k_is); (case lTU => k_is); (case cTU => k_is); (case kTU => k_is)
  (case aFH => k_is); (case lFH => k_is); (case cFH => k_is); (case kFH => k_is)
  (case aGB => k_is); (case lGB => k_is); (case cGB => k_is); (case kGB => k_is)
  (case aSW => k_is); (case lSW => k_is); (case cSW => k_is); (case kSW => k_is)
  (case aTI => k_is); (case lTI => k_is); (case cTI => k_is); (case kTI => k_is)
  (case aLE => k_is); (case lLE => k_is); (case cLE => k_is); (case kLE => k_is)
  (case aAL => k_is); (case lAL => k_is); (case cAL => k_is); (case kAL => k_is)
  (case aRO => k_is); (case lRO => k_is); (case cRO => k_is); (case kRO => k_is)
  (case aIS => k_is); (case lIS => k_is); (case cIS => k_is); (case kIS => k_is)
  (case aRF => k_is); (case lRF => k_is); (case cRF => k_is); (case kRF => k_is)
  (case aSD => k_is); (case lSD => k_is); (case cSD => k_is); (case kSD => k_is)
  (case aIO => k_is); (case lIO => k_is); (case cIO => k_is); (case kIO => k_is)
  (case aLT => k_is); (case lLT => k_is); (case cLT => k_is); (case kLT => k_is)
  (case aHP => k_is); (case lHP => k_is); (case cHP => k_is); (case kHP => k_is)
  (case aHO => k_is); (case lHO => k_is); (case cHO => k_is); (case kHO => k_is)
  (case aRC => k_is); (case lRC => k_is); (case cRC => k_is); (case kRC => k_is)
  (case aMG => k_is); (case lMG => k_is); (case cMG => k_is); (case kMG => k_is)
  (case aJO => k_is); (case lJO => k_is); (case cJO => k_is); (case kJO => k_is)
  (case aTG => k_is); (case lTG => k_is); (case cTG => k_is); (case kTG => k_is)
  (case aGR => k_is); (case lGR => k_is); (case cGR => k_is); (case kGR => k_is)
  (case aSL => k_is); (case lSL => k_is); (case cSL => k_is); (case kSL => k_is)
  (case aTO => k_is); (case lTO => k_is); (case cTO => k_is); (case kTO => k_is)
  (case aDA => k_is); (case lDA => k_is); (case cDA => k_is); (case kDA => k_is)
  (case aMX => k_is); (case lMX => k_is); (case cMX => k_is); (case kMX => k_is)
  (case aSN => k_is); (case lSN => k_is); (case cSN => k_is); (case kSN => k_is)
  (case aSO => k_is); (case lSO => k_is); (case cSO => k_is); (case kSO => k_is)
  (case aTL => k_is); (case lTL => k_is); (case cTL => k_is); (case kTL => k_is)
  (case aWY => k_is); (case lWY => k_is); (case cWY => k_is); (case kWY => k_is)
  (case aNO => k_is); (case lNO => k_is); (case cNO => k_is); (case kNO => k_is)
  (case aPA => k_is); (case lPA => k_is); (case cPA => k_is); (case kPA => k_is)
  (case aCE => k_is); (case lCE => k_is); (case cCE => k_is); (case kCE => k_is)
  (case aST => k_is); (case lST => k_is); (case cST => k_is); (case kST => k_is)
  (case aLC => k_is); (case lLC => k_is); (case cLC => k_is); (case kLC => k_is)
  (case aLA => k_is); (case lLA => k_is); (case cLA => k_is); (case kLA => k_is)
  (case aCH => k_is); (case lCH => k_is); (case cCH => k_is); (case kCH => k_is)
  (case aHU => k_is); (case lHU => k_is); (case cHU => k_is); (case kHU => k_is)
  (case aPO => k_is); (case lPO => k_is); (case cPO => k_is); (case kPO => k_is)
  (case aSH => k_is); (case lSH => k_is); (case cSH => k_is); (case kSH => k_is)
  (case aWI => k_is); (case lWI => k_is); (case cWI => k_is); (case kWI => k_is)
  (case aON => k_is); (case lON => k_is); (case cON => k_is); (case kON => k_is)
  (case aTW => k_is); (case lTW => k_is); (case cTW => k_is); (case kTW => k_is)
  (case aME => k_is); (case lME => k_is); (case cME => k_is); (case kME => k_is)
  (case aLW => k_is); (case lLW => k_is); (case cLW => k_is); (case kLW => k_is)
  (case z_zip => k_is); (case z_len => k_is); (case z_all => k_is); (case z_sorted => k_is); (case z_set => k_is); (case z_list => k_is); (case z_reversed => k_is); (case z_range => k_is); (case z_isinstance => k_is); (case z_sum => k_is); (case z_abs => k_is); (case z_max => k_is); (case z_ValueError => k_is); (case z_MOST_POINTS => k_is); (case z_MOST_TIMES => k_is); (case z_MOST_STEPS => k_is)
  (case y_R => k_is); (case y_N => k_is); (case y_M => k_is); (case y_P => k_is); (case y_S => k_is); (case y_T => k_is)
  (case xeM => k_exc); (case gaM => k_is); (case naM => k_is); (case clM => k_is); (case sbM => k_is); (case soM => k_is)
  (case qNM => kit_is); (case qMM => kit_is); (case qPM => kit_is); (case qSM => kit_is); (case qTM => kit_is); (case qVM => kit_is); (case exM => kts_exm)
  (case xeP => k_exc); (case gaP => k_is); (case naP => k_is); (case clP => k_is); (case sbP => k_is); (case soP => k_is)
  (case qNP => kit_is); (case qMP => kit_is); (case qPP => kit_is); (case qSP => kit_is); (case qTP => kit_is); (case qVP => kit_is); (case exP => kts_exm)
  (case xeS => k_exc); (case gaS => k_is); (case naS => k_is); (case clS => k_is); (case sbS => k_is); (case soS => k_is)
  (case qNS => kit_is); (case qMS => kit_is); (case qPS => kit_is); (case qSS => kit_is); (case qTS => kit_is); (case qVS => kit_is); (case exS => kts_exm)
  (case xeT => k_exc); (case gaT => k_is); (case naT => k_is); (case clT => k_is); (case sbT => k_is); (case soT => k_is)
  (case qNT => kit_is); (case qMT => kit_is); (case qPT => kit_is); (case qST => kit_is); (case qTT => kit_is); (case qVT => kit_is); (case exT => kts_exm)
