import PyProof.Rows.All
import Wide.All
import OpenK.AllK
import Wide.FinOn
import Lean
import PyProof.EqAt
import PyProof.EqKinds
import PyProof.TupleCall
import PyProof.SetScanFacts
import PyProof.TupleKey
import PyProof.SetKind
import PyProof.DictKinds
import PyProof.Rows.SetFrom
import PyProof.DictIter
import KE.KSortAsk
import KE.KSortTup
import KE.KDictSum
import KE.KRevIter
import PyProof.ListNew
import PyProof.MinMaxWalk
import PyProof.SumWalkG
import PyProof.NeKinds
import PyProof.Rows.StrInSeq3
import PyProof.StrBlockH
import PyProof.Rows.StrJoin2
import PyProof.SliceStr2
import KE.KIntText
import PyProof.Rows.StrSplitCount
import PyProof.Rows.FStr
import PyProof.StrLawsIdx
import PyProof.StrLawsChain
import KE.KTryMore
import KE.KIsAll
import PyProof.ExcArgs
import PyProof.ExcBaseAll.ValueError
import PySem.Challenge.RW_roundsum_k18_texts_refused
set_option Elab.async false
set_option linter.all false
set_option autoImplicit false
set_option tactic.hygienic false
set_option maxRecDepth 100000
set_option maxHeartbeats 4000000
namespace RS
open PySem PySem.SetTable
noncomputable def advM (mask : Nat) (p : Probe) : Probe :=
 if p.more > 0 then { p with j := p.j + 1, more := p.more - 1 } else
 { p with j := (leap mask p.i p.perturb).1, more := runEnd mask (leap mask p.i p.perturb).1 - (leap mask p.i p.perturb).1, i := (leap mask p.i p.perturb).1, perturb := (leap mask p.i p.perturb).2 }
noncomputable def atG (mask : Nat) (g : Nat × Nat) : Probe := { j := g.1, more := runEnd mask g.1 - g.1, i := g.1, perturb := g.2, dummy := none }
noncomputable def grp (mask : Nat) (h : Int) : Nat -> Nat × Nat
 | 0 => (bits h % (mask + 1), bits h)
 | g + 1 => leap mask (grp mask h g).1 (grp mask h g).2
noncomputable def sq (mask : Nat) (h : Int) : Nat -> Probe
 | 0 => atG mask (grp mask h 0)
 | n + 1 => advM mask (sq mask h n)
theorem start_eq (t : SetTable) (h : Int) : t.probeStart h = sq t.mask h 0 := rfl
theorem runLen (mask i : Nat) : runEnd mask i - i <= 9 := by
 unfold runEnd
 split <;> lia
theorem sq_run {mask : Nat} {h : Int} {s : Nat} {p : Probe} (e : sq mask h s = p) : ∀ k, k <= p.more -> sq mask h (s + k) = { p with j := p.j + k, more := p.more - k }
 | 0, _ => by rw [Nat.add_zero, e]; rfl
 | k + 1, hk => by
  rw [<- Nat.add_assoc]
  show advM mask (sq mask h (s + k)) = _
  rw [sq_run e k (by lia)]
  unfold advM
  rw [if_pos (show p.more - k > 0 by lia)]
  simp only [Probe.mk.injEq, and_true, true_and]
  lia
noncomputable def gst (mask : Nat) (h : Int) : Nat -> Nat
 | 0 => 0
 | g + 1 => gst mask h g + (runEnd mask (grp mask h g).1 - (grp mask h g).1) + 1
theorem sq_gst (mask : Nat) (h : Int) : ∀ g, sq mask h (gst mask h g) = atG mask (grp mask h g)
 | 0 => rfl
 | g + 1 => by
  have e := sq_run (sq_gst mask h g) (runEnd mask (grp mask h g).1 - (grp mask h g).1) (Nat.le_refl _)
  show advM mask (sq mask h (gst mask h g + (runEnd mask (grp mask h g).1 - (grp mask h g).1))) = _
  rw [e]
  unfold advM
  rw [if_neg (by simp [atG])]
  rfl
theorem sq_in (mask : Nat) (h : Int) (g k : Nat) (hk : k <= runEnd mask (grp mask h g).1 - (grp mask h g).1) : (sq mask h (gst mask h g + k)).j = (grp mask h g).1 + k := by
 rw [sq_run (sq_gst mask h g) k hk]
 rfl
theorem gst_le (mask : Nat) (h : Int) : ∀ g, gst mask h g <= 10 * g
 | 0 => Nat.le_refl _
 | g + 1 => by
  have := gst_le mask h g
  have := runLen mask (grp mask h g).1
  show gst mask h g + (runEnd mask (grp mask h g).1 - (grp mask h g).1) + 1 <= _
  lia
theorem grp_pert (mask : Nat) (h : Int) : ∀ g, (grp mask h g).2 = bits h / 32 ^ g
 | 0 => by simp [grp]
 | g + 1 => by
  show (grp mask h g).2 / 32 = _
  rw [grp_pert mask h g, Nat.div_div_eq_div_mul, Nat.pow_succ]
theorem bits_lt (h : Int) : bits h < 2 ^ 64 := by
 unfold bits
 have h1 : (0 : Int) <= h % 2 ^ 64 := Int.emod_nonneg _ (by decide)
 have h2 : h % 2 ^ 64 < 2 ^ 64 := Int.emod_lt_of_pos _ (by decide)
 lia
theorem pert_zero (mask : Nat) (h : Int) (g : Nat) (hg : 13 <= g) : (grp mask h g).2 = 0 := by
 rw [grp_pert]
 refine Nat.div_eq_of_lt (Nat.lt_of_lt_of_le (bits_lt h) (Nat.le_trans (show 2 ^ 64 <= 32 ^ 13 by decide) (Nat.pow_le_pow_right (by decide) hg)))
noncomputable def lcg (mask i : Nat) : Nat := (i * 5 + 1) % (mask + 1)
noncomputable def lit (mask : Nat) : Nat -> Nat -> Nat
 | 0, i => i
 | k + 1, i => lit mask k (lcg mask i)
theorem lit_add (mask : Nat) : ∀ a b i, lit mask (a + b) i = lit mask b (lit mask a i)
 | 0, b, i => by rw [Nat.zero_add]; rfl
 | a + 1, b, i => by rw [Nat.add_right_comm]; exact lit_add mask a b (lcg mask i)
theorem grp_lit (mask : Nat) (h : Int) : ∀ k, (grp mask h (13 + k)).1 = lit mask k (grp mask h 13).1
 | 0 => rfl
 | k + 1 => by
  have e : lit mask (k + 1) (grp mask h 13).1 = lcg mask (lit mask k (grp mask h 13).1) := lit_add mask k 1 _
  rw [e, <- grp_lit mask h k]
  show ((grp mask h (13 + k)).1 * 5 + 1 + (grp mask h (13 + k)).2 / 32) % (mask + 1) = _
  rw [pert_zero mask h (13 + k) (by lia)]
  rfl
theorem grp_lt (mask : Nat) (h : Int) : ∀ g, (grp mask h g).1 < mask + 1
 | 0 => Nat.mod_lt _ (Nat.succ_pos _)
 | _ + 1 => Nat.mod_lt _ (Nat.succ_pos _)
noncomputable def MaskOk (mask : Nat) : Prop := mask = 7 \/ mask = 31 \/ mask = 127 \/ mask = 511
noncomputable def seen (mask : Nat) : Nat -> Nat -> Nat -> Nat
 | 0, _, acc => acc
 | k + 1, i, acc => seen mask k (lcg mask i) (acc ||| (1 <<< i))
theorem seen_bit (mask : Nat) : ∀ (k i acc j : Nat), (seen mask k i acc).testBit j = true -> acc.testBit j = true \/ ∃ m, m < k /\ lit mask m i = j
 | 0, i, acc, j, h => .inl h
 | k + 1, i, acc, j, h => by
  rcases seen_bit mask k (lcg mask i) (acc ||| (1 <<< i)) j h with z | ⟨m, hm, e⟩
  ·rw [Nat.testBit_or, Bool.or_eq_true] at z
   rcases z with z | z
   ·exact .inl z
   ·refine .inr ⟨0, by lia, ?_⟩
    rw [Nat.one_shiftLeft, Nat.testBit_two_pow] at z
    exact of_decide_eq_true z
  ·exact .inr ⟨m + 1, by lia, e⟩
set_option exponentiation.threshold 600 in
theorem orbit511 : (∀ j, j < 511 + 1 -> ∃ k, k < 511 + 1 /\ lit 511 k 0 = j) /\ lit 511 (511 + 1) 0 = 0 := by
 refine ⟨fun j hj => ?_, by decide +kernel⟩
 have e : seen 511 512 0 0 = 2 ^ 512 - 1 := by decide +kernel
 have h : (seen 511 512 0 0).testBit j = true := by
  rw [e, Nat.testBit_two_pow_sub_one]
  exact decide_eq_true hj
 rcases seen_bit 511 512 0 0 j h with z | z
 ·rw [Nat.zero_testBit] at z
  cases z
 ·exact z
theorem orbit0 {mask : Nat} (hm : MaskOk mask) : (∀ j, j < mask + 1 -> ∃ k, k < mask + 1 /\ lit mask k 0 = j) /\ lit mask (mask + 1) 0 = 0 := by
 rcases hm with rfl | rfl | rfl | rfl
 ·exact ⟨by decide +kernel, by decide +kernel⟩
 ·exact ⟨by decide +kernel, by decide +kernel⟩
 ·exact ⟨by decide +kernel, by decide +kernel⟩
 ·exact orbit511
theorem orbit {mask : Nat} (hm : MaskOk mask) {i j : Nat} (hi : i < mask + 1) (hj : j < mask + 1) : ∃ k, k < mask + 1 /\ lit mask k i = j := by
 obtain ⟨all, back⟩ := orbit0 hm
 obtain ⟨a, ha, rfl⟩ := all i hi
 obtain ⟨b, hb, rfl⟩ := all j hj
 rcases Nat.lt_or_ge b a with h | h
 ·refine ⟨mask + 1 - a + b, by lia, ?_⟩
  rw [<- lit_add, <- Nat.add_assoc, show a + (mask + 1 - a) = mask + 1 by lia, lit_add, back]
 ·refine ⟨b - a, by lia, ?_⟩
  rw [<- lit_add, show a + (b - a) = b by lia]
theorem covers {mask : Nat} (hm : MaskOk mask) (h : Int) {j : Nat} (hj : j < mask + 1) : ∃ g, g < mask + 14 /\ (grp mask h g).1 = j := by
 obtain ⟨k, hk, e⟩ := orbit hm (grp_lt mask h 13) hj
 exact ⟨13 + k, by lia, by rw [grp_lit]; exact e⟩
theorem covers_sq {mask : Nat} (hm : MaskOk mask) (h : Int) {j : Nat} (hj : j < mask + 1) : ∃ n, n < 10 * turns mask /\ (sq mask h n).j = j := by
 obtain ⟨g, hg, e⟩ := covers hm h hj
 refine ⟨gst mask h g, ?_, by rw [sq_gst]; exact e⟩
 have := gst_le mask h g
 unfold turns
 lia
theorem sq_dummy (mask : Nat) (h : Int) : ∀ n, (sq mask h n).dummy = none
 | 0 => rfl
 | n + 1 => by
  show (advM mask (sq mask h n)).dummy = none
  unfold advM
  split <;> exact sq_dummy mask h n
theorem sq_lt {mask : Nat} (h : Int) : ∀ n, (sq mask h n).j + (sq mask h n).more <= mask
 | 0 => by
  have := grp_lt mask h 0
  show (grp mask h 0).1 + (runEnd mask (grp mask h 0).1 - (grp mask h 0).1) <= mask
  unfold runEnd
  split <;> lia
 | n + 1 => by
  have ih := sq_lt (mask := mask) h n
  show (advM mask (sq mask h n)).j + (advM mask (sq mask h n)).more <= mask
  unfold advM
  split
  ·simp only
   lia
  ·have : (leap mask (sq mask h n).i (sq mask h n).perturb).1 < mask + 1 := Nat.mod_lt _ (Nat.succ_pos _)
   simp only
   unfold runEnd
   split <;> lia
end RS
namespace RS
open PySem PySem.SetTable
noncomputable def Rise (xs : Array Nat) : Prop := xs.toList.Pairwise (· < ·)
theorem Rise.lt {xs : Array Nat} (r : Rise xs) {a b x y : Nat} (ha : xs[a]? = some x) (hb : xs[b]? = some y) (h : a < b) : x < y := by
 rw [<- Array.getElem?_toList] at ha hb
 obtain ⟨ha', ea⟩ := List.getElem?_eq_some_iff.mp ha
 obtain ⟨hb', eb⟩ := List.getElem?_eq_some_iff.mp hb
 rw [<- ea, <- eb]
 exact List.pairwise_iff_getElem.mp r a b ha' hb' h
set_option tactic.hygienic true in
theorem below_go {xs : Array Nat} {j : Nat} : ∀ (fuel lo hi : Nat), hi - lo <= fuel -> lo <= hi -> hi <= xs.size ->
  (∀ a x, a < lo -> xs[a]? = some x -> x < j) -> (∀ a x, hi <= a -> xs[a]? = some x -> j <= x) -> Rise xs ->
  (below.go xs j fuel lo hi <= xs.size /\ (∀ a x, a < below.go xs j fuel lo hi -> xs[a]? = some x -> x < j) /\ ∀ a x, below.go xs j fuel lo hi <= a -> xs[a]? = some x -> j <= x)
 | 0, lo, hi, hf, hl, hz, h1, h2, _ => by
  have e : lo = hi := by lia
  subst e
  unfold below.go
  exact ⟨hz, h1, h2⟩
 | fuel + 1, lo, hi, hf, hl, hz, h1, h2, r => by
  unfold below.go
  by_cases hlt : lo < hi
  ·rw [if_pos hlt]
   dsimp only
   have hm1 : (lo + hi) / 2 < hi := by lia
   have hm0 : lo <= (lo + hi) / 2 := by lia
   have hms : (lo + hi) / 2 < xs.size := by lia
   have eg : xs.getD ((lo + hi) / 2) j = xs[(lo + hi) / 2] := by simp [Array.getD, hms]
   have em : xs[(lo + hi) / 2]? = some xs[(lo + hi) / 2] := by simp [hms]
   rw [eg]
   split
   ·rename_i hc
    refine below_go fuel _ hi (by lia) (by lia) hz (fun a x ha hx => ?_) h2 r
    rcases Nat.lt_or_ge a ((lo + hi) / 2) with h | h
    ·exact Nat.lt_trans (r.lt hx em h) hc
    ·have : a = (lo + hi) / 2 := by lia
     subst this
     rw [em] at hx
     cases hx
     exact hc
   ·rename_i hc
    refine below_go fuel lo _ (by lia) hm0 (by lia) h1 (fun a x ha hx => ?_) r
    rcases Nat.lt_or_ge ((lo + hi) / 2) a with h | h
    ·exact Nat.le_of_lt (Nat.lt_of_le_of_lt (Nat.not_lt.mp hc) (r.lt em hx h))
    ·have : a = (lo + hi) / 2 := by lia
     subst this
     rw [em] at hx
     cases hx
     exact Nat.not_lt.mp hc
  ·rw [if_neg hlt]
   have e : lo = hi := by lia
   subst e
   exact ⟨hz, h1, h2⟩
theorem below_spec {xs : Array Nat} (r : Rise xs) (j : Nat) : below xs j <= xs.size /\ (∀ a x, a < below xs j -> xs[a]? = some x -> x < j) /\ ∀ a x, below xs j <= a -> xs[a]? = some x -> j <= x :=
 below_go xs.size 0 xs.size (by lia) (Nat.zero_le _) (Nat.le_refl _) (fun a x h => absurd h (Nat.not_lt_zero _)) (fun a x h e => by
  obtain ⟨h', _⟩ := Array.getElem?_eq_some_iff.mp e
  lia) r
theorem below_at {xs : Array Nat} (r : Rise xs) {i j : Nat} (h : xs[i]? = some j) : below xs j = i := by
 obtain ⟨_, h1, h2⟩ := below_spec r j
 rcases Nat.lt_trichotomy (below xs j) i with q | q | q
 ·obtain ⟨hi, _⟩ := Array.getElem?_eq_some_iff.mp h
  have hb : xs[below xs j]? = some xs[below xs j] := by simp [show below xs j < xs.size by omega]
  have := h2 _ _ (Nat.le_refl _) hb
  have := r.lt hb h q
  lia
 ·exact q
 ·have := h1 i j q h
  lia
theorem insert_rise {xs : Array Nat} (r : Rise xs) {j : Nat} (h : j ∉ xs.toList) : Rise (insertAt xs (below xs j) j) := by
 obtain ⟨hs, h1, h2⟩ := below_spec r j
 unfold Rise
 rw [SetTable.toList_insertAt]
 have key : ∀ l : List Nat, l = xs.toList -> (l.take (below xs j) ++ j :: l.drop (below xs j)).Pairwise (· < ·) := fun l hl => by
  subst hl
  have a1 : ∀ x ∈ xs.toList.take (below xs j), x < j := fun x hx => by
   obtain ⟨i, hi, e⟩ := List.getElem_of_mem hx
   rw [List.getElem_take] at e
   have hlt : i < below xs j := by rw [List.length_take] at hi; lia
   have hlen : i < xs.toList.length := by rw [List.length_take] at hi; lia
   refine h1 i x hlt ?_
   rw [<- Array.getElem?_toList]
   exact List.getElem?_eq_some_iff.mpr ⟨hlen, e⟩
  have a2 : ∀ x ∈ xs.toList.drop (below xs j), j < x := fun x hx => by
   obtain ⟨i, hi, e⟩ := List.getElem_of_mem hx
   rw [List.getElem_drop] at e
   have hlen : below xs j + i < xs.toList.length := by rw [List.length_drop] at hi; lia
   have hge := h2 (below xs j + i) x (Nat.le_add_right _ _) (by rw [<- Array.getElem?_toList]; exact List.getElem?_eq_some_iff.mpr ⟨hlen, e⟩)
   have hne : j ≠ x := fun q => h (by rw [q]; exact List.mem_of_mem_drop hx)
   lia
  rw [List.pairwise_append]
  refine ⟨r.sublist (List.take_sublist _ _), List.pairwise_cons.mpr ⟨a2, r.sublist (List.drop_sublist _ _)⟩, fun x hx y hy => ?_⟩
  rcases List.mem_cons.mp hy with rfl | hy
  ·exact a1 x hx
  ·exact Nat.lt_trans (a1 x hx) (a2 y hy)
 have e := key xs.toList rfl
 simpa using e
structure Tab (t : SetTable) (es : Array (Int × Value)) : Prop where
 nod : t.dummies = #[]
 mask : MaskOk t.mask
 rise : Rise t.place
 size : t.place.size = es.size
 le : ∀ j ∈ t.place.toList, j <= t.mask
 plain : t.plain = true
 room : es.size * 5 < t.mask * 3
 reach : ∀ (i j : Nat) (e : Int × Value), t.place[i]? = some j -> es[i]? = some e -> ∃ n, (sq t.mask e.1 n).j = j /\ ∀ m, m < n -> (sq t.mask e.1 m).j ∈ t.place.toList
theorem mem_place {t : SetTable} {j : Nat} : j ∈ t.place.toList ↔ ∃ i : Nat, t.place[i]? = some j := by
 constructor
 ·intro h
  obtain ⟨i, hi, e⟩ := List.getElem_of_mem h
  exact ⟨i, by rw [<- Array.getElem?_toList]; exact List.getElem?_eq_some_iff.mpr ⟨hi, e⟩⟩
 ·rintro ⟨i, e⟩
  rw [<- Array.getElem?_toList] at e
  exact List.mem_of_getElem? e
theorem slot_live {t : SetTable} (r : Rise t.place) {i j : Nat} (h : t.place[i]? = some j) : t.slot j = .live i := by
 unfold SetTable.slot
 simp only [below_at r h, h, beq_self_eq_true, if_true]
theorem slot_empty {t : SetTable} (nd : t.dummies = #[]) {j : Nat} (h : j ∉ t.place.toList) : t.slot j = .empty := by
 unfold SetTable.slot
 have h1 : (t.place[below t.place j]? == some j) = false := by
  cases q : (t.place[below t.place j]? == some j) with
  | false => rfl
  | true => exact absurd (mem_place.mpr ⟨_, eq_of_beq q⟩) h
 have h2 : SetTable.has t.dummies j = false := by rw [nd]; rfl
 simp only [h1, h2, Bool.false_eq_true, if_false]
theorem Tab.empty_slot {t : SetTable} {es : Array (Int × Value)} (T : Tab t es) : ∃ j, j < t.mask + 1 /\ j ∉ t.place.toList := by
 refine Classical.byContradiction fun hc => ?_
 have hall : ∀ j ∈ List.range (t.mask + 1), j ∈ t.place.toList := fun j hj => Classical.byContradiction fun h => hc ⟨j, List.mem_range.mp hj, h⟩
 have hl := (List.nodup_range (n := t.mask + 1)).length_le_of_subset hall
 rw [List.length_range, Array.length_toList, T.size] at hl
 have := T.room
 lia
theorem Tab.first_empty {t : SetTable} {es : Array (Int × Value)} (T : Tab t es) (h : Int) : ∃ n, n < 10 * turns t.mask /\ (sq t.mask h n).j ∉ t.place.toList /\ ∀ m, m < n -> (sq t.mask h m).j ∈ t.place.toList := by
 obtain ⟨j, hj, hn⟩ := T.empty_slot
 obtain ⟨n, hlt, e⟩ := covers_sq T.mask h hj
 have hex : ∃ n, n < 10 * turns t.mask /\ (sq t.mask h n).j ∉ t.place.toList := ⟨n, hlt, by rw [e]; exact hn⟩
 have key : ∀ k, (∃ n, n < k /\ (sq t.mask h n).j ∉ t.place.toList) -> ∃ n, n < k /\ (sq t.mask h n).j ∉ t.place.toList /\ ∀ m, m < n -> (sq t.mask h m).j ∈ t.place.toList := by
  intro k
  induction k with
  | zero => rintro ⟨n, hn, _⟩; exact absurd hn (Nat.not_lt_zero _)
  | succ k ih =>
   rintro ⟨n, hn, hq⟩
   by_cases hb : ∃ n, n < k /\ (sq t.mask h n).j ∉ t.place.toList
   ·obtain ⟨m, hm, x⟩ := ih hb
    exact ⟨m, Nat.lt_succ_of_lt hm, x⟩
   ·refine ⟨n, hn, hq, fun m hm => Classical.byContradiction fun hx => hb ⟨m, by lia, hx⟩⟩
 exact key _ hex
noncomputable abbrev hAt (es : Array (Int × Value)) (i : Nat) : Int := (es[i]?.map (·.1)).getD 0
theorem probe_go {t : SetTable} {es : Array (Int × Value)} (T : Tab t es) (h : Int) {N : Nat} (hN : (sq t.mask h N).j ∉ t.place.toList) (hb : ∀ m, m < N -> (sq t.mask h m).j ∈ t.place.toList) :
  ∀ (fuel n : Nat), n <= N -> N - n < fuel -> ((∀ m i : Nat, n <= m -> m < N -> t.place[i]? = some (sq t.mask h m).j -> hAt es i ≠ h) /\ probe.go t (hAt es) h fuel (sq t.mask h n) = some (.empty (sq t.mask h N).j none)) \/
   ∃ m i : Nat, n <= m /\ m < N /\ t.place[i]? = some (sq t.mask h m).j /\ hAt es i = h /\ (∀ m' i' : Nat, n <= m' -> m' < m -> t.place[i']? = some (sq t.mask h m').j -> hAt es i' ≠ h) /\
    probe.go t (hAt es) h fuel (sq t.mask h n) = some (.candidate (sq t.mask h m).j i (sq t.mask h (m + 1)))
 | 0, n, _, hf => absurd hf (Nat.not_lt_zero _)
 | fuel + 1, n, hn, hf => by
  unfold probe.go
  rcases Nat.lt_or_ge n N with hlt | hge
  ·obtain ⟨i, hi⟩ := mem_place.mp (hb n hlt)
   rw [slot_live T.rise hi]
   dsimp only
   by_cases hq : hAt es i = h
   ·refine .inr ⟨n, i, Nat.le_refl _, hlt, hi, hq, fun m' i' h1 h2 => absurd h1 (by lia), ?_⟩
    rw [if_pos (by rw [hq]; exact beq_self_eq_true _)]
    rfl
   ·rw [if_neg (by simpa using hq)]
    have only : ∀ i' : Nat, t.place[i']? = some (sq t.mask h n).j -> i' = i := fun i' hi' => (below_at T.rise hi').symm.trans (below_at T.rise hi)
    rcases probe_go T h hN hb fuel (n + 1) hlt (by lia) with ⟨h1, h2⟩ | ⟨m, i2, a1, a2, a3, a4, a5, a6⟩
    ·refine .inl ⟨fun m i' c1 c2 c3 => ?_, h2⟩
     rcases Nat.eq_or_lt_of_le c1 with rfl | c1
     ·rw [only i' c3]; exact hq
     ·exact h1 m i' c1 c2 c3
    ·refine .inr ⟨m, i2, by lia, a2, a3, a4, fun m' i' c1 c2 c3 => ?_, a6⟩
     rcases Nat.eq_or_lt_of_le c1 with rfl | c1
     ·rw [only i' c3]; exact hq
     ·exact a5 m' i' c1 c2 c3
  ·have e : n = N := by lia
   subst e
   rw [slot_empty T.nod hN]
   refine .inl ⟨fun m i h1 h2 => absurd h1 (by lia), ?_⟩
   rw [sq_dummy]
theorem probe_spec {t : SetTable} {es : Array (Int × Value)} (T : Tab t es) (h : Int) {N : Nat} (hlt : N < 10 * turns t.mask) (hN : (sq t.mask h N).j ∉ t.place.toList) (hb : ∀ m, m < N -> (sq t.mask h m).j ∈ t.place.toList) (n : Nat) (hn : n <= N) :
  ((∀ m i : Nat, n <= m -> m < N -> t.place[i]? = some (sq t.mask h m).j -> hAt es i ≠ h) /\ t.probe (hAt es) h (sq t.mask h n) = some (.empty (sq t.mask h N).j none)) \/
   ∃ m i : Nat, n <= m /\ m < N /\ t.place[i]? = some (sq t.mask h m).j /\ hAt es i = h /\ (∀ m' i' : Nat, n <= m' -> m' < m -> t.place[i']? = some (sq t.mask h m').j -> hAt es i' ≠ h) /\
    t.probe (hAt es) h (sq t.mask h n) = some (.candidate (sq t.mask h m).j i (sq t.mask h (m + 1))) :=
 probe_go T h hN hb _ n hn (by lia)
end RS
namespace RS
open PySem PySem.SetTable
theorem insertAt_get {α : Type} (xs : Array α) (p : Nat) (hp : p <= xs.size) (x : α) (i : Nat) :
  (insertAt xs p x)[i]? = if i < p then xs[i]? else if i = p then some x else xs[i - 1]? := by
 rw [<- Array.getElem?_toList, SetTable.toList_insertAt]
 have e : ∀ l : List α, l.length = xs.size -> (l.take p ++ x :: l.drop p)[i]? = if i < p then l[i]? else if i = p then some x else l[i - 1]? := fun l hl => by
  have hlt : (l.take p).length = p := by rw [List.length_take]; lia
  by_cases h1 : i < p
  ·rw [if_pos h1, List.getElem?_append_left (by lia), List.getElem?_take, if_pos h1]
  ·rw [if_neg h1, List.getElem?_append_right (by lia), hlt]
   by_cases h2 : i = p
   ·rw [if_pos h2, h2, Nat.sub_self]; rfl
   ·rw [if_neg h2]
    obtain ⟨k, rfl⟩ : ∃ k, i = p + 1 + k := ⟨i - (p + 1), by lia⟩
    rw [show p + 1 + k - p = k + 1 by lia, List.getElem?_cons_succ, List.getElem?_drop]
    congr 1
    lia
 have := e xs.toList (by simp)
 simpa using this
theorem insertAt_size {α : Type} (xs : Array α) (p : Nat) (x : α) : (insertAt xs p x).size = xs.size + 1 := by
 have := (SetTable.insertAt_perm xs p x).length_eq
 simpa using this
theorem insertAt_pair {t : SetTable} {es : Array (Int × Value)} (hs : t.place.size = es.size) {p : Nat} (hp : p <= es.size) {j i j' : Nat} {e e' : Int × Value}
  (h1 : (insertAt t.place p j)[i]? = some j') (h2 : (insertAt es p e)[i]? = some e') : (j' = j /\ e' = e) \/ ∃ i' : Nat, t.place[i']? = some j' /\ es[i']? = some e' := by
 rw [insertAt_get _ _ (by lia)] at h1
 rw [insertAt_get _ _ hp] at h2
 by_cases q1 : i < p
 ·rw [if_pos q1] at h1 h2; exact .inr ⟨_, h1, h2⟩
 ·rw [if_neg q1] at h1 h2
  by_cases q2 : i = p
  ·rw [if_pos q2] at h1 h2; cases h1; cases h2; exact .inl ⟨rfl, rfl⟩
  ·rw [if_neg q2] at h1 h2; exact .inr ⟨_, h1, h2⟩
theorem mem_insertAt {α : Type} {xs : Array α} {p : Nat} {x y : α} : y ∈ (insertAt xs p x).toList ↔ y = x \/ y ∈ xs.toList := by
 rw [(SetTable.insertAt_perm xs p x).mem_iff, Array.toList_push, List.mem_append, List.mem_singleton, or_comm]
theorem put_place (t : SetTable) (nd : t.dummies = #[]) (j : Nat) : t.put j = ({ t with place := insertAt t.place (below t.place j) j }, below t.place j) := by
 unfold SetTable.put
 have h2 : SetTable.has t.dummies j = false := by rw [nd]; rfl
 rw [h2]
 rfl
structure Tab0 (t : SetTable) (es : Array (Int × Value)) : Prop where
 nod : t.dummies = #[]
 mask : MaskOk t.mask
 rise : Rise t.place
 size : t.place.size = es.size
 le : ∀ j ∈ t.place.toList, j <= t.mask
 plain : t.plain = true
 reach : ∀ (i j : Nat) (e : Int × Value), t.place[i]? = some j -> es[i]? = some e -> ∃ n, (sq t.mask e.1 n).j = j /\ ∀ m, m < n -> (sq t.mask e.1 m).j ∈ t.place.toList
theorem Tab0.more {t : SetTable} {es : Array (Int × Value)} (T : Tab0 t es) (h : es.size * 5 < t.mask * 3) : Tab t es := ⟨T.nod, T.mask, T.rise, T.size, T.le, T.plain, h, T.reach⟩
theorem Tab.put {t : SetTable} {es : Array (Int × Value)} (T : Tab t es) {h : Int} {N : Nat} (x : Value) (hN : (sq t.mask h N).j ∉ t.place.toList) (hb : ∀ m, m < N -> (sq t.mask h m).j ∈ t.place.toList) :
  Tab0 { t with place := insertAt t.place (below t.place (sq t.mask h N).j) (sq t.mask h N).j } (insertAt es (below t.place (sq t.mask h N).j) (h, x)) := by
 have hp := (below_spec T.rise (sq t.mask h N).j).1
 have hs := T.size
 refine ⟨T.nod, T.mask, insert_rise T.rise hN, by simp only [insertAt_size, hs], fun j hj => ?_, T.plain, fun i j e h1 h2 => ?_⟩
 ·rcases mem_insertAt.mp hj with rfl | hj
  ·have := sq_lt (mask := t.mask) h N
   show _ <= t.mask
   lia
  ·exact T.le j hj
 ·rcases insertAt_pair hs (by lia) h1 h2 with ⟨rfl, rfl⟩ | ⟨i', a, b⟩
  ·exact ⟨N, rfl, fun m hm => mem_insertAt.mpr (.inr (hb m hm))⟩
  ·obtain ⟨n, q1, q2⟩ := T.reach i' j e a b
   exact ⟨n, q1, fun m hm => mem_insertAt.mpr (.inr (q2 m hm))⟩
structure Own (mask : Nat) (hs : List Int) (owner : Array (Option Nat)) (k : Nat) : Prop where
 size : owner.size = mask + 1
 lt : ∀ (j a : Nat), owner[j]? = some (some a) -> a < k
 one : ∀ (j j' a : Nat), owner[j]? = some (some a) -> owner[j']? = some (some a) -> j = j'
 all : ∀ a, a < k -> ∃ j : Nat, owner[j]? = some (some a)
 reach : ∀ (j a : Nat) (h : Int), owner[j]? = some (some a) -> hs[a]? = some h -> ∃ n, (sq mask h n).j = j /\ ∀ m, m < n -> ∃ b, owner[(sq mask h m).j]? = some (some b)
theorem Own.free_slot {mask k : Nat} {hs : List Int} {owner : Array (Option Nat)} (O : Own mask hs owner k) (hk : k <= mask) : ∃ j, j < mask + 1 /\ owner[j]? = some none := by
 refine Classical.byContradiction fun hc => ?_
 have hall : ∀ j, j < mask + 1 -> ∃ a : Nat, owner[j]? = some (some a) := fun j hj => by
  have hj' : j < owner.size := by rw [O.size]; exact hj
  cases q : owner[j]? with
  | none => rw [Array.getElem?_eq_none_iff] at q; lia
  | some v =>
   cases v with
   | none => exact absurd ⟨j, hj, q⟩ hc
   | some a => exact ⟨a, rfl⟩
 let f : Nat -> Nat := fun j => ((owner[j]?).getD none).getD 0
 have hf : ∀ j, j < mask + 1 -> owner[j]? = some (some (f j)) := fun j hj => by
  obtain ⟨a, ha⟩ := hall j hj
  show owner[j]? = some (some (((owner[j]?).getD none).getD 0))
  rw [ha]; rfl
 have nd : ((List.range (mask + 1)).map f).Nodup := by
  refine List.Pairwise.map f (R := fun a b => a ∈ List.range (mask + 1) /\ b ∈ List.range (mask + 1) /\ a ≠ b) (fun a b ⟨ha, hb, hab⟩ e => hab ?_) ?_
  ·exact O.one a b (f a) (hf a (List.mem_range.mp ha)) (by rw [e]; exact hf b (List.mem_range.mp hb))
  ·exact List.Pairwise.imp_of_mem (fun ha hb hab => ⟨ha, hb, hab⟩) List.nodup_range
 have sub : ∀ a ∈ (List.range (mask + 1)).map f, a ∈ List.range k := fun a ha => by
  obtain ⟨j, hj, rfl⟩ := List.mem_map.mp ha
  exact List.mem_range.mpr (O.lt j _ (hf j (List.mem_range.mp hj)))
 have := nd.length_le_of_subset sub
 rw [List.length_map, List.length_range, List.length_range] at this
 lia
theorem getD_none {owner : Array (Option Nat)} {mask j : Nat} (hs : owner.size = mask + 1) (hj : j < mask + 1) : (owner.getD j (some 0)).isNone = true ↔ owner[j]? = some none := by
 have h' : j < owner.size := by lia
 have e1 : owner.getD j (some 0) = owner[j] := by simp [Array.getD, h']
 have e2 : owner[j]? = some owner[j] := by simp [h']
 rw [e1, e2]
 cases owner[j] <;> simp
theorem held_of {owner : Array (Option Nat)} {mask j : Nat} (hs : owner.size = mask + 1) (hj : j < mask + 1) (h : (owner.getD j (some 0)).isNone = false) : ∃ b, owner[j]? = some (some b) := by
 have h' : j < owner.size := by lia
 have e1 : owner.getD j (some 0) = owner[j] := by simp [Array.getD, h']
 have e2 : owner[j]? = some owner[j] := by simp [h']
 rw [e1] at h
 rw [e2]
 cases q : owner[j] with
 | none => rw [q] at h; cases h
 | some b => exact ⟨b, rfl⟩
set_option tactic.hygienic true in
theorem free_spec {owner : Array (Option Nat)} {mask : Nat} (hs : owner.size = mask + 1) (h : Int) : ∀ (fuel g : Nat), (∀ m, m < gst mask h g -> ∃ b, owner[(sq mask h m).j]? = some (some b)) ->
  (∃ g', g <= g' /\ g' < g + fuel /\ owner[(grp mask h g').1]? = some none) ->
  ∃ n, layClean.free mask owner fuel (grp mask h g).1 (grp mask h g).2 = some (sq mask h n).j /\ owner[(sq mask h n).j]? = some none /\ ∀ m, m < n -> ∃ b, owner[(sq mask h m).j]? = some (some b)
 | 0, g, _, ⟨g', h1, h2, _⟩ => absurd h2 (by lia)
 | fuel + 1, g, hb, ⟨g', h1, h2, h3⟩ => by
  unfold layClean.free
  have hi := grp_lt mask h g
  have hend : ∀ k, k < runEnd mask (grp mask h g).1 + 1 - (grp mask h g).1 -> (grp mask h g).1 + k < mask + 1 /\ k <= runEnd mask (grp mask h g).1 - (grp mask h g).1 := fun k hk => by
   unfold runEnd at hk ⊢
   split at hk <;> rename_i q <;> simp only [q, if_true, if_false] <;> lia
  cases q : (List.range (runEnd mask (grp mask h g).1 + 1 - (grp mask h g).1)).find? fun k => (owner.getD ((grp mask h g).1 + k) (some 0)).isNone with
  | some k =>
   dsimp only
   have hk := List.mem_range.mp (List.mem_of_find?_eq_some q)
   have hp := List.find?_some q
   obtain ⟨e1, e2⟩ := hend k hk
   have ej := sq_in mask h g k e2
   refine ⟨gst mask h g + k, by rw [ej], by rw [ej]; exact (getD_none hs e1).mp hp, fun m hm => ?_⟩
   rcases Nat.lt_or_ge m (gst mask h g) with hl | hl
   ·exact hb m hl
   ·obtain ⟨d, rfl⟩ : ∃ d, m = gst mask h g + d := ⟨m - gst mask h g, by lia⟩
    have hd : d < k := by lia
    rw [sq_in mask h g d (by lia)]
    refine held_of hs (by lia) ?_
    have hbefore := (List.find?_range_eq_some.mp q).2.2 d hd
    simpa using hbefore
  | none =>
   dsimp only
   have hnone : ∀ k, k < runEnd mask (grp mask h g).1 + 1 - (grp mask h g).1 -> (owner.getD ((grp mask h g).1 + k) (some 0)).isNone = false := fun k hk => by
    have hno := List.find?_eq_none.mp q k (List.mem_range.mpr hk)
    cases hh : (owner.getD ((grp mask h g).1 + k) (some 0)).isNone with
    | false => rfl
    | true => exact absurd hh hno
   have hlen : (grp mask h g).1 <= runEnd mask (grp mask h g).1 := by unfold runEnd; split <;> lia
   refine free_spec hs h fuel (g + 1) (fun m hm => ?_) ⟨g', ?_, by lia, h3⟩
   ·rcases Nat.lt_or_ge m (gst mask h g) with hl | hl
    ·exact hb m hl
    ·obtain ⟨d, rfl⟩ : ∃ d, m = gst mask h g + d := ⟨m - gst mask h g, by lia⟩
     have hm' : gst mask h g + d < gst mask h g + (runEnd mask (grp mask h g).1 - (grp mask h g).1) + 1 := hm
     have hd : d <= runEnd mask (grp mask h g).1 - (grp mask h g).1 := by lia
     rw [sq_in mask h g d hd]
     exact held_of hs (hend d (by lia)).1 (hnone d (by lia))
   ·rcases Nat.eq_or_lt_of_le h1 with rfl | h1
    ·have := hnone 0 (by lia)
     rw [Nat.add_zero] at this
     rw [(getD_none hs hi).mpr h3] at this
     cases this
    ·exact h1
theorem Own.start (mask : Nat) (hs : List Int) : Own mask hs (Array.replicate (mask + 1) none) 0 := by
 have hno : ∀ (j a : Nat), (Array.replicate (mask + 1) (none : Option Nat))[j]? = some (some a) -> False := fun j a e => by
  rw [Array.getElem?_replicate] at e
  split at e <;> cases e
 exact ⟨by simp, fun j a e => (hno j a e).elim, fun j _ a e => (hno j a e).elim, fun a h => absurd h (Nat.not_lt_zero _), fun j a _ e => (hno j a e).elim⟩
set_option tactic.hygienic true in
theorem Own.step {mask k : Nat} {hs : List Int} {owner : Array (Option Nat)} (O : Own mask hs owner k) {h : Int} (hh : hs[k]? = some h) {n : Nat} (hf : owner[(sq mask h n).j]? = some none)
  (hb : ∀ m, m < n -> ∃ b, owner[(sq mask h m).j]? = some (some b)) : Own mask hs (owner.setIfInBounds (sq mask h n).j (some k)) (k + 1) := by
 have hj : (sq mask h n).j < owner.size := (Array.getElem?_eq_some_iff.mp hf).1
 have get : ∀ i : Nat, (owner.setIfInBounds (sq mask h n).j (some k))[i]? = if (sq mask h n).j = i then some (some k) else owner[i]? := fun i => by
  rw [Array.getElem?_setIfInBounds]
  split
  ·rfl
  ·rfl
 have up : ∀ (i b : Nat), owner[i]? = some (some b) -> (owner.setIfInBounds (sq mask h n).j (some k))[i]? = some (some b) := fun i b e => by
  rw [get, if_neg (fun q => by rw [q, e] at hf; cases hf)]
  exact e
 refine ⟨by rw [Array.size_setIfInBounds, O.size], fun j a e => ?_, fun j j' a e e' => ?_, fun a ha => ?_, fun j a h' e eh => ?_⟩
 ·rw [get] at e
  split at e
  ·cases e; exact Nat.lt_succ_self _
  ·exact Nat.lt_succ_of_lt (O.lt j a e)
 ·rw [get] at e e'
  split at e
  ·rename_i q
   cases e
   split at e'
   ·rename_i q'; exact q.symm.trans q'
   ·exact absurd (O.lt _ _ e') (Nat.lt_irrefl _)
  ·split at e'
   ·cases e'; exact absurd (O.lt _ _ e) (Nat.lt_irrefl _)
   ·exact O.one _ _ _ e e'
 ·rcases Nat.lt_or_ge a k with hlt | hge
  ·obtain ⟨j, hj'⟩ := O.all a hlt
   exact ⟨j, up j a hj'⟩
  ·have : a = k := by lia
   subst this
   exact ⟨_, by rw [get, if_pos rfl]⟩
 ·rw [get] at e
  split at e
  ·rename_i q
   cases e
   rw [hh] at eh
   cases eh
   exact ⟨n, q, fun m hm => let ⟨b, x⟩ := hb m hm; ⟨b, up _ _ x⟩⟩
  ·obtain ⟨n', q1, q2⟩ := O.reach j a h' e eh
   exact ⟨n', q1, fun m hm => let ⟨b, x⟩ := q2 m hm; ⟨b, up _ _ x⟩⟩
noncomputable abbrev layStep (mask : Nat) (acc : Option (Array (Option Nat) × Nat)) (h : Int) : Option (Array (Option Nat) × Nat) := do
 let (owner, k) <- acc
 let j <- layClean.free mask owner (turns mask) (bits h % (mask + 1)) (bits h)
 pure (owner.setIfInBounds j (some k), k + 1)
theorem lay_fold {mask : Nat} (hm : MaskOk mask) (hs : List Int) (hlen : hs.length <= mask) : ∀ (rest : List Int) (pre : List Int) (owner : Array (Option Nat)), pre ++ rest = hs -> Own mask hs owner pre.length ->
  ∃ owner', rest.foldl (layStep mask) (some (owner, pre.length)) = some (owner', hs.length) /\ Own mask hs owner' hs.length
 | [], pre, owner, e, O => by
  rw [List.append_nil] at e
  subst e
  exact ⟨owner, rfl, O⟩
 | h :: rest, pre, owner, e, O => by
  have hk : hs[pre.length]? = some h := by rw [<- e, List.getElem?_append_right (Nat.le_refl _), Nat.sub_self]; rfl
  have hkl : pre.length < hs.length := (List.getElem?_eq_some_iff.mp hk).1
  obtain ⟨j, hj, hfree⟩ := O.free_slot (by lia)
  obtain ⟨g, hg, eg⟩ := covers hm h hj
  obtain ⟨n, e1, e2, e3⟩ := free_spec O.size h (turns mask) 0 (fun m hm' => absurd hm' (Nat.not_lt_zero _)) ⟨g, Nat.zero_le _, by unfold turns; lia, by rw [eg]; exact hfree⟩
  have est : layStep mask (some (owner, pre.length)) h = some (owner.setIfInBounds (sq mask h n).j (some pre.length), pre.length + 1) := by
   show ((layClean.free mask owner (turns mask) (bits h % (mask + 1)) (bits h)).bind fun j => some (owner.setIfInBounds j (some pre.length), pre.length + 1)) = _
   have e1' : layClean.free mask owner (turns mask) (bits h % (mask + 1)) (bits h) = some (sq mask h n).j := e1
   rw [e1']
   rfl
  rw [List.foldl_cons, est]
  have := lay_fold hm hs hlen rest (pre ++ [h]) (owner.setIfInBounds (sq mask h n).j (some pre.length)) (by rw [<- e]; simp) (by rw [List.length_append]; exact O.step hk e2 e3)
  rw [List.length_append] at this
  exact this
theorem layClean_spec {mask : Nat} (hm : MaskOk mask) (hs : Array Int) (hlen : hs.size <= mask) : ∃ owner, layClean mask hs = some owner /\ Own mask hs.toList owner hs.size := by
 obtain ⟨owner, e, O⟩ := lay_fold hm hs.toList (by rw [Array.length_toList]; exact hlen) hs.toList [] (Array.replicate (mask + 1) none) rfl (Own.start mask _)
 rw [Array.length_toList] at O e
 refine ⟨owner, ?_, O⟩
 unfold layClean
 have e' : Array.foldl (layStep mask) (some (Array.replicate (mask + 1) none, 0)) hs = some (owner, hs.size) := by
  rw [<- Array.foldl_toList]; exact e
 show (Array.foldl (layStep mask) (some (Array.replicate (mask + 1) none, 0)) hs).map (·.1) = some owner
 rw [e']
 rfl
noncomputable def liveOf (mask : Nat) (owner : Array (Option Nat)) : List (Nat × Nat) := (List.range (mask + 1)).filterMap fun j => (owner.getD j none).map (j, ·)
theorem mem_live {mask : Nat} {owner : Array (Option Nat)} (hs : owner.size = mask + 1) {j a : Nat} : (j, a) ∈ liveOf mask owner ↔ owner[j]? = some (some a) := by
 unfold liveOf
 rw [List.mem_filterMap]
 constructor
 ·rintro ⟨j', hj', e⟩
  have h' : j' < owner.size := by rw [hs]; exact List.mem_range.mp hj'
  have e1 : owner.getD j' none = owner[j'] := by simp [Array.getD, h']
  rw [e1] at e
  cases q : owner[j'] with
  | none => rw [q] at e; cases e
  | some b =>
   rw [q] at e
   cases e
   rw [<- q]
   simp [h']
 ·intro e
  obtain ⟨h', q⟩ := Array.getElem?_eq_some_iff.mp e
  refine ⟨j, List.mem_range.mpr (by lia), ?_⟩
  have e1 : owner.getD j none = owner[j] := by simp [Array.getD, h']
  rw [e1, q]
  rfl
theorem live_rise (mask : Nat) (owner : Array (Option Nat)) : ((liveOf mask owner).map (·.1)).Pairwise (· < ·) := by
 rw [List.pairwise_map]
 unfold liveOf
 rw [List.pairwise_filterMap]
 refine List.Pairwise.imp (fun {a b} hab => ?_) List.pairwise_lt_range
 intro x hx y hy
 have hx' : (owner.getD a none).map (a, ·) = some x := hx
 have hy' : (owner.getD b none).map (b, ·) = some y := hy
 cases qa : owner.getD a none with
 | none => rw [qa] at hx'; cases hx'
 | some u =>
  cases qb : owner.getD b none with
  | none => rw [qb] at hy'; cases hy'
  | some v =>
   rw [qa] at hx'
   rw [qb] at hy'
   cases hx'
   cases hy'
   exact hab
theorem live_order {mask k : Nat} {hs : List Int} {owner : Array (Option Nat)} (O : Own mask hs owner k) : ((liveOf mask owner).map (·.2)).Perm (List.range k) := by
 have ndL : (liveOf mask owner).Nodup := by
  have := live_rise mask owner
  rw [List.pairwise_map] at this
  exact this.imp fun {a b} h e => by rw [e] at h; exact Nat.lt_irrefl _ h
 have nd : ((liveOf mask owner).map (·.2)).Nodup := by
  unfold List.Nodup
  rw [List.pairwise_map]
  refine List.Pairwise.imp_of_mem (fun {a b} ha hb hab e => hab ?_) ndL
  obtain ⟨j, x⟩ := a
  obtain ⟨j', x'⟩ := b
  have e' : x = x' := e
  subst e'
  rw [O.one j j' x ((mem_live O.size).mp ha) ((mem_live O.size).mp hb)]
 refine (List.perm_ext_iff_of_nodup nd List.nodup_range).mpr fun a => ?_
 rw [List.mem_map, List.mem_range]
 constructor
 ·rintro ⟨⟨j, x⟩, hm, rfl⟩
  exact O.lt j x ((mem_live O.size).mp hm)
 ·intro h
  obtain ⟨j, hj⟩ := O.all a h
  exact ⟨(j, a), (mem_live O.size).mpr hj, rfl⟩
theorem picks {α : Type} (es : Array α) : ∀ (l : List Nat), (∀ a ∈ l, a < es.size) -> (l.filterMap (es[·]?)).length = l.length /\ ∀ (i a : Nat) (e : α), l[i]? = some a -> ((l.filterMap (es[·]?))[i]? = some e ↔ es[a]? = some e)
 | [], _ => ⟨rfl, fun i a e h => by simp at h⟩
 | b :: l, hl => by
  have hb := hl b List.mem_cons_self
  obtain ⟨v, hv⟩ : ∃ v, es[b]? = some v := ⟨es[b], by simp [hb]⟩
  obtain ⟨i1, i2⟩ := picks es l fun a ha => hl a (List.mem_cons_of_mem _ ha)
  rw [List.filterMap_cons, hv]
  refine ⟨by simp [i1], fun i a e h => ?_⟩
  cases i with
  | zero =>
   simp only [List.getElem?_cons_zero, Option.some.injEq] at h ⊢
   subst h
   rw [hv]
   simp
  | succ i =>
   simp only [List.getElem?_cons_succ] at h ⊢
   exact i2 i a e h
theorem sizeAbove_small {n : Nat} (h : n = 5 \/ n = 19 \/ n = 77) : (SetTable.sizeAbove (SetTable.grown n) - 1 = 31 /\ n = 5) \/ (SetTable.sizeAbove (SetTable.grown n) - 1 = 127 /\ n = 19) \/ (SetTable.sizeAbove (SetTable.grown n) - 1 = 511 /\ n = 77) := by
 rcases h with rfl | rfl | rfl
 ·exact .inl ⟨by decide +kernel, rfl⟩
 ·exact .inr (.inl ⟨by decide +kernel, rfl⟩)
 ·exact .inr (.inr ⟨by decide +kernel, rfl⟩)
theorem laid_spec {M : Nat} {es : Array (Int × Value)} (finger moves : Nat) (led : Bool) (hmk : MaskOk M /\ es.size * 5 < M * 3) :
  ∃ (t' : SetTable) (order : Array Nat), SetTable.laid M finger moves led true (es.map (·.1)) = some (t', order) /\ (order.filterMap (es[·]?)).toList.Perm es.toList /\ Tab t' (order.filterMap (es[·]?)) /\ t'.led = led /\ (order.filterMap (es[·]?)).size = es.size := by
 obtain ⟨owner, e, O⟩ := layClean_spec hmk.1 (es.map (·.1)) (by rw [Array.size_map]; lia)
 rw [Array.size_map] at O
 have hord := live_order O
 have hlt : ∀ a ∈ (liveOf M owner).map (·.2), a < es.size := fun a ha => List.mem_range.mp (hord.mem_iff.mp ha)
 obtain ⟨p1, p2⟩ := picks es _ hlt
 have hfm : (((liveOf M owner).map (·.2)).toArray.filterMap (es[·]?)).toList = ((liveOf M owner).map (·.2)).filterMap (es[·]?) := by simp
 have hperm : (((liveOf M owner).map (·.2)).toArray.filterMap (es[·]?)).toList.Perm es.toList := by
  rw [hfm]
  have := hord.filterMap (es[·]?)
  rw [filterMap_getElem?_range] at this
  exact this
 have hsz : (((liveOf M owner).map (·.2)).toArray.filterMap (es[·]?)).size = es.size := by
  rw [<- Array.length_toList, hperm.length_eq, Array.length_toList]
 refine ⟨{ mask := M, place := ((liveOf M owner).map (·.1)).toArray, dummies := #[], finger := finger, led := led, moves := moves, plain := true }, ((liveOf M owner).map (·.2)).toArray, by unfold SetTable.laid; rw [e]; rfl, hperm, ⟨rfl, hmk.1, ?_, ?_, ?_, rfl, ?_, ?_⟩, rfl, hsz⟩
 ·show Rise ((liveOf M owner).map (·.1)).toArray
  unfold Rise
  simpa using live_rise _ owner
 ·show ((liveOf M owner).map (·.1)).toArray.size = _
  rw [hsz, List.size_toArray, List.length_map]
  have := hord.length_eq
  rw [List.length_map, List.length_range] at this
  exact this
 ·intro j hj
  have hj' : j ∈ ((liveOf M owner).map (·.1)).toArray.toList := hj
  rw [List.toList_toArray] at hj'
  obtain ⟨⟨j0, a⟩, hm, rfl⟩ := List.mem_map.mp hj'
  have := (Array.getElem?_eq_some_iff.mp ((mem_live O.size).mp hm)).1
  rw [O.size] at this
  show j0 <= _
  exact Nat.le_of_lt_succ this
 ·show (((liveOf M owner).map (·.2)).toArray.filterMap (es[·]?)).size * 5 < _
  rw [hsz]
  exact hmk.2
 ·intro i j en h1 h2
  have h1' : ((liveOf M owner).map (·.1)).toArray[i]? = some j := h1
  rw [List.getElem?_toArray, List.getElem?_map] at h1'
  cases q : (liveOf M owner)[i]? with
  | none => rw [q] at h1'; cases h1'
  | some ja =>
   obtain ⟨j0, a⟩ := ja
   rw [q] at h1'
   cases h1'
   have hm : (j0, a) ∈ liveOf M owner := List.mem_of_getElem? q
   have ho := (mem_live O.size).mp hm
   have h2' : (((liveOf M owner).map (·.2)).filterMap (es[·]?))[i]? = some en := by
    rw [<- hfm, Array.getElem?_toList]; exact h2
   have hea := (p2 i a en (by rw [List.getElem?_map, q]; rfl)).mp h2'
   obtain ⟨n, n1, n2⟩ := O.reach j0 a en.1 ho (by rw [Array.getElem?_toList, Array.getElem?_map, hea]; rfl)
   refine ⟨n, n1, fun m hm' => ?_⟩
   obtain ⟨b, hb⟩ := n2 m hm'
   show _ ∈ ((liveOf M owner).map (·.1)).toArray.toList
   rw [List.toList_toArray]
   exact List.mem_map.mpr ⟨_, (mem_live O.size).mpr hb, rfl⟩
theorem relaid_spec {t : SetTable} {es : Array (Int × Value)} (T : Tab0 t es) (hn : es.size = 5 \/ es.size = 19 \/ es.size = 77) :
  ∃ (t' : SetTable) (order : Array Nat), t.relaid (es.map (·.1)) (SetTable.grown es.size) = some (t', order) /\ (order.filterMap (es[·]?)).toList.Perm es.toList /\ Tab t' (order.filterMap (es[·]?)) /\ t'.led = t.led /\ (order.filterMap (es[·]?)).size = es.size := by
 have hmk : MaskOk (SetTable.sizeAbove (SetTable.grown es.size) - 1) /\ es.size * 5 < (SetTable.sizeAbove (SetTable.grown es.size) - 1) * 3 := by
  rcases sizeAbove_small hn with ⟨e, h⟩ | ⟨e, h⟩ | ⟨e, h⟩
  ·rw [e, h]; exact ⟨.inr (.inl rfl), by decide⟩
  ·rw [e, h]; exact ⟨.inr (.inr (.inl rfl)), by decide⟩
  ·rw [e, h]; exact ⟨.inr (.inr (.inr rfl)), by decide⟩
 unfold SetTable.relaid
 rw [T.plain]
 exact laid_spec t.finger _ t.led hmk
theorem grown_small {n : Nat} (h : n = 5 \/ n = 19 \/ n = 77) : SetTable.sizeAbove (SetTable.grown n) <= 512 := by
 rcases h with rfl | rfl | rfl <;> decide +kernel
end RS
namespace RS
open PySem PySem.SetTable
section
variable {prog : Program} {w : World} {A : Around} {E : Value -> Shared -> Prop} {s : Shared} {K : Type} [DecidableEq K] {knd : KeyKind prog w K}
theorem Tab.fits {t : SetTable} {es : Array (Int × Value)} (T : Tab t es) : t.fits es.size = true := by
 have := T.size
 have := T.room
 have h0 : t.dummies.size = 0 := by rw [T.nod]; rfl
 unfold SetTable.fits SetTable.fill
 simp only [Bool.and_eq_true, beq_iff_eq, decide_eq_true_eq]
 lia
theorem MaskOk.odd {mask : Nat} (h : MaskOk mask) : (mask % 2 == 0) = false := by
 rcases h with rfl | rfl | rfl | rfl <;> rfl
theorem wp_noClass {ks : List K} {a : Addr} {Q : Bool -> Shared -> Prop} (hk : IsTupleKey knd s.heap ks a) (h : Q false s) : wpAny (model prog w) A (ofAClassStatement 8 (.ref a)) Q E s := by
 have hT := hk.typeIs
 obtain ⟨o, items, n, ho, _, hd, hi⟩ := hk
 unfold ofAClassStatement
 refine wpAny_bind (wpAny_typeOf hT ?_)
 dsimp only
 refine wpAny_bind (wpAny_pure ?_)
 simp only [Bool.not_true, Bool.false_eq_true, if_false]
 refine wpAny_bind (wpAny_seqItems ho hd ?_)
 dsimp only
 refine wpAny_bind ?_
 rw [<- Array.forIn_toList]
 refine wpAny_forIn_list _ (fun rest r s' => r.1 = none /\ s' = s /\ ∀ v ∈ rest, carriedByValue v = true) _ ?_ ?_ _ _ ⟨rfl, rfl, hi.byValue⟩
 ·rintro v rest r s' ⟨hr, rfl, hall⟩
  have hv := hall v List.mem_cons_self
  have e : ofAClassStatement 7 v = pure false := by
   cases v with
   | ref b => simp [carriedByValue] at hv
   | _ => unfold ofAClassStatement; rfl
  rw [e]
  refine wpAny_bind (wpAny_pure ?_)
  simp only [Bool.false_eq_true, if_false]
  exact wpAny_pure ⟨rfl, rfl, fun u hu => hall u (List.mem_cons_of_mem _ hu)⟩
 ·rintro ⟨r1, r2⟩ s' ⟨hr, rfl, _⟩
  simp only at hr
  subst hr
  exact wpAny_pure h
theorem wp_notSeen {ks : List K} {a : Addr} {Q : Bool -> Shared -> Prop} (hk : IsTupleKey knd s.heap ks a) (stored : List Value) (hst : ∀ y ∈ stored, ∃ ks' b, y = .ref b /\ IsTupleKey knd s.heap ks' b) (h : Q false s) :
  wpAny (model prog w) A (searchCouldBeSeen (.ref a) stored) Q E s := by
 unfold searchCouldBeSeen
 refine wpAny_bind ?_
 refine wpAny_forIn_list _ (fun rest r s' => r.1 = none /\ s' = s /\ ∀ y ∈ rest, ∃ ks' b, y = .ref b /\ IsTupleKey knd s.heap ks' b) _ ?_ ?_ _ _ ⟨rfl, rfl, hst⟩
 ·rintro v rest r s' ⟨hr, rfl, hall⟩
  obtain ⟨ks', b, rfl, hb⟩ := hall v List.mem_cons_self
  have hrest : ∀ y ∈ rest, ∃ ks' b, y = .ref b /\ IsTupleKey knd s'.heap ks' b := fun y hy => hall y (List.mem_cons_of_mem _ hy)
  dsimp only
  by_cases hv : (a == b) = true
  ·rw [if_pos (by rw [hv]; rfl)]
   exact wpAny_pure ⟨rfl, rfl, hrest⟩
  ·rw [if_neg (by simp [hv, carriedByValue])]
   refine wpAny_bind (wpAny_eqIsQuiet_tuple hk ?_)
   simp only [Bool.not_true, Bool.false_eq_true, if_false]
   refine wpAny_bind (wpAny_eqIsQuiet_tuple hb ?_)
   simp only [Bool.not_true, Bool.false_eq_true, if_false]
   refine wpAny_bind (wp_noClass hk ?_)
   simp only [Bool.false_eq_true, if_false]
   refine wpAny_bind (wp_noClass hb ?_)
   simp only [Bool.false_eq_true, if_false]
   exact wpAny_pure ⟨rfl, rfl, hrest⟩
 ·rintro ⟨r1, r2⟩ s' ⟨hr, rfl, _⟩
  simp only at hr
  subst hr
  exact wpAny_pure h
structure Ents (knd : KeyKind prog w K) (h : Heap) (es : Array (Int × Value)) (xs : List (List K × Addr)) : Prop where
 perm : es.toList.Perm (xs.map fun p => (tupleKeyHash knd p.1, Value.ref p.2))
 keys : ∀ p ∈ xs, IsTupleKey knd h p.1 p.2
 nodup : (xs.map (·.1)).Nodup
theorem Ents.at {h : Heap} {es : Array (Int × Value)} {xs : List (List K × Addr)} (X : Ents knd h es xs) {i : Nat} {e : Int × Value} (he : es[i]? = some e) : ∃ p ∈ xs, e = (tupleKeyHash knd p.1, Value.ref p.2) := by
 have hm : e ∈ es.toList := by rw [<- Array.getElem?_toList] at he; exact List.mem_of_getElem? he
 obtain ⟨p, hp, q⟩ := List.mem_map.mp (X.perm.mem_iff.mp hm)
 exact ⟨p, hp, q.symm⟩
theorem wp_search {S a : Addr} {o : Obj} {es : Array (Int × Value)} {ep : Nat} {t : SetTable} {xs : List (List K × Addr)} {ks : List K} {Q : SetFound -> Shared -> Prop} (hu : A.units < cLine)
  (ho : s.heap.get? S = some o) (hd : o.data = .set es ep t) (T : Tab t es) (X : Ents knd s.heap es xs) (hk : IsTupleKey knd s.heap ks a) {N : Nat} (hlt : N < 10 * turns t.mask)
  (hN : (sq t.mask (tupleKeyHash knd ks) N).j ∉ t.place.toList) (hb : ∀ m, m < N -> (sq t.mask (tupleKeyHash knd ks) m).j ∈ t.place.toList)
  (h1 : (∃ p ∈ xs, p.1 = ks) -> Q (.there none) s) (h2 : (∀ p ∈ xs, p.1 ≠ ks) -> Q (.free (sq t.mask (tupleKeyHash knd ks) N).j false) s) :
  ∀ (fuel n : Nat) (stand : Option Probe), stand.getD (t.probeStart (tupleKeyHash knd ks)) = sq t.mask (tupleKeyHash knd ks) n -> n <= N -> N - n < fuel ->
   (∀ (m i : Nat) (e : Int × Value), m < n -> t.place[i]? = some (sq t.mask (tupleKeyHash knd ks) m).j -> es[i]? = some e -> ∀ p ∈ xs, e = (tupleKeyHash knd p.1, Value.ref p.2) -> p.1 ≠ ks) ->
   wpAny (model prog w) A (setSearchFrom S (.ref a) (tupleKeyHash knd ks) true fuel stand) Q E s
 | 0, _, _, _, _, hf, _ => absurd hf (Nat.not_lt_zero _)
 | fuel + 1, n, stand, hst, hn, hf, hpre => by
  unfold setSearchFrom
  refine wpAny_bind (wpAny_setState_of ho hd T.fits ?_)
  dsimp only
  have hg : t.gaveWay = false := T.mask.odd
  rw [hg]
  simp only [Bool.false_eq_true, if_false]
  rw [hst]
  rcases probe_spec T (tupleKeyHash knd ks) hlt hN hb n hn with ⟨c1, c2⟩ | ⟨m, i, c1, c2, c3, c4, c5, c6⟩
  ·generalize hq : t.probe _ (tupleKeyHash knd ks) (sq t.mask (tupleKeyHash knd ks) n) = r
   have e : r = some (.empty (sq t.mask (tupleKeyHash knd ks) N).j none) := hq.symm.trans c2
   subst e
   dsimp only
   refine wpAny_pure (h2 fun p hp e => ?_)
   obtain ⟨i, hi, ei⟩ := List.getElem_of_mem (X.perm.mem_iff.mpr (List.mem_map.mpr ⟨p, hp, rfl⟩))
   have hei : es[i]? = some (tupleKeyHash knd p.1, Value.ref p.2) := by rw [<- Array.getElem?_toList]; exact List.getElem?_eq_some_iff.mpr ⟨hi, ei⟩
   have his : i < t.place.size := by rw [T.size, <- Array.length_toList]; exact hi
   obtain ⟨j, hj⟩ : ∃ j, t.place[i]? = some j := ⟨t.place[i], by simp [his]⟩
   obtain ⟨n', e1, e2⟩ := T.reach i j _ hj hei
   rw [e] at e1 e2
   have hlt' : n' < N := by
    rcases Nat.lt_or_ge n' N with q | q
    ·exact q
    ·rcases Nat.eq_or_lt_of_le q with q | q
     ·rw [q, e1] at hN; exact absurd (mem_place.mpr ⟨i, hj⟩) hN
     ·exact absurd (e2 N q) hN
   rw [<- e1] at hj
   rcases Nat.lt_or_ge n' n with q | q
   ·exact hpre n' i _ q hj hei p hp rfl e
   ·refine c1 n' i q hlt' hj ?_
    show (es[i]?.map (·.1)).getD 0 = _
    rw [hei, e]
    rfl
  ·generalize hq : t.probe _ (tupleKeyHash knd ks) (sq t.mask (tupleKeyHash knd ks) n) = r
   have e : r = some (.candidate (sq t.mask (tupleKeyHash knd ks) m).j i (sq t.mask (tupleKeyHash knd ks) (m + 1))) := hq.symm.trans c6
   subst e
   dsimp only
   have his : i < es.size := by rw [<- T.size]; exact (Array.getElem?_eq_some_iff.mp c3).1
   obtain ⟨en, hen⟩ : ∃ en, es[i]? = some en := ⟨es[i], by simp [his]⟩
   obtain ⟨p, hp, rfl⟩ := X.at hen
   have hpk := X.keys p hp
   have cont : wpAny (model prog w) A (do
     let equal <- holding [Value.ref p.2] (eqBool (Value.ref p.2) (.ref a))
     let (es', _, t') <- setState S
     if (true && equal) = true then return .there none
     let some same := t'.sameMemory t.moves t.mask | unsupported "set.changed-during-lookup:is-the-new-block-at-the-old-address"
     let still <- match (if same = true then t'.slot (sq t.mask (tupleKeyHash knd ks) m).j else .empty) with
      | .live i' => match es'[i']? with
       | some (_, y') => do pure (if <- isSame y' (Value.ref p.2) then some i' else none)
       | none => pure none
      | _ => pure none
     match still with
     | none => rule "set.search.anew"; setSearchFrom S (.ref a) (tupleKeyHash knd ks) true fuel none
     | some i' => if equal = true then return .there (some i') else setSearchFrom S (.ref a) (tupleKeyHash knd ks) true fuel (some (sq t.mask (tupleKeyHash knd ks) (m + 1)))) Q E s := by
    refine wpAny_bind (wpAny_holding (wpAny_eqBool_tuple hu hpk hk ?_))
    refine wpAny_bind (wpAny_setState_of ho hd T.fits ?_)
    dsimp only
    by_cases hke : p.1 = ks
    ·rw [if_pos (by simp [hke])]
     exact wpAny_pure (h1 ⟨p, hp, hke⟩)
    ·rw [if_neg (by simp [hke])]
     have hsm : t.sameMemory t.moves t.mask = some true := by unfold SetTable.sameMemory; rw [if_pos (beq_self_eq_true _)]
     rw [hsm]
     dsimp only
     rw [if_pos rfl, slot_live T.rise c3]
     dsimp only
     rw [hen]
     dsimp only
     refine wpAny_bind ?_
     have hss : isSame (Value.ref p.2) (Value.ref p.2) = pure true := by
      unfold isSame
      dsimp only
      rw [if_pos (beq_self_eq_true _)]
     rw [hss]
     refine wpAny_pure (wpAny_bind (wpAny_pure ?_))
     rw [if_pos rfl]
     dsimp only
     rw [if_neg (by simp [hke])]
     refine wp_search hu ho hd T X hk hlt hN hb h1 h2 fuel (m + 1) _ rfl (by lia) (by lia) fun m' i' e' q1 q2 q3 p' hp' q4 q5 => ?_
     rcases Nat.lt_or_ge m' n with z | z
     ·exact hpre m' i' e' z q2 q3 p' hp' q4 q5
     ·rcases Nat.lt_or_ge m' m with y | y
      ·refine c5 m' i' z y q2 ?_
       show (es[i']?.map (·.1)).getD 0 = _
       rw [q3, q4, q5]
       rfl
      ·have em : m' = m := by lia
       subst em
       have ei : i' = i := (below_at T.rise q2).symm.trans (below_at T.rise c3)
       subst ei
       rw [q3] at hen
       cases hen
       have e2 : p.2 = p'.2 := by injection q4 with _ q; injection q
       have hin : p.1 = p'.1 := by
        have k1 := X.keys p hp
        have k2 := X.keys p' hp'
        rw [e2] at k1
        exact k1.inj k2
       exact hke (hin.trans q5)
   rw [hen]
   cases hled : t.led with
   | true =>
    simp only [Bool.not_true, Bool.false_eq_true, if_false]
    exact cont
   | false =>
    simp only [Bool.not_false, if_true]
    refine wpAny_bind (wp_notSeen hk _ (fun y hy => ?_) ?_)
    ·obtain ⟨e', he', rfl⟩ := List.mem_map.mp hy
     rw [Array.toList_filter] at he'
     have hm := (List.mem_filter.mp he').1
     obtain ⟨p', hp', q⟩ := List.mem_map.mp (X.perm.mem_iff.mp hm)
     exact ⟨p'.1, p'.2, by rw [<- q], X.keys p' hp'⟩
    ·simp only [Bool.false_eq_true, if_false]
     exact cont
end
end RS
namespace RS
open PySem PySem.SetTable
section
variable {prog : Program} {w : World} {A : Around} {E : Value -> Shared -> Prop} {s : Shared}
theorem tupKey_keep {K : Type} [DecidableEq K] {knd : KeyKind prog w K} {h h' : Heap} {ks : List K} {a : Addr} (x : IsTupleKey knd h ks a) (k : ∀ o, h.get? a = some o -> h'.get? a = some o) : IsTupleKey knd h' ks a :=
 let ⟨o, items, n, ho, hc, hd, hi⟩ := x; ⟨o, items, n, k o ho, hc, hd, hi⟩
theorem items_ints {ks : List Int} {vs : List Value} (h : ItemsAre (intKind prog w) ks vs) : ∀ v ∈ vs, ∃ i t, v = .int i t := by
 induction h with
 | nil => intro v hv; cases hv
 | @cons k v ks vs h1 _ ih =>
  intro u hu
  rcases List.mem_cons.mp hu with rfl | hu
  ·cases u with
   | int i t => exact ⟨i, t, rfl⟩
   | _ => exact absurd h1 (by intro q; cases q)
  ·exact ih u hu
theorem wp_hashByValue {ks : List Int} {a : Addr} {Q : Bool -> Shared -> Prop} (hk : IsTupleKey (intKind prog w) s.heap ks a) (h : Q true s) : wpAny (model prog w) A (hashByValue 8 (.ref a)) Q E s := by
 have hT := hk.typeIs
 obtain ⟨o, items, n, ho, _, hd, hi⟩ := hk
 unfold hashByValue
 refine wpAny_bind (wpAny_specialOf hT F.slot_tuple_hash.lookup ?_)
 dsimp only
 refine wpAny_bind (wpAny_seqItems ho hd ?_)
 refine wpAny_bind ?_
 show wpAny _ _ (forIn items _ _) _ _ s
 rw [<- Array.forIn_toList]
 refine wpAny_forIn_list _ (fun rest r s' => r.1 = none /\ s' = s /\ ∀ v ∈ rest, ∃ i t, v = .int i t) _ ?_ ?_ _ _ ⟨rfl, rfl, items_ints hi⟩
 ·rintro v rest r s' ⟨hr, rfl, hall⟩
  obtain ⟨i, t, rfl⟩ := hall v List.mem_cons_self
  have e : hashByValue 7 (.int i t) = pure true := by unfold hashByValue; rfl
  rw [e]
  refine wpAny_bind (wpAny_pure ?_)
  simp only [Bool.not_true, Bool.false_eq_true, if_false]
  exact wpAny_pure ⟨rfl, rfl, fun u hu => hall u (List.mem_cons_of_mem _ hu)⟩
 ·rintro ⟨r1, r2⟩ s' ⟨hr, rfl, _⟩
  simp only at hr
  subst hr
  exact wpAny_pure h
noncomputable def SetAt (prog : Program) (w : World) (h : Heap) (S : Addr) (led : Bool) (xs : List (List Int × Addr)) : Prop :=
 ∃ o es ep t, h.get? S = some o /\ o.ExactSet /\ o.data = .set es ep t /\ Tab t es /\ t.led = led /\ Ents (intKind prog w) h es xs
theorem Ents.keep {h h' : Heap} {es : Array (Int × Value)} {xs : List (List Int × Addr)} (X : Ents (intKind prog w) h es xs) (k : ∀ p ∈ xs, ∀ o, h.get? p.2 = some o -> h'.get? p.2 = some o) : Ents (intKind prog w) h' es xs :=
 ⟨X.perm, fun p hp => tupKey_keep (X.keys p hp) (k p hp), X.nodup⟩
theorem Ents.size {h : Heap} {es : Array (Int × Value)} {xs : List (List Int × Addr)} (X : Ents (intKind prog w) h es xs) : es.size = xs.length := by
 have := X.perm.length_eq
 rw [List.length_map, Array.length_toList] at this
 exact this
theorem key_apart {h : Heap} {S a : Addr} {o : Obj} {es : Array (Int × Value)} {ep : Nat} {t : SetTable} {ks : List Int} (ho : h.get? S = some o) (hd : o.data = .set es ep t) (hk : IsTupleKey (intKind prog w) h ks a) : a ≠ S := by
 rintro rfl
 obtain ⟨o', items, n, ho', _, hd', _⟩ := hk
 rw [ho] at ho'
 cases ho'
 rw [hd] at hd'
 cases hd'
noncomputable def more (xs : List (List Int × Addr)) (k : List Int) (a : Addr) : List (List Int × Addr) := if k ∈ xs.map (·.1) then xs else xs ++ [(k, a)]
theorem wp_relay {S : Addr} {o : Obj} {es : Array (Int × Value)} {ep : Nat} {t : SetTable} {xs : List (List Int × Addr)} {Q : Unit -> Shared -> Prop} (ho : s.heap.get? S = some o) (he : o.ExactSet) (hd : o.data = .set es ep t)
  (T : Tab0 t es) (X : Ents (intKind prog w) s.heap es xs) (hn : es.size = 5 \/ es.size = 19 \/ es.size = 77) (hm : es.size <= t.mask)
  (h : ∀ h', Heap.SameBut S s.heap h' -> SetAt prog w h' S t.led xs -> Q () { s with heap := h' }) : wpAny (model prog w) A (setRelay S (SetTable.grown es.size)) Q E s := by
 have hf : t.fits es.size = true := by
  have := T.size
  have h0 : t.dummies.size = 0 := by rw [T.nod]; rfl
  unfold SetTable.fits SetTable.fill
  simp only [Bool.and_eq_true, beq_iff_eq, decide_eq_true_eq]
  lia
 obtain ⟨t', order, e1, e2, e3, e4, e5⟩ := relaid_spec T hn
 unfold setRelay
 refine wpAny_bind (wpAny_setState_of ho hd hf ?_)
 dsimp only
 have hsz := grown_small hn
 rw [if_neg (by rw [sizeLine_eq]; lia)]
 rw [e1]
 refine wpAny_bind ?_
 have hre : ∀ (Q' : Array (Int × Value) × SetTable -> Shared -> Prop), Q' (order.filterMap (es[·]?), t') s -> wpAny (model prog w) A
   (if ((order.filterMap (es[·]?)).size != es.size) = true then (unsupported "internal:set-table-lost-an-element" : Sem PUnit) >>= fun _ => pure (order.filterMap (es[·]?), t') else pure (order.filterMap (es[·]?), t')) Q' E s := fun Q' hq => by
  rw [if_neg (by simp [e5])]
  exact wpAny_pure hq
 refine hre _ ?_
 have hb : (order.filterMap (es[·]?)).size < scanBound := by
  rw [e5]
  show es.size < 4096
  lia
 refine wpAny_storeSet_of ho hd ?_ (fits_of_scanBound hb)
 have hg : (s.heap.update S (Obj.putSet (order.filterMap (es[·]?)) t')).get? S = some { o with data := .set (order.filterMap (es[·]?)) (ep + 1) t' } := by
  have := Heap.get?_update_self (Obj.putSet (order.filterMap (es[·]?)) t') ho (by rw [putSet_of _ t' hd]; rfl)
  rw [putSet_of _ t' hd] at this; exact this
 have hsb := Heap.SameBut.update s.heap S (Obj.putSet (order.filterMap (es[·]?)) t')
 refine h _ hsb ⟨_, _, ep + 1, t', hg, he, rfl, e3, e4, ⟨e2.trans X.perm, fun p hp => ?_, X.nodup⟩⟩
 have hk := X.keys p hp
 exact tupKey_keep hk fun o' q => (hsb.2 p.2 (key_apart ho hd hk)).trans q
theorem wp_setAdd {S a : Addr} {led : Bool} {xs : List (List Int × Addr)} {ks : List Int} {Q : Bool -> Shared -> Prop} (hu : A.units < cLine) (hS : SetAt prog w s.heap S led xs) (hk : IsTupleKey (intKind prog w) s.heap ks a) (hlen : xs.length + 1 <= 200)
  (h : ∀ b h' tk, s.toks <= tk -> Heap.SameBut S s.heap h' -> SetAt prog w h' S led (more xs ks a) -> Q b { s with heap := h', toks := tk }) : wpAny (model prog w) A (setAdd S (.ref a)) Q E s := by
 obtain ⟨o, es, ep, t, ho, he, hd, T, hl, X⟩ := hS
 have hes := X.size
 unfold setAdd
 refine wpAny_holding (wpAny_bind (wpAny_pyHash_tuple hu hk ?_))
 generalize htk : s.toks + (ks.length + 1) = tk
 have htk' : s.toks <= tk := by lia
 unfold setAddHashed setAddHashedIn
 refine wpAny_holding (wpAny_bind (wpAny_setState_of (s := { s with toks := tk }) ho hd T.fits ?_))
 dsimp only
 have hbs : byScan (.ref a) es = false := by simp [byScan, Value.scannable]
 rw [hbs]
 simp only [Bool.false_eq_true, if_false]
 obtain ⟨N, hN1, hN2, hN3⟩ := T.first_empty (tupleKeyHash (intKind prog w) ks)
 unfold setSearch
 have hturn : 10 * turns t.mask <= 6000 := by
  unfold turns
  rcases T.mask with q | q | q | q <;> rw [q] <;> decide
 refine wpAny_bind (wp_search (s := { s with toks := tk }) hu ho hd T X hk hN1 hN2 hN3 ?g1 ?g2 100000 0 none (start_eq t _) (Nat.zero_le _) (by lia) fun m _ _ hm => absurd hm (Nat.not_lt_zero _))
 case g1 =>
  rintro ⟨p, hp, e⟩
  dsimp only
  refine wpAny_pure ?_
  have hm : more xs ks a = xs := by unfold more; rw [if_pos (List.mem_map.mpr ⟨p, hp, e⟩)]
  exact h false s.heap tk htk' (Heap.SameBut.refl S s.heap) (by rw [hm]; exact ⟨o, es, ep, t, ho, he, hd, T, hl, X⟩)
 case g2 =>
  intro hno
  dsimp only
  have hm : more xs ks a = xs ++ [(ks, a)] := by
   unfold more
   rw [if_neg fun hin => ?_]
   obtain ⟨p, hp, e⟩ := List.mem_map.mp hin
   exact hno p hp e
  refine wpAny_bind (wpAny_setState_of (s := { s with toks := tk }) ho hd T.fits ?_)
  dsimp only
  rw [put_place t T.nod]
  dsimp only
  rw [if_pos T.plain]
  refine wpAny_bind (wp_hashByValue (s := { s with toks := tk }) hk ?_)
  simp only [if_true]
  have T0 := T.put (.ref a) hN2 hN3
  have hsz1 := insertAt_size es (below t.place (sq t.mask (tupleKeyHash (intKind prog w) ks) N).j) (tupleKeyHash (intKind prog w) ks, Value.ref a)
  have hb : (insertAt es (below t.place (sq t.mask (tupleKeyHash (intKind prog w) ks) N).j) (tupleKeyHash (intKind prog w) ks, Value.ref a)).size < scanBound := by
   rw [hsz1]
   show es.size + 1 < 4096
   lia
  generalize hes' : insertAt es (below t.place (sq t.mask (tupleKeyHash (intKind prog w) ks) N).j) (tupleKeyHash (intKind prog w) ks, Value.ref a) = es' at T0 hsz1 hb ⊢
  have hperm : es'.toList.Perm ((xs ++ [(ks, a)]).map fun p => (tupleKeyHash (intKind prog w) p.1, Value.ref p.2)) := by
   rw [<- hes']
   refine (SetTable.insertAt_perm _ _ _).trans ?_
   rw [Array.toList_push, List.map_append]
   exact X.perm.append_right _
  have hnd : ((xs ++ [(ks, a)]).map (·.1)).Nodup := by
   rw [List.map_append, List.nodup_append]
   refine ⟨X.nodup, by simp, fun x hx y hy e => ?_⟩
   rw [List.map_singleton, List.mem_singleton] at hy
   obtain ⟨p, hp, q⟩ := List.mem_map.mp hx
   exact hno p hp (by rw [q, e, hy])
  generalize ht' : ({ t with place := insertAt t.place (below t.place (sq t.mask (tupleKeyHash (intKind prog w) ks) N).j) (sq t.mask (tupleKeyHash (intKind prog w) ks) N).j } : SetTable) = t' at T0 ⊢
  have hmask : t'.mask = t.mask := by rw [<- ht']
  have hled : t'.led = t.led := by rw [<- ht']
  have hkeys : ∀ p ∈ xs ++ [(ks, a)], IsTupleKey (intKind prog w) s.heap p.1 p.2 := fun p hp => by
   rcases List.mem_append.mp hp with hp | hp
   ·exact X.keys p hp
   ·rw [List.mem_singleton.mp hp]; exact hk
  refine wpAny_bind (wpAny_storeSet_of (s := { s with toks := tk }) ho hd ?_ (fits_of_scanBound hb))
  have hg : (s.heap.update S (Obj.putSet es' t')).get? S = some { o with data := .set es' (ep + 1) t' } := by
   have := Heap.get?_update_self (Obj.putSet es' t') ho (by rw [putSet_of es' t' hd]; rfl)
   rw [putSet_of es' t' hd] at this; exact this
  have hsb := Heap.SameBut.update s.heap S (Obj.putSet es' t')
  have X' : Ents (intKind prog w) (s.heap.update S (Obj.putSet es' t')) es' (xs ++ [(ks, a)]) := ⟨hperm, fun p hp => tupKey_keep (hkeys p hp) fun o' q => (hsb.2 p.2 (key_apart ho hd (hkeys p hp))).trans q, hnd⟩
  have hfill : t'.fill = es'.size := by
   have h0 : t'.dummies.size = 0 := by rw [T0.nod]; rfl
   unfold SetTable.fill
   rw [h0, T0.size]
   rfl
  have hroom := T.room
  by_cases hfull : t'.tooFull = true
  ·rw [if_pos (by rw [hfull]; rfl)]
   have hge : es'.size * 5 >= t.mask * 3 := by
    unfold SetTable.tooFull at hfull
    rw [hfill, hmask] at hfull
    simpa using hfull
   have hn : es'.size = 5 \/ es'.size = 19 \/ es'.size = 77 := by
    rcases T.mask with q | q | q | q <;> rw [q] at hge hroom <;> lia
   have hle : es'.size <= t'.mask := by
    rw [hmask]
    rcases T.mask with q | q | q | q <;> rw [q] at hge hroom ⊢ <;> lia
   rw [show es.size + 1 = es'.size from hsz1.symm]
   refine wpAny_bind (wp_relay (s := { s with heap := s.heap.update S (Obj.putSet es' t'), toks := tk }) hg he rfl T0 X' hn hle fun h' hs' hS' => ?_)
   refine wpAny_pure (h true h' tk htk' (hsb.trans hs') ?_)
   rw [hm, <- hl, <- hled]
   exact hS'
  ·rw [if_neg (by simpa using hfull)]
   have hlt : es'.size * 5 < t.mask * 3 := by
    unfold SetTable.tooFull at hfull
    rw [hfill, hmask] at hfull
    simpa using hfull
   refine wpAny_pure (h true _ tk htk' hsb ?_)
   rw [hm, <- hl, <- hled]
   exact ⟨_, es', ep + 1, t', hg, he, rfl, T0.more (by rw [hmask]; exact hlt), rfl, X'⟩
end
end RS
namespace RS
open PySem PySem.SetTable
noncomputable abbrev newSetObj (led : Bool) : Obj := { cls := .type "set", dict := none, data := .set #[] 0 (.fresh 0 0 led) }
section
variable {prog : Program} {w : World} {A : Around} {E : Value -> Shared -> Prop} {s : Shared}
theorem setAt_fresh {h : Heap} {S : Addr} {led : Bool} (e : h.get? S = some (newSetObj led)) : SetAt prog w h S led [] :=
 ⟨_, #[], 0, _, e, ⟨rfl, rfl, rfl⟩, rfl, ⟨rfl, .inl rfl, List.Pairwise.nil, rfl, fun j hj => (by cases hj), rfl, (by show 0 * 5 < 7 * 3; decide), fun i j e h => (by simp [SetTable.fresh] at h)⟩, rfl,
  ⟨List.Perm.refl _, fun p hp => (by cases hp), List.nodup_nil⟩⟩
noncomputable def moreAll (xs : List (List Int × Addr)) (l : List (List Int × Addr)) : List (List Int × Addr) := l.foldl (fun xs p => more xs p.1 p.2) xs
theorem more_len (xs : List (List Int × Addr)) (k : List Int) (a : Addr) : (more xs k a).length <= xs.length + 1 := by
 unfold more
 split
 ·lia
 ·rw [List.length_append, List.length_singleton]; lia
structure Went (S I : Addr) (s s' : Shared) : Prop where
 heap : ∀ b o, b ≠ S -> b ≠ I -> s.heap.get? b = some o -> s'.heap.get? b = some o
 gens : s'.gens = s.gens
 drawn : s'.drawn = s.drawn
 os : s'.os = s.os
theorem set_loop {S I l : Addr} {led : Bool} {its : List (List Int × Addr)} {R : Result -> Shared -> Prop} (hh : A.handled = none) (hu : A.units + 1 < cLine) (hSI : S ≠ I) (hSl : S ≠ l) (hlI : l ≠ I) (hI : ∀ p ∈ its, p.2 ≠ I) (hlen : its.length <= 150) :
  ∀ (rest pre : List (List Int × Addr)) (xs : List (List Int × Addr)) (s : Shared), pre ++ rest = its -> xs.length <= pre.length -> s.heap.IsListIter I l pre.length -> s.heap.IsList l (its.map fun p => Value.ref p.2).toArray -> SetAt prog w s.heap S led xs ->
   (∀ p ∈ its, IsTupleKey (intKind prog w) s.heap p.1 p.2) -> (∀ s', Went S I s s' -> SetAt prog w s'.heap S led (moreAll xs rest) -> R (.ok (.ret .none)) s') ->
   codeAny (model prog w) A (.builtin "set.update.loop" ⟨[.ref S, .ref I], []⟩) R s
 | [], pre, xs, s, e, hx, hi, hl, hS, hk, h => by
  rw [List.append_nil] at e
  subst e
  refine codeAny_builtin PyProof.Rows.F.entry_set_update_loop ?_
  rw [Around.under_plainId PyProof.Rows.F.plain_set_update_loop _]
  show wpAny _ A.in1 (pyNext (.ref I) >>= _) _ _ s
  refine wpAny_bind (wpAny_pyNext_list_end (by exact hh) hi hl (by simp) fun h' eb => ?_)
  refine wpAny_pure (h { s with heap := h' } ⟨fun b o _ hb q => eb b o hb q, rfl, rfl, rfl⟩ ?_)
  obtain ⟨o, es, ep, t, ho, he, hd, T, hle, X⟩ := hS
  exact ⟨o, es, ep, t, eb _ _ hSI ho, he, hd, T, hle, X.keep fun p hp o' q => eb _ _ (fun z => by
   obtain ⟨o2, e2, c2, d2⟩ := hi
   obtain ⟨o3, it3, n3, e3, c3, d3, _⟩ := X.keys p hp
   rw [z, e2] at e3
   cases e3
   rw [d2] at d3
   cases d3) q⟩
 | p :: rest, pre, xs, s, e, hx, hi, hl, hS, hk, h => by
  have hp : p ∈ its := by rw [<- e]; simp
  have hlp : pre.length + 1 <= its.length := by rw [<- e]; simp
  refine codeAny_builtin PyProof.Rows.F.entry_set_update_loop ?_
  rw [Around.under_plainId PyProof.Rows.F.plain_set_update_loop _]
  show wpAny _ A.in1 (pyNext (.ref I) >>= _) _ _ s
  refine wpAny_bind (wpAny_pyNext_list_item hi hl (x := Value.ref p.2) (by rw [<- e]; simp) fun h1 hi1 hs1 => ?_)
  have up1 : ∀ b o, b ≠ I -> s.heap.get? b = some o -> h1.get? b = some o := fun b o hb q => hs1.extBut b o hb q
  have hS1 : SetAt prog w h1 S led xs := by
   obtain ⟨o, es, ep, t, ho, he, hd, T, hle, X⟩ := hS
   exact ⟨o, es, ep, t, up1 _ _ hSI ho, he, hd, T, hle, X.keep fun q hq o' z => up1 _ _ (fun y => by
    obtain ⟨o2, e2, c2, d2⟩ := hi
    obtain ⟨o3, it3, n3, e3, c3, d3, _⟩ := X.keys q hq
    rw [y, e2] at e3
    cases e3
    rw [d2] at d3
    cases d3) z⟩
  have hk1 : ∀ q ∈ its, IsTupleKey (intKind prog w) h1 q.1 q.2 := fun q hq => tupKey_keep (hk q hq) fun o z => up1 _ o (hI q hq) z
  show wpAny _ A.in1 (holding [Value.ref p.2] (setAdd S (.ref p.2)) >>= _) _ _ { s with heap := h1 }
  refine wpAny_bind (wpAny_holding (wp_setAdd (s := { s with heap := h1 }) (by exact hu) hS1 (hk1 p hp) (by lia) fun b h2 tk htk hs2 hS2 => ?_))
  refine wpAny_pure ⟨plainId_quiet PyProof.Rows.F.plain_set_update_loop _, ?_⟩
  have up2 : ∀ b o, b ≠ S -> h1.get? b = some o -> h2.get? b = some o := fun b o hb q => hs2.extBut b o hb q
  have hml := more_len xs p.1 p.2
  have kS : ∀ q ∈ its, q.2 ≠ S := fun q hq z => by
   obtain ⟨o, es, ep, t, ho, _, hd, _⟩ := hS1
   exact key_apart ho hd (hk1 q hq) z
  refine set_loop hh hu hSI hSl hlI hI hlen rest (pre ++ [p]) (more xs p.1 p.2) { s with heap := h2, toks := tk } (by rw [<- e]; simp) (by rw [List.length_append, List.length_singleton]; lia) ?_ ?_ hS2 (fun q hq => ?_) fun s' w' hS' => ?_
  ·rw [List.length_append, List.length_singleton]
   exact hi1.at fun o q => up2 _ o (Ne.symm hSI) q
  ·obtain ⟨o, q, r⟩ := hl
   exact ⟨o, up2 _ _ (Ne.symm hSl) (up1 _ _ hlI q), r⟩
  ·exact tupKey_keep (hk1 q hq) fun o z => up2 _ o (kS q hq) z
  ·exact h s' ⟨fun b o h1' h2' q => w'.heap b o h1' h2' (up2 b o h1' (up1 b o h2' q)), w'.gens, w'.drawn, w'.os⟩ hS'
theorem code_set_new_w (a : Value) {Q₁ : Value -> Shared -> Prop} (h : Q₁ (.ref s.heap.objs.size) { s with heap := s.heap.push (newSetObj (!w.params.followText "set-order")) }) :
  codeAny (model prog w) A (.call (.builtin "set.__new__") ⟨[.type "set", a], []⟩) (wants Q₁ E) s := by
 refine codeAny_of_tree ?_
 show wpAny _ A.in1 (do checkBuiltinCall "set.__new__" ⟨[.type "set", a], []⟩; again (.builtin "set.__new__" ⟨[.type "set", a], []⟩)) _ _ s
 refine wpAny_bind (wpAny_of_eq (PySem.F.newCall_set_1 a) (wpAny_pure ⟨plainId_quiet PySem.F.plain_set_new _, codeAny_builtin PySem.F.entry_set_new ?_⟩))
 rw [Around.under_plainId PySem.F.plain_set_new _]
 unfold Builtin.«set.__new__» Builtin.Frozenset.newClass
 have hsb := sub_set_self
 obtain ⟨hp, g, d, tk, os⟩ := s
 dsimp only
 wp_walk
 refine wpAny_askSetting (wpAny_pure ?_)
 dsimp only
 simp only [newObj]
 exact wpAny_bind (wpAny_alloc (wpAny_pure (wpAny_pure h)))
set_option maxHeartbeats 4000000 in
theorem call_set_tups {l : Addr} {its : List (List Int × Addr)} {Q : Value -> Shared -> Prop} (hh : A.handled = none) (hu : A.units + 8 < cLine) (hl : s.heap.IsList l (its.map fun p => Value.ref p.2).toArray) (hk : ∀ p ∈ its, IsTupleKey (intKind prog w) s.heap p.1 p.2) (hlen : its.length <= 150)
  (h : ∀ (h' : Heap) (tk : Nat), SetAt prog w h' s.heap.objs.size (!w.params.followText "set-order") (moreAll [] its) -> (∀ b o, s.heap.get? b = some o -> h'.get? b = some o) -> Q (.ref s.heap.objs.size) { s with heap := h', toks := tk }) :
  wpAny (model prog w) A (call (.type "set") [.ref l]) Q E s := by
 obtain ⟨mc, mt, hmro⟩ := PySem.F.called_set.mro
 have hmd := PySem.F.called_set.made
 have hsb := PySem.F.called_set.sub
 refine wpAny_call (codeAny_of_tree ?_)
 show wpAny _ _ (callAny (.type "set") _) _ _ s
 refine wpAny_pure ⟨Code.quiet_builtin _ (by decide +kernel), codeAny_builtin PySem.F.entry_type_call ?_⟩
 rw [Around.under_plain (weight_type_call_type "set" [.ref l] []) rfl]
 have x1 := PySem.F.called_set.notType
 have x2 := PySem.F.called_set.canCreate
 have x3 := PySem.F.typeCall_set_1 (.ref l)
 repeat (any_goals (first | assumption | wp_step))
 refine codeAny_mono (code_set_new_w (.ref l) (E := E) (Q₁ := fun ob s1 => ob = .ref s.heap.objs.size /\ s1 = { s with heap := s.heap.push (newSetObj (!w.params.followText "set-order")) }) ⟨rfl, rfl⟩) fun r s1 hr => ?_
 cases r with
 | error e => exact hr
 | ok fl =>
  cases fl with
  | ret ob =>
   obtain ⟨rfl, rfl⟩ := hr
   generalize (!w.params.followText "set-order") = led at h ⊢
   have g1 : (s.heap.push (newSetObj led)).get? s.heap.objs.size = some (newSetObj led) := Heap.get?_push_size _ rfl
   have hT : Shared.TypeIs { s with heap := s.heap.push (newSetObj led) } (.ref s.heap.objs.size) "set" := ⟨_, g1, rfl⟩
   have y1 := PySem.F.called_set.init.lookup
   have y2 := PySem.F.called_set.init.bind (.ref s.heap.objs.size)
   repeat (any_goals (first | assumption | wp_step))
   refine codeAny_mono (codeAny_call_builtin (R := wants (fun r s2 => r = .none /\ ∃ h' tk, s2 = { s with heap := h', toks := tk } /\ SetAt prog w h' s.heap.objs.size led (moreAll [] its) /\ ∀ b o, s.heap.get? b = some o -> h'.get? b = some o) E)
    PySem.F.called_set.init.plain PySem.F.entry_set_init (check_set_init_1 hT ?_)) fun r2 s2 hr2 => ?_
   ·have hl' := hl
    obtain ⟨ol, hol, hcl, nl, hdl⟩ := hl
    obtain ⟨oc, od, oda, osl⟩ := ol
    simp only at hcl hdl
    subst hcl; subst hdl
    have hol1 : (s.heap.push (newSetObj led)).get? l = some { cls := .type "list", dict := od, data := .seq (its.map fun p => Value.ref p.2).toArray nl, slots := osl } := Heap.get?_push_of_some _ hol
    have z1 := PySem.F.sub_list_set
    have z2 := PySem.F.sub_list_frozenset
    have z3 : (Value.type "list" == Value.type "dict") = false := by decide
    have hl1 : (s.heap.push (newSetObj led)).IsList l (its.map fun p => Value.ref p.2).toArray := ⟨_, hol1, rfl, nl, rfl⟩
    unfold Builtin.«set.__init__» noKeywords Builtin.Frozenset.updateFrom
    generalize hPI : pyIter = PI
    wp_walk
    subst hPI
    refine wpAny_pyIter_list hl1 ?_
    refine wpAny_bind (wpAny_runValue ?_)
    have hlS : l < s.heap.objs.size := Heap.lt_size hol
    have sz : (s.heap.push (newSetObj led)).objs.size = s.heap.objs.size + 1 := Heap.size_push ..
    have kk : ∀ b o, s.heap.get? b = some o -> ((s.heap.push (newSetObj led)).push { cls := .type "list_iterator", data := .fields #[.ref l, .int 0 0] }).get? b = some o := fun b o q => Heap.get?_push_of_some _ (Heap.get?_push_of_some _ q)
    have ltI : ∀ p ∈ its, p.2 < s.heap.objs.size := fun p hp => by
     obtain ⟨o, _, _, e, _⟩ := hk p hp
     exact Heap.lt_size e
    refine set_loop (its := its) (led := led) (S := s.heap.objs.size) (I := (s.heap.push (newSetObj led)).objs.size) (l := l) (by simpa using hh) (by show A.units + 1 + 1 + 1 < cLine; lia) (by rw [sz]; exact Nat.ne_of_lt (Nat.lt_succ_self _)) (Nat.ne_of_gt hlS)
     (by rw [sz]; exact Nat.ne_of_lt (Nat.lt_succ_of_lt hlS)) (fun p hp => by rw [sz]; exact Nat.ne_of_lt (Nat.lt_succ_of_lt (ltI p hp))) hlen its [] [] _ rfl (Nat.le_refl _) ⟨_, Heap.get?_push_size _ rfl, rfl, rfl⟩ (hl1.push _)
     (setAt_fresh (Heap.get?_push_of_some _ g1)) (fun p hp => tupKey_keep (hk p hp) fun o q => kk _ o q) fun s' w' hS' => ?_
    obtain ⟨h', g', d', tk', os'⟩ := s'
    have eg : g' = s.gens := w'.gens
    have ed : d' = s.drawn := w'.drawn
    have eo : os' = s.os := w'.os
    subst eg; subst ed; subst eo
    show wpAny _ _ _ _ _ _
    refine wpAny_pure ?_
    show wpAny _ _ (ret Value.none) _ _ _
    refine wpAny_pure ⟨rfl, h', tk', rfl, hS', fun b o q => ?_⟩
    have hb := Heap.lt_size q
    exact w'.heap b o (Nat.ne_of_lt hb) (by rw [sz]; exact Nat.ne_of_lt (Nat.lt_succ_of_lt hb)) (kk b o q)
   ·cases r2 with
    | error e => exact hr2
    | ok fl2 =>
     cases fl2 with
     | ret r =>
      obtain ⟨rfl, h', tk, rfl, hS', hk'⟩ := hr2
      repeat (any_goals (first | assumption | wp_step))
      exact h _ _ hS' hk'
     | _ => exact hr2.elim
  | _ => exact hr.elim
end
end RS
namespace RS
open PySem PySem.SetTable
theorem erase_perm {α : Type} (l : List α) (i : Nat) (h : i < l.length) : (l[i] :: l.eraseIdx i).Perm l := by
 have e : l = l.take i ++ l[i] :: l.drop (i + 1) := by rw [List.getElem_cons_drop, List.take_append_drop]
 rw [List.eraseIdx_eq_take_drop_succ]
 conv => rhs; rw [e]
 exact List.perm_middle.symm
set_option tactic.hygienic true in
theorem pick_go {α : Type} (next : Nat -> Nat) : ∀ (fuel k : Nat) (left : List α) (out : Array α), left.length = fuel -> (pickOrder.go next fuel k left out).toList.Perm (out.toList ++ left)
 | 0, k, left, out, h => by
  have e : left = [] := List.length_eq_zero_iff.mp h
  subst e
  simp [pickOrder.go]
 | fuel + 1, k, left, out, h => by
  unfold pickOrder.go
  have hlt : next k % left.length < left.length := Nat.mod_lt _ (by lia)
  rw [List.getElem?_eq_getElem hlt]
  dsimp only
  have ih := pick_go next fuel (k + 1) (left.eraseIdx (next k % left.length)) (out.push left[next k % left.length]) (by rw [List.length_eraseIdx_of_lt hlt]; lia)
  refine ih.trans ?_
  rw [Array.toList_push, List.append_assoc]
  refine List.Perm.append_left _ ?_
  exact erase_perm left _ hlt
set_option tactic.hygienic true in
theorem pick_perm {α : Type} (next : Nat -> Nat) (xs : Array α) : (pickOrder next xs).toList.Perm xs.toList := by
 have := pick_go next xs.size 0 xs.toList #[] (by simp)
 simpa [pickOrder] using this
namespace Fs
theorem slot_next : Slot "set_iterator" "__next__" "set_iterator.__next__" :=
 .of (owner := "set_iterator") (n := "__next__") (by rw [typeLookup_type, builtinLookup_eq_fast]; kernel_rfl) (by decide +kernel) (by decide +kernel) (by decide +kernel)
  (by first | exact .inl (by decide +kernel) | exact .inr (by decide +kernel)) (by rw [isSubtype_type]; kernel_rfl)
theorem slot_self : Slot "set_iterator" "__iter__" "set_iterator.__iter__" :=
 .of (owner := "set_iterator") (n := "__iter__") (by rw [typeLookup_type, builtinLookup_eq_fast]; kernel_rfl) (by decide +kernel) (by decide +kernel) (by decide +kernel)
  (by first | exact .inl (by decide +kernel) | exact .inr (by decide +kernel)) (by rw [isSubtype_type]; kernel_rfl)
theorem entry_next : entryFor table "set_iterator.__next__" = some Builtin.«set_iterator.__next__» := entryFor_of_tree (by kernel_rfl)
theorem entry_iter : entryFor table "set.__iter__" = some Builtin.«frozenset.__iter__» := entryFor_alias (id' := "frozenset.__iter__") (by kernel_rfl) rfl (by decide +kernel) (by kernel_rfl)
theorem owner_it : Manifest.owners.lookup (String.ofList ['r', 'o', 't', 'a', 'r', 'e', 't', 'i', '_', 't', 'e', 's'].reverse) = some Manifest.sig_set_iterator := by kernel_rfl
theorem args_next (a : Value) : argsOk "set_iterator.__next__" ⟨[a], []⟩ := by
 unfold argsOk; rw [signature?_of (id := "set_iterator.__next__") (n := ['_', '_', 't', 'x', 'e', 'n', '_', '_']) (o := ['r', 'o', 't', 'a', 'r', 'e', 't', 'i', '_', 't', 'e', 's']) (by kernel_rfl) owner_it]; kernel_rfl
theorem args_self (a : Value) : argsOk "set_iterator.__iter__" ⟨[a], []⟩ := by
 unfold argsOk; rw [signature?_of (id := "set_iterator.__iter__") (n := ['_', '_', 'r', 'e', 't', 'i', '_', '_']) (o := ['r', 'o', 't', 'a', 'r', 'e', 't', 'i', '_', 't', 'e', 's']) (by kernel_rfl) owner_it]; kernel_rfl
end Fs
end RS
namespace RS
open PySem PySem.SetTable
theorem Fs.entry_self : entryFor table "set_iterator.__iter__" = some Builtin.«dict_keyiterator.__iter__» := entryFor_alias (id' := "dict_keyiterator.__iter__") (by kernel_rfl) rfl (by decide +kernel) (by kernel_rfl)
noncomputable def SetEx (h : Heap) (S : Addr) (es : Array (Int × Value)) (ep : Nat) (t : SetTable) : Prop := ∃ o, h.get? S = some o /\ o.cls = .type "set" /\ o.data = .set es ep t
theorem SetEx.at {h h' : Heap} {S : Addr} {es : Array (Int × Value)} {ep : Nat} {t : SetTable} (x : SetEx h S es ep t) (k : ∀ o, h.get? S = some o -> h'.get? S = some o) : SetEx h' S es ep t := let ⟨o, e, r⟩ := x; ⟨o, k o e, r⟩
theorem SetEx.type {s : Shared} {S : Addr} {es : Array (Int × Value)} {ep : Nat} {t : SetTable} (x : SetEx s.heap S es ep t) : s.TypeIs (.ref S) "set" := let ⟨o, e, c, _⟩ := x; ⟨o, e, c⟩
noncomputable def walkOf (w : World) (S : Addr) (es : Array (Int × Value)) (ep : Nat) : Array (Int × Value) := if w.params.followText "set-order" = true then pickOrder (w.params.setOrder S ep) es else es
theorem walk_perm (w : World) (S : Addr) (es : Array (Int × Value)) (ep : Nat) : (walkOf w S es ep).toList.Perm es.toList := by
 unfold walkOf
 split
 ·exact pick_perm _ _
 ·exact List.Perm.refl _
theorem walk_size (w : World) (S : Addr) (es : Array (Int × Value)) (ep : Nat) : (walkOf w S es ep).size = es.size := by
 rw [<- Array.length_toList, (walk_perm w S es ep).length_eq, Array.length_toList]
noncomputable def slotAt (w : World) (t : SetTable) (i : Nat) : Nat := if w.params.followText "set-order" = true then 0 else if i = 0 then 0 else t.place.getD (i - 1) 0 + 1
noncomputable def IsSetIter (w : World) (h : Heap) (I S : Addr) (n ep : Nat) (t : SetTable) (i : Nat) : Prop :=
 ∃ o, h.get? I = some o /\ o.cls = .type "set_iterator" /\ o.data = .fields #[.int (slotAt w t i) 0, .int i 0, .ref S, .int n 0, .int ep 0]
theorem IsSetIter.type {w : World} {s : Shared} {I S : Addr} {n ep : Nat} {t : SetTable} {i : Nat} (x : IsSetIter w s.heap I S n ep t i) : s.TypeIs (.ref I) "set_iterator" := let ⟨o, e, c, _⟩ := x; ⟨o, e, c⟩
theorem IsSetIter.at {w : World} {h h' : Heap} {I S : Addr} {n ep : Nat} {t : SetTable} {i : Nat} (x : IsSetIter w h I S n ep t i) (k : ∀ o, h.get? I = some o -> h'.get? I = some o) : IsSetIter w h' I S n ep t i := let ⟨o, e, r⟩ := x; ⟨o, k o e, r⟩
noncomputable def Led (w : World) (t : SetTable) : Prop := t.led = !w.params.followText "set-order"
theorem below_slot {w : World} {t : SetTable} (r : Rise t.place) (hw : w.params.followText "set-order" = false) {i : Nat} (hi : i <= t.place.size) : below t.place (slotAt w t i) = i := by
 unfold slotAt
 rw [hw]
 simp only [Bool.false_eq_true, if_false]
 have g : ∀ k : Nat, k < t.place.size -> t.place[k]? = some (t.place.getD k 0) := fun k hk => by simp [Array.getD, hk]
 by_cases h0 : i = 0
 ·rw [if_pos h0, h0]
  obtain ⟨a1, a2, a3⟩ := below_spec r 0
  rcases Nat.eq_zero_or_pos (below t.place 0) with q | q
  ·exact q
  ·exact absurd (a2 0 _ q (g 0 (by lia))) (Nat.not_lt_zero _)
 ·rw [if_neg h0]
  obtain ⟨a1, a2, a3⟩ := below_spec r (t.place.getD (i - 1) 0 + 1)
  have hlt : i - 1 < t.place.size := by lia
  have h1 : i - 1 < below t.place (t.place.getD (i - 1) 0 + 1) := by
   rcases Nat.lt_or_ge (i - 1) (below t.place (t.place.getD (i - 1) 0 + 1)) with q | q
   ·exact q
   ·have := a3 (i - 1) _ q (g _ hlt)
    lia
  rcases Nat.lt_or_ge i (below t.place (t.place.getD (i - 1) 0 + 1)) with q | q
  ·have hi' : i < t.place.size := by lia
   have b1 := a2 i _ q (g i hi')
   have b2 := r.lt (g (i - 1) hlt) (g i hi') (by lia)
   omega
  ·lia
section
variable {prog : Program} {w : World} {A : Around} {E : Value -> Shared -> Prop} {s : Shared} {S I : Addr} {es : Array (Int × Value)} {ep : Nat} {t : SetTable}
theorem wp_byText {Q : Bool -> Shared -> Prop} (h : Q (w.params.followText "set-order") s) : wpAny (model prog w) A setsByText Q E s := by
 unfold setsByText
 exact wpAny_bind (wpAny_askSetting (wpAny_pure h))
theorem wp_iterSet {Q : Value -> Shared -> Prop} (hS : SetEx s.heap S es ep t) (T : Tab t es)
  (hQ : Q (.ref s.heap.objs.size) { s with heap := s.heap.push { cls := .type "set_iterator", data := .fields #[.int (slotAt w t 0) 0, .int 0 0, .ref S, .int es.size 0, .int ep 0] } }) : wpAny (model prog w) A (pyIter (.ref S)) Q E s := by
 obtain ⟨o, ho, hc, hd⟩ := id hS
 refine wpAny_pyIter_slot hS.type F.slot_set_iter (wpAny_call_entry F.slot_set_iter hS.type Fs.entry_iter ?_ (F.args_set_iter_1 _))
 unfold Builtin.«frozenset.__iter__» Builtin.Frozenset.slot0
 refine wpAny_bind (m := (do let x <- slotArgs "__iter__" 0 _; Builtin.Frozenset.addrOf x.1 : Sem Addr)) (wpAny_bind (wpAny_pure ?_))
 show wpAny _ _ (pure S) _ _ s
 refine wpAny_pure ?_
 refine wpAny_bind ?_
 unfold Builtin.Frozenset.sizeOf
 refine wpAny_bind (wpAny_setEntries_of ho hd T.fits (wpAny_pure ?_))
 refine wpAny_bind ?_
 unfold setDrawn
 refine wpAny_bind (wpAny_setState_of ho hd T.fits ?_)
 refine wpAny_bind (wp_byText (wpAny_pure ?_))
 have hdr : ∀ b : Bool, (!b && (!t.plain && decide (es.size > 1))) = false := fun b => by rw [T.plain]; simp
 show wpAny _ _ (if (!(w.params.followText "set-order") && (!t.plain && decide (es.size > 1))) = true then _ else _) _ _ s
 rw [hdr]
 simp only [Bool.false_eq_true, if_false]
 refine wpAny_bind (wpAny_pure ?_)
 refine wpAny_bind (wpAny_setEpoch_of ho hd T.fits ?_)
 have hsl : slotAt w t 0 = 0 := by unfold slotAt; split <;> rfl
 rw [hsl] at hQ
 refine wpAny_bind (wpAny_newObj_type (wpAny_pure ⟨_, rfl, "set_iterator", _, ⟨_, Heap.get?_push_size _ rfl, rfl⟩, Fs.slot_next.lookup, ?_⟩))
 exact hQ
theorem wp_nextSet {Q : Option (Value × Nat) -> Shared -> Prop} (hS : SetEx s.heap S es ep t) (T : Tab t es) (L : Led w t) {i : Nat} (hi : i <= es.size)
  (h : Q (((walkOf w S es ep)[i]?).map fun e => (e.2, slotAt w t (i + 1))) s) : wpAny (model prog w) A (setNext S (slotAt w t i) i ep) Q E s := by
 obtain ⟨o, ho, hc, hd⟩ := id hS
 unfold setNext
 refine wpAny_bind (wpAny_setState_of ho hd T.fits ?_)
 dsimp only
 refine wpAny_bind (wp_byText ?_)
 cases hw : w.params.followText "set-order" with
 | true =>
  simp only [if_true]
  rw [if_neg (by simp)]
  refine wpAny_bind ?_
  unfold setWalk
  refine wpAny_bind (wpAny_setState_of ho hd T.fits ?_)
  dsimp only
  refine wpAny_bind (wp_byText ?_)
  rw [hw]
  simp only [if_true]
  refine wpAny_bind (wpAny_askSetting (wpAny_pure (wpAny_pure ?_)))
  have e1 : walkOf w S es ep = pickOrder (w.params.setOrder S ep) es := by unfold walkOf; rw [if_pos hw]
  have e2 : slotAt w t (i + 1) = slotAt w t i := by unfold slotAt; rw [if_pos hw, if_pos hw]
  rw [e1, e2] at h
  exact h
 | false =>
  simp only [Bool.false_eq_true, if_false]
  have hdr : (!t.plain && decide (es.size > 1)) = false := by rw [T.plain]; rfl
  show wpAny _ _ (if (!t.plain && decide (es.size > 1)) = true then _ else _) _ _ s
  rw [hdr]
  simp only [Bool.false_eq_true, if_false]
  have hled : t.led = true := by have := L; unfold Led at this; rw [hw] at this; exact this
  refine wpAny_bind (m := (if (!t.led && !es.isEmpty) = true then unsupported "set:maker-not-led" else pure () : Sem PUnit)) ?_
  rw [hled]
  simp only [Bool.not_true, Bool.false_and, Bool.false_eq_true, if_false]
  refine wpAny_pure ?_
  rw [below_slot T.rise hw (by rw [T.size]; exact hi)]
  refine wpAny_pure ?_
  have e1 : walkOf w S es ep = es := by unfold walkOf; rw [if_neg (by rw [hw]; exact Bool.false_ne_true)]
  rw [e1] at h
  rcases Nat.lt_or_ge i es.size with hlt | hge
  ·have hp : i < t.place.size := by rw [T.size]; exact hlt
   have g1 : es[i]? = some es[i] := by simp [hlt]
   have g2 : t.place[i]? = some (t.place.getD i 0) := by simp [Array.getD, hp]
   rw [g1] at h ⊢
   rw [g2]
   have e3 : slotAt w t (i + 1) = t.place.getD i 0 + 1 := by
    unfold slotAt
    rw [if_neg (by rw [hw]; exact Bool.false_ne_true), if_neg (by lia)]
    rfl
   rw [e3] at h
   exact h
  ·have g1 : es[i]? = none := by simp [hge]
   rw [g1] at h ⊢
   exact h
theorem wp_nextSet_item {Q : Option Value -> Shared -> Prop} {i : Nat} {e : Int × Value} (hI : IsSetIter w s.heap I S es.size ep t i) (hS : SetEx s.heap S es ep t) (T : Tab t es) (L : Led w t) (he : (walkOf w S es ep)[i]? = some e)
  (hQ : ∀ h', IsSetIter w h' I S es.size ep t (i + 1) -> Heap.SameBut I s.heap h' -> Q (some e.2) { s with heap := h' }) : wpAny (model prog w) A (pyNext (.ref I)) Q E s := by
 obtain ⟨o, ho, hc, hd⟩ := id hI
 obtain ⟨so, hso, hsc, hsd⟩ := id hS
 have hi : i < es.size := by rw [<- walk_size w S es ep]; exact (Array.getElem?_eq_some_iff.mp he).1
 unfold pyNext
 refine wpAny_bind (wpAny_attempt (wpAny_callSpecial?_slot (name := Str.ofString "__next__") hI.type Fs.slot_next (wpAny_call_entry Fs.slot_next hI.type Fs.entry_next ?_ (Fs.args_next _))))
 unfold Builtin.«set_iterator.__next__»
 refine wpAny_bind (wpAny_pure ?_)
 refine wpAny_bind (wpAny_fieldsOf ho hd ?_)
 dsimp only
 refine wpAny_bind (wpAny_setEntries_of hso hsd T.fits ?_)
 rw [if_neg (by simp)]
 refine wpAny_bind (wp_nextSet hS T L (Nat.le_of_lt hi) ?_)
 rw [he]
 dsimp only [Option.map_some]
 refine wpAny_bind (wpAny_setField ho hd (by simp) ?_)
 have ho1 := Heap.get?_update_self (Obj.mapFields (·.setIfInBounds 0 (rawInt (slotAt w t (i + 1))))) ho (Obj.isFreed_of_fields (Obj.data_mapFields hd _))
 refine wpAny_bind (wpAny_setField ho1 (Obj.data_mapFields hd _) (by simp) ?_)
 refine wpAny_pure ⟨_, rfl, wpAny_pure (hQ _ ⟨_, Heap.get?_update_self _ ho1 (Obj.isFreed_of_fields (Obj.data_mapFields (Obj.data_mapFields hd _) _)), ?_, ?_⟩ ((Heap.SameBut.update ..).trans (Heap.SameBut.update ..)))⟩
 ·exact (Obj.cls_mapFields ..).trans ((Obj.cls_mapFields ..).trans hc)
 ·rw [Obj.data_mapFields (Obj.data_mapFields hd _) _]
  simp [rawInt]
theorem wp_nextSet_end {Q : Option Value -> Shared -> Prop} (hh : A.handled = none) (hI : IsSetIter w s.heap I S es.size ep t es.size) (hS : SetEx s.heap S es ep t) (T : Tab t es) (L : Led w t)
  (hQ : ∀ h', Heap.ExtBut I s.heap h' -> Q none { s with heap := h' }) : wpAny (model prog w) A (pyNext (.ref I)) Q E s := by
 obtain ⟨o, ho, hc, hd⟩ := id hI
 obtain ⟨so, hso, hsc, hsd⟩ := id hS
 unfold pyNext
 refine wpAny_bind (wpAny_attempt (wpAny_callSpecial?_slot (name := Str.ofString "__next__") hI.type Fs.slot_next (wpAny_call_entry Fs.slot_next hI.type Fs.entry_next ?_ (Fs.args_next _))))
 unfold Builtin.«set_iterator.__next__»
 refine wpAny_bind (wpAny_pure ?_)
 refine wpAny_bind (wpAny_fieldsOf ho hd ?_)
 dsimp only
 refine wpAny_bind (wpAny_setEntries_of hso hsd T.fits ?_)
 rw [if_neg (by simp)]
 refine wpAny_bind (wp_nextSet hS T L (Nat.le_refl _) ?_)
 have hn : (walkOf w S es ep)[es.size]? = none := by
  have := walk_size w S es ep
  simp [this]
 rw [hn]
 dsimp only [Option.map_none]
 refine wpAny_bind (wpAny_setField ho hd (by simp) ?_)
 refine wpAny_bind (m := newExc (.type "StopIteration") []) ?_
 simp only [newExc, newTuple]
 refine wpAny_bind (wpAny_newObj_type ?_ (by size_fits))
 refine wpAny_bind (m := firstArgMember _ _) (wpAny_of_eq (a := Value.none) (by first | rfl | (simp only [firstArgMember]; rfl)) ?_)
 refine wpAny_newObj_type ?_ (by size_fits)
 simp only [raiseNew]
 refine wpAny_bind (wpAny_handled ?_)
 rw [show A.in1.handled = none from hh]
 refine wpAny_bind (wpAny_pure (wpAny_throw ?_))
 refine wpAny_bind (wpAny_isInstance (T := "StopIteration") (b := true) ⟨_, Heap.get?_push_size _ rfl, rfl⟩ isSubtype_stop ?_)
 exact wpAny_pure (hQ _ (((Heap.SameBut.update ..).extBut.push _).push _))
theorem walks_set (hh : A.handled = none) (hne : S ≠ I) (T : Tab t es) (L : Led w t) :
  Walks prog w A I [I, S] [I] es.size (fun i v => ∃ e, (walkOf w S es ep)[i]? = some e /\ v = e.2) (fun i h => IsSetIter w h I S es.size ep t i /\ SetEx h S es ep t) where
 sub := fun b hb => by simp at hb; simp [hb]
 frame := fun _ _ _ st hk => ⟨st.1.at fun o e => hk I (by simp) o e, st.2.at fun o e => hk S (by simp) o e⟩
 item := fun i s Q E hi st hQ => by
  obtain ⟨e, he⟩ : ∃ e, (walkOf w S es ep)[i]? = some e := ⟨(walkOf w S es ep)[i]'(by rw [walk_size]; exact hi), by simp [walk_size, hi]⟩
  refine wp_nextSet_item st.1 st.2 T L he fun h' hI' hs' => ?_
  exact hQ _ h' s.toks ⟨e, he, rfl⟩ ⟨hI', st.2.at fun o q => hs'.extBut _ o hne q⟩ fun b o hb q => hs'.extBut b o (fun z => hb (by simp [z])) q
 done := fun s Q E st hQ => wp_nextSet_end hh st.1 st.2 T L fun h' he' => hQ h' s.toks fun b o hb q => he' b o (fun z => hb (by simp [z])) q
 self := fun i s Q E st hQ => by
  refine wpAny_pyIter_slot st.1.type Fs.slot_self (wpAny_call_entry Fs.slot_self st.1.type Fs.entry_self ?_ (Fs.args_self _))
  show wpAny _ _ (ret (.ref I)) _ _ s
  exact wpAny_pure ⟨_, rfl, "set_iterator", _, st.1.type, Fs.slot_next.lookup, hQ⟩
end
end RS
namespace RS
noncomputable abbrev Pt := Int × Int
noncomputable def arrow (s e : Pt) : Pt := (e.1 - s.1, e.2 - s.2)
noncomputable def cross (a b : Pt) : Int := a.1 * b.2 - a.2 * b.1
noncomputable def fstHalf (a : Pt) : Bool := decide (0 < a.2) || (decide (a.2 = 0) && decide (0 < a.1))
noncomputable def before (a b : Pt) : Bool := if (fstHalf a != fstHalf b) = true then fstHalf a else decide (0 < cross a b)
noncomputable def round (cs : List Pt) : List Pt := List.zipWith arrow cs (cs.drop 1 ++ cs.take 1)
noncomputable def isShape (cs : List Pt) : Bool :=
 if cs.length < 2 then decide (cs.length = 1)
 else if (0, 0) ∈ round cs then false
 else (List.zipWith before (round cs) ((round cs).drop 1)).all id
noncomputable def half (a : Pt) : Int := if (decide (a.2 < 0) || (decide (a.2 = 0) && decide (a.1 < 0))) = true then 1 else 0
noncomputable def bad (a b : Pt) : Bool := decide (half b < half a) || (decide (half a = half b) && decide (cross a b <= 0))
noncomputable def lawSides (cs : List Pt) : List Pt := if cs.length < 2 then [] else round cs
noncomputable def good (cs : List Pt) : Bool :=
 if cs.length = 0 \/ (0, 0) ∈ lawSides cs then false
 else if 0 < (lawSides cs).length /\ half ((lawSides cs).headD (0, 0)) = 1 then false
 else (List.zipWith bad (lawSides cs) ((lawSides cs).drop 1)).all (! ·)
theorem half_of {a : Pt} (h : a ≠ (0, 0)) : half a = if fstHalf a = true then 0 else 1 := by
 obtain ⟨x, y⟩ := a
 have hne : ¬ (x = 0 /\ y = 0) := fun ⟨e1, e2⟩ => h (by rw [e1, e2])
 unfold half fstHalf
 simp only [Bool.or_eq_true, Bool.and_eq_true, decide_eq_true_eq]
 by_cases c1 : y < 0 \/ (y = 0 /\ x < 0)
 ·rw [if_pos c1, if_neg (by lia)]
 ·rw [if_neg c1, if_pos (by lia)]
theorem bad_before {a b : Pt} (ha : a ≠ (0, 0)) (hb : b ≠ (0, 0)) : bad a b = ! before a b := by
 unfold bad before
 rw [half_of ha, half_of hb]
 cases fstHalf a <;> cases fstHalf b
 ·simp only [Bool.false_eq_true, if_false, Int.lt_irrefl, decide_false, Bool.false_or, decide_true, Bool.true_and, bne_self_eq_false]
  by_cases h : cross a b <= 0
  ·simp [h, Int.not_lt.mpr h]
  ·simp [h, Int.not_le.mp h]
 ·rfl
 ·rfl
 ·simp only [if_true, Int.lt_irrefl, decide_false, Bool.false_or, decide_true, Bool.true_and, bne_self_eq_false, Bool.false_eq_true, if_false]
  by_cases h : cross a b <= 0
  ·simp [h, Int.not_lt.mpr h]
  ·simp [h, Int.not_le.mp h]
noncomputable def sum1 (l : List Pt) : Int := (l.map (·.1)).sum
noncomputable def sum2 (l : List Pt) : Int := (l.map (·.2)).sum
theorem sum_zip : ∀ (xs ys : List Pt), xs.length = ys.length -> sum1 (List.zipWith arrow xs ys) = sum1 ys - sum1 xs /\ sum2 (List.zipWith arrow xs ys) = sum2 ys - sum2 xs
 | [], [], _ => by simp [sum1, sum2]
 | x :: xs, y :: ys, h => by
  obtain ⟨e1, e2⟩ := sum_zip xs ys (by simpa using h)
  simp only [sum1, sum2, List.zipWith_cons_cons, List.map_cons, List.sum_cons, arrow] at e1 e2 ⊢
  lia
theorem sum_rot (cs : List Pt) : sum1 (cs.drop 1 ++ cs.take 1) = sum1 cs /\ sum2 (cs.drop 1 ++ cs.take 1) = sum2 cs := by
 cases cs with
 | nil => simp [sum1, sum2]
 | cons c r =>
  simp only [List.drop_succ_cons, List.drop_zero, List.take_succ_cons, List.take_zero, sum1, sum2, List.map_append, List.map_cons, List.map_nil, List.sum_append, List.sum_cons, List.sum_nil]
  lia
theorem rot_length (cs : List Pt) : (cs.drop 1 ++ cs.take 1).length = cs.length := by
 cases cs <;> simp
theorem round_sum (cs : List Pt) : sum1 (round cs) = 0 /\ sum2 (round cs) = 0 := by
 obtain ⟨a1, a2⟩ := sum_zip cs _ (rot_length cs).symm
 obtain ⟨b1, b2⟩ := sum_rot cs
 unfold round
 lia
theorem round_length (cs : List Pt) : (round cs).length = cs.length := by
 unfold round
 rw [List.length_zipWith, rot_length, Nat.min_self]
theorem second_all : ∀ (l : List Pt), (∀ a ∈ l, a ≠ (0, 0)) -> (List.zipWith before l (l.drop 1)).all id = true -> ∀ a, l.head? = some a -> fstHalf a = false -> ∀ b ∈ l, fstHalf b = false
 | [], _, _, a, h, _ => by cases h
 | [x], _, _, a, h, hf => by
  intro b hb
  rw [List.mem_singleton.mp hb]
  cases h
  exact hf
 | x :: y :: r, hn, hall, a, h, hf => by
  cases h
  simp only [List.drop_succ_cons, List.drop_zero, List.zipWith_cons_cons, List.all_cons, id, Bool.and_eq_true] at hall
  have hy : fstHalf y = false := by
   have h1 := hall.1
   unfold before at h1
   rw [hf] at h1
   cases q : fstHalf y with
   | false => rfl
   | true => rw [q] at h1; simp at h1
  intro b hb
  rcases List.mem_cons.mp hb with rfl | hb
  ·exact hf
  ·refine second_all (y :: r) (fun z hz => hn z (List.mem_cons_of_mem _ hz)) ?_ y rfl hy b hb
   exact hall.2
theorem neg_sum : ∀ (l : List Pt), (∀ a ∈ l, a ≠ (0, 0) /\ fstHalf a = false) -> sum2 l <= 0 /\ (sum2 l = 0 -> sum1 l <= 0 /\ (l ≠ [] -> sum1 l < 0))
 | [], _ => by simp [sum1, sum2]
 | a :: r, h => by
  obtain ⟨i1, i2⟩ := neg_sum r fun b hb => h b (List.mem_cons_of_mem _ hb)
  obtain ⟨hn, hf⟩ := h a List.mem_cons_self
  obtain ⟨x, y⟩ := a
  have hne : ¬ (x = 0 /\ y = 0) := fun ⟨e1, e2⟩ => hn (by rw [e1, e2])
  unfold fstHalf at hf
  simp only [Bool.or_eq_false_iff, Bool.and_eq_false_iff, decide_eq_false_iff_not] at hf
  simp only [sum1, sum2, List.map_cons, List.sum_cons] at i1 i2 ⊢
  refine ⟨by omega, fun e => ?_⟩
  have e2 : (r.map (·.2)).sum = 0 := by lia
  obtain ⟨j1, j2⟩ := i2 e2
  refine ⟨by lia, fun _ => by lia⟩
theorem zip_not : ∀ (l r : List Pt), (∀ a ∈ l, a ≠ (0, 0)) -> (∀ a ∈ r, a ≠ (0, 0)) -> (List.zipWith bad l r).all (! ·) = (List.zipWith before l r).all id
 | [], _, _, _ => by simp
 | _ :: _, [], _, _ => by simp
 | a :: l, b :: r, hl, hr => by
  simp only [List.zipWith_cons_cons, List.all_cons, id]
  rw [zip_not l r (fun z hz => hl z (List.mem_cons_of_mem _ hz)) fun z hz => hr z (List.mem_cons_of_mem _ hz), bad_before (hl a List.mem_cons_self) (hr b List.mem_cons_self), Bool.not_not]
theorem shape_good (cs : List Pt) : isShape cs = good cs := by
 unfold isShape good lawSides
 by_cases hl : cs.length < 2
 ·rw [if_pos hl]
  simp only [hl, if_true, List.length_nil, Nat.lt_irrefl, false_and, if_false, List.not_mem_nil, or_false]
  by_cases h0 : cs.length = 0
  ·rw [if_pos h0]; simp [h0]
  ·rw [if_neg h0]
   have : cs.length = 1 := by lia
   simp [this]
 ·rw [if_neg hl]
  simp only [hl, if_false]
  by_cases hz : (0, 0) ∈ round cs
  ·rw [if_pos hz, if_pos (.inr hz)]
  ·rw [if_neg hz, if_neg (by rintro (h | h) <;> first | omega | exact hz h)]
   have hn : ∀ a ∈ round cs, a ≠ (0, 0) := fun a ha e => hz (e ▸ ha)
   rw [zip_not _ _ hn fun a ha => hn a (List.mem_of_mem_drop ha)]
   by_cases hh : 0 < (round cs).length /\ half ((round cs).headD (0, 0)) = 1
   ·rw [if_pos hh]
    cases q : (List.zipWith before (round cs) ((round cs).drop 1)).all id with
    | false => rfl
    | true =>
     exfalso
     cases e : round cs with
     | nil => rw [e] at hh; simp at hh
     | cons a r =>
      rw [e] at q hh hn
      have hf : fstHalf a = false := by
       have h1 : half a = 1 := hh.2
       rw [half_of (hn a List.mem_cons_self)] at h1
       cases z : fstHalf a with
       | false => rfl
       | true => rw [z] at h1; simp at h1
      have hall := second_all (a :: r) hn q a rfl hf
      have hs := neg_sum (a :: r) fun b hb => ⟨hn b hb, hall b hb⟩
      obtain ⟨s1, s2⟩ := round_sum cs
      rw [e] at s1 s2
      have := (hs.2 s2).2 (by simp)
      lia
   ·rw [if_neg hh]
end RS
namespace RS
noncomputable abbrev Ad := Nat
noncomputable def kk (p : Pt) : List Int := [p.1, p.2]
theorem kk_inj {p q : Pt} (h : kk p = kk q) : p = q := by
 unfold kk at h
 simp only [List.cons.injEq, and_true] at h
 exact Prod.ext h.1 h.2
noncomputable def addP (xs : List (Pt × Ad)) (p : Pt × Ad) : List (Pt × Ad) := if p.1 ∈ xs.map (·.1) then xs else xs ++ [p]
noncomputable def dedP (l : List (Pt × Ad)) : List (Pt × Ad) := l.foldl addP []
theorem addP_mem {xs : List (Pt × Ad)} {p q : Pt × Ad} (h : q ∈ addP xs p) : q ∈ xs \/ q = p := by
 unfold addP at h
 split at h
 ·exact .inl h
 ·simpa using h
set_option tactic.hygienic true in
theorem addP_keys (xs : List (Pt × Ad)) (p : Pt × Ad) (k : Pt) : k ∈ (addP xs p).map (·.1) ↔ k ∈ xs.map (·.1) \/ k = p.1 := by
 unfold addP
 split
 ·rename_i h
  constructor
  ·exact .inl
  ·rintro (h' | rfl)
   ·exact h'
   ·exact h
 ·simp [List.map_append]
set_option tactic.hygienic true in
theorem addP_nodup {xs : List (Pt × Ad)} (h : (xs.map (·.1)).Nodup) (p : Pt × Ad) : ((addP xs p).map (·.1)).Nodup := by
 unfold addP
 split
 ·exact h
 ·rename_i hn
  rw [List.map_append, List.nodup_append]
  refine ⟨h, by simp, fun a ha b hb e => ?_⟩
  rw [List.map_singleton, List.mem_singleton] at hb
  exact hn (by rw [<- hb, <- e]; exact ha)
theorem ded_go : ∀ (l xs : List (Pt × Ad)), (xs.map (·.1)).Nodup -> ((l.foldl addP xs).map (·.1)).Nodup /\ (∀ k, k ∈ (l.foldl addP xs).map (·.1) ↔ k ∈ xs.map (·.1) \/ k ∈ l.map (·.1)) /\ (∀ p ∈ l.foldl addP xs, p ∈ xs \/ p ∈ l) /\ (l.foldl addP xs).length <= xs.length + l.length
 | [], xs, h => ⟨h, fun k => by simp, fun p hp => .inl hp, by simp⟩
 | p :: l, xs, h => by
  obtain ⟨a, b, c, d⟩ := ded_go l (addP xs p) (addP_nodup h p)
  refine ⟨a, fun k => ?_, fun q hq => ?_, ?_⟩
  ·show k ∈ (l.foldl addP (addP xs p)).map (·.1) ↔ _
   rw [b k, addP_keys, List.map_cons, List.mem_cons]
   exact or_assoc
  ·rcases c q hq with z | z
   ·rcases addP_mem z with y | y
    ·exact .inl y
    ·exact .inr (by rw [y]; exact List.mem_cons_self)
   ·exact .inr (List.mem_cons_of_mem _ z)
  ·have : (addP xs p).length <= xs.length + 1 := by
    unfold addP
    split
    ·lia
    ·rw [List.length_append]; simp
   simp only [List.foldl_cons, List.length_cons]
   lia
theorem dedP_nodup (l : List (Pt × Ad)) : ((dedP l).map (·.1)).Nodup := (ded_go l [] List.nodup_nil).1
theorem dedP_keys (l : List (Pt × Ad)) (k : Pt) : k ∈ (dedP l).map (·.1) ↔ k ∈ l.map (·.1) := by
 have := (ded_go l [] List.nodup_nil).2.1 k
 simpa [dedP] using this
theorem dedP_sub {l : List (Pt × Ad)} {p : Pt × Ad} (h : p ∈ dedP l) : p ∈ l := by
 rcases (ded_go l [] List.nodup_nil).2.2.1 p h with z | z
 ·cases z
 ·exact z
theorem dedP_len (l : List (Pt × Ad)) : (dedP l).length <= l.length := by
 have := (ded_go l [] List.nodup_nil).2.2.2
 simpa [dedP] using this
noncomputable def lexLt (a b : Pt) : Bool := decide (a.1 < b.1) || (decide (a.1 = b.1) && decide (a.2 < b.2))
theorem lexLt_iff {a b : Pt} : lexLt a b = true ↔ a.1 < b.1 \/ (a.1 = b.1 /\ a.2 < b.2) := by
 unfold lexLt
 simp
theorem lex_irrefl (a : Pt) : lexLt a a = false := by
 cases h : lexLt a a with
 | false => rfl
 | true => rw [lexLt_iff] at h; lia
theorem lex_asym {a b : Pt} (h : lexLt a b = true) : lexLt b a = false := by
 cases h' : lexLt b a with
 | false => rfl
 | true => rw [lexLt_iff] at h h'; lia
theorem lex_trans {a b c : Pt} (h : lexLt a b = true) (h' : lexLt b c = true) : lexLt a c = true := by
 rw [lexLt_iff] at *
 lia
theorem lex_tot {a b : Pt} (hne : a ≠ b) (h : lexLt a b = false) : lexLt b a = true := by
 have h1 : ¬ (a.1 < b.1 \/ (a.1 = b.1 /\ a.2 < b.2)) := fun z => by rw [lexLt_iff.mpr z] at h; cases h
 rw [lexLt_iff]
 have : ¬ (a.1 = b.1 /\ a.2 = b.2) := fun ⟨e1, e2⟩ => hne (Prod.ext e1 e2)
 lia
noncomputable def ins (p : Pt) : List Pt -> List Pt
 | [] => [p]
 | q :: r => if p = q then q :: r else if lexLt p q = true then p :: q :: r else q :: ins p r
noncomputable def sortD (l : List Pt) : List Pt := l.foldr ins []
set_option tactic.hygienic true in
theorem mem_ins {p x : Pt} : ∀ {l : List Pt}, x ∈ ins p l ↔ x = p \/ x ∈ l
 | [] => by simp [ins]
 | q :: r => by
  unfold ins
  split
  ·rename_i h; subst h
   constructor
   ·exact .inr
   ·rintro (rfl | h)
    ·exact List.mem_cons_self
    ·exact h
  ·split
   ·simp
   ·rw [List.mem_cons, mem_ins, List.mem_cons]
    constructor
    ·rintro (h | h | h)
     ·exact .inr (.inl h)
     ·exact .inl h
     ·exact .inr (.inr h)
    ·rintro (h | h | h)
     ·exact .inr (.inl h)
     ·exact .inl h
     ·exact .inr (.inr h)
set_option tactic.hygienic true in
theorem ins_sorted {p : Pt} : ∀ {l : List Pt}, l.Pairwise (fun a b => lexLt a b = true) -> (ins p l).Pairwise (fun a b => lexLt a b = true)
 | [], _ => by simp [ins]
 | q :: r, h => by
  obtain ⟨h1, h2⟩ := List.pairwise_cons.mp h
  unfold ins
  split
  ·exact h
  ·rename_i hne
   split
   ·rename_i hl
    refine List.pairwise_cons.mpr ⟨fun x hx => ?_, h⟩
    rcases List.mem_cons.mp hx with rfl | hx
    ·exact hl
    ·exact lex_trans hl (h1 x hx)
   ·rename_i hl
    refine List.pairwise_cons.mpr ⟨fun x hx => ?_, ins_sorted h2⟩
    rcases mem_ins.mp hx with rfl | hx
    ·exact lex_tot hne (by simpa using hl)
    ·exact h1 x hx
theorem sortD_sorted : ∀ l : List Pt, (sortD l).Pairwise (fun a b => lexLt a b = true)
 | [] => List.Pairwise.nil
 | _ :: l => ins_sorted (sortD_sorted l)
theorem mem_sortD {x : Pt} : ∀ {l : List Pt}, x ∈ sortD l ↔ x ∈ l
 | [] => by simp [sortD]
 | p :: l => by
  show x ∈ ins p (sortD l) ↔ _
  rw [mem_ins, mem_sortD, List.mem_cons]
theorem sorted_uniq : ∀ {l r : List Pt}, l.Pairwise (fun a b => lexLt a b = true) -> r.Pairwise (fun a b => lexLt a b = true) -> (∀ x, x ∈ l ↔ x ∈ r) -> l = r
 | [], [], _, _, _ => rfl
 | [], b :: r, _, _, h => by
  have := (h b).mpr List.mem_cons_self
  cases this
 | a :: l, [], _, _, h => by
  have := (h a).mp List.mem_cons_self
  cases this
 | a :: l, b :: r, hl, hr, h => by
  obtain ⟨l1, l2⟩ := List.pairwise_cons.mp hl
  obtain ⟨r1, r2⟩ := List.pairwise_cons.mp hr
  have hab : a = b := by
   rcases List.mem_cons.mp ((h a).mp List.mem_cons_self) with e | e
   ·exact e
   ·rcases List.mem_cons.mp ((h b).mpr List.mem_cons_self) with e' | e'
    ·exact e'.symm
    ·have x1 := r1 a e
     have x2 := l1 b e'
     rw [lex_asym x1] at x2
     cases x2
  subst hab
  congr 1
  refine sorted_uniq l2 r2 fun x => ?_
  constructor
  ·intro hx
   rcases List.mem_cons.mp ((h x).mp (List.mem_cons_of_mem _ hx)) with e | e
   ·have := l1 x hx
    rw [e, lex_irrefl] at this
    cases this
   ·exact e
  ·intro hx
   rcases List.mem_cons.mp ((h x).mpr (List.mem_cons_of_mem _ hx)) with e | e
   ·have := r1 x hx
    rw [e, lex_irrefl] at this
    cases this
   ·exact e
theorem sorted_is {l : List Pt} {r : List Pt} (hr : r.Pairwise (fun a b => lexLt a b = true)) (h : ∀ x, x ∈ r ↔ x ∈ l) : r = sortD l := sorted_uniq hr (sortD_sorted l) fun x => (h x).trans mem_sortD.symm
theorem perm_map {α β : Type} (f : α -> β) : ∀ {a b' : List β}, a.Perm b' -> ∀ b : List α, b' = b.map f -> ∃ l : List α, l.Perm b /\ a = l.map f := by
 intro a b' h
 induction h with
 | nil =>
  intro b e
  have : b = [] := by cases b with | nil => rfl | cons _ _ => cases e
  subst this
  exact ⟨[], .refl _, rfl⟩
 | cons x _ ih =>
  intro b e
  cases b with
  | nil => cases e
  | cons y r =>
   injection e with e1 e2
   obtain ⟨l, p, q⟩ := ih r e2
   exact ⟨y :: l, p.cons y, by rw [List.map_cons, e1, q]⟩
 | swap x y _ =>
  intro b e
  cases b with
  | nil => cases e
  | cons u r =>
   cases r with
   | nil => injection e with _ e2; cases e2
   | cons v r =>
    injection e with e1 e2
    injection e2 with e2 e3
    exact ⟨v :: u :: r, List.Perm.swap _ _ _, by rw [List.map_cons, List.map_cons, e1, e2, e3]⟩
 | trans _ _ ih1 ih2 =>
  intro b e
  obtain ⟨l, p, q⟩ := ih2 b e
  obtain ⟨l', p', q'⟩ := ih1 l q
  exact ⟨l', p'.trans p, q'⟩
end RS
namespace RS
open PySem PySem.W PyProof.Rows
section
variable {n : Nat} {R : Nat -> Nat -> Bool} {cmp : Nat -> Nat -> (Bool -> Shared -> Prop) -> Shared -> Prop} {s : Shared}
structure Ord (n : Nat) (R : Nat -> Nat -> Bool) : Prop where
 asym : ∀ i j, R i j = true -> R j i = false
 trans : ∀ i j k, R i j = true -> R j k = true -> R i k = true
 tot : ∀ i j, i < n -> j < n -> i ≠ j -> R i j = false -> R j i = true
noncomputable def Answers (n : Nat) (R : Nat -> Nat -> Bool) (cmp : Nat -> Nat -> (Bool -> Shared -> Prop) -> Shared -> Prop) (s : Shared) : Prop := ∀ i j (C : Bool -> Shared -> Prop), i < n -> j < n -> C (R i j) s -> cmp i j C s
noncomputable def Pm (n : Nat) (p : Array Nat) : Prop := p.toList.Perm (List.range n)
theorem Pm.size {p : Array Nat} (h : Pm n p) : p.size = n := by
 have := h.length_eq
 rw [List.length_range, Array.length_toList] at this
 exact this
theorem Pm.lt {p : Array Nat} (h : Pm n p) {i : Nat} (hi : i < n) : p.getD i 0 < n := by
 have hs : i < p.size := by rw [h.size]; exact hi
 have e : p.getD i 0 = p[i] := by simp [Array.getD, hs]
 rw [e]
 exact List.mem_range.mp (h.mem_iff.mp (by simp))
theorem Pm.ne {p : Array Nat} (h : Pm n p) {i j : Nat} (hi : i < n) (hj : j < n) (hij : i ≠ j) : p.getD i 0 ≠ p.getD j 0 := by
 have hi' : i < p.size := by rw [h.size]; exact hi
 have hj' : j < p.size := by rw [h.size]; exact hj
 have e1 : p.getD i 0 = p[i] := by simp [Array.getD, hi']
 have e2 : p.getD j 0 = p[j] := by simp [Array.getD, hj']
 rw [e1, e2]
 intro e
 have nd : p.toList.Nodup := h.nodup_iff.mpr List.nodup_range
 have e' : p.toList[i]'(by simpa using hi') = p.toList[j]'(by simpa using hj') := by simpa using e
 exact hij ((List.getElem_inj nd).mp e')
noncomputable def Up (R : Nat -> Nat -> Bool) (p : Array Nat) (m : Nat) : Prop := ∀ a b, a < b -> b < m -> R (p.getD a 0) (p.getD b 0) = true
noncomputable def Down (R : Nat -> Nat -> Bool) (p : Array Nat) (m : Nat) : Prop := ∀ a b, a < b -> b < m -> R (p.getD b 0) (p.getD a 0) = true
theorem Up.more (O : Ord n R) {p : Array Nat} {m : Nat} (h : Up R p m) (hm : 0 < m) (hr : R (p.getD (m - 1) 0) (p.getD m 0) = true) : Up R p (m + 1) := fun a b hab hb => by
 rcases Nat.lt_or_ge b m with q | q
 ·exact h a b hab q
 ·have e : b = m := by omega
  subst e
  rcases Nat.lt_or_ge a (b - 1) with z | z
  ·exact O.trans _ _ _ (h a (b - 1) z (by omega)) hr
  ·have e : a = b - 1 := by omega
   subst e
   exact hr
theorem Down.more (O : Ord n R) {p : Array Nat} {m : Nat} (h : Down R p m) (hm : 0 < m) (hr : R (p.getD m 0) (p.getD (m - 1) 0) = true) : Down R p (m + 1) := fun a b hab hb => by
 rcases Nat.lt_or_ge b m with q | q
 ·exact h a b hab q
 ·have e : b = m := by omega
  subst e
  rcases Nat.lt_or_ge a (b - 1) with z | z
  ·exact O.trans _ _ _ hr (h a (b - 1) z (by omega))
  ·have e : a = b - 1 := by omega
   subst e
   exact hr
theorem asc_wp (O : Ord n R) (hc : Answers n R cmp s) {p : Array Nat} (hp : Pm n p) {Q : Nat -> Shared -> Prop} : ∀ (f m : Nat), 0 < m -> m + f = n -> Up R p m ->
  (∀ m', m <= m' -> m' <= n -> Up R p m' -> (m' < n -> R (p.getD m' 0) (p.getD (m' - 1) 0) = true) -> Q m' s) -> (kas_asc p f m).kasWp cmp Q s
 | 0, m, h0, hf, hu, h => h m (Nat.le_refl _) (by omega) hu fun hlt => absurd hlt (by omega)
 | f + 1, m, h0, hf, hu, h => by
  show cmp _ _ (fun c s' => KasT.kasWp cmp (if c = true then .ret m else kas_asc p f (m + 1)) Q s') s
  refine hc _ _ _ (hp.lt (by omega)) (hp.lt (by omega)) ?_
  cases e : R (p.getD m 0) (p.getD (m - 1) 0) with
  | true =>
   rw [if_pos rfl]
   exact h m (Nat.le_refl _) (by omega) hu fun _ => e
  | false =>
   rw [if_neg Bool.false_ne_true]
   refine asc_wp O hc hp f (m + 1) (by omega) (by omega) (hu.more O h0 (O.tot _ _ (hp.lt (by omega)) (hp.lt (by omega)) (hp.ne (by omega) (by omega) (by omega)) e)) fun m' a b c d => h m' (by omega) b c d
theorem desc_wp (O : Ord n R) (hc : Answers n R cmp s) {p : Array Nat} (hp : Pm n p) {Q : Array Nat × Nat × Nat -> Shared -> Prop} : ∀ (f m : Nat), 0 < m -> m + f = n -> Down R p m ->
  (∀ m', m <= m' -> m' <= n -> Down R p m' -> Q (p, m', 0) s) -> (kas_desc f p m 0).kasWp cmp Q s
 | 0, m, h0, hf, hu, h => h m (Nat.le_refl _) (by omega) hu
 | f + 1, m, h0, hf, hu, h => by
  show cmp _ _ (fun c s' => KasT.kasWp cmp (if c = true then (if 0 > 0 then _ else kas_desc f p (m + 1) 0) else .ask (p.getD (m - 1) 0) (p.getD m 0) fun d => if d = true then .ret (p, m, 0) else kas_desc f p (m + 1) (0 + 1)) Q s') s
  refine hc _ _ _ (hp.lt (by omega)) (hp.lt (by omega)) ?_
  cases e : R (p.getD m 0) (p.getD (m - 1) 0) with
  | true =>
   rw [if_pos rfl, if_neg (Nat.lt_irrefl 0)]
   exact desc_wp O hc hp f (m + 1) (by omega) (by omega) (hu.more O h0 e) fun m' a b c => h m' (by omega) b c
  | false =>
   rw [if_neg Bool.false_ne_true]
   show cmp _ _ (fun d s' => KasT.kasWp cmp (if d = true then .ret (p, m, 0) else kas_desc f p (m + 1) (0 + 1)) Q s') s
   refine hc _ _ _ (hp.lt (by omega)) (hp.lt (by omega)) ?_
   rw [O.tot _ _ (hp.lt (by omega)) (hp.lt (by omega)) (hp.ne (by omega) (by omega) (by omega)) e, if_pos rfl]
   exact h m (Nat.le_refl _) (by omega) hu
theorem rev_pm {p : Array Nat} (hp : Pm n p) (i j : Nat) : Pm n (kas_rev p i j) := by
 have h := mirror_perm p i j ((j - i) / 2)
 exact (Array.perm_iff_toList_perm.mp h).trans hp
theorem rev_get {p : Array Nat} {m : Nat} (hm : m <= p.size) (k : Nat) (hk : k < m) : (kas_rev p 0 m).getD k 0 = p.getD (m - 1 - k) 0 := by
 have h := getElem?_mirror (xs := p) (i := 0) (j := m) hm (m / 2) (by omega) k
 have e : (kas_rev p 0 m)[k]? = p[m - 1 - k]? := by
  show (mirror p 0 m ((m - 0) / 2))[k]? = _
  rw [Nat.sub_zero, h]
  split
  ·congr 1
   omega
  ·congr 1
   omega
 have g1 : ∀ (q : Array Nat) (i : Nat), q.getD i 0 = (q[i]?).getD 0 := fun q i => by simp [Array.getD_eq_getD_getElem?]
 rw [g1, g1, e]
theorem rev_up {p : Array Nat} {m : Nat} (hm : m <= p.size) (h : Down R p m) : Up R (kas_rev p 0 m) m := fun a b hab hb => by
 rw [rev_get hm a (by omega), rev_get hm b hb]
 exact h _ _ (by omega) (by omega)
theorem count_wp (O : Ord n R) (hc : Answers n R cmp s) {p : Array Nat} (hp : Pm n p) (h2 : 2 <= n) {Q : Nat × Array Nat -> Shared -> Prop} (h : ∀ m q, 0 < m -> m <= n -> Pm n q -> Up R q m -> Q (m, q) s) : (kas_count n p).kasWp cmp Q s := by
 unfold kas_count
 rw [KasT.kasWp_bind]
 refine asc_wp O hc hp (n - 1) 1 (by omega) (by omega) (fun a b hab hb => absurd hab (by omega)) fun m h1 h2' hu hn => ?_
 by_cases hm : m = n
 ·rw [if_pos (by simp [hm])]
  exact h m p (by omega) h2' hp hu
 ·rw [if_neg (by simp [hm])]
  by_cases hm1 : m > 1
  ·rw [if_pos hm1]
   show cmp _ _ (fun c s' => KasT.kasWp cmp (if c = true then .ret (m, p) else kas_descPart m n (kas_rev p 0 m)) Q s') s
   refine hc _ _ _ (hp.lt (by omega)) (hp.lt (by omega)) ?_
   rw [hu 0 (m - 1) (by omega) (by omega), if_pos rfl]
   exact h m p (by omega) h2' hp hu
  ·rw [if_neg hm1]
   have e : m = 1 := by omega
   subst e
   unfold kas_descPart
   rw [KasT.kasWp_bind]
   refine desc_wp O hc hp (n - (1 + 1)) (1 + 1) (by omega) (by omega) (fun a b hab hb => ?_) fun m' a b c => ?_
   ·have ea : a = 0 := by omega
    have eb : b = 1 := by omega
    subst ea eb
    exact hn (by omega)
   ·rw [if_neg (Nat.lt_irrefl 0)]
    unfold kas_tail3
    rw [KasT.kasWp_bind]
    have hs : m' <= p.size := by rw [hp.size]; exact b
    refine asc_wp O hc (rev_pm hp 0 m') (n - m') m' (by omega) (by omega) (rev_up hs c) fun m2 a2 b2 c2 _ => ?_
    exact h m2 _ (by omega) b2 (rev_pm hp 0 m') c2
theorem place_wp (O : Ord n R) (hc : Answers n R cmp s) {p : Array Nat} (hp : Pm n p) {k : Nat} (hk : k < n) (hu : Up R p k) {Q : Nat -> Shared -> Prop} : ∀ (f l r : Nat), l <= r -> r <= k -> r - l <= f -> (∀ a, a < l -> R (p.getD a 0) (p.getD k 0) = true) -> (∀ a, r <= a -> a < k -> R (p.getD k 0) (p.getD a 0) = true) ->
  (∀ l', l' <= k -> (∀ a, a < l' -> R (p.getD a 0) (p.getD k 0) = true) -> (∀ a, l' <= a -> a < k -> R (p.getD k 0) (p.getD a 0) = true) -> Q l' s) -> (kas_place p k f l r).kasWp cmp Q s
 | 0, l, r, hlr, hrk, hf, h1, h2, h => by
  have e : l = r := by omega
  subst e
  exact h l hrk h1 h2
 | f + 1, l, r, hlr, hrk, hf, h1, h2, h => by
  unfold kas_place
  by_cases hge : l >= r
  ·rw [if_pos hge]
   have e : l = r := by omega
   subst e
   exact h l hrk h1 h2
  ·rw [if_neg hge]
   show cmp _ _ (fun c s' => KasT.kasWp cmp (if c = true then kas_place p k f l ((l + r) / 2) else kas_place p k f ((l + r) / 2 + 1) r) Q s') s
   have hmid : (l + r) / 2 < r := by omega
   refine hc _ _ _ (hp.lt hk) (hp.lt (by omega)) ?_
   cases e : R (p.getD k 0) (p.getD ((l + r) / 2) 0) with
   | true =>
    rw [if_pos rfl]
    refine place_wp O hc hp hk hu f l _ (by omega) (by omega) (by omega) h1 (fun a ha hak => ?_) h
    rcases Nat.eq_or_lt_of_le ha with q | q
    ·rw [<- q]; exact e
    ·exact O.trans _ _ _ e (hu _ _ q hak)
   | false =>
    rw [if_neg Bool.false_ne_true]
    refine place_wp O hc hp hk hu f _ r (by omega) hrk (by omega) (fun a ha => ?_) h2 h
    have em := O.tot _ _ (hp.lt hk) (hp.lt (by omega)) (hp.ne hk (by omega) (by omega)) e
    rcases Nat.lt_or_ge a ((l + r) / 2) with q | q
    ·exact O.trans _ _ _ (hu _ _ q (by omega)) em
    ·have ea : a = (l + r) / 2 := by omega
     rw [ea]; exact em
theorem bubble_get {p : Array Nat} {k l : Nat} (hk : k < p.size) (hl : l <= k) (i : Nat) : (bubble p k (k - l)).getD i 0 = if i = l then p.getD k 0 else if l < i /\ i <= k then p.getD (i - 1) 0 else p.getD i 0 := by
 have h := getElem?_bubble (xs := p) hk (k - l) (by omega) i
 have g1 : ∀ (q : Array Nat) (i : Nat), q.getD i 0 = (q[i]?).getD 0 := fun q i => by simp [Array.getD_eq_getD_getElem?]
 rw [g1, h, show k - (k - l) = l by omega]
 by_cases e1 : i = l
 ·rw [if_pos e1, if_pos e1, g1]
 ·rw [if_neg e1, if_neg e1]
  by_cases e2 : l < i /\ i <= k
  ·rw [if_pos e2, if_pos e2, g1]
  ·rw [if_neg e2, if_neg e2, g1]
theorem bin_wp (O : Ord n R) (hc : Answers n R cmp s) {Q : Array Nat -> Shared -> Prop} (h : ∀ q, Pm n q -> Up R q n -> Q q s) : ∀ (f : Nat) (p : Array Nat) (k : Nat), 0 < k -> k + f = n -> Pm n p -> Up R p k -> (kas_bin f p k).kasWp cmp Q s
 | 0, p, k, h0, hf, hp, hu => by
  have e : k = n := by omega
  subst e
  exact h p hp hu
 | f + 1, p, k, h0, hf, hp, hu => by
  unfold kas_bin
  rw [KasT.kasWp_bind]
  have hk : k < n := by omega
  have hks : k < p.size := by rw [hp.size]; exact hk
  refine place_wp O hc hp hk hu k 0 k (Nat.zero_le _) (Nat.le_refl _) (by omega) (fun a ha => absurd ha (Nat.not_lt_zero _)) (fun a ha hak => absurd ha (by omega)) fun l hl h1 h2 => ?_
  refine bin_wp O hc h f _ (k + 1) (by omega) (by omega) ((Array.perm_iff_toList_perm.mp (bubble_perm p k (k - l))).trans hp) fun a b hab hb => ?_
  rw [bubble_get hks hl, bubble_get hks hl]
  by_cases ea : a = l
  ·rw [if_pos ea, if_neg (by omega)]
   rw [if_pos (by omega)]
   exact h2 _ (by omega) (by omega)
  ·rw [if_neg ea]
   by_cases eb : b = l
   ·rw [if_pos eb, if_neg (by omega)]
    exact h1 _ (by omega)
   ·rw [if_neg eb]
    by_cases ca : l < a /\ a <= k
    ·rw [if_pos ca, if_pos (by omega)]
     exact hu _ _ (by omega) (by omega)
    ·rw [if_neg ca]
     by_cases cb : l < b /\ b <= k
     ·rw [if_pos cb]
      rcases Nat.lt_or_ge a (b - 1) with q | q
      ·exact hu _ _ q (by omega)
      ·exact absurd q (by omega)
     ·rw [if_neg cb]
      exact hu _ _ hab (by omega)
theorem sort_wp (O : Ord n R) (hc : Answers n R cmp s) (h2 : 2 <= n) {Q : Array Nat -> Shared -> Prop} (h : ∀ q, Pm n q -> Up R q n -> Q q s) : (kas_sort n).kasWp cmp Q s := by
 unfold kas_sort
 rw [KasT.kasWp_bind]
 refine count_wp O hc (p := List.toArray (List.range n)) (by unfold Pm; simp) h2 fun m q h0 hm hp hu => ?_
 by_cases hlt : m < n
 ·rw [if_pos hlt]
  have e : max m 1 = m := by omega
  rw [e]
  exact bin_wp O hc h (n - m) q m h0 (by omega) hp hu
 ·rw [if_neg hlt]
  have e : m = n := by omega
  subst e
  exact h q hp hu
end
end RS
namespace RS
open PySem PySem.W PyProof.Rows PySem.SetTable
section
variable {prog : Program} {w : World} {A : Around} {E : Value -> Shared -> Prop} {s : Shared}
theorem hint_set {S : Addr} {Q : Bool -> Shared -> Prop} (hT : s.TypeIs (.ref S) "set") (h : Q false s) : wpAny (model prog w) A (Builtin.List.listLengthHint (.ref S)) Q E s := by
 unfold Builtin.List.listLengthHint
 refine wpAny_bind (wpAny_specialOf hT PySem.F.slot_set_len.lookup ?_)
 generalize hid : ("set.__len__" : String) = id0
 wp_delta
 rw [show splitId id0 = some ("set", "__len__") from by subst hid; decide +kernel]
 subst hid
 refine wpAny_bind (wpAny_isInstance (T := "set") (b := true) hT (by rw [isSubtype_type]; kernel_rfl) ?_)
 refine wpAny_ite_split (fun hab => absurd hab (by decide)) (fun _ => ?_)
 refine wpAny_ite_split (fun _ => ?_) (fun hab => absurd (by decide +kernel) hab)
 exact wpAny_bind (wpAny_typeOf hT (wpAny_pure h))
theorem src_set {S : Addr} {es : Array (Int × Value)} {ep : Nat} {t : SetTable} (T : Tab t es) (L : Led w t) :
  KdlSrc prog w "set" S S es.size (fun i v => ∃ e, (walkOf w S es ep)[i]? = some e /\ v = e.2) (fun h => SetEx h S es ep t) where
 type := fun s hS => hS.type
 there := fun h hS => let ⟨_, e, _⟩ := hS; ⟨Heap.lt_size e, Heap.lt_size e⟩
 keep := fun h h' hS hk => hS.at fun o e => hk S (.inl rfl) o e
 notList := by decide
 notTuple := by decide
 hint := fun _ _ s _ hS hq => hint_set hS.type hq
 iter := fun A s hh hS => ⟨_, _, fun _ _ hq => wp_iterSet hS T hq, walks_set hh (let ⟨_, e, _⟩ := hS; Nat.ne_of_lt (Heap.lt_size e)) T L, ⟨⟨_, Heap.get?_push_size _ rfl, rfl, rfl⟩, hS.at fun o e => Heap.get?_push_of_some _ e⟩⟩
variable {h₀ : Heap} {L : Addr} {m : Str -> Option Value} {news : List (Addr × Obj)}
theorem sort_short {D : Addr} {vs : List Value} {Q : Value -> Shared -> Prop} {n : Nat} (F : Fr h₀ L s.heap m) (N : News h₀ L s.heap ((D, listOf vs.toArray n) :: news)) (off : ∀ q ∈ news, q.1 ≠ D) (h1 : vs.length < 2)
  (h : ∀ h' c, Fr h₀ L h' m -> News h₀ L h' ((D, listOf vs.toArray c) :: news) -> Q .none { s with heap := h' }) : wpAny (model prog w) A (call (.builtin "list.sort") [.ref D]) Q E s := by
 obtain ⟨ho, hDL, hD0⟩ := N (D, listOf vs.toArray n) List.mem_cons_self
 have N0 : News h₀ L s.heap news := fun p hp => N p (List.mem_cons_of_mem _ hp)
 refine wpAny_call_entry slot_list_sort ⟨_, ho, rfl⟩ entry_list_sort ?_ (args_list_sort _)
 rw [list_sort_plain]
 have hlt : D < s.heap.objs.size := Heap.lt_size ho
 have s1 := Heap.SameBut.update s.heap D (Obj.mapSeq fun _ => (#[] : Array Value))
 obtain ⟨e1, g1⟩ : ∃ e1, (s.heap.update D (Obj.mapSeq fun _ => (#[] : Array Value))).get? D = some (seqObj "list" #[] e1) := ⟨_, get?_update_seq ho fun _ => #[]⟩
 refine wpAny_bind (listItems_at ho rfl ?_)
 refine wpAny_bind (listUpdate_at ho rfl ?_ (by rw [List.size_toArray, sizeLine_eq]; lia) (Nat.zero_le _))
 refine wpAny_bind (seqEpoch_at g1 rfl ?_)
 refine wpAny_bind (wpAny_newTuple ?_ (by show vs.length <= _; rw [sizeLine_eq]; omega))
 refine wpAny_bind (wpAny_newList ?_ (Nat.zero_le _))
 refine wpAny_holding ?_
 have F3 := ((kas_fr F s1 hDL hD0).push (seqObj "tuple" vs.toArray 0)).push (seqObj "list" #[] 0)
 have N3 : News h₀ L (((s.heap.update D (Obj.mapSeq fun _ => (#[] : Array Value))).push (seqObj "tuple" vs.toArray 0)).push (seqObj "list" #[] 0)) news :=
  (kas_news N0 s1 off).grown fun b x e => Heap.get?_push_of_some _ (Heap.get?_push_of_some _ e)
 have g3 : (((s.heap.update D (Obj.mapSeq fun _ => (#[] : Array Value))).push (seqObj "tuple" vs.toArray 0)).push (seqObj "list" #[] 0)).get? D = some (seqObj "list" #[] e1) := Heap.get?_push_of_some _ (Heap.get?_push_of_some _ g1)
 show wpAny (model prog w) _ _ _ _ { s with heap := ((s.heap.update D (Obj.mapSeq fun _ => (#[] : Array Value))).push (seqObj "tuple" vs.toArray 0)).push (seqObj "list" #[] 0) }
 generalize ((s.heap.update D (Obj.mapSeq fun _ => (#[] : Array Value))).push (seqObj "tuple" vs.toArray 0)).push (seqObj "list" #[] 0) = h3 at F3 N3 g3 ⊢
 dsimp only
 have h2 : vs.toArray.size < 2 := by rw [List.size_toArray]; exact h1
 rw [if_pos h2, if_pos h2]
 refine wpAny_bind (wpAny_pure ?_)
 rw [StateT.run_pure]
 refine wpAny_bind (wpAny_pure ?_)
 dsimp only
 refine wpAny_bind (seqEpoch_at g3 rfl ?_)
 have eout : ((SortSt.mk' general' (vs.toArray.zip vs.toArray) #[] 7 none) |> arrOf).map (·.2) = vs.toArray := by
  show (vs.toArray.zip vs.toArray).map (·.2) = vs.toArray
  apply Array.toList_inj.mp
  rw [Array.toList_map, ksk_zip]
  exact List.map_snd_zip (Nat.le_refl _)
 refine wpAny_bind (listUpdate_at g3 rfl ?_ (Nat.zero_le _) (by show (((SortSt.mk' general' (vs.toArray.zip vs.toArray) #[] 7 none) |> arrOf).map (·.2)).size <= _; rw [eout, List.size_toArray, sizeLine_eq]; lia))
 simp only [bne_self_eq_false, Bool.false_eq_true, if_false]
 have s2 := Heap.SameBut.update h3 D (Obj.mapSeq fun _ => vs.toArray)
 obtain ⟨c2, g4⟩ : ∃ c2, (h3.update D (Obj.mapSeq fun _ => vs.toArray)).get? D = some (seqObj "list" vs.toArray c2) := ⟨_, get?_update_seq g3 fun _ => vs.toArray⟩
 refine wpAny_pure ⟨_, rfl, ?_⟩
 have fin := h (h3.update D (Obj.mapSeq fun _ => vs.toArray)) c2 (kas_fr F3 s2 hDL hD0) (fun p hp => by
  rcases List.mem_cons.mp hp with rfl | hp
  ·exact ⟨g4, hDL, hD0⟩
  ·exact kas_news N3 s2 off p hp)
 rw [<- eout] at fin
 exact fin
theorem lt_pairs {a b : Addr} {p q : Pt} {C : Bool -> Shared -> Prop} (ha : IsTupleKey (intKind prog w) s.heap (kk p) a) (hb : IsTupleKey (intKind prog w) s.heap (kk q) b) (h : C (lexLt p q) s) :
  wpAny (model prog w) A (keyLt' (tuples' true) (.ref a) (.ref b)) C E s := by
 obtain ⟨oa, xs, na, ho, _, hd, hi⟩ := ha
 obtain ⟨ob, ys, nb, ho', _, hd', hi'⟩ := hb
 obtain ⟨x1, x2, exs, t1, t2, e1, e2⟩ : ∃ x1 x2, xs.toList = [x1, x2] /\ ∃ t1 t2, x1 = Value.int p.1 t1 /\ x2 = Value.int p.2 t2 := by
  revert hi
  generalize xs.toList = l
  intro hi
  cases hi with
  | cons h1 r => cases r with
   | cons h2 r => cases r with
    | nil =>
     obtain ⟨t1, e1⟩ := Value.isInt_shape h1
     obtain ⟨t2, e2⟩ := Value.isInt_shape h2
     exact ⟨_, _, rfl, t1, t2, e1, e2⟩
 obtain ⟨y1, y2, eys, u1, u2, f1, f2⟩ : ∃ y1 y2, ys.toList = [y1, y2] /\ ∃ u1 u2, y1 = Value.int q.1 u1 /\ y2 = Value.int q.2 u2 := by
  revert hi'
  generalize ys.toList = l
  intro hi'
  cases hi' with
  | cons h1 r => cases r with
   | cons h2 r => cases r with
    | nil =>
     obtain ⟨t1, e1⟩ := Value.isInt_shape h1
     obtain ⟨t2, e2⟩ := Value.isInt_shape h2
     exact ⟨_, _, rfl, t1, t2, e1, e2⟩
 have hsz : decide (xs.size < ys.size) = false := by
  have a1 : xs.size = 2 := by rw [<- Array.length_toList, exs]; rfl
  have a2 : ys.size = 2 := by rw [<- Array.length_toList, eys]; rfl
  rw [a1, a2]; rfl
 subst e1 e2 f1 f2
 refine kat_lt ho hd ho' hd' ?_
 rw [exs, eys, hsz]
 refine kat_cons (wpAny_eqBool_int ?_)
 by_cases c1 : p.1 = q.1
 ·rw [show (p.1 == q.1) = true by simp [c1]]
  refine kat_yes (kat_cons (wpAny_eqBool_int ?_))
  by_cases c2 : p.2 = q.2
  ·rw [show (p.2 == q.2) = true by simp [c2]]
   refine kat_yes (kat_nil ?_)
   have e : lexLt p q = false := by rw [show p = q from Prod.ext c1 c2]; exact lex_irrefl q
   rw [e] at h
   exact h
  ·rw [show (p.2 == q.2) = false by simp [c2]]
   refine kat_no (kat_one _ _ (lt_int ?_))
   have e : lexLt p q = decide (p.2 < q.2) := by unfold lexLt; simp [c1]
   rw [e] at h
   exact h
 ·rw [show (p.1 == q.1) = false by simp [c1]]
  refine kat_no (oneLt_int ?_)
  have e : lexLt p q = decide (p.1 < q.1) := by unfold lexLt; simp [c1]
  rw [e] at h
  exact h
theorem sort_pairs {D : Addr} {its : List (Pt × Addr)} {Q : Value -> Shared -> Prop} {n : Nat} (F : Fr h₀ L s.heap m) (N : News h₀ L s.heap ((D, listOf (its.map fun p => Value.ref p.2).toArray n) :: news)) (off : ∀ q ∈ news, q.1 ≠ D) (h64 : its.length < 64)
  (nd : (its.map (·.1)).Nodup) (hk : ∀ h', Fr h₀ L h' m -> News h₀ L h' news -> ∀ p ∈ its, IsTupleKey (intKind prog w) h' (kk p.1) p.2)
  (h : ∀ h' c (srt : List (Pt × Addr)), Fr h₀ L h' m -> News h₀ L h' ((D, listOf (srt.map fun p => Value.ref p.2).toArray c) :: news) -> srt.Perm its -> srt.Pairwise (fun p q : Pt × Addr => lexLt p.1 q.1 = true) -> Q .none { s with heap := h' }) :
  wpAny (model prog w) A (call (.builtin "list.sort") [.ref D]) Q E s := by
 by_cases h2 : its.length < 2
 ·refine sort_short F N off (by rw [List.length_map]; exact h2) fun h' c F' N' => h h' c its F' N' (.refl _) ?_
  cases its with
  | nil => exact List.Pairwise.nil
  | cons p t =>
   cases t with
   | nil => exact List.pairwise_singleton _ _
   | cons q t => exact absurd h2 (Nat.not_lt.mpr (Nat.le_add_left _ _))
 ·have hlen : (its.map fun p => Value.ref p.2).length = its.length := List.length_map ..
  refine kat_lsort (vs := its.map fun p => Value.ref p.2) F N (.head off) (by simp) (by rw [hlen]; lia) (by rw [hlen]; exact h64) fun e1 h' F' N' => ?_
  have N0 : News h₀ L h' news := fun p hp => N' p (List.mem_cons_of_mem _ hp)
  have keys := hk h' F' N0
  have tups : ∀ l : List (Pt × Addr), (∀ p ∈ l, IsTupleKey (intKind prog w) h' (kk p.1) p.2) -> ∃ fs : List Value, fs.length = l.length /\ (∀ v ∈ fs, ∃ i t, v = Value.int i t) /\ KatTups h' (l.map fun p => Value.ref p.2) fs := by
   intro l
   induction l with
   | nil => intro _; exact ⟨[], rfl, (fun v hv => by cases hv), KatTups.nil⟩
   | cons p l ih =>
    intro hl
    obtain ⟨fs, a1, a2, a3⟩ := ih fun q hq => hl q (List.mem_cons_of_mem _ hq)
    obtain ⟨o, xs, k, ho, hc, hd, hi⟩ := hl p List.mem_cons_self
    obtain ⟨v, hv, i, t, rfl⟩ : ∃ v, xs[0]? = some v /\ ∃ i t, v = Value.int i t := by
     have hi2 := hi
     revert hi2
     rw [<- Array.getElem?_toList]
     generalize xs.toList = z
     intro hi2
     cases hi2 with
     | cons q1 r =>
      obtain ⟨t, e⟩ := Value.isInt_shape q1
      exact ⟨_, rfl, _, t, e⟩
    refine ⟨Value.int i t :: fs, by simp [a1], fun u hu => ?_, KatTups.cons ho hc hd hv a3⟩
    rcases List.mem_cons.mp hu with rfl | hu
    ·exact ⟨i, t, rfl⟩
    ·exact a2 u hu
  obtain ⟨fs, f1, f2, f3⟩ := tups its keys
  refine kat_kind (T := .type "int") f3 (by lia) (fun v hv => ?_) (by decide) ?_
  ·obtain ⟨i, t, rfl⟩ := f2 v hv
   exact Looks.of_pure rfl
  rw [show (Value.type "int" != Value.type "tuple") = true by decide]
  have hget : ∀ i (hi : i < its.length), (its.map fun p => Value.ref p.2).getD i Value.none = Value.ref (its[i]).2 := fun i hi => by simp [hi]
  have ord : Ord its.length (fun i j => lexLt (its.getD i ((0, 0), 0)).1 (its.getD j ((0, 0), 0)).1) := by
   refine ⟨fun i j => lex_asym, fun i j k => lex_trans, fun i j hi hj hij hf => lex_tot (fun e => hij ?_) hf⟩
   have hi' : i < (its.map (·.1)).length := by rw [List.length_map]; exact hi
   have hj' : j < (its.map (·.1)).length := by rw [List.length_map]; exact hj
   refine (List.getElem_inj (h₀ := hi') (h₁ := hj') nd).mp ?_
   simp only [List.getElem_map]
   simpa [hi, hj] using e
  rw [hlen]
  refine sort_wp ord (fun i j C hi hj hC => ?_) (by lia) fun q hq hu => ?_
  ·show wpAny _ _ (keyLt' (tuples' true) _ _) _ _ _
   rw [hget i hi, hget j hj]
   refine lt_pairs (keys _ (List.getElem_mem hi)) (keys _ (List.getElem_mem hj)) ?_
   have e1 : its.getD i ((0, 0), 0) = its[i] := by simp [hi]
   have e2 : its.getD j ((0, 0), 0) = its[j] := by simp [hj]
   dsimp only at hC
   rw [e1, e2] at hC
   exact hC
  ·have hmem : ∀ i ∈ q.toList, i < its.length := fun i hi => List.mem_range.mp (hq.mem_iff.mp hi)
   have eout : (q.toList.map fun i => (its.map fun p => Value.ref p.2).getD i Value.none) = (q.toList.map fun i => its.getD i ((0, 0), 0)).map fun p => Value.ref p.2 := by
    rw [List.map_map]
    refine List.map_congr_left fun i hi => ?_
    have hi' := hmem i hi
    simp [hi']
   rw [eout]
   refine KasFin.intro F' N' (.head off) fun h2' c F2 N2 => h h2' c _ F2 N2 ?_ ?_
   ·have := hq.map fun i => its.getD i ((0, 0), 0)
    refine this.trans ?_
    have e : (List.range its.length).map (fun i => its.getD i ((0, 0), 0)) = its := by
     refine List.ext_getElem (by simp) fun i h1 h2 => ?_
     simp at h2 ⊢
     simp [h2]
    rw [e]
   ·rw [List.pairwise_map]
    have hsz : q.size = its.length := hq.size
    refine List.pairwise_iff_getElem.mpr fun a b ha hb hab => ?_
    have ha' : a < q.size := by simpa using ha
    have hb' : b < q.size := by simpa using hb
    have := hu a b hab (by rw [<- hsz]; exact hb')
    have ea : q.getD a 0 = q.toList[a] := by simp [Array.getD, ha']
    have eb : q.getD b 0 = q.toList[b] := by simp [Array.getD, hb']
    rw [ea, eb] at this
    exact this
end
end RS
namespace RS
open PySem
namespace Fs
theorem lri_no_len : typeLookup (.type "list_reverseiterator") "__len__" = pure none := by rw [typeLookup_type, builtinLookup_eq_fast]; kernel_rfl
theorem lri_hint : typeLookup (.type "list_reverseiterator") "__length_hint__" = pure (some (.builtin "list_reverseiterator.__length_hint__")) := by rw [typeLookup_type, builtinLookup_eq_fast]; kernel_rfl
end Fs
section
variable {prog : Program} {w : World} {A : Around} {E : Value -> Shared -> Prop} {s : Shared}
theorem hint_rev {a l : Addr} {i : Int} {Q : Bool -> Shared -> Prop} (hT : s.heap.IsRevIter a l i) (h : Q false s) : wpAny (model prog w) A (Builtin.List.listLengthHint (.ref a)) Q E s := by
 unfold Builtin.List.listLengthHint
 refine wpAny_bind (wpAny_specialOf hT.typeIs Fs.lri_no_len ?_)
 show wpAny _ _ (specialOf (Value.ref a) (Str.ofString "__length_hint__") >>= _) _ _ _
 refine wpAny_bind (wpAny_specialOf hT.typeIs Fs.lri_hint ?_)
 generalize hid : ("list_reverseiterator.__length_hint__" : String) = id0
 wp_delta
 rw [show splitId id0 = some ("list_reverseiterator", "__length_hint__") from by subst hid; decide +kernel]
 subst hid
 refine wpAny_bind (wpAny_isInstance (T := "list_reverseiterator") (b := true) hT.typeIs (by rw [isSubtype_type]; kernel_rfl) ?_)
 refine wpAny_ite_split (fun hab => absurd hab (by decide)) (fun _ => ?_)
 refine wpAny_ite_split (fun _ => ?_) (fun hab => absurd (by decide +kernel) hab)
 refine wpAny_ite_split (fun hab => absurd hab (by decide +kernel)) (fun _ => ?_)
 exact wpAny_pure h
theorem call_list_rev {a l : Addr} {its : Array Value} {Q : Value -> Shared -> Prop} (hh : A.handled = none) (hr : s.heap.IsRevIter a l ((its.size : Int) - 1)) (hl : s.heap.IsList l its) (hne : l ≠ a) (hn : its.size <= sizeLine)
  (hQ : ∀ h' tk acc c, (∀ b o, b ≠ a -> s.heap.get? b = some o -> h'.get? b = some o) -> h'.get? s.heap.objs.size = some { cls := .type "list", dict := none, data := .seq acc c, slots := #[] } ->
   acc.toList = its.toList.reverse -> Q (.ref s.heap.objs.size) { s with heap := h', toks := tk }) : wpAny (model prog w) A (call (.type "list") [.ref a]) Q E s := by
 have lta : a < s.heap.objs.size := let ⟨_, e, _⟩ := hr; Heap.lt_size e
 have ltl : l < s.heap.objs.size := let ⟨_, e, _⟩ := hl; Heap.lt_size e
 refine callType_codes (Q₁ := fun ob s1 => ob = .ref s.heap.objs.size /\ s1 = { s with heap := s.heap.push { cls := .type "list", data := .seq #[] } }) F.called_list (F.typeCall_list_1 _) F.entry_list_init (code_list_new _ ⟨rfl, rfl⟩) fun ob s1 h1 => ?_
 obtain ⟨rfl, rfl⟩ := h1
 have g1 : (s.heap.push { cls := .type "list", data := .seq #[] }).get? s.heap.objs.size = some { cls := .type "list", data := .seq #[] } := Heap.get?_push_size _ rfl
 refine ⟨⟨_, g1, rfl⟩, F.args_list_init_2 _ _, ?_⟩
 show wpAny _ _ (do let old <- Builtin.List.listItems (.ref s.heap.objs.size); Builtin.List.listUpdate (.ref s.heap.objs.size) (fun _ => #[]); letGo old.toList.reverse; Builtin.List.listExtendWith (.ref s.heap.objs.size) (.ref a) .none) _ _ _
 refine wpAny_bind ?_
 unfold Builtin.List.listItems
 refine wpAny_bind (wpAny_seqItems g1 rfl (wpAny_pure ?_))
 show wpAny _ _ (updateSeq s.heap.objs.size (fun _ => #[]) >>= fun _ => letGo (#[] : Array Value).toList.reverse >>= fun _ => Builtin.List.listExtendWith (.ref s.heap.objs.size) (.ref a) .none) _ _ _
 refine wpAny_bind (wpAny_updateSeq g1 rfl ?_)
 have g2 := Heap.get?_update_self (Obj.mapSeq (fun _ => (#[] : Array Value))) g1 rfl
 have k2 : ∀ b o, s.heap.get? b = some o -> ((s.heap.push { cls := .type "list", data := .seq #[] }).update s.heap.objs.size (Obj.mapSeq (fun _ => (#[] : Array Value)))).get? b = some o := fun b o e =>
  (Heap.get?_update_other _ _ (Nat.ne_of_gt (Heap.lt_size e))).trans (Heap.get?_push_of_some _ e)
 refine wpAny_bind (wpAny_letGo ?_)
 generalize ((s.heap.push { cls := .type "list", data := .seq #[] }).update s.heap.objs.size (Obj.mapSeq (fun _ => (#[] : Array Value)))) = h2 at g2 k2 ⊢
 have hr2 : h2.IsRevIter a l ((its.size : Int) - 1) := hr.at fun o e => k2 a o e
 have hl2 : h2.IsList l its := hl.at fun o e => k2 l o e
 unfold Builtin.List.listExtendWith
 refine wpAny_bind (wpAny_typeOf (T := "list_reverseiterator") (Heap.IsRevIter.typeIs (s := { s with heap := h2 }) hr2) ?_)
 have q1 : Builtin.List.listSameRef (.ref s.heap.objs.size) (.ref a) = false := by simp [Builtin.List.listSameRef, Nat.ne_of_gt lta]
 have q2 : (Value.type "list_reverseiterator" == Value.type "list") = false := by decide
 have q3 : (Value.type "list_reverseiterator" == Value.type "tuple") = false := by decide
 simp only [q1, q2, q3, Bool.or_false, Bool.false_eq_true, if_false]
 refine wpAny_bind (wpAny_pyIter_revIter (s := { s with heap := h2 }) hr2 ?_)
 refine wpAny_bind (wpAny_holding (hint_rev (s := { s with heap := h2 }) hr2 ?_))
 refine wpAny_ite_split (fun hab => absurd hab (by decide)) (fun _ => ?_)
 have W := Walks.listRev (prog := prog) (w := w) (A := A.in1.in1) hh a l hne its
 refine wpAny_pure ⟨plainId_quiet F.plain_extend_loop _, codeAny_extend_loopS W.toS hn s.heap.objs.size (by simp [Nat.ne_of_gt lta, Nat.ne_of_gt ltl]) _ its.size 0 _ #[] _ rfl (Nat.zero_le _) ⟨Nat.zero_le _, by simpa using hr2, hl2⟩ g2 (ItemsOf.nil _) fun s' acc c hm hS hacc => ?_⟩
 obtain ⟨h', g', d', tk', os'⟩ := s'
 have eg : g' = s.gens := hm.gens
 have ed : d' = s.drawn := hm.drawn
 have eo : os' = s.os := hm.os
 subst eg; subst ed; subst eo
 refine ⟨rfl, hQ h' tk' acc c (fun b o hb e => hm.heap b o (fun z => ?_) (k2 b o e)) hS ?_⟩
 ·rcases List.mem_cons.mp z with z | z
  ·exact absurd (Heap.lt_size e) (by rw [z]; exact Nat.lt_irrefl _)
  ·exact hb (by simpa using z)
 ·refine List.ext_getElem? fun j => ?_
  have hsz : acc.size = its.size := hacc.1
  rcases Nat.lt_or_ge j acc.size with hj | hj
  ·have := hacc.2 j acc[j] (by simp [hj])
   rw [Array.getElem?_toList]
   rw [List.getElem?_reverse (by simpa [<- hsz] using hj)]
   simp only [Array.length_toList, Array.getElem?_toList]
   rw [this]
   simp [hj]
  ·rw [List.getElem?_eq_none (by simpa using hj), List.getElem?_eq_none (by simpa [<- hsz] using hj)]
end
end RS
namespace L2
open PySem PySem.Spec PyProof.Rows
noncomputable abbrev Key := Sum Int Str
noncomputable def keyIs : Key -> Value -> Bool
 | .inl k, v => Value.isInt k v
 | .inr x, v => Value.isStrOf x v
noncomputable def keyH (w : World) : Key -> Int
 | .inl k => hashInt k
 | .inr x => hashStr w x
theorem keyIs_shape : ∀ {k : Key} {v : Value}, keyIs k v = true -> (∃ i t, k = Sum.inl i /\ v = Value.int i t) \/ (∃ x t, k = Sum.inr x /\ v = Value.str x t)
 | .inl i, v, h => by
  obtain ⟨t, e⟩ := Value.isInt_shape (k := i) (v := v) h
  exact .inl ⟨i, t, rfl, e⟩
 | .inr x, v, h => by
  obtain ⟨t, e⟩ := Value.isStrOf_shape (x := x) (v := v) h
  exact .inr ⟨x, t, rfl, e⟩
theorem key_ll (a b : Int) : decide ((Sum.inl a : Key) = Sum.inl b) = (a == b) := by
 by_cases e : a = b
 ·subst e; simp
 ·have h : ¬ (Sum.inl a : Key) = Sum.inl b := fun q => e (Sum.inl.inj q)
  rw [decide_eq_false h]
  exact (beq_eq_false_iff_ne.mpr e).symm
theorem key_rr (a b : Str) : decide ((Sum.inr a : Key) = Sum.inr b) = decide (a = b) := by
 by_cases e : a = b
 ·subst e; simp
 ·have h : ¬ (Sum.inr a : Key) = Sum.inr b := fun q => e (Sum.inr.inj q)
  rw [decide_eq_false h, decide_eq_false e]
theorem key_lr (a : Int) (b : Str) : decide ((Sum.inl a : Key) = Sum.inr b) = false := decide_eq_false (fun q => nomatch q)
theorem key_rl (a : Str) (b : Int) : decide ((Sum.inr a : Key) = Sum.inl b) = false := decide_eq_false (fun q => nomatch q)
noncomputable def mixKind (prog : Program) (w : World) : PySem.KeyKind prog w Key where
 is := keyIs
 hash := keyH w
 inj := fun v a b ha hb => by
  rcases keyIs_shape ha with ⟨i, t, rfl, rfl⟩ | ⟨x, t, rfl, rfl⟩
  ·rcases keyIs_shape hb with ⟨j, u, rfl, e⟩ | ⟨y, u, rfl, e⟩
   ·injection e with e1 _; rw [e1]
   ·exact nomatch e
  ·rcases keyIs_shape hb with ⟨j, u, rfl, e⟩ | ⟨y, u, rfl, e⟩
   ·exact nomatch e
   ·injection e with e1 _; rw [e1]
 byValue := fun k v h => by
  rcases keyIs_shape h with ⟨i, t, rfl, rfl⟩ | ⟨x, t, rfl, rfl⟩ <;> rfl
 pyHash := fun hv h => by
  rcases keyIs_shape hv with ⟨i, t, rfl, rfl⟩ | ⟨x, t, rfl, rfl⟩
  ·exact wpAny_pyHash_int h
  ·exact wpAny_pyHash_str h
 eqBool := fun hu hv h => by
  rcases keyIs_shape hu with ⟨i, t, rfl, rfl⟩ | ⟨x, t, rfl, rfl⟩
  ·rcases keyIs_shape hv with ⟨j, u, rfl, rfl⟩ | ⟨y, u, rfl, rfl⟩
   ·rw [key_ll] at h; exact wpAny_eqBool_int h
   ·rw [key_lr] at h; exact SeqAt.EqAt.int_str i t y u _ _ _ _ h
  ·rcases keyIs_shape hv with ⟨j, u, rfl, rfl⟩ | ⟨y, u, rfl, rfl⟩
   ·rw [key_rl] at h; exact SeqAt.EqAt.str_int x t j u _ _ _ _ h
   ·rw [key_rr] at h; exact wpAny_eqBool_str h
 «strs» := fun k x t v h => by
  rcases keyIs_shape h with ⟨i, u, rfl, e⟩ | ⟨y, u, rfl, e⟩
  ·exact nomatch e
  ·injection e with e1 _
   subst e1
   cases v <;> rfl
end L2
namespace L2
open PySem PySem.Spec PyProof.Rows
inductive V where
 | non | bl (b : Bool) | int (i : Int) | str (x : Str) | byt (b : Array UInt8) | flt (b : UInt64) | ref (a : Addr) | ty (n : String)
 deriving DecidableEq
noncomputable def RelV : V -> Value -> Prop
 | .non, u => u = Value.none
 | .bl b, u => u = Value.bool b
 | .int i, u => ∃ t, u = Value.int i t
 | .str x, u => ∃ t, u = Value.str x t
 | .byt b, u => ∃ t, u = Value.bytes b t
 | .flt b, u => ∃ t, u = Value.float b t
 | .ref a, u => u = Value.ref a
 | .ty n, u => u = Value.type n
noncomputable abbrev Vals : List V -> List Value -> Prop := Paired RelV
theorem Vals.length {xs : List V} {us : List Value} (r : Vals xs us) : xs.length = us.length := Paired.length r
theorem Vals.get : ∀ {xs : List V} {us : List Value} {i : Nat} {x : V}, Vals xs us -> xs[i]? = some x -> ∃ u, us[i]? = some u /\ RelV x u
 | _, _, _, _, .nil, e => by simp at e
 | _, _, 0, _, .cons r _, e => by simp at e; subst e; exact ⟨_, rfl, r⟩
 | _, _, i + 1, x, .cons _ t, e => by
  obtain ⟨u, h1, h2⟩ := Vals.get (i := i) (x := x) t (by simpa using e)
  exact ⟨u, by simpa using h1, h2⟩
theorem Vals.set {x : V} {u : Value} (r : RelV x u) : ∀ {xs : List V} {us : List Value} (i : Nat), Vals xs us -> Vals (xs.set i x) (us.set i u)
 | _, _, _, .nil => .nil
 | _, _, 0, .cons _ t => .cons r t
 | _, _, i + 1, .cons q t => .cons q (Vals.set r i t)
theorem Vals.append : ∀ {xs ys : List V} {us ws : List Value}, Vals xs us -> Vals ys ws -> Vals (xs ++ ys) (us ++ ws)
 | _, _, _, _, .nil, s => s
 | _, _, _, _, .cons r t, s => .cons r (Vals.append t s)
theorem Vals.take : ∀ {xs : List V} {us : List Value} (n : Nat), Vals xs us -> Vals (xs.take n) (us.take n)
 | _, _, 0, _ => .nil
 | _, _, _ + 1, .nil => .nil
 | _, _, n + 1, .cons r t => .cons r (Vals.take n t)
theorem Vals.drop : ∀ {xs : List V} {us : List Value} (n : Nat), Vals xs us -> Vals (xs.drop n) (us.drop n)
 | _, _, 0, r => r
 | _, _, _ + 1, .nil => .nil
 | _, _, n + 1, .cons _ t => Vals.drop n t
noncomputable def RelO : Option V -> Option Value -> Prop
 | some v, some u => RelV v u
 | none, none => True
 | _, _ => False
noncomputable def KV {κ : Type} : List (κ × V) -> List (κ × Value) -> Prop := Paired fun (p : κ × V) (q : κ × Value) => p.1 = q.1 /\ RelV p.2 q.2
noncomputable def kV : Key -> V
 | .inl i => .int i
 | .inr x => .str x
inductive HO where
 | lst (xs : List V)
 | tup (xs : List V)
 | dK (kvs : List (Key × V)) | dT (kvs : List (List Key × V))
 | set (S : Int -> Bool) (n : Nat)
 | ins (C dx : Addr) (fs : List (Str × V))
 | own (x : Addr)
 | xd (fs : List (Str × V))
 | met (f x : Addr)
 | rng (lo hi : Int)
 | frz (o : Obj) (u : HO)
 | tbl (ps : Array Value)
 | ext (φ : Heap -> Prop)
noncomputable abbrev Hp := Addr -> Option HO
noncomputable def upd (H : Hp) (a : Addr) (o : HO) : Hp := fun b => if b = a then some o else H b
theorem upd_same {H : Hp} {a : Addr} {o : HO} : upd H a o a = some o := by unfold upd; rw [if_pos rfl]
theorem upd_ne {H : Hp} {a b : Addr} {o : HO} (h : b ≠ a) : upd H a o b = H b := by unfold upd; rw [if_neg h]
theorem ne_of {H : Hp} {a b : Addr} {o u : HO} (h : H a = some o) (h' : H b = some u) (d : o ≠ u) : a ≠ b := by
 intro e; subst e; rw [h] at h'; exact d (Option.some.inj h')
theorem ne_of_none {H : Hp} {a b : Addr} {o : HO} (h : H a = some o) (h' : H b = none) : a ≠ b := by
 intro e; subst e; rw [h] at h'; cases h'
section
variable (P : Program) (w : World)
noncomputable def ObjOk (H : Hp) (h : Heap) (a : Addr) : HO -> Prop
 | .lst xs => xs.length <= sizeLine /\ ∃ (its : List Value) (n : Nat), Vals xs its /\ h.get? a = some { cls := .type "list", data := .seq its.toArray n }
 | .tup xs => xs.length <= sizeLine /\ ∃ its : List Value, Vals xs its /\ IsTup h a its.toArray
 | .dK kvs => kvs.length <= sizeLine /\ (a == sysModules) = false /\ ∃ vs, KV kvs vs /\ h.DictOf (mixKind P w) a vs
 | .dT kvs => kvs.length <= sizeLine /\ (a == sysModules) = false /\ ∃ xs : List (List Key × Addr × Value),
   Paired (fun (p : List Key × V) (q : List Key × Addr × Value) => p.1 = q.1 /\ H q.2.1 = some (.tup (p.1.map kV)) /\ RelV p.2 q.2.2) kvs xs /\
   ∃ o es ep, h.get? a = some o /\ o.ExactDict /\ o.data = .dict es ep /\ es.toList = xs.map (entryOfKey (tupleKind (mixKind P w))) /\ (xs.map (·.1)).Nodup
 | .set S n => h.SetOf (intKind P w) a S n
 | .ins C dx fs => H dx = some (.own a) /\ fs.length <= 1000 /\ dx ≠ a /\ h.get? a = some (PySem.W.instObj C dx) /\
   ∃ mA, h.Ns1 dx mA /\ (∀ f, RelO (fs.lookup f) (mA f)) /\ PySem.Within mA (fs.map (·.1))
 | .own _ => ∃ o, h.get? a = some o
 | .xd fs => ∃ mA, h.Ns1 a mA /\ ∀ f, RelO (fs.lookup f) (mA f)
 | .rng lo hi => ∃ t u v, h.get? a = some { cls := .type "range", data := .fields #[.int lo t, .int hi u, .int 1 v] }
 | .frz o u => h.get? a = some o /\ ObjOk H h a u
 | .tbl ps => h.get? a = some { cls := .none, data := .fields ps }
 | .met f x => h.get? a = some (PySem.W.methodObj (.ref f) (.ref x))
 | .ext φ => φ h /\ (∃ o, h.get? a = some o) /\ ∀ h1 h2 : Heap, φ h1 -> (∀ o, h1.get? a = some o -> h2.get? a = some o) -> φ h2
noncomputable def HOk (H : Hp) (h : Heap) : Prop := ∀ a o, H a = some o -> ObjOk P w H h a o
end
section
variable {P : Program} {w : World} {H H' : Hp} {h h' : Heap} {a : Addr} {o : HO}
theorem ObjOk.lt (x : ObjOk P w H h a o) : a < h.objs.size := by
 cases o with
 | lst xs => obtain ⟨_, _, _, _, e⟩ := x; exact Heap.lt_size e
 | tup xs => obtain ⟨_, _, _, p⟩ := x; exact p.lt
 | dK kvs => obtain ⟨_, _, _, _, o, _, _, e, _⟩ := x; exact Heap.lt_size e
 | dT kvs => obtain ⟨_, _, _, _, o, _, _, e, _⟩ := x; exact Heap.lt_size e
 | set S n => obtain ⟨o, _, _, _, e, _⟩ := x; exact Heap.lt_size e
 | ins C dx fs => obtain ⟨_, _, _, e, _⟩ := x; exact Heap.lt_size e
 | own y => obtain ⟨_, e⟩ := x; exact Heap.lt_size e
 | xd fs => obtain ⟨_, ⟨_, _, _, e, _⟩, _⟩ := x; exact Heap.lt_size e
 | rng lo hi => obtain ⟨_, _, _, e⟩ := x; exact Heap.lt_size e
 | frz ob u => obtain ⟨e, _⟩ := x; exact Heap.lt_size e
 | tbl ps => exact Heap.lt_size (show h.get? a = some _ from x)
 | met f y => exact Heap.lt_size (show h.get? a = some _ from x)
 | ext φ => obtain ⟨_, ⟨_, e⟩, _⟩ := x; exact Heap.lt_size e
theorem Paired.mapP {α β : Type} {F G : α -> β -> Prop} : ∀ {l₁ : List α} {l₂ : List β}, Paired F l₁ l₂ -> (∀ a b, F a b -> G a b) -> Paired G l₁ l₂
 | _, _, .nil, _ => .nil
 | _, _, .cons r t, f => .cons (f _ _ r) (Paired.mapP t f)
theorem ObjOk.stay (x : ObjOk P w H h a o) (k : ∀ b u, (b = a \/ H b = some (.own a)) -> h.get? b = some u -> h'.get? b = some u)
  (ho : ∀ b, H b = some (.own a) -> H' b = some (.own a)) (ht : ∀ b xs, H b = some (.tup xs) -> H' b = some (.tup xs)) : ObjOk P w H' h' a o := by
 induction o with
 | lst xs => obtain ⟨z, its, n, r, e⟩ := x; exact ⟨z, its, n, r, k _ _ (.inl rfl) e⟩
 | tup xs => obtain ⟨z, its, r, ob, e, c⟩ := x; exact ⟨z, its, r, ob, k _ _ (.inl rfl) e, c⟩
 | dK kvs => obtain ⟨z, y, vs, r, ob, es, ep, e, c⟩ := x; exact ⟨z, y, vs, r, ob, es, ep, k _ _ (.inl rfl) e, c⟩
 | dT kvs =>
  obtain ⟨z, y, xs, r, ob, es, ep, e, c⟩ := x
  exact ⟨z, y, xs, Paired.mapP r fun p q z => ⟨z.1, ht _ _ z.2.1, z.2.2⟩, ob, es, ep, k _ _ (.inl rfl) e, c⟩
 | set S n => obtain ⟨ob, es, ep, t, e, c⟩ := x; exact ⟨ob, es, ep, t, k _ _ (.inl rfl) e, c⟩
 | ins C dx fs =>
  obtain ⟨d, z, ne, e, mA, ⟨od, es, ep, e2, c⟩, r⟩ := x
  exact ⟨ho _ d, z, ne, k _ _ (.inl rfl) e, mA, ⟨od, es, ep, k _ _ (.inr d) e2, c⟩, r⟩
 | own y => obtain ⟨ob, e⟩ := x; exact ⟨ob, k _ _ (.inl rfl) e⟩
 | xd fs => obtain ⟨mA, ⟨od, es, ep, e, c⟩, r⟩ := x; exact ⟨mA, ⟨od, es, ep, k _ _ (.inl rfl) e, c⟩, r⟩
 | rng lo hi => obtain ⟨t, u, v, e⟩ := x; exact ⟨t, u, v, k _ _ (.inl rfl) e⟩
 | frz ob u ih => obtain ⟨e, q⟩ := x; exact ⟨k _ _ (.inl rfl) e, ih q⟩
 | tbl ps =>
  have e : h.get? a = some { cls := .none, data := .fields ps } := x
  show h'.get? a = some { cls := .none, data := .fields ps }
  exact k a _ (.inl rfl) e
 | met f y =>
  have e : h.get? a = some (PySem.W.methodObj (.ref f) (.ref y)) := x
  show h'.get? a = some (PySem.W.methodObj (.ref f) (.ref y))
  exact k a _ (.inl rfl) e
 | ext φ => obtain ⟨p, ⟨o, e⟩, st⟩ := x; exact ⟨st _ _ p fun o q => k _ _ (.inl rfl) q, ⟨o, k _ _ (.inl rfl) e⟩, st⟩
theorem HOk.lt (x : HOk P w H h) (e : H a = some o) : a < h.objs.size := (x a o e).lt
theorem HOk.fresh (x : HOk P w H h) (e : h.objs.size <= a) : H a = none := by
 cases q : H a with
 | none => rfl
 | some u => exact absurd (Nat.lt_of_lt_of_le (x.lt q) e) (Nat.lt_irrefl _)
theorem HOk.kept (x : HOk P w H h) (k : ∀ b u, h.get? b = some u -> h'.get? b = some u) : HOk P w H h' := fun a o e =>
 (x a o e).stay (fun b u _ q => k b u q) (fun _ q => q) fun _ _ q => q
theorem HOk.laid (x : HOk P w H h) (k : ∀ b u, h.get? b = some u -> h'.get? b = some u) (hp : h.objs.size <= a) (new : ObjOk P w (upd H a o) h' a o) : HOk P w (upd H a o) h' := fun b u e => by
 have hn := x.fresh hp
 by_cases hb : b = a
 ·subst hb; rw [upd_same] at e; cases e; exact new
 ·rw [upd_ne hb] at e
  exact (x b u e).stay (fun c v _ q => k c v q) (fun c q => by rw [upd_ne (ne_of_none q hn)]; exact q) fun c xs q => by rw [upd_ne (ne_of_none q hn)]; exact q
end
noncomputable def Rd (H : Hp) (a : Addr) (u : HO) : Prop := H a = some u \/ ∃ o, H a = some (.frz o u)
theorem Rd.ok {P : Program} {w : World} {H : Hp} {h : Heap} {a : Addr} {u : HO} (r : Rd H a u) (x : HOk P w H h) : ObjOk P w H h a u := by
 rcases r with r | ⟨o, r⟩
 ·exact x a u r
 ·obtain ⟨_, q⟩ := x a _ r
  exact q
noncomputable def Mut : Option HO -> Prop
 | some (.lst _) => True
 | some (.dK _) => True
 | some (.dT _) => True
 | some (.set _ _) => True
 | some (.ins _ _ _) => True
 | some (.ext _) => True
 | _ => False
section
variable {P : Program} {w : World} {H : Hp} {h h' : Heap} {x e : Addr} {o' : HO}
theorem HOk.write (ok : HOk P w H h) (mu : Mut (H x)) (he : e = x \/ H e = some (.own x)) (k : ∀ b u, b ≠ e -> h.get? b = some u -> h'.get? b = some u) (heo : ∃ u, h'.get? e = some u)
  (new : ObjOk P w (upd H x o') h' x o') : HOk P w (upd H x o') h' := fun b u q => by
 have nown : ∀ c y, H c = some (.own y) -> c ≠ x := fun c y r z => by subst z; rw [r] at mu; exact mu
 have ntup : ∀ c xs, H c = some (.tup xs) -> c ≠ x := fun c xs r z => by subst z; rw [r] at mu; exact mu
 by_cases hb : b = x
 ·subst hb; rw [upd_same] at q; cases q; exact new
 ·rw [upd_ne hb] at q
  by_cases hbe : b = e
  ·have q' : H b = some (.own x) := by
    rcases he with z | z
    ·exact absurd (hbe.trans z) hb
    ·rw [hbe]; exact z
   rw [q] at q'; cases q'
   obtain ⟨v, hv⟩ := heo
   exact ⟨v, by rw [hbe]; exact hv⟩
  ·refine (ok b u q).stay (fun c v hc r => k c v ?_ r) (fun c r => by rw [upd_ne (nown c b r)]; exact r) fun c xs r => by rw [upd_ne (ntup c xs r)]; exact r
   rcases hc with rfl | hc
   ·exact hbe
   ·rintro rfl
    rcases he with z | z
    ·exact nown c b hc z
    ·rw [hc] at z; cases z; exact hb rfl
end
structure Un (fs ex : List Addr) (H H' : Hp) (h h' : Heap) : Prop where
 keep : ∀ b o, h.get? b = some o -> H b = none -> b ∉ fs -> b ∉ ex -> h'.get? b = some o
 slot : ∀ b o, h.get? b = some o -> H b = none -> b ∈ fs -> b ∉ ex -> ∃ sl, h'.get? b = some { o with slots := sl }
 free : ∀ b o, h.get? b = some o -> H b = none -> b ∉ ex -> H' b = none
 there : ∀ b o, h.get? b = some o -> b ∉ ex -> ∃ o', h'.get? b = some o'
 tups : ∀ b xs, H b = some (.tup xs) -> H' b = some (.tup xs)
 frzs : ∀ b o u, H b = some (.frz o u) -> H' b = some (.frz o u)
 tbls : ∀ b ps, H b = some (.tbl ps) -> ∃ more, H' b = some (.tbl (ps ++ more))
section
variable {fs fs' ex ex' : List Addr} {H H1 H2 : Hp} {h h1 h2 h' : Heap} {a x e : Addr} {o : HO}
theorem Un.any (u : Un fs ex H H1 h h1) {b : Addr} {ob : Obj} (q : h.get? b = some ob) (n : H b = none) (hx : b ∉ ex) : ∃ sl, h1.get? b = some { ob with slots := sl } := by
 by_cases hb : b ∈ fs
 ·exact u.slot b ob q n hb hx
 ·exact ⟨ob.slots, u.keep b ob q n hb hx⟩
theorem Un.kept (k : ∀ b u, h.get? b = some u -> h'.get? b = some u) : Un fs ex H H h h' :=
 ⟨fun b ob q _ _ _ => k b ob q, fun b ob q _ _ _ => ⟨ob.slots, k b ob q⟩, fun _ _ _ n _ => n, fun b ob q _ => ⟨ob, k b ob q⟩, fun _ _ q => q, fun _ _ _ q => q, fun _ ps q => ⟨#[], by rw [q]; simp⟩⟩
theorem Un.refl : Un fs ex H H h h := Un.kept fun _ _ q => q
theorem Un.laid (k : ∀ b u, h.get? b = some u -> h'.get? b = some u) (hp : h.objs.size <= a) (hn : H a = none) : Un fs ex H (upd H a o) h h' where
 keep := fun b u q _ _ _ => k b u q
 slot := fun b u q _ _ _ => ⟨u.slots, k b u q⟩
 free := fun b u q n _ => by rw [upd_ne (Nat.ne_of_lt (Nat.lt_of_lt_of_le (Heap.lt_size q) hp))]; exact n
 there := fun b u q _ => ⟨u, k b u q⟩
 tups := fun b xs q => by rw [upd_ne (ne_of_none q hn)]; exact q
 frzs := fun b u xs q => by rw [upd_ne (ne_of_none q hn)]; exact q
 tbls := fun b ps q => ⟨#[], by rw [upd_ne (ne_of_none q hn), q]; simp⟩
theorem Un.write (mu : Mut (H x)) (he : e = x \/ H e = some (.own x)) (k : ∀ b u, b ≠ e -> h.get? b = some u -> h'.get? b = some u) (heo : ∃ u, h'.get? e = some u) : Un fs ex H (upd H x o) h h' := by
 have hx : ∀ b, H b = none -> b ≠ x := fun b n z => by subst z; rw [n] at mu; exact mu
 have hb : ∀ b, H b = none -> b ≠ e := fun b n z => by
  subst z
  rcases he with r | r
  ·exact hx b n r
  ·rw [n] at r; cases r
 have hm : ∀ b u, H b = some u -> ¬ Mut (some u) -> b ≠ x := fun b u q nm z => by subst z; rw [q] at mu; exact nm mu
 refine ⟨fun b u q n _ _ => k b u (hb b n) q, fun b u q n _ _ => ⟨u.slots, k b u (hb b n) q⟩, fun b u q n _ => by rw [upd_ne (hx b n)]; exact n, fun b u q _ => ?_,
  fun b xs q => by rw [upd_ne (hm b _ q fun z => z)]; exact q, fun b u xs q => by rw [upd_ne (hm b _ q fun z => z)]; exact q, fun b ps q => ⟨#[], by rw [upd_ne (hm b _ q fun z => z), q]; simp⟩⟩
 by_cases hbe : b = e
 ·subst hbe; exact heo
 ·exact ⟨u, k b u hbe q⟩
end
noncomputable def trk (h : Heap) (H : Hp) : List Addr := (List.range h.objs.size).filter fun a => (H a).isSome
noncomputable def hidT (h : Heap) (H : Hp) : Heap := PySem.W.hideAll h (trk h H)
theorem hidT_size (h : Heap) (H : Hp) : (hidT h H).objs.size = h.objs.size := PySem.W.hideAll_size _ _
theorem hidT_get {h : Heap} {H : Hp} {b : Addr} {o : Obj} (e : h.get? b = some o) (n : H b = none) : (hidT h H).get? b = some o :=
 PySem.W.hideAll_get _ e fun hm => by
  have q : (H b).isSome = true := (List.mem_filter.mp hm).2
  rw [n] at q; simp at q
theorem of_hidT {h : Heap} {H : Hp} {b : Addr} {o : Obj} (e : (hidT h H).get? b = some o) : h.get? b = some o /\ H b = none := by
 have e' : h.get? b = some o := PySem.W.of_hideAll (trk h H) e
 refine ⟨e', ?_⟩
 cases q : H b with
 | none => rfl
 | some x =>
  have hm : b ∈ trk h H := List.mem_filter.mpr ⟨List.mem_range.mpr (Heap.lt_size e'), by simp [q]⟩
  have z : (hidT h H).get? b = none := PySem.W.hideAll_none (trk h H) hm
  rw [z] at e; cases e
noncomputable def allNews (g h : Heap) (L : Addr) : List (Addr × Obj) := (List.range h.objs.size).filterMap fun a => if a = L \/ (g.get? a).isSome = true then none else (h.get? a).map fun o => (a, o)
theorem mem_allNews {g h : Heap} {L a : Addr} {o : Obj} (h1 : a ≠ L) (h2 : g.get? a = none) (h3 : h.get? a = some o) : (a, o) ∈ allNews g h L :=
 List.mem_filterMap.mpr ⟨a, List.mem_range.mpr (Heap.lt_size h3), by simp [h1, h2, h3]⟩
set_option tactic.hygienic true in
theorem of_mem_allNews {g h : Heap} {L : Addr} {p : Addr × Obj} (hp : p ∈ allNews g h L) : p.1 ≠ L /\ g.get? p.1 = none /\ h.get? p.1 = some p.2 := by
 obtain ⟨b, _, e⟩ := List.mem_filterMap.mp hp
 split at e
 ·cases e
 ·rename_i hn
  cases q : h.get? b with
  | none => rw [q] at e; simp at e
  | some u =>
   rw [q] at e
   simp only [Option.map_some, Option.some.injEq] at e
   subst e
   refine ⟨fun z => hn (.inl z), ?_, q⟩
   show g.get? b = none
   cases r : g.get? b with
   | none => rfl
   | some v => exact (hn (.inr (by simp [r]))).elim
noncomputable def rest (g h : Heap) (L d : Addr) : List (Addr × Obj) := (allNews g h L).filter fun p => decide (p.1 ≠ d)
theorem news_all {g h : Heap} {L : Addr} : News g L h (allNews g h L) := fun p hp => let ⟨a, b, c⟩ := of_mem_allNews hp; ⟨c, a, b⟩
end L2
namespace L2
open PySem PySem.Spec PyProof.Rows
structure Mod (K : PySem.W.Frag) (mg : Str -> Option Value) (base : Heap) : Prop where
 kin : K.In base
 glob : base.Ns mainGlobals mg
 blt : ∃ mb, base.Ns builtinsNs mb /\ ∀ x : Str, x ≠ "__name__" -> mb x = bootBuiltins x
 nolimit : base.NoLimit
structure Cx where
 prog : Program
 w : World
 K : PySem.W.Frag
 mg : Str -> Option Value
 base : Heap
 A : Around
 N : List Str
 s₀ : Shared
 H₀ : Hp
 env : Env
 outer : List Env
 stack : List Env
 ex : List Addr
 fn : Str -> Bool
 calm : Bool
 pn : List (Addr × Obj)
 xe : Value -> Shared -> Prop
noncomputable def frs (l : List Env) : List Addr := l.filterMap (·.frame)
noncomputable abbrev Cx.fs (X : Cx) : List Addr := frs X.outer
noncomputable def Vis (sc : Scope) (x : Str) : Prop := sc.names.lookup x = some .local \/ sc.names.lookup x = some .cell \/ sc.names.lookup x = some .free
noncomputable def Loc (sc : Scope) (x : Str) : Prop := sc.names.lookup x = some .local \/ sc.names.lookup x = some .cell
noncomputable def Look (env : Env) (h : Heap) (m : Str -> Option Value) (x : Str) (u : Value) : Prop :=
 (env.kindOf x = some .local /\ m x = some u) \/ ((env.kindOf x = some .cell \/ env.kindOf x = some .free) /\ ∃ c, env.cells.lookup x = some c /\ h.IsCell c (some u))
structure Cx.Ok (X : Cx) : Prop where
 mod : Mod X.K X.mg X.base
 kind : X.env.scope.kind = .function
 glob : X.env.globals = mainGlobals
 blt : X.env.builtins = builtinsNs
 above : X.s₀.heap.objs.size <= X.env.locals
 inj : ∀ x y c, X.env.cells.lookup x = some c -> X.env.cells.lookup y = some c -> x = y
 has : ∀ x, (X.env.kindOf x = some .cell \/ X.env.kindOf x = some .free) -> ∃ c, X.env.cells.lookup x = some c
 cab : ∀ x c, X.fn x = true -> X.env.cells.lookup x = some c -> X.s₀.heap.objs.size <= c
 hd : X.calm = true -> X.A.handled = none
 frames : X.A.frames = some X.stack
 stk : X.stack = X.outer \/ (X.stack = X.env :: X.outer /\ X.env.frame = some X.env.locals)
 exf : ∀ b ∈ X.ex, b ≠ X.env.locals /\ ∀ x c, X.env.cells.lookup x = some c -> c ≠ b
 bs : ∀ b o, X.base.get? b = some o -> X.s₀.heap.get? b = some o /\ X.H₀ b = none
 bsz : X.base.objs.size <= X.s₀.heap.objs.size
 noex : ∀ b o, X.base.get? b = some o -> b ∉ X.ex
 exfs : ∀ b ∈ X.ex, b ∉ X.fs
 funs : X.s₀.heap.FunFrames X.base X.outer
 frf : ∀ b ∈ X.fs, X.H₀ b = none
structure Inv (X : Cx) (pins : List (Addr × Obj)) (σ : List (Option V)) (H : Hp) (s : Shared) : Prop where
 ok : X.Ok
 os : s.os = X.s₀.os
 bare : AllBare s.gens
 base : Un X.fs X.ex X.H₀ H X.s₀.heap s.heap
 loc : ∃ m, s.heap.Ns X.env.locals m /\ ∀ (i : Nat) (x : Str) (v : V), X.N[i]? = some x -> σ[i]? = some (some v) -> Vis X.env.scope x -> ∃ u, RelV v u /\ Look X.env s.heap m x u
 cell : ∀ x c, X.env.cells.lookup x = some c -> ∃ v, s.heap.IsCell c v
 free : H X.env.locals = none
 freeC : ∀ x c, X.env.cells.lookup x = some c -> H c = none
 pin : ∀ p ∈ X.pn ++ pins, s.heap.get? p.1 = some p.2 /\ H p.1 = none /\ p.1 ≠ X.env.locals /\ p.1 ∉ X.fs /\ ∀ v, p.2.data ≠ .cell v
 hok : HOk X.prog X.w H s.heap
 len : σ.length = X.N.length
section
variable {X : Cx} {pins : List (Addr × Obj)} {σ : List (Option V)} {H H' : Hp} {s : Shared} {h' : Heap}
theorem Cx.Ok.nofr (ok : X.Ok) {b : Addr} {o : Obj} (e : X.base.get? b = some o) : b ∉ X.fs := fun hb => by
 have := (ok.funs.mem hb).1
 rw [e] at this; cases this
theorem Inv.bs (I : Inv X pins σ H s) : ∀ b o, X.base.get? b = some o -> s.heap.get? b = some o /\ H b = none := fun b o e =>
 ⟨I.base.keep b o (I.ok.bs b o e).1 (I.ok.bs b o e).2 (I.ok.nofr e) (I.ok.noex b o e), I.base.free b o (I.ok.bs b o e).1 (I.ok.bs b o e).2 (I.ok.noex b o e)⟩
theorem Inv.bk (I : Inv X pins σ H s) : ∀ b o, X.base.get? b = some o -> s.heap.get? b = some o := fun b o e => (I.bs b o e).1
theorem Inv.mod (I : Inv X pins σ H s) : Mod X.K X.mg X.base := I.ok.mod
theorem Inv.kIn (I : Inv X pins σ H s) : X.K.In s.heap := I.ok.mod.kin.keeps I.bk
theorem Inv.lt (I : Inv X pins σ H s) : X.env.locals < s.heap.objs.size := let ⟨_, hn, _⟩ := I.loc; hn.lt
theorem Inv.sz (I : Inv X pins σ H s) : X.s₀.heap.objs.size <= s.heap.objs.size := Nat.le_trans I.ok.above (Nat.le_of_lt I.lt)
theorem Inv.nofs (I : Inv X pins σ H s) {a : Addr} (h : s.heap.objs.size <= a) : a ∉ X.fs := fun hb => by
 obtain ⟨_, o, ho, _⟩ := I.ok.funs.mem hb
 exact absurd (Nat.lt_of_lt_of_le (Heap.lt_size ho) (Nat.le_trans I.sz h)) (Nat.lt_irrefl _)
theorem Inv.cne (I : Inv X pins σ H s) : ∀ x c, X.env.cells.lookup x = some c -> c ≠ X.env.locals := fun x c e z => by
 obtain ⟨v, o, ho, hd⟩ := I.cell x c e
 obtain ⟨m, ⟨o', es, ep, ho', hd', _⟩, _⟩ := I.loc
 rw [z, ho'] at ho; cases ho; rw [hd'] at hd; cases hd
theorem Inv.funs (I : Inv X pins σ H s) : s.heap.FunFrames X.base X.outer := by
 have all : ∀ (l : List Env), (∀ b ∈ frs l, b ∈ X.fs) -> X.s₀.heap.FunFrames X.base l -> s.heap.FunFrames X.base l := by
  intro l
  induction l with
  | nil => intro _ _; trivial
  | cons env r ih =>
   intro hs hl
   obtain ⟨hk, ⟨L, o, hf, hn, ho, hd⟩, hr⟩ := hl
   have hL : L ∈ X.fs := hs L (by unfold frs; rw [List.filterMap_cons, hf]; exact List.mem_cons_self)
   obtain ⟨sl, e⟩ := I.base.slot L o ho (I.ok.frf L hL) hL fun z => I.ok.exfs L z hL
   exact ⟨hk, ⟨L, _, hf, hn, e, hd⟩, ih (fun b hb => hs b (by unfold frs; rw [List.filterMap_cons, hf]; exact List.mem_cons_of_mem _ hb)) hr⟩
 exact all X.outer (fun _ hb => hb) I.ok.funs
theorem Inv.stack (I : Inv X pins σ H s) : s.heap.FunFrames X.base X.stack := by
 rcases I.ok.stk with e | ⟨e, hf⟩
 ·rw [e]; exact I.funs
 ·rw [e]
  obtain ⟨m, hn, _⟩ := I.loc
  refine .cons (by rw [I.ok.kind]; decide) hf hn ?_ I.funs
  exact Heap.get?_none_of_le (Nat.le_trans I.ok.bsz I.ok.above)
theorem Inv.stkSub (I : Inv X pins σ H s) : ∀ b ∈ frs X.stack, b ∈ X.env.locals :: X.fs := fun b hb => by
 rcases I.ok.stk with e | ⟨e, hf⟩
 ·rw [e] at hb; exact List.mem_cons_of_mem _ hb
 ·rw [e] at hb
  unfold frs at hb
  rw [List.filterMap_cons, hf] at hb
  exact hb
theorem Inv.stkFree (I : Inv X pins σ H s) : ∀ b ∈ frs X.stack, H b = none := fun b hb => by
 rcases List.mem_cons.mp (I.stkSub b hb) with e | hb
 ·rw [e]; exact I.free
 ·obtain ⟨_, o, ho, _⟩ := I.ok.funs.mem hb
  exact I.base.free b o ho (I.ok.frf b hb) fun z => I.ok.exfs b z hb
theorem Inv.step {g' : Array GenState} {t' : Nat} {d' : Drawn} {ch : List Addr} (I : Inv X pins σ H s)
  (hch : ∀ b ∈ ch, (b ∈ X.ex \/ X.s₀.heap.objs.size <= b) /\ b ≠ X.env.locals /\ (∀ x c, X.env.cells.lookup x = some c -> c ≠ b) /\ ∀ p ∈ X.pn ++ pins, p.1 ≠ b)
  (keep : ∀ b o, b ≠ X.env.locals -> b ∉ X.fs -> b ∉ ch -> s.heap.get? b = some o -> H b = none -> h'.get? b = some o)
  (slot : ∀ b o, b ≠ X.env.locals -> b ∈ X.fs -> b ∉ ch -> s.heap.get? b = some o -> H b = none -> ∃ sl, h'.get? b = some { o with slots := sl }) (free : ∀ b o, b ∉ ch -> s.heap.get? b = some o -> H b = none -> H' b = none)
  (there : ∀ b o, b ∉ ch -> s.heap.get? b = some o -> ∃ o', h'.get? b = some o')
  (tups : ∀ b xs, H b = some (.tup xs) -> H' b = some (.tup xs)) (frzs : ∀ b o u, H b = some (.frz o u) -> H' b = some (.frz o u)) (tbls : ∀ b ps, H b = some (.tbl ps) -> ∃ more, H' b = some (.tbl (ps ++ more)))
  (ns : ∀ m, s.heap.Ns X.env.locals m -> h'.Ns X.env.locals m) (hok : HOk X.prog X.w H' h') (hg : AllBare g') :
  Inv X pins σ H' { s with heap := h', gens := g', drawn := d', toks := t' } := by
 have neL : ∀ b o, X.s₀.heap.get? b = some o -> b ≠ X.env.locals := fun b o e => Nat.ne_of_lt (Nat.lt_of_lt_of_le (Heap.lt_size e) I.ok.above)
 have neC : ∀ b o, X.s₀.heap.get? b = some o -> b ∉ X.ex -> b ∉ ch := fun b o e hx hb => by
  rcases (hch b hb).1 with z | z
  ·exact hx z
  ·exact absurd (Nat.lt_of_lt_of_le (Heap.lt_size e) z) (Nat.lt_irrefl _)
 have cellK : ∀ x c, X.env.cells.lookup x = some c -> ∀ v, s.heap.IsCell c v -> h'.IsCell c v := fun x c e v ⟨o, ho, hd⟩ => by
  have nch : c ∉ ch := fun z => (hch c z).2.2.1 x c e rfl
  by_cases hc : c ∈ X.fs
  ·obtain ⟨sl, q⟩ := slot c o (I.cne x c e) hc nch ho (I.freeC x c e)
   exact ⟨_, q, hd⟩
  ·exact ⟨o, keep c o (I.cne x c e) hc nch ho (I.freeC x c e), hd⟩
 refine ⟨I.ok, I.os, hg, ⟨fun b o e n hb hx => ?_, fun b o e n hb hx => ?_, fun b o e n hx => ?_, fun b o e hx => ?_, fun b xs e => tups b xs (I.base.tups b xs e), fun b o xs e => frzs b o xs (I.base.frzs b o xs e), fun b ps e => ?_⟩, ?_, fun x c e => ?_, ?_, fun x c e => ?_, fun p hp => ?_, hok, I.len⟩
 ·exact keep b o (neL b o e) hb (neC b o e hx) (I.base.keep b o e n hb hx) (I.base.free b o e n hx)
 ·obtain ⟨sl, e1⟩ := I.base.slot b o e n hb hx
  obtain ⟨sl', e2⟩ := slot b _ (neL b o e) hb (neC b o e hx) e1 (I.base.free b o e n hx)
  exact ⟨sl', e2⟩
 ·obtain ⟨o', e1⟩ := I.base.there b o e hx
  exact free b o' (neC b o e hx) e1 (I.base.free b o e n hx)
 ·obtain ⟨o', e1⟩ := I.base.there b o e hx
  exact there b o' (neC b o e hx) e1
 ·obtain ⟨m1, e1⟩ := I.base.tbls b ps e
  obtain ⟨m2, e2⟩ := tbls b _ e1
  exact ⟨m1 ++ m2, by rw [e2, Array.append_assoc]⟩
 ·obtain ⟨m, hn, hl⟩ := I.loc
  refine ⟨m, ns m hn, fun i x v e1 e2 e3 => ?_⟩
  obtain ⟨u, r, l⟩ := hl i x v e1 e2 e3
  refine ⟨u, r, ?_⟩
  rcases l with l | ⟨k, c, e, z⟩
  ·exact .inl l
  ·exact .inr ⟨k, c, e, cellK x c e _ z⟩
 ·obtain ⟨v, z⟩ := I.cell x c e
  exact ⟨v, cellK x c e v z⟩
 ·obtain ⟨m, ⟨o, _, _, ho, _⟩, _⟩ := I.loc
  exact free _ o (fun z => (hch _ z).2.1 rfl) ho I.free
 ·obtain ⟨v, o, ho, hd⟩ := I.cell x c e
  exact free c o (fun z => (hch c z).2.2.1 x c e rfl) ho (I.freeC x c e)
 ·obtain ⟨e, n, ne, nf, d⟩ := I.pin p hp
  have nch : p.1 ∉ ch := fun z => (hch p.1 z).2.2.2 p hp rfl
  exact ⟨keep p.1 p.2 ne nf nch e n, free p.1 p.2 nch e n, ne, nf, d⟩
theorem Inv.un {t' : Nat} (I : Inv X pins σ H s) (u : Un X.fs [] H H' s.heap h') (hok : HOk X.prog X.w H' h') : Inv X pins σ H' { s with heap := h', toks := t' } := by
 obtain ⟨m, ⟨o, es, ep, ho, r⟩, _⟩ := id I.loc
 obtain ⟨sl, hL⟩ := u.any ho I.free (by simp)
 exact I.step (g' := s.gens) (d' := s.drawn) (ch := []) (fun _ z => nomatch z) (fun b o _ hb _ e n => u.keep b o e n hb (by simp)) (fun b o _ hb _ e n => u.slot b o e n hb (by simp)) (fun b o _ e n => u.free b o e n (by simp)) (fun b o _ e => u.there b o e (by simp)) u.tups u.frzs u.tbls (fun m' hm => by
  obtain ⟨o', es', ep', ho', r'⟩ := hm
  rw [ho] at ho'; cases ho'
  exact ⟨_, es', ep', hL, r'⟩) hok I.bare
theorem Inv.call {g' : Array GenState} {t' : Nat} {d' : Drawn} {ch : List Addr} (I : Inv X pins σ H s) (u : Un (frs X.stack) ch H H' s.heap h') (hok : HOk X.prog X.w H' h') (hg : AllBare g')
  (hch : ∀ b ∈ ch, (b ∈ X.ex \/ X.s₀.heap.objs.size <= b) /\ b ≠ X.env.locals /\ (∀ x c, X.env.cells.lookup x = some c -> c ≠ b) /\ ∀ p ∈ X.pn ++ pins, p.1 ≠ b) :
  Inv X pins σ H' { s with heap := h', gens := g', drawn := d', toks := t' } := by
 obtain ⟨m, ⟨o, es, ep, ho, r⟩, _⟩ := id I.loc
 obtain ⟨sl, hL⟩ := u.any ho I.free fun z => (hch _ z).2.1 rfl
 exact I.step (ch := ch) hch (fun b o hL hb hc e n => u.keep b o e n (fun z => (List.mem_cons.mp (I.stkSub b z)).elim hL hb) hc) (fun b o _ _ hc e n => u.any e n hc) (fun b o hc e n => u.free b o e n hc) (fun b o hc e => u.there b o e hc) u.tups u.frzs u.tbls (fun m' hm => by
  obtain ⟨o', es', ep', ho', r'⟩ := hm
  rw [ho] at ho'; cases ho'
  exact ⟨_, es', ep', hL, r'⟩) hok hg
theorem Inv.turned {t' : Nat} {it : Addr} (I : Inv X pins σ H s) (k : ∀ b o, b ≠ it -> s.heap.get? b = some o -> h'.get? b = some o) (hn : H it = none) (hL : it ≠ X.env.locals)
  (h1 : it ∈ X.ex \/ X.s₀.heap.objs.size <= it) (h2 : ∀ x c, X.env.cells.lookup x = some c -> c ≠ it) (h3 : ∀ p ∈ X.pn ++ pins, p.1 ≠ it) : Inv X pins σ H { s with heap := h', toks := t' } := by
 have nit : ∀ b u, H b = some u -> b ≠ it := fun b u e z => by rw [z, hn] at e; cases e
 refine I.step (g' := s.gens) (d' := s.drawn) (ch := [it]) (fun b hb => ?_) (fun b o _ _ hc e _ => k b o (fun z => hc (by simp [z])) e) (fun b o _ _ hc e _ => ⟨o.slots, k b o (fun z => hc (by simp [z])) e⟩) (fun _ _ _ _ n => n)
  (fun b o hc e => ⟨o, k b o (fun z => hc (by simp [z])) e⟩) (fun _ _ e => e) (fun _ _ _ e => e) (fun b ps e => ⟨#[], by rw [e]; simp⟩) (fun m hm => ?_) (fun b u e => ?_) I.bare
 ·have e : b = it := by simpa using hb
  subst e
  exact ⟨h1, hL, h2, h3⟩
 ·obtain ⟨o, es, ep, ho, r⟩ := hm
  exact ⟨o, es, ep, k _ o (Ne.symm hL) ho, r⟩
 ·refine (I.hok b u e).stay (fun c v hc q => k c v ?_ q) (fun _ q => q) fun _ _ q => q
  rcases hc with z | z
  ·rw [z]; exact nit b u e
  ·exact nit c _ z
theorem Inv.tok (I : Inv X pins σ H s) (t : Nat) : Inv X pins σ H { s with toks := t } := I.un (h' := s.heap) (t' := t) Un.refl I.hok
theorem Inv.kept {t' : Nat} (I : Inv X pins σ H s) (k : ∀ b u, s.heap.get? b = some u -> h'.get? b = some u) : Inv X pins σ H { s with heap := h', toks := t' } := I.un (Un.kept k) (I.hok.kept k)
theorem Inv.laid {a : Addr} {o : HO} {t' : Nat} (I : Inv X pins σ H s) (k : ∀ b u, s.heap.get? b = some u -> h'.get? b = some u) (hp : s.heap.objs.size <= a) (new : ObjOk X.prog X.w (upd H a o) h' a o) :
  Inv X pins σ (upd H a o) { s with heap := h', toks := t' } := I.un (Un.laid k hp (I.hok.fresh hp)) (I.hok.laid k hp new)
theorem Inv.write {x e : Addr} {o : HO} {t' : Nat} (I : Inv X pins σ H s) (mu : Mut (H x)) (he : e = x \/ H e = some (.own x)) (k : ∀ b u, b ≠ e -> s.heap.get? b = some u -> h'.get? b = some u) (heo : ∃ u, h'.get? e = some u)
  (new : ObjOk X.prog X.w (upd H x o) h' x o) : Inv X pins σ (upd H x o) { s with heap := h', toks := t' } := I.un (Un.write mu he k heo) (I.hok.write mu he k heo new)
theorem Inv.weak {σ' : List (Option V)} (I : Inv X pins σ H s) (hl : σ'.length = σ.length) (w : ∀ (i : Nat) v, σ'[i]? = some (some v) -> σ[i]? = some (some v)) : Inv X pins σ' H s :=
 ⟨I.ok, I.os, I.bare, I.base, let ⟨m, hn, hl'⟩ := I.loc; ⟨m, hn, fun i x v e1 e2 e3 => hl' i x v e1 (w i v e2) e3⟩, I.cell, I.free, I.freeC, I.pin, I.hok, hl.trans I.len⟩
theorem Inv.pins_of {pins' : List (Addr × Obj)} (I : Inv X pins σ H s) (h : ∀ p ∈ pins', s.heap.get? p.1 = some p.2 /\ H p.1 = none /\ p.1 ≠ X.env.locals /\ p.1 ∉ X.fs /\ ∀ v, p.2.data ≠ .cell v) : Inv X pins' σ H s :=
 ⟨I.ok, I.os, I.bare, I.base, I.loc, I.cell, I.free, I.freeC, fun p hp => (List.mem_append.mp hp).elim (fun z => I.pin p (List.mem_append_left _ z)) (h p), I.hok, I.len⟩
theorem nodup_ix {N : List Str} (hN : N.Nodup) {i j : Nat} {x : Str} (a : N[i]? = some x) (b : N[j]? = some x) : i = j := by
 obtain ⟨h1, e1⟩ := List.getElem?_eq_some_iff.mp a
 obtain ⟨h2, e2⟩ := List.getElem?_eq_some_iff.mp b
 exact (List.getElem_inj hN).mp (e1.trans e2.symm)
theorem store_ok2 {M : Model} {A : Around} {E : Value -> Shared -> Prop} {i : Nat} {x : Str} {v : V} {u : Value} {Q : Unit -> Shared -> Prop} (I : Inv X pins σ H s) (hN : X.N.Nodup) (hi : X.N[i]? = some x) (hx : Loc X.env.scope x) (r : RelV v u)
  (h : ∀ s', Inv X pins (σ.set i (some v)) H s' -> (∃ a, Heap.SameBut a s.heap s'.heap /\ (a = X.env.locals \/ X.env.cells.lookup x = some a)) -> Q () s') (hf : X.fn x = true \/ X.env.scope.names.lookup x = some .local := by first | exact .inl rfl | exact .inr rfl | assumption) : wpAny M A (storeName X.env x u) Q E s := by
 obtain ⟨m, hn, hl⟩ := id I.loc
 have hcls : (X.env.scope.kind == .class || (X.env.scope.kind == .module && X.env.locals != X.env.globals)) = false := by rw [I.ok.kind]; rfl
 have hiσ : i < σ.length := by rw [I.len]; exact (List.getElem?_eq_some_iff.mp hi).1
 have cne := I.cne
 have tracked : ∀ {a : Addr} {h' : Heap}, (∃ o, s.heap.get? a = some o /\ H a = none) -> Heap.SameBut a s.heap h' -> HOk X.prog X.w H h' := fun {a h'} ha hs b ob e => by
  obtain ⟨_, _, hfree⟩ := ha
  refine (I.hok b ob e).stay (fun c w' hc q => (hs.2 c ?_).trans q) (fun _ q => q) fun _ _ q => q
  rintro rfl
  rcases hc with rfl | hc
  ·rw [hfree] at e; cases e
  ·rw [hfree] at hc; cases hc
 rcases hx with hk | hk
 ·refine wpAny_storeName_local hk hn (fun h' hn' hs => ?_) hcls
  obtain ⟨oL, _, _, hoL, _⟩ := id hn
  refine h _ ⟨I.ok, I.os, I.bare, ⟨fun b o e n hb hx => ?_, fun b o e n hb hx => ?_, I.base.free, fun b o e hx => ?_, I.base.tups, I.base.frzs, I.base.tbls⟩, ⟨_, hn', fun j y v' e1 e2 e3 => ?_⟩, fun y c e => ?_, I.free, I.freeC, fun p hp => ?_, tracked ⟨oL, hoL, I.free⟩ hs, by simpa using I.len⟩ ⟨_, hs, .inl rfl⟩
  ·exact (hs.2 b (Nat.ne_of_lt (Nat.lt_of_lt_of_le (Heap.lt_size e) I.ok.above))).trans (I.base.keep b o e n hb hx)
  ·obtain ⟨sl, e1⟩ := I.base.slot b o e n hb hx
   exact ⟨sl, (hs.2 b (Nat.ne_of_lt (Nat.lt_of_lt_of_le (Heap.lt_size e) I.ok.above))).trans e1⟩
  ·obtain ⟨o', e1⟩ := I.base.there b o e hx
   exact ⟨o', (hs.2 b (Nat.ne_of_lt (Nat.lt_of_lt_of_le (Heap.lt_size e) I.ok.above))).trans e1⟩
  ·by_cases hj : j = i
   ·subst hj
    rw [hi] at e1; cases e1
    rw [List.getElem?_set_self hiσ] at e2
    cases e2
    exact ⟨u, r, .inl ⟨hk, by simp⟩⟩
   ·rw [List.getElem?_set_ne (Ne.symm hj)] at e2
    obtain ⟨u', r', q⟩ := hl j y v' e1 e2 e3
    refine ⟨u', r', ?_⟩
    rcases q with ⟨k, e⟩ | ⟨k, c, e, z⟩
    ·refine .inl ⟨k, ?_⟩
     have : y ≠ x := fun e => hj (nodup_ix hN e1 (e ▸ hi))
     simp [this, e]
    ·exact .inr ⟨k, c, e, z.sameBut hs (cne y c e)⟩
  ·obtain ⟨w', z⟩ := I.cell y c e
   exact ⟨w', z.sameBut hs (cne y c e)⟩
  ·obtain ⟨e, n, ne, nf, d⟩ := I.pin p hp
   exact ⟨(hs.2 p.1 ne).trans e, n, ne, nf, d⟩
 ·have hfn : X.fn x = true := by
   rcases hf with z | z
   ·exact z
   ·rw [z] at hk; cases hk
  obtain ⟨c, hc⟩ := I.ok.has x (.inl hk)
  obtain ⟨w', z⟩ := I.cell x c hc
  refine wpAny_storeName_cell I.ok.kind hk hc z (fun h' hc' hs => ?_)
  obtain ⟨oc, hoc, hocd⟩ := id z
  refine h { s with heap := h' } ⟨I.ok, I.os, I.bare, ⟨fun b o e n hb hx => ?_, fun b o e n hb hx => ?_, I.base.free, fun b o e hx => ?_, I.base.tups, I.base.frzs, I.base.tbls⟩, ⟨m, hn.sameBut hs (Ne.symm (cne x c hc)), fun j y v' e1 e2 e3 => ?_⟩, fun y c' e => ?_, I.free, I.freeC, fun p hp => ?_, tracked ⟨oc, hoc, I.freeC x c hc⟩ hs, by simpa using I.len⟩ ⟨c, hs, .inr hc⟩
  ·exact (hs.2 b (Nat.ne_of_lt (Nat.lt_of_lt_of_le (Heap.lt_size e) (I.ok.cab x c hfn hc)))).trans (I.base.keep b o e n hb hx)
  ·obtain ⟨sl, e1⟩ := I.base.slot b o e n hb hx
   exact ⟨sl, (hs.2 b (Nat.ne_of_lt (Nat.lt_of_lt_of_le (Heap.lt_size e) (I.ok.cab x c hfn hc)))).trans e1⟩
  ·obtain ⟨o', e1⟩ := I.base.there b o e hx
   exact ⟨o', (hs.2 b (Nat.ne_of_lt (Nat.lt_of_lt_of_le (Heap.lt_size e) (I.ok.cab x c hfn hc)))).trans e1⟩
  ·by_cases hj : j = i
   ·subst hj
    rw [hi] at e1; cases e1
    rw [List.getElem?_set_self hiσ] at e2
    cases e2
    exact ⟨u, r, .inr ⟨.inl hk, c, hc, hc'⟩⟩
   ·rw [List.getElem?_set_ne (Ne.symm hj)] at e2
    obtain ⟨u', r', q⟩ := hl j y v' e1 e2 e3
    refine ⟨u', r', ?_⟩
    rcases q with q | ⟨k, c', e, z'⟩
    ·exact .inl q
    ·refine .inr ⟨k, c', e, z'.sameBut hs ?_⟩
     rintro rfl
     exact hj (nodup_ix hN e1 (I.ok.inj _ _ _ e hc ▸ hi))
  ·by_cases hcc : c' = c
   ·subst hcc; exact ⟨_, hc'⟩
   ·obtain ⟨w2, z2⟩ := I.cell y c' e
    exact ⟨w2, z2.sameBut hs hcc⟩
  ·obtain ⟨e, n, ne, nf, d⟩ := I.pin p hp
   refine ⟨(hs.2 p.1 ?_).trans e, n, ne, nf, d⟩
   intro q
   rw [q, hoc] at e
   have q' : oc = p.2 := Option.some.inj e
   exact d w' (by rw [<- q']; exact hocd)
theorem store_ok {M : Model} {A : Around} {E : Value -> Shared -> Prop} {i : Nat} {x : Str} {v : V} {u : Value} {Q : Unit -> Shared -> Prop} (I : Inv X pins σ H s) (hN : X.N.Nodup) (hi : X.N[i]? = some x) (hx : Loc X.env.scope x) (r : RelV v u)
  (h : ∀ s', Inv X pins (σ.set i (some v)) H s' -> Q () s') (hf : X.fn x = true \/ X.env.scope.names.lookup x = some .local := by first | exact .inl rfl | exact .inr rfl | assumption) : wpAny M A (storeName X.env x u) Q E s :=
 store_ok2 I hN hi hx r (fun s' I' _ => h s' I') hf
theorem Inv.call' {s' : Shared} {ch : List Addr} (I : Inv X pins σ H s) (ho : s'.os = s.os) (u : Un (frs X.stack) ch H H' s.heap s'.heap) (hok : HOk X.prog X.w H' s'.heap) (hg : AllBare s'.gens)
  (hch : ∀ b ∈ ch, (b ∈ X.ex \/ X.s₀.heap.objs.size <= b) /\ b ≠ X.env.locals /\ (∀ x c, X.env.cells.lookup x = some c -> c ≠ b) /\ ∀ p ∈ X.pn ++ pins, p.1 ≠ b) : Inv X pins σ H' s' := by
 obtain ⟨h', g', d', t', o'⟩ := s'
 have e : o' = s.os := ho
 subst e
 exact I.call (g' := g') (t' := t') (d' := d') u hok hg hch
end
noncomputable abbrev XK := Value -> Option Addr -> Hp -> Prop
noncomputable abbrev St := List (Option V)
noncomputable abbrev VK := V -> Hp -> Prop
noncomputable abbrev TE := St -> Hp -> VK -> Prop
noncomputable abbrev TT := St -> Hp -> (Bool -> Hp -> Prop) -> Prop
noncomputable abbrev TA := St -> Hp -> (List V -> Hp -> Prop) -> Prop
structure Ends where
 nx : St -> Hp -> Prop
 rt : VK
 bk : St -> Hp -> Prop := fun _ _ => False
 ct : St -> Hp -> Prop := fun _ _ => False
noncomputable abbrev TS := Ends -> St -> Hp -> Prop
inductive EP (X : Cx) (pins : List (Addr × Obj)) (σ : St) (Q : VK) (u : Value) (s' : Shared)  : Prop
 | mk (v : _) (H' : _) (c0 : Inv X pins σ H' s') (c1 : RelV v u) (c2 : Q v H') : EP X pins σ Q u s'
inductive TP (X : Cx) (pins : List (Addr × Obj)) (σ : St) (Q : Bool -> Hp -> Prop) (b : Bool) (s' : Shared)  : Prop
 | mk (H' : _) (c0 : Inv X pins σ H' s') (c1 : Q b H') : TP X pins σ Q b s'
inductive AP (X : Cx) (pins : List (Addr × Obj)) (σ : St) (Q : List V -> Hp -> Prop) (us : List Value) (s' : Shared)  : Prop
 | mk (vs : _) (H' : _) (c0 : Inv X pins σ H' s') (c1 : Vals vs us) (c2 : Q vs H') : AP X pins σ Q us s'
set_option tactic.hygienic true in
noncomputable def SP (X : Cx) (pins : List (Addr × Obj)) (D : Ends) (f : Flow) (s' : Shared) : Prop :=
 match f with
 | .next => ∃ σ' H', Inv X pins σ' H' s' /\ D.nx σ' H'
 | .brk => ∃ σ' H', Inv X pins σ' H' s' /\ D.bk σ' H'
 | .cont => ∃ σ' H', Inv X pins σ' H' s' /\ D.ct σ' H'
 | .ret u => ∃ v σ' H', Inv X pins σ' H' s' /\ RelV v u /\ D.rt v H'
noncomputable def PE (X : Cx) (e : Expr) (t : TE) : Prop :=
 ∀ (pins : List (Addr × Obj)) (s : Shared) (σ : St) (H : Hp) (Q : VK), Inv X pins σ H s -> t σ H Q -> wpAny (model X.prog X.w) X.A (eval e X.env) (EP X pins σ Q) X.xe s
noncomputable def PT (X : Cx) (e : Expr) (t : TT) : Prop :=
 ∀ (pins : List (Addr × Obj)) (s : Shared) (σ : St) (H : Hp) (Q : Bool -> Hp -> Prop), Inv X pins σ H s -> t σ H Q -> wpAny (model X.prog X.w) X.A (isTrue e X.env (eval e X.env)) (TP X pins σ Q) X.xe s
noncomputable def PW (X : Cx) (e : Expr) (t : TT) : Prop :=
 ∀ (whole : Sem Value) (pins : List (Addr × Obj)) (s : Shared) (σ : St) (H : Hp) (Q : Bool -> Hp -> Prop), Inv X pins σ H s -> t σ H Q -> wpAny (model X.prog X.w) X.A (isTrue e X.env whole) (TP X pins σ Q) X.xe s
theorem PW.pt {X : Cx} {e : Expr} {t : TT} (h : PW X e t) : PT X e t := h _
noncomputable def PA (X : Cx) (es : List Expr) (t : TA) : Prop :=
 ∀ (pos : Pos) (pins : List (Addr × Obj)) (s : Shared) (σ : St) (H : Hp) (Q : List V -> Hp -> Prop), Inv X pins σ H s -> t σ H Q -> wpAny (model X.prog X.w) X.A (spliced (backTo pos (starEach es X.env))) (AP X pins σ Q) X.xe s
noncomputable def PS (X : Cx) (st : Stmt) (t : TS) : Prop :=
 ∀ (pins : List (Addr × Obj)) (s : Shared) (σ : St) (H : Hp) (D : Ends), Inv X pins σ H s -> t D σ H -> wpAny (model X.prog X.w) X.A (exec st X.env) (SP X pins D) X.xe s
noncomputable def PSs (X : Cx) (st : List Stmt) (t : TS) : Prop :=
 ∀ (pins : List (Addr × Obj)) (s : Shared) (σ : St) (H : Hp) (D : Ends), Inv X pins σ H s -> t D σ H -> wpAny (model X.prog X.w) X.A (execs st X.env) (SP X pins D) X.xe s
theorem thn {α : Type} {t : Sem α} {Q Q' : α -> Shared -> Prop} {M : Model} {A : Around} {E : Value -> Shared -> Prop} {s : Shared} (h : wpAny M A t Q E s) (hQ : ∀ a s, Q a s -> Q' a s) : wpAny M A t Q' E s := wpAny_mono h hQ fun _ _ x => x
end L2
namespace L2
open PySem PySem.Spec PyProof.Rows
section
variable {X : Cx}
inductive tVar (i : Nat) (σ : St) (H : Hp) (Q : VK) : Prop
 | mk (v : _) (c0 : σ[i]? = some (some v)) (c1 : Q v H) : tVar i σ H Q
noncomputable def tC (v : V) : TE := fun _ H Q => Q v H
theorem pe_var {i : Nat} {x : Str} {pos : Pos} (hN : X.N[i]? = some x) (hv : Vis X.env.scope x) (hd : (x == ("__debug__" : Str)) = false := by decide) (hcd : (x == ("__classdict__" : Str)) = false := by decide) : PE X (.Name x pos) (tVar i) := by
 intro pins s σ H Q I h
 obtain ⟨v, e, h⟩ := h
 obtain ⟨m, hn, hl⟩ := I.loc
 obtain ⟨u, r, l⟩ := hl i x v hN e hv
 have fin : EP X pins σ Q u s := ⟨v, H, I, r, h⟩
 rcases l with ⟨hk, hm⟩ | ⟨hk, c, hc, hcell⟩
 ·exact wpAny_Name (wpAny_loadName_local I.ok.kind hk hn hm fin) hd
 ·rcases hk with hk | hk
  ·exact wpAny_Name (wpAny_loadName_cell I.ok.kind hk hc hcell fin) hd
  ·exact wpAny_Name (wpAny_loadName_free I.ok.kind hk hc hcell fin hcd) hd
theorem pe_int {i j pos} : PE X (.Constant (.int i) j pos) (tC (.int i)) := fun _ _ _ H _ I h => wpAny_Constant_int ⟨.int i, H, I.tok _, ⟨_, rfl⟩, h⟩
theorem pe_bl {b j pos} : PE X (.Constant (.bool b) j pos) (tC (.bl b)) := fun _ _ _ H _ I h => Constant_bool ⟨.bl b, H, I, rfl, h⟩
theorem pe_non {j pos} : PE X (.Constant .none j pos) (tC .non) := fun _ _ _ H _ I h => Constant_none ⟨.non, H, I, rfl, h⟩
theorem pe_str {x j pos} : PE X (.Constant (.str x) j pos) (tC (.str x)) := fun _ _ _ H _ I h => Calls.Constant_str ⟨.str x, H, I.tok _, ⟨_, rfl⟩, h⟩
noncomputable def Gl (X : Cx) (x : Str) : Prop := X.env.kindOf x = some .globalImplicit
theorem ld_glob {E : Value -> Shared -> Prop} {pins : List (Addr × Obj)} {s : Shared} {σ : St} {H : Hp} {x : Str} {u : Value} {pos : Pos} {Q : Value -> Shared -> Prop} (I : Inv X pins σ H s) (hg : Gl X x) (hm : X.mg x = some u) (h : Q u s)
  (hd : (x == ("__debug__" : Str)) = false := by decide) : wpAny (model X.prog X.w) X.A (eval (.Name x pos) X.env) Q E s :=
 Calls.Name_function_global I.ok.kind hg (Calls.loadGlobal_global (by rw [I.ok.glob]; exact I.mod.glob.keeps I.bk) hm h) hd
theorem ld_blt {E : Value -> Shared -> Prop} {pins : List (Addr × Obj)} {s : Shared} {σ : St} {H : Hp} {x : Str} {u : Value} {pos : Pos} {Q : Value -> Shared -> Prop} (I : Inv X pins σ H s) (hg : Gl X x) (hm : X.mg x = none) (hv : bootBuiltins x = some u) (h : Q u s)
  (hn : x ≠ "__name__" := by decide) (hd : (x == ("__debug__" : Str)) = false := by decide) : wpAny (model X.prog X.w) X.A (eval (.Name x pos) X.env) Q E s := by
 obtain ⟨mb, h1, h2⟩ := I.mod.blt
 exact Calls.Name_function_global I.ok.kind hg (Calls.loadGlobal_builtin (by rw [I.ok.glob]; exact I.mod.glob.keeps I.bk) hm (by rw [I.ok.blt]; exact h1.keeps I.bk) ((h2 x hn).trans hv) h) hd
theorem pe_glob {x : Str} {v : V} {u : Value} {pos : Pos} (hg : Gl X x) (hm : X.mg x = some u) (r : RelV v u) (hd : (x == ("__debug__" : Str)) = false := by decide) : PE X (.Name x pos) (tC v) :=
 fun _ _ _ H _ I h => ld_glob I hg hm ⟨v, H, I, r, h⟩ hd
theorem pe_bltn {x : Str} {v : V} {u : Value} {pos : Pos} (hg : Gl X x) (hm : X.mg x = none) (hv : bootBuiltins x = some u) (r : RelV v u) (hn : x ≠ "__name__" := by decide) (hd : (x == ("__debug__" : Str)) = false := by decide) : PE X (.Name x pos) (tC v) :=
 fun _ _ _ H _ I h => ld_blt I hg hm hv ⟨v, H, I, r, h⟩ hn hd
noncomputable def t2I (ta tb : TE) (k : Int -> Int -> Hp -> Prop) : St -> Hp -> Prop := fun σ H => ta σ H fun x H1 => tb σ H1 fun y H2 => ∃ i j, x = .int i /\ y = .int j /\ k i j H2
noncomputable def tAdd (ta tb : TE) : TE := fun σ H Q => t2I ta tb (fun i j H2 => Q (.int (i + j)) H2) σ H
noncomputable def tSub (ta tb : TE) : TE := fun σ H Q => t2I ta tb (fun i j H2 => Q (.int (i - j)) H2) σ H
noncomputable def tMul (ta tb : TE) : TE := fun σ H Q => t2I ta tb (fun i j H2 => (-(2 ^ 64) < i /\ i < 2 ^ 64) /\ Q (.int (i * j)) H2) σ H
variable {a b : Expr} {ta tb : TE} {pos : Pos}
noncomputable def PC (X : Cx) (op : CmpOp) (a b : Expr) (t : TE) : Prop :=
 ∀ (pins : List (Addr × Obj)) (s : Shared) (σ : St) (H : Hp) (Q : VK), Inv X pins σ H s -> t σ H Q ->
  wpAny (model X.prog X.w) X.A (eval a X.env) (fun v s₁ => wpAny (model X.prog X.w) X.A (eval b X.env) (fun u s₂ => wpAny (model X.prog X.w) X.A (compareOp op v u) (EP X pins σ Q) X.xe s₂) X.xe s₁) X.xe s
noncomputable def tCmp (p : Int -> Int -> Bool) (ta tb : TE) : TE := fun σ H Q => t2I ta tb (fun i j H2 => Q (.bl (p i j)) H2) σ H
noncomputable abbrev tLt : TE -> TE -> TE := tCmp fun i j => decide (i < j)
noncomputable abbrev tLe : TE -> TE -> TE := tCmp fun i j => decide (i <= j)
noncomputable abbrev tGt : TE -> TE -> TE := tCmp fun i j => decide (j < i)
noncomputable abbrev tGe : TE -> TE -> TE := tCmp fun i j => decide (j <= i)
noncomputable abbrev tEqI : TE -> TE -> TE := tCmp fun i j => decide (i = j)
noncomputable abbrev tNeI : TE -> TE -> TE := tCmp fun i j => !decide (i = j)
noncomputable def tIsN (ta : TE) : TE := fun σ H Q => ta σ H fun x H1 => Q (.bl (decide (x = .non))) H1
noncomputable def tNotN (ta : TE) : TE := fun σ H Q => ta σ H fun x H1 => Q (.bl (!decide (x = .non))) H1
inductive BlOf (x : V) (H : Hp) (Q : Bool -> Hp -> Prop) : Prop
 | mk (c : Bool) (c0 : x = .bl c) (c1 : Q c H) : BlOf x H Q
noncomputable def tB (t : TE) : TT := fun σ H Q => t σ H fun x H1 => BlOf x H1 Q
theorem pt_val {e : Expr} {t : TE} (h : PE X e t) (he : ∀ whole, isTrue e X.env whole = (do let v <- whole; standAt e.pos; holding [v] (truthy v)) := by intro _; rfl) : PT X e (tB t) := by
 intro pins s σ H Q I hw
 refine isTrue_plain (thn (h pins s σ H _ I hw) fun v s1 ⟨x, H1, I1, r1, q1⟩ => ?_) (he _)
 obtain ⟨d, rfl, q⟩ := q1
 cases r1
 exact wpAny_truthy_bool ⟨H1, I1, q⟩
variable {tA tB' : TT} {rest : List Expr}
noncomputable def tAnd (t u : TT) : TT := fun σ H Q => t σ H fun c H1 => if c = true then u σ H1 Q else Q false H1
noncomputable def tOr (t u : TT) : TT := fun σ H Q => t σ H fun c H1 => if c = true then Q true H1 else u σ H1 Q
noncomputable def tNot (t : TT) : TT := fun σ H Q => t σ H fun c H1 => Q (!c) H1
theorem pw_and1 (ha : PT X a tA) : PW X (.BoolOp .And [a] pos) tA := by
 intro wh pins s σ H Q I h
 refine isTrue_and (thn (ha pins s σ H Q I h) fun c s1 e => ?_)
 cases c with
 | true => exact isTrue_and_nil e
 | false => exact e
theorem pw_or1 (ha : PT X a tA) : PW X (.BoolOp .Or [a] pos) tA := by
 intro wh pins s σ H Q I h
 refine isTrue_or (thn (ha pins s σ H Q I h) fun c s1 e => ?_)
 cases c with
 | false => exact isTrue_or_nil e
 | true => exact e
theorem pw_and (ha : PT X a tA) (hb : PW X (.BoolOp .And (b :: rest) pos) tB') : PW X (.BoolOp .And (a :: b :: rest) pos) (tAnd tA tB') := by
 intro wh pins s σ H Q I h
 refine isTrue_and (thn (ha pins s σ H _ I h) fun c s1 ⟨H1, I1, q1⟩ => ?_)
 cases c with
 | true => exact hb wh pins s1 σ H1 Q I1 q1
 | false => exact ⟨H1, I1, q1⟩
theorem pw_or (ha : PT X a tA) (hb : PW X (.BoolOp .Or (b :: rest) pos) tB') : PW X (.BoolOp .Or (a :: b :: rest) pos) (tOr tA tB') := by
 intro wh pins s σ H Q I h
 refine isTrue_or (thn (ha pins s σ H _ I h) fun c s1 ⟨H1, I1, q1⟩ => ?_)
 cases c with
 | true => exact ⟨H1, I1, q1⟩
 | false => exact hb wh pins s1 σ H1 Q I1 q1
theorem pt_not (ha : PT X a tA) : PT X (.UnaryOp .Not a pos) (tNot tA) := by
 intro pins s σ H Q I h
 exact isTrue_not (thn (ha pins s σ H (fun c H1 => Q (!c) H1) I h) fun c s1 ⟨H1, I1, q⟩ => ⟨H1, I1, q⟩)
noncomputable def tAndV (ta tb : TE) : TE := fun σ H Q => ta σ H fun x H1 => ∃ c, x = .bl c /\ if c = true then tb σ H1 Q else Q (.bl false) H1
noncomputable def tOrV (ta tb : TE) : TE := fun σ H Q => ta σ H fun x H1 => ∃ c, x = .bl c /\ if c = true then Q (.bl true) H1 else tb σ H1 Q
noncomputable def tNotV (ta : TE) : TE := fun σ H Q => ta σ H fun x H1 => ∃ c, x = .bl c /\ Q (.bl (!c)) H1
theorem pe_one {op} {t : TE} (h : PE X a t) : PE X (.BoolOp op [a] pos) t := fun pins s σ H Q I hw => BoolOp_one (h pins s σ H Q I hw)
theorem pe_and (ha : PE X a ta) (hb : PE X (.BoolOp .And (b :: rest) pos) tb) : PE X (.BoolOp .And (a :: b :: rest) pos) (tAndV ta tb) := by
 intro pins s σ H Q I h
 refine BoolOp_and (thn (ha pins s σ H _ I h) fun v s1 ⟨x, H1, I1, r1, q1⟩ => ?_)
 obtain ⟨c, rfl, q1⟩ := q1
 cases r1
 refine wpAny_truthy_bool ?_
 cases c with
 | true => exact hb pins s1 σ H1 Q I1 q1
 | false => exact ⟨.bl false, H1, I1, rfl, q1⟩
theorem pe_or (ha : PE X a ta) (hb : PE X (.BoolOp .Or (b :: rest) pos) tb) : PE X (.BoolOp .Or (a :: b :: rest) pos) (tOrV ta tb) := by
 intro pins s σ H Q I h
 refine BoolOp_or (thn (ha pins s σ H _ I h) fun v s1 ⟨x, H1, I1, r1, q1⟩ => ?_)
 obtain ⟨c, rfl, q1⟩ := q1
 cases r1
 refine wpAny_truthy_bool ?_
 cases c with
 | false => exact hb pins s1 σ H1 Q I1 q1
 | true => exact ⟨.bl true, H1, I1, rfl, q1⟩
theorem pe_not (ha : PE X a ta) : PE X (.UnaryOp .Not a pos) (tNotV ta) := by
 intro pins s σ H Q I h
 refine UnaryOp_ (thn (ha pins s σ H _ I h) fun v s1 ⟨x, H1, I1, r1, q1⟩ => ?_)
 obtain ⟨c, rfl, q1⟩ := q1
 cases r1
 exact not_of (wpAny_truthy_bool ⟨.bl (!c), H1, I1, rfl, q1⟩)
noncomputable def tIf (t : TT) (ta tb : TE) : TE := fun σ H Q => t σ H fun c H1 => if c = true then ta σ H1 Q else tb σ H1 Q
theorem pe_ifExp {c : Expr} (hc : PT X c tA) (ha : PE X a ta) (hb : PE X b tb) : PE X (.IfExp c a b pos) (tIf tA ta tb) := by
 intro pins s σ H Q I h
 refine wpAny_IfExp (thn (hc pins s σ H _ I h) fun d s1 ⟨H1, I1, q1⟩ => ?_)
 cases d with
 | true => exact ha pins s1 σ H1 Q I1 q1
 | false => exact hb pins s1 σ H1 Q I1 q1
end
end L2
namespace L2
open PySem PySem.Spec PyProof.Rows
noncomputable def SqL (K : PySem.W.Frag) (H : Hp) (a : Addr) (xs : List V) : Prop :=
 Rd H a (.lst xs) \/
  ∃ (o : Obj) (its : Array Value) (n : Nat), K.lookup a = some o /\ o.cls = .type "list" /\ o.dict = none /\ o.data = .seq its n /\ its.size <= sizeLine /\ Vals xs its.toList
noncomputable def SqT (K : PySem.W.Frag) (H : Hp) (a : Addr) (xs : List V) : Prop :=
 Rd H a (.tup xs) \/
  ∃ (o : Obj) (its : Array Value) (n : Nat), K.lookup a = some o /\ o.cls = .type "tuple" /\ o.data = .seq its n /\ its.size <= sizeLine /\ Vals xs its.toList
noncomputable def absV : Value -> Option V
 | .none => some .non
 | .bool b => some (.bl b)
 | .int i _ => some (.int i)
 | .str x _ => some (.str x)
 | .bytes b _ => some (.byt b)
 | .float b _ => some (.flt b)
 | .ref a => some (.ref a)
 | .type n => some (.ty n)
 | _ => none
theorem RelV.abs {x : V} {u : Value} (r : RelV x u) : absV u = some x := by
 cases x with
 | non => cases r; rfl
 | bl _ => cases r; rfl
 | int _ => obtain ⟨t, rfl⟩ := r; rfl
 | str _ => obtain ⟨t, rfl⟩ := r; rfl
 | byt _ => obtain ⟨t, rfl⟩ := r; rfl
 | flt _ => obtain ⟨t, rfl⟩ := r; rfl
 | ref _ => cases r; rfl
 | ty _ => cases r; rfl
theorem RelV.inj {x y : V} {u : Value} (r : RelV x u) (q : RelV y u) : x = y := Option.some.inj (r.abs.symm.trans q.abs)
theorem Vals.inj {xs ys : List V} {us : List Value} (h : Vals xs us) (h' : Vals ys us) : xs = ys := by
 induction h generalizing ys with
 | nil => cases h'; rfl
 | cons r t ih => cases h' with | cons r' t' => rw [r.inj r', ih t']
section
variable {X : Cx} {pins : List (Addr × Obj)} {σ : St} {H : Hp} {s : Shared} {a : Addr} {xs ys : List V}
theorem SqL.of {K : PySem.W.Frag} (h : H a = some (.lst xs)) : SqL K H a xs := .inl (.inl h)
theorem SqT.of {K : PySem.W.Frag} (h : H a = some (.tup xs)) : SqT K H a xs := .inl (.inl h)
theorem Inv.list (I : Inv X pins σ H s) (h : SqL X.K H a xs) : ∃ its : List Value, Vals xs its /\ PlainL s.heap a its.toArray /\ xs.length <= sizeLine := by
 rcases h with h | ⟨o, its, n, hk, hc, hd, hs, hz, r⟩
 ·obtain ⟨z, its, n, r, e⟩ := h.ok I.hok
  exact ⟨its, r, ⟨_, n, e, rfl, rfl, rfl⟩, z⟩
 ·refine ⟨its.toList, r, ⟨o, n, I.kIn a o hk, hc, hd, by simpa using hs⟩, ?_⟩
  have e := r.length
  simp only [Array.length_toList] at e
  omega
theorem Inv.tuple (I : Inv X pins σ H s) (h : SqT X.K H a xs) : ∃ its : List Value, Vals xs its /\ IsTup s.heap a its.toArray /\ xs.length <= sizeLine := by
 rcases h with h | ⟨o, its, n, hk, hc, hs, hz, r⟩
 ·obtain ⟨z, its, r, p⟩ := h.ok I.hok
  exact ⟨its, r, p, z⟩
 ·refine ⟨its.toList, r, ⟨o, I.kIn a o hk, hc, n, by simpa using hs⟩, ?_⟩
  have e := r.length
  simp only [Array.length_toList] at e
  omega
theorem Inv.list_inj (I : Inv X pins σ H s) (h : SqL X.K H a xs) (h' : SqL X.K H a ys) : xs = ys := by
 obtain ⟨its, r, ⟨o, n, e, _, _, d⟩, _⟩ := I.list h
 obtain ⟨its', r', ⟨o', n', e', _, _, d'⟩, _⟩ := I.list h'
 rw [e] at e'; cases e'
 rw [d] at d'
 injection d' with d1 _
 have : its = its' := by simpa using congrArg Array.toList d1
 subst this
 exact r.inj r'
theorem Inv.tuple_inj (I : Inv X pins σ H s) (h : SqT X.K H a xs) (h' : SqT X.K H a ys) : xs = ys := by
 obtain ⟨its, r, ⟨o, e, _, n, d⟩, _⟩ := I.tuple h
 obtain ⟨its', r', ⟨o', e', _, n', d'⟩, _⟩ := I.tuple h'
 rw [e] at e'; cases e'
 rw [d] at d'
 injection d' with d1 _
 have : its = its' := by simpa using congrArg Array.toList d1
 subst this
 exact r.inj r'
end
noncomputable abbrev Cx.wish (X : Cx) (E : Value -> Shared -> Prop) : Cx := { X with xe := E }
noncomputable abbrev Cx.nox (X : Cx) : Cx := X.wish fun _ _ => False
theorem Cx.Ok.wish {X : Cx} (ok : X.Ok) (E : Value -> Shared -> Prop) : (X.wish E).Ok :=
 ⟨ok.mod, ok.kind, ok.glob, ok.blt, ok.above, ok.inj, ok.has, ok.cab, ok.hd, ok.frames, ok.stk, ok.exf, ok.bs, ok.bsz, ok.noex, ok.exfs, ok.funs, ok.frf⟩
theorem Cx.Ok.unwish {X : Cx} {E : Value -> Shared -> Prop} (ok : (X.wish E).Ok) : X.Ok :=
 ⟨ok.mod, ok.kind, ok.glob, ok.blt, ok.above, ok.inj, ok.has, ok.cab, ok.hd, ok.frames, ok.stk, ok.exf, ok.bs, ok.bsz, ok.noex, ok.exfs, ok.funs, ok.frf⟩
section
variable {X : Cx} {pins : List (Addr × Obj)} {σ : St} {H : Hp} {s : Shared} {E : Value -> Shared -> Prop}
theorem Inv.wish (I : Inv X pins σ H s) (E : Value -> Shared -> Prop) : Inv (X.wish E) pins σ H s := ⟨I.ok.wish E, I.os, I.bare, I.base, I.loc, I.cell, I.free, I.freeC, I.pin, I.hok, I.len⟩
theorem Inv.unwish (I : Inv (X.wish E) pins σ H s) : Inv X pins σ H s := ⟨I.ok.unwish, I.os, I.bare, I.base, I.loc, I.cell, I.free, I.freeC, I.pin, I.hok, I.len⟩
set_option tactic.hygienic true in
theorem SP.unwish {D : Ends} {f : Flow} {s' : Shared} (h : SP (X.wish E) pins D f s') : SP X pins D f s' := by
 cases f with
 | next => obtain ⟨σ', H', I, q⟩ := h; exact ⟨σ', H', I.unwish, q⟩
 | brk => obtain ⟨σ', H', I, q⟩ := h; exact ⟨σ', H', I.unwish, q⟩
 | cont => obtain ⟨σ', H', I, q⟩ := h; exact ⟨σ', H', I.unwish, q⟩
 | ret u => obtain ⟨v, σ', H', I, r, q⟩ := h; exact ⟨v, σ', H', I.unwish, r, q⟩
theorem PSs.nox {st : List Stmt} {t : TS} (h : PSs X.nox st t) : PSs X st t := fun pins s σ H D I hw =>
 wpAny_mono (h pins s σ H D (I.wish _) hw) (fun _ _ q => q.unwish) fun _ _ z => False.elim z
end
section
variable {X : Cx} {st : Stmt} {rest : List Stmt} {t u : TS} {e : Expr} {te : TE} {pos : Pos}
noncomputable def tNext : TS := fun D σ H => D.nx σ H
noncomputable def tSeq (t u : TS) : TS := fun D σ H => t { D with nx := u D } σ H
theorem pss_nil : PSs X [] tNext := fun _ _ σ H _ I h => wpAny_execs_nil ⟨σ, H, I, h⟩
set_option tactic.hygienic true in
theorem pss_cons (h1 : PS X st t) (h2 : PSs X rest u) : PSs X (st :: rest) (tSeq t u) := by
 intro pins s σ H D I h
 refine wpAny_execs_cons (thn (h1 pins s σ H { D with nx := u D } I h) fun f s1 q => ?_)
 cases f with
 | next =>
  obtain ⟨σ', H', I', q⟩ := q
  exact h2 pins s1 σ' H' D I' q
 | ret v => exact q
 | brk => exact q
 | cont => exact q
set_option tactic.hygienic true in
theorem pss_one (h1 : PS X st t) : PSs X [st] t := by
 intro pins s σ H D I h
 refine wpAny_execs_cons (thn (h1 pins s σ H D I h) fun f s1 q => ?_)
 cases f with
 | next => exact wpAny_execs_nil q
 | ret v => exact q
 | brk => exact q
 | cont => exact q
noncomputable def tBreak : TS := fun D σ H => D.bk σ H
noncomputable def tCont : TS := fun D σ H => D.ct σ H
theorem ps_break : PS X (.Break pos) tBreak := fun _ _ σ H _ I h => wpAny_Break ⟨σ, H, I, h⟩
theorem Inv.quiet {pins : List (Addr × Obj)} {σ : St} {H : Hp} {s : Shared} (I : Inv X pins σ H s) : interactive X.env = false := by simp [interactive, I.ok.kind]
noncomputable def tDrop (te : TE) : TS := fun D σ H => te σ H fun _ H1 => D.nx σ H1
theorem ps_expr (he : PE X e te) (hs : swapsWith e none pos.line X.env = pure false := by rfl) : PS X (.Expr e pos) (tDrop te) := by
 intro pins s σ H D I h
 exact wpAny_Expr_any (thn (he pins s σ H _ I h) fun v s1 ⟨x, H1, I1, r1, q1⟩ => ⟨σ, H1, I1, q1⟩) I.quiet hs
noncomputable def tRet (te : TE) : TS := fun D σ H => te σ H D.rt
theorem ps_ret (he : PE X e te) : PS X (.Return (some e) pos) (tRet te) := by
 intro pins s σ H D I h
 exact wpAny_Return_some (thn (he pins s σ H _ I h) fun v s1 ⟨x, H1, I1, r1, q1⟩ => ⟨x, σ, H1, I1, r1, q1⟩)
noncomputable def tRetN : TS := fun D _ H => D.rt .non H
noncomputable def tIfS (c : TT) (t u : TS) : TS := fun D σ H => c σ H fun b H1 => if b = true then t D σ H1 else u D σ H1
theorem ps_if {c : Expr} {a b : List Stmt} {tc : TT} (hc : PT X c tc) (ha : PSs X a t) (hb : PSs X b u) : PS X (.If c a b pos) (tIfS tc t u) := by
 intro pins s σ H D I h
 refine wpAny_If (thn (hc pins s σ H _ I h) fun d s1 ⟨H1, I1, q1⟩ => ?_)
 cases d with
 | true => exact ha pins s1 σ H1 D I1 q1
 | false => exact hb pins s1 σ H1 D I1 q1
noncomputable def tNever : TS := fun _ _ _ => False
theorem pss_never {sts : List Stmt} : PSs X sts tNever := fun _ _ _ _ _ _ h => h.elim
end
noncomputable abbrev TG := V -> St -> Hp -> (St -> Hp -> Prop) -> Prop
noncomputable abbrev TGs := List V -> St -> Hp -> (St -> Hp -> Prop) -> Prop
noncomputable def PG (X : Cx) (target : Expr) (t : TG) : Prop :=
 ∀ (pins : List (Addr × Obj)) (s : Shared) (σ : St) (H : Hp) (v : V) (u : Value) (Q : St -> Hp -> Prop), Inv X pins σ H s -> RelV v u -> t v σ H Q ->
  wpAny (model X.prog X.w) X.A (assign target X.env u) (fun _ s' => ∃ σ' H', Inv X pins σ' H' s' /\ Q σ' H') X.xe s
noncomputable def PGs (X : Cx) (ts : List Expr) (t : TGs) : Prop :=
 ∀ (pins : List (Addr × Obj)) (s : Shared) (σ : St) (H : Hp) (vs : List V) (us : List Value) (Q : St -> Hp -> Prop), Inv X pins σ H s -> Vals vs us -> t vs σ H Q ->
  wpAny (model X.prog X.w) X.A (assignInOrder ((assignEach ts X.env).map (·.2)) us) (fun _ s' => ∃ σ' H', Inv X pins σ' H' s' /\ Q σ' H') X.xe s
noncomputable abbrev TSet := V -> V -> V -> Hp -> (Hp -> Prop) -> Prop
noncomputable def PSet (X : Cx) (t : TSet) : Prop :=
 ∀ (pins : List (Addr × Obj)) (s : Shared) (σ : St) (H : Hp) (o i v : V) (ov iv u : Value) (Q : Hp -> Prop), Inv X pins σ H s -> RelV o ov -> RelV i iv -> RelV v u -> t o i v H Q ->
  wpAny (model X.prog X.w) X.A (setItem ov iv u) (fun _ s' => ∃ H', Inv X pins σ H' s' /\ Q H') X.xe s
noncomputable abbrev TIp := V -> V -> Hp -> VK -> Prop
noncomputable def PIp (X : Cx) (op : Operator) (t : TIp) : Prop :=
 ∀ (pins : List (Addr × Obj)) (s : Shared) (σ : St) (H : Hp) (x y : V) (v u : Value) (Q : VK), Inv X pins σ H s -> RelV x v -> RelV y u -> t x y H Q ->
  wpAny (model X.prog X.w) X.A (inplaceOp op v u) (EP X pins σ Q) X.xe s
section
variable {X : Cx} {pos : Pos}
noncomputable def gName (i : Nat) : TG := fun v σ H Q => Q (σ.set i (some v)) H
theorem pg_name {i : Nat} {x : Str} (hN : X.N.Nodup) (hi : X.N[i]? = some x) (hx : Loc X.env.scope x) (hf : X.fn x = true \/ X.env.scope.names.lookup x = some .local := by first | exact .inl rfl | exact .inr rfl | assumption) : PG X (.Name x pos) (gName i) := by
 intro pins s σ H v u Q I r h
 exact wpAny_assign_Name (store_ok I hN hi hx r (fun s' I' => ⟨_, H, I', h⟩) hf)
noncomputable def gNil : TGs := fun vs σ H Q => vs = [] /\ Q σ H
inductive gCons (t : TG) (u : TGs) (vs : List V) (σ : St) (H : Hp) (Q : St -> Hp -> Prop) : Prop
 | mk (v : _) (r : _) (c0 : vs = v :: r) (c1 : t v σ H fun σ' H' => u r σ' H' Q) : gCons t u vs σ H Q
theorem pgs_nil : PGs X [] gNil := by
 intro pins s σ H vs us Q I r h
 obtain ⟨e, h⟩ := h
 subst e
 cases r
 exact assignInOrder_nil ⟨σ, H, I, h⟩
theorem pgs_cons {e : Expr} {es : List Expr} {t : TG} {u : TGs} (h1 : PG X e t) (h2 : PGs X es u)
  (hs : (assignEach (e :: es) X.env).map (·.2) = assign e X.env :: (assignEach es X.env).map (·.2) := by rfl) : PGs X (e :: es) (gCons t u) := by
 intro pins s σ H vs us Q I r h
 obtain ⟨v, vr, e1, h⟩ := h
 subst e1
 cases r with
 | cons r rr =>
  rw [hs]
  refine assignInOrder_cons (thn (h1 pins s σ H _ _ _ I r h) fun _ s1 ⟨σ1, H1, I1, q1⟩ => ?_)
  exact h2 pins s1 σ1 H1 _ _ Q I1 rr q1
inductive gTup (K : PySem.W.Frag) (n : Nat) (t : TGs) (v : V) (σ : St) (H : Hp) (Q : St -> Hp -> Prop) : Prop
 | mk (a : _) (xs : _) (c0 : v = .ref a) (c1 : SqT K H a xs) (c2 : xs.length = n) (c3 : t xs σ H Q) : gTup K n t v σ H Q
theorem pg_tup {es : List Expr} {k : Nat} {t : TGs} {n : Nat} (hc : X.calm = true) (h : PGs X es t)
  (hn : (assignEach es X.env).length = n := by rfl) (hst : (assignEach es X.env).findIdx? (·.1) = none := by rfl) : PG X (.Tuple es k pos) (gTup X.K n t) := by
 intro pins s σ H v u Q I r hw
 obtain ⟨a, xs, e1, hq, hl, hw⟩ := hw
 subst e1
 cases r
 obtain ⟨its, rv, ht, hz⟩ := I.tuple hq
 refine assign_Tuple_tuple (I.ok.hd hc) ht (by simp [hn, <- hl, rv.length]) hst fun h' hx => ?_
 have I1 : Inv X pins σ H { s with heap := h' } := I.kept (t' := s.toks) fun b o e => hx b o (Nat.ne_of_lt (Heap.lt_size e)) e
 exact h pins _ σ H xs _ Q I1 (by simpa using rv) hw
noncomputable def gSub (to ti : TE) (t : TSet) : TG := fun v σ H Q => to σ H fun o H1 => ti σ H1 fun i H2 => t o i v H2 fun H3 => Q σ H3
theorem pg_sub {o i : Expr} {to ti : TE} {t : TSet} (ho : PE X o to) (hi : PE X i ti) (hs : PSet X t)
  (ha : ∀ v, assign (.Subscript o i pos) X.env v = (do
   let ov <- holding [v] (eval o X.env)
   let iv <- holding [v, ov] (eval i X.env)
   standAt pos
   holding [v, ov, iv] (setItem ov iv v)
   release [v, ov, iv] []) := by intro _; rfl) : PG X (.Subscript o i pos) (gSub to ti t) := by
 intro pins s σ H v u Q I r h
 rw [ha]
 refine wpAny_bind (wpAny_holding (thn (ho pins s σ H _ I h) fun ov s1 ⟨x, H1, I1, r1, q1⟩ => ?_))
 refine wpAny_bind (wpAny_holding (thn (hi pins s1 σ H1 _ I1 q1) fun iv s2 ⟨y, H2, I2, r2, q2⟩ => ?_))
 refine wpAny_bind (wpAny_standAt (wpAny_bind (wpAny_holding (thn (hs pins s2 σ H2 x y v ov iv u _ I2 r1 r2 r q2) fun _ s3 ⟨H3, I3, q3⟩ => ?_))))
 exact wpAny_release ⟨σ, H3, I3, q3⟩
noncomputable def tAsg (te : TE) (g : TG) : TS := fun D σ H => te σ H fun x H1 => g x σ H1 D.nx
theorem ps_asg {tg e : Expr} {te : TE} {g : TG} (he : PE X e te) (hg : PG X tg g) (hs : swapsWithSole [tg] e pos.line X.env = pure false := by rfl) (hw : swappedStores [tg] e X.env = pure none := by rfl)
  (h1 : (assignEach [tg] X.env).map (·.2) = [assign tg X.env] := by rfl) : PS X (.Assign [tg] e pos) (tAsg te g) := by
 intro pins s σ H D I h
 refine wpAny_Assign_stores (thn (he pins s σ H _ I h) fun v s1 ⟨x, H1, I1, r1, q1⟩ => ?_) hs hw
 rw [h1]
 exact thn (hg pins s1 σ H1 x v _ I1 r1 q1) fun _ s2 q => q
theorem ps_set {i : Nat} {x : Str} {e : Expr} {te : TE} {pos' : Pos} (hN : X.N.Nodup) (hi : X.N[i]? = some x) (hx : Loc X.env.scope x) (he : PE X e te) (hs : swapsWith e (some (.Name x pos')) pos.line X.env = pure false := by rfl) (hf : X.fn x = true \/ X.env.scope.names.lookup x = some .local := by first | exact .inl rfl | exact .inr rfl | assumption) :
  PS X (.Assign [.Name x pos'] e pos) (tAsg te (gName i)) := by
 intro pins s σ H D I h
 refine wpAny_Assign_Name (thn (he pins s σ H _ I h) fun v s1 ⟨y, H1, I1, r1, q1⟩ => ?_) hs
 exact store_ok I1 hN hi hx r1 (fun s2 I2 => ⟨_, H1, I2, q1⟩) hf
noncomputable def tPar (i j : Nat) (ta : TA) : TS := fun D σ H => ta σ H fun vs H1 => ∃ v w, vs = [v, w] /\ D.nx ((σ.set i (some v)).set j (some w)) H1
noncomputable def tAug (i : Nat) (te : TE) (ti : TIp) : TS := fun D σ H => ∃ x, σ[i]? = some (some x) /\ te σ H fun y H1 => ti x y H1 fun z H2 => D.nx (σ.set i (some z)) H2
noncomputable def tAugS (to ti te : TE) (tget : V -> V -> Hp -> VK -> Prop) (tip : TIp) (tset : TSet) : TS := fun D σ H => to σ H fun o H1 => ti σ H1 fun i H2 => tget o i H2 fun x H3 => te σ H3 fun y H4 => tip x y H4 fun z H5 => tset o i z H5 fun H6 => D.nx σ H6
noncomputable def PGet (X : Cx) (t : V -> V -> Hp -> VK -> Prop) : Prop :=
 ∀ (pins : List (Addr × Obj)) (s : Shared) (σ : St) (H : Hp) (o i : V) (ov iv : Value) (Q : VK), Inv X pins σ H s -> RelV o ov -> RelV i iv -> t o i H Q ->
  wpAny (model X.prog X.w) X.A (getItem ov iv) (EP X pins σ Q) X.xe s
noncomputable def ipI (f : Int -> Int -> Int) : TIp := fun x y H Q => ∃ i j, x = .int i /\ y = .int j /\ Q (.int (f i j)) H
end
section
variable {X : Cx} {pos : Pos}
noncomputable def tWhile (c : TT) (tb : TS) : TS := fun D σ H => ∃ W : Nat -> St -> Hp -> Prop, (∃ m, W m σ H) /\ ∀ m σ H, W m σ H ->
 c σ H fun b H1 => if b = true then ∃ N : St -> Hp -> Prop, (∀ σ' H', N σ' H' -> ∃ m', m' < m /\ W m' σ' H') /\ tb { D with nx := N, ct := N, bk := D.nx } σ H1 else D.nx σ H1
set_option tactic.hygienic true in
theorem ps_while {c : Expr} {body : List Stmt} {tc : TT} {tb : TS} (hp : PassesOwn (model X.prog X.w) X.A X.env X.xe) (hc : PT X c tc) (hb : PSs X body tb) : PS X (.While c body [] pos) (tWhile tc tb) := by
 intro pins s σ H D I h
 obtain ⟨W, ⟨m0, w0⟩, turn⟩ := h
 refine wpAny_While (codeAny_whileLoop (fun n s' => ∃ σ' H', Inv X pins σ' H' s' /\ W n σ' H') ?_ m0 ⟨σ, H, I, w0⟩)
 rintro n s1 ⟨σ1, H1, I1, w1⟩
 refine wpAny_passesOwn hp (thn (hc pins s1 σ1 H1 _ I1 (turn n σ1 H1 w1)) fun b s2 ⟨H2, I2, q2⟩ => ?_)
 cases b with
 | true =>
  obtain ⟨N, hN, q2⟩ := q2
  rw [if_pos rfl]
  refine wpAny_passesOwn hp (thn (hb pins s2 σ1 H2 _ I2 q2) fun f s3 q3 => ?_)
  cases f with
  | next =>
   obtain ⟨σ3, H3, I3, n3⟩ := q3
   obtain ⟨m', hm, w3⟩ := hN σ3 H3 n3
   exact ⟨m', hm, σ3, H3, I3, w3⟩
  | cont =>
   obtain ⟨σ3, H3, I3, n3⟩ := q3
   obtain ⟨m', hm, w3⟩ := hN σ3 H3 n3
   exact ⟨m', hm, σ3, H3, I3, w3⟩
  | brk => exact q3
  | ret v => exact q3
 | false =>
  rw [if_neg Bool.false_ne_true]
  exact wpAny_execs_nil ⟨σ1, H2, I2, q2⟩
end
structure It where
 go : Nat -> Hp -> Prop
 yld : Nat -> Hp -> V -> Hp -> Prop
 stop : Nat -> Hp -> Prop
noncomputable def FpOk (X : Cx) (pins : List (Addr × Obj)) (H : Hp) (b : Addr) : Prop :=
 H b = none /\ b ≠ X.env.locals /\ b ∉ X.fs /\ (b ∈ X.ex \/ X.s₀.heap.objs.size <= b) /\ (∀ x c, X.env.cells.lookup x = some c -> c ≠ b) /\ ∀ p ∈ X.pn ++ pins, p.1 ≠ b
theorem Inv.fpOk {X : Cx} {pins : List (Addr × Obj)} {σ : St} {H H' : Hp} {s : Shared} {b : Addr} (I : Inv X pins σ H s) (hb : s.heap.objs.size <= b) (hn : H' b = none) : FpOk X pins H' b := by
 refine ⟨hn, Nat.ne_of_gt (Nat.lt_of_lt_of_le I.lt hb), I.nofs hb, .inr (Nat.le_trans I.sz hb), fun x c e z => ?_, fun p hp z => ?_⟩
 ·obtain ⟨v, q⟩ := I.cell x c e
  exact absurd (Nat.lt_of_lt_of_le q.lt (by rw [z]; exact hb)) (Nat.lt_irrefl _)
 ·exact absurd (Nat.lt_of_lt_of_le (Heap.lt_size (I.pin p hp).1) (by rw [z]; exact hb)) (Nat.lt_irrefl _)
structure Turn (P : Program) (w : World) (K : PySem.W.Frag) (tg : Expr) (J : It) (fp : List Addr) (it : Addr) (tn : Nat -> Heap -> Prop) : Prop where
 mem : it ∈ fp
 obj : ∀ i h, tn i h -> ∀ b ∈ fp, ∃ o, h.get? b = some o /\ ∀ v, o.data ≠ .cell v
 keep : ∀ i h h', tn i h -> (∀ b ∈ fp, ∀ o, h.get? b = some o -> h'.get? b = some o) -> tn i h'
 item : ∀ (X : Cx), X.prog = P -> X.w = w -> X.K = K -> X.calm = true -> ∀ (i : Nat) (pins : List (Addr × Obj)) (s : Shared) (σ : St) (H : Hp) (E : Value -> Shared -> Prop), Inv X pins σ H s -> (∀ b ∈ fp, FpOk X pins H b) -> tn i s.heap -> J.go i H ->
  wpAny (model P w) X.A (pyNext (.ref it)) (fun r s1 => ∃ u, r = some u /\
   wpAny (model P w) X.A (letOwnedTupleGo tg (.ref it) u) (fun _ s2 => ∃ x H', Inv X pins σ H' s2 /\ RelV x u /\ J.yld i H x H' /\ tn (i + 1) s2.heap /\ ∀ b ∈ fp, H' b = none) E s1) E s
 done : ∀ (X : Cx), X.prog = P -> X.w = w -> X.K = K -> X.calm = true -> ∀ (i : Nat) (pins : List (Addr × Obj)) (s : Shared) (σ : St) (H : Hp) (E : Value -> Shared -> Prop), Inv X pins σ H s -> (∀ b ∈ fp, FpOk X pins H b) -> tn i s.heap -> J.stop i H ->
  wpAny (model P w) X.A (pyNext (.ref it)) (fun r s1 => r = none /\ Inv X pins σ H s1) E s
 self : ∀ (A : Around) (i : Nat) (s : Shared) (Q : Value -> Shared -> Prop) (E : Value -> Shared -> Prop), tn i s.heap -> Q (.ref it) s -> wpAny (model P w) A (pyIter (.ref it)) Q E s
noncomputable abbrev TI := St -> Hp -> (It -> Hp -> Prop) -> Prop
noncomputable def PIE (X : Cx) (pins : List (Addr × Obj)) (σ : St) (tg : Expr) (R : It -> Hp -> Prop) (itv : Value) (s2 : Shared) : Prop :=
 ∃ (it : Addr) (fp : List Addr) (tn : Nat -> Heap -> Prop) (J : It) (H' : Hp), itv = .ref it /\ Inv X pins σ H' s2 /\ Turn X.prog X.w X.K tg J fp it tn /\ tn 0 s2.heap /\ (∀ b ∈ fp, FpOk X pins H' b) /\ R J H'
noncomputable def PI (X : Cx) (tg iter : Expr) (wi : TI) : Prop :=
 ∀ (pins : List (Addr × Obj)) (s : Shared) (σ : St) (H : Hp) (R : It -> Hp -> Prop), Inv X pins σ H s -> wi σ H R ->
  wpAny (model X.prog X.w) X.A (eval iter X.env) (fun v s1 => wpAny (model X.prog X.w) X.A (pyIter v) (PIE X pins σ tg R) X.xe s1) X.xe s
theorem go_of {M : Model} {A : Around} {E : Value -> Shared -> Prop} {s : Shared} {tg : Expr} {it : Addr} {u : Value} {o : Obj} {n : String} {vs : Array Value} {Q : Unit -> Shared -> Prop} (ho : s.heap.get? it = some o) (hc : o.cls = .type n) (hd : o.data = .fields vs)
    (hn : ["enumerate", "zip", "dict_itemiterator", "dict_reverseitemiterator", "odict_iterator", "itertools.zip_longest", "itertools.pairwise"].contains n = false) (hQ : Q () s) : wpAny M A (letOwnedTupleGo tg (.ref it) u) Q E s := by
  unfold letOwnedTupleGo
  cases tg <;> first
    | exact wpAny_pure hQ
    | (cases u <;> first
        | exact wpAny_pure hQ
        | (refine wpAny_bind (wpAny_load ho ?_)
           rw [hc, hd]
           show wpAny M A (if (["enumerate", "zip", "dict_itemiterator", "dict_reverseitemiterator", "odict_iterator", "itertools.zip_longest", "itertools.pairwise"].contains n && vs[0]? == some (rawInt _)) = true then _ else _) Q E s
           rw [if_neg (by intro h; rw [hn, Bool.false_and] at h; cases h)]
           exact wpAny_pure hQ))
noncomputable def Itl (K : PySem.W.Frag) (a : Addr) : It :=
 ⟨fun i H => ∃ xs x, SqL K H a xs /\ xs[i]? = some x, fun i H x H' => H' = H /\ ∀ xs, SqL K H a xs -> xs[i]? = some x, fun i H => ∃ xs, SqL K H a xs /\ xs.length <= i⟩
noncomputable def Itt (K : PySem.W.Frag) (a : Addr) : It :=
 ⟨fun i H => ∃ xs x, SqT K H a xs /\ xs[i]? = some x, fun i H x H' => H' = H /\ ∀ xs, SqT K H a xs -> xs[i]? = some x, fun i H => ∃ xs, SqT K H a xs /\ xs.length <= i⟩
noncomputable def Itr (lo : Int) (n : Nat) : It := ⟨fun i _ => i < n, fun i H x H' => H' = H /\ x = .int (lo + i), fun i _ => n <= i⟩
theorem turn_list {P : Program} {w : World} {K : PySem.W.Frag} {tg : Expr} (a it : Addr) : Turn P w K tg (Itl K a) [it] it (fun i h => h.IsListIter it a i) where
 mem := by simp
 obj := fun i h st b hb => by
  have e : b = it := by simpa using hb
  subst e
  obtain ⟨o, e, c, d⟩ := st
  exact ⟨o, e, fun v z => by rw [d] at z; cases z⟩
 keep := fun i h h' st k => st.at fun o e => k it (by simp) o e
 item := by
  intro X hP hw hK hc i pins s σ H E I hf st hg
  subst hP hw hK
  obtain ⟨xs, x, hq, hx⟩ := hg
  obtain ⟨its, rv, p, hz⟩ := I.list hq
  obtain ⟨u, hu, ru⟩ := rv.get hx
  obtain ⟨f0, f1, f2, f3, f4, f5⟩ := hf it (by simp)
  refine wpAny_pyNext_list_item st p.isList (x := u) (by simpa using hu) fun h' st' sb => ?_
  have I1 : Inv X pins σ H { s with heap := h' } := I.turned (t' := s.toks) (fun b o hb e => (sb.2 b hb).trans e) f0 f1 f3 f4 f5
  obtain ⟨o, e, c, d⟩ := id st'
  exact ⟨u, rfl, go_of (s := { s with heap := h' }) e c d (by decide) ⟨x, H, I1, ru, ⟨rfl, fun ys hy => by rw [I.list_inj hy hq]; exact hx⟩, st', fun b hb => (hf b hb).1⟩⟩
 done := by
  intro X hP hw hK hc i pins s σ H E I hf st hg
  subst hP hw hK
  obtain ⟨xs, hq, hx⟩ := hg
  obtain ⟨its, rv, p, hz⟩ := I.list hq
  obtain ⟨f0, f1, f2, f3, f4, f5⟩ := hf it (by simp)
  have hl := rv.length
  exact wpAny_pyNext_list_end (I.ok.hd hc) st p.isList (by simp; omega) fun h' eb => ⟨rfl, I.turned (t' := s.toks) (fun b o hb e => eb b o hb e) f0 f1 f3 f4 f5⟩
 self := fun _ _ _ _ _ st h => wpAny_pyIter_listiter st h
theorem turn_tuple {P : Program} {w : World} {K : PySem.W.Frag} {tg : Expr} (a it : Addr) : Turn P w K tg (Itt K a) [it] it (fun i h => h.IsTupleIter it a i) where
 mem := by simp
 obj := fun i h st b hb => by
  have e : b = it := by simpa using hb
  subst e
  obtain ⟨o, e, c, d⟩ := st
  exact ⟨o, e, fun v z => by rw [d] at z; cases z⟩
 keep := fun i h h' st k => st.at fun o e => k it (by simp) o e
 item := by
  intro X hP hw hK hc i pins s σ H E I hf st hg
  subst hP hw hK
  obtain ⟨xs, x, hq, hx⟩ := hg
  obtain ⟨its, rv, p, hz⟩ := I.tuple hq
  obtain ⟨u, hu, ru⟩ := rv.get hx
  obtain ⟨f0, f1, f2, f3, f4, f5⟩ := hf it (by simp)
  refine wpAny_pyNext_tuple_item st (show s.heap.IsTuple a its.toArray from p) (x := u) (by simpa using hu) fun h' st' sb => ?_
  have I1 : Inv X pins σ H { s with heap := h' } := I.turned (t' := s.toks) (fun b o hb e => (sb.2 b hb).trans e) f0 f1 f3 f4 f5
  obtain ⟨o, e, c, d⟩ := id st'
  exact ⟨u, rfl, go_of (s := { s with heap := h' }) e c d (by decide) ⟨x, H, I1, ru, ⟨rfl, fun ys hy => by rw [I.tuple_inj hy hq]; exact hx⟩, st', fun b hb => (hf b hb).1⟩⟩
 done := by
  intro X hP hw hK hc i pins s σ H E I hf st hg
  subst hP hw hK
  obtain ⟨xs, hq, hx⟩ := hg
  obtain ⟨its, rv, p, hz⟩ := I.tuple hq
  obtain ⟨f0, f1, f2, f3, f4, f5⟩ := hf it (by simp)
  have hl := rv.length
  exact wpAny_pyNext_tuple_end (I.ok.hd hc) st (show s.heap.IsTuple a its.toArray from p) (by simp; omega) fun h' eb => ⟨rfl, I.turned (t' := s.toks) (fun b o hb e => eb b o hb e) f0 f1 f3 f4 f5⟩
 self := fun _ _ _ _ _ st h => wpAny_pyIter_tupleiter st h
theorem turn_range {P : Program} {w : World} {K : PySem.W.Frag} {tg : Expr} (it : Addr) (lo : Int) (n : Nat) : Turn P w K tg (Itr lo n) [it] it (fun i h => IsRangeIter h it (lo + (i : Nat) * 1) ((n : Int) - (i : Nat)) 1) where
 mem := by simp
 obj := fun i h st b hb => by
  have e : b = it := by simpa using hb
  subst e
  exact ⟨_, st, fun v z => by
   have z' : Data.fields _ = Data.cell v := z
   cases z'⟩
 keep := fun i h h' st k => k it (by simp) _ st
 item := by
  intro X hP hw hK hc i pins s σ H E I hf st hg
  subst hP hw hK
  obtain ⟨f0, f1, f2, f3, f4, f5⟩ := hf it (by simp)
  have W := Walks.range (prog := X.prog) (w := X.w) (I.ok.hd hc) it lo 1 n
  refine W.item i s _ _ hg st fun v h' tk hv st' kk => ?_
  obtain ⟨t, rfl⟩ := hv
  have I1 : Inv X pins σ H { s with heap := h', toks := tk } := I.turned (fun b o hb e => kk b o (by simpa using hb) e) f0 f1 f3 f4 f5
  refine ⟨_, rfl, go_of (s := { s with heap := h', toks := tk }) (n := "range_iterator") st' rfl rfl (by decide) ⟨.int (lo + i), H, I1, ⟨t, ?_⟩, ⟨rfl, rfl⟩, st', fun b hb => (hf b hb).1⟩⟩
  rw [Int.mul_one]
 done := by
  intro X hP hw hK hc i pins s σ H E I hf st hg
  subst hP hw hK
  obtain ⟨f0, f1, f2, f3, f4, f5⟩ := hf it (by simp)
  exact wpAny_pyNext_range_end (I.ok.hd hc) st (by have : n <= i := hg; omega) fun h' eb => ⟨rfl, I.turned (t' := s.toks) (fun b o hb e => eb b o hb e) f0 f1 f3 f4 f5⟩
 self := fun _ _ _ _ _ st h => wpAny_pyIter_rangeiter st h
end L2
namespace L2
open PySem PySem.Spec PyProof.Rows
section
variable {X : Cx} {tg : Expr}
noncomputable def iList (K : PySem.W.Frag) (tl : TE) : TI := fun σ H R => tl σ H fun x H1 => ∃ a, x = .ref a /\ (∃ xs, SqL K H1 a xs) /\ R (Itl K a) H1
noncomputable def iTup (K : PySem.W.Frag) (tl : TE) : TI := fun σ H R => tl σ H fun x H1 => ∃ a, x = .ref a /\ (∃ xs, SqT K H1 a xs) /\ R (Itt K a) H1
theorem pi_list {l : Expr} {tl : TE} (hl : PE X l tl) : PI X tg l (iList X.K tl) := by
 intro pins s σ H R I h
 refine thn (hl pins s σ H _ I h) fun v s1 ⟨x, H1, I1, r1, q1⟩ => ?_
 obtain ⟨a, e, ⟨xs, hq⟩, q⟩ := q1
 subst e
 cases r1
 obtain ⟨its, rv, p, hz⟩ := I1.list hq
 refine wpAny_pyIter_list p.isList ?_
 refine ⟨s1.heap.objs.size, [s1.heap.objs.size], _, _, H1, rfl, I1.kept (t' := s1.toks) fun b o e => Heap.get?_push_of_some _ e, turn_list a _, ⟨_, Heap.get?_push_size _ rfl, rfl, rfl⟩, fun b hb => ?_, q⟩
 have e : b = s1.heap.objs.size := by simpa using hb
 subst e
 exact I1.fpOk (Nat.le_refl _) (I1.hok.fresh (Nat.le_refl _))
theorem pi_tup {l : Expr} {tl : TE} (hl : PE X l tl) : PI X tg l (iTup X.K tl) := by
 intro pins s σ H R I h
 refine thn (hl pins s σ H _ I h) fun v s1 ⟨x, H1, I1, r1, q1⟩ => ?_
 obtain ⟨a, e, ⟨xs, hq⟩, q⟩ := q1
 subst e
 cases r1
 obtain ⟨its, rv, p, hz⟩ := I1.tuple hq
 refine wpAny_pyIter_tuple (show s1.heap.IsTuple a its.toArray from p) ?_
 refine ⟨s1.heap.objs.size, [s1.heap.objs.size], _, _, H1, rfl, I1.kept (t' := s1.toks) fun b o e => Heap.get?_push_of_some _ e, turn_tuple a _, ⟨_, Heap.get?_push_size _ rfl, rfl, rfl⟩, fun b hb => ?_, q⟩
 have e : b = s1.heap.objs.size := by simpa using hb
 subst e
 exact I1.fpOk (Nat.le_refl _) (I1.hok.fresh (Nat.le_refl _))
theorem range_it {pins : List (Addr × Obj)} {σ : St} {H : Hp} {s : Shared} {R : It -> Hp -> Prop} {E : Value -> Shared -> Prop} {lo hi : Int} {t u v : Tok} {tk : Nat} (I : Inv X pins σ H s) (h1 : -(2 ^ 62) <= lo) (h2 : lo < 2 ^ 62) (h3 : -(2 ^ 62) <= hi) (h4 : hi < 2 ^ 62)
  (q : R (Itr lo (hi - lo).toNat) H) : wpAny (model X.prog X.w) X.A (pyIter (.ref s.heap.objs.size)) (PIE X pins σ tg R) E { s with heap := s.heap.push { cls := .type "range", data := .fields #[.int lo t, .int hi u, .int 1 v] }, toks := tk } := by
 refine wpAny_pyIter_range (IsRange.new ..) (small_one h1 h2 h3 h4) ?_
 have I1 : Inv X pins σ H { s with heap := s.heap.push { cls := .type "range", data := .fields #[.int lo t, .int hi u, .int 1 v] }, toks := tk } := I.kept fun b o e => Heap.get?_push_of_some _ e
 refine ⟨(s.heap.push { cls := .type "range", data := .fields #[.int lo t, .int hi u, .int 1 v] }).objs.size, [(s.heap.push { cls := .type "range", data := .fields #[.int lo t, .int hi u, .int 1 v] }).objs.size], _, _, H, rfl,
  I1.kept (t' := tk) fun b o e => Heap.get?_push_of_some _ e, turn_range _ lo (hi - lo).toNat, ?_, fun b hb => ?_, q⟩
 ·have e1 : lo + ((0 : Nat) : Int) * 1 = lo := by simp
  have e2 : (((hi - lo).toNat : Nat) : Int) - ((0 : Nat) : Int) = Builtin.Range.rangeSize lo hi 1 := by rw [rangeSize_one]; split <;> omega
  show IsRangeIter _ _ (lo + ((0 : Nat) : Int) * 1) ((((hi - lo).toNat : Nat) : Int) - ((0 : Nat) : Int)) 1
  rw [e1, e2]
  exact Heap.get?_push_size _ rfl
 ·have e : b = (s.heap.push { cls := .type "range", data := .fields #[.int lo t, .int hi u, .int 1 v] }).objs.size := by simpa using hb
  subst e
  exact I1.fpOk (Nat.le_refl _) (I1.hok.fresh (Nat.le_refl _))
noncomputable def iRng1 (ta : TA) : TI := fun σ H R => ta σ H fun vs H1 => ∃ j : Int, vs = [.int j] /\ -(2 ^ 62) <= j /\ j < 2 ^ 62 /\ R (Itr 0 j.toNat) H1
noncomputable def iRng2 (ta : TA) : TI := fun σ H R => ta σ H fun vs H1 => ∃ i j : Int, vs = [.int i, .int j] /\ (-(2 ^ 62) <= i /\ i < 2 ^ 62 /\ -(2 ^ 62) <= j /\ j < 2 ^ 62) /\ R (Itr i (j - i).toNat) H1
theorem pi_range1 {a : Expr} {ta : TA} {p pos : Pos} (hg : Gl X "range") (hm : X.mg "range" = none) (ha : PA X [a] ta) (hs : starEach [a] X.env = [(false, eval a X.env)] := by rfl) : PI X tg (.Call (.Name "range" p) [a] [] pos) (iRng1 ta) := by
 intro pins s σ H R I h
 refine Call_ (ld_blt I hg hm boot_range (PyProof.Rows.callWith_type1 (thn (ha pos pins s σ H _ I h) fun us s1 ⟨vs, H1, I1, r1, q1⟩ => ?_) hs rfl))
 obtain ⟨j, e, q1, q2, q⟩ := q1
 subst e
 cases r1 with
 | cons r rr =>
  cases rr
  obtain ⟨t, rfl⟩ := r
  exact call_range_1 (range_it I1 (by omega) (by omega) q1 q2 (by simpa using q))
theorem pi_range2 {a b : Expr} {ta : TA} {p pos : Pos} (hg : Gl X "range") (hm : X.mg "range" = none) (ha : PA X [a, b] ta) (hs : starEach [a, b] X.env = [(false, eval a X.env), (false, eval b X.env)] := by rfl) (hs2 : starEach [b] X.env = [(false, eval b X.env)] := by rfl) :
  PI X tg (.Call (.Name "range" p) [a, b] [] pos) (iRng2 ta) := by
 intro pins s σ H R I h
 refine Call_ (ld_blt I hg hm boot_range (PyProof.Rows.callWith_type1 (thn (ha pos pins s σ H _ I h) fun us s1 ⟨vs, H1, I1, r1, q1⟩ => ?_) (by rw [hs, hs2]) (by rw [hs2]; rfl)))
 obtain ⟨i, j, e, ⟨q1, q2, q3, q4⟩, q⟩ := q1
 subst e
 cases r1 with
 | cons r rr =>
  cases rr with
  | cons r' rr =>
   cases rr
   obtain ⟨t, rfl⟩ := r
   obtain ⟨t', rfl⟩ := r'
   exact call_range_2 (range_it I1 q1 q2 q3 q4 q)
noncomputable def tFor (wi : TI) (g : TG) (tb : TS) : TS := fun D σ H => wi σ H fun J H1 => ∃ W : Nat -> Nat -> St -> Hp -> Prop, (∃ m, W 0 m σ H1) /\ ∀ i m σ H, W i m σ H ->
 (J.stop i H /\ D.nx σ H) \/ (J.go i H /\ ∃ N : St -> Hp -> Prop, (∀ σ' H', N σ' H' -> ∃ m', m' < m /\ W (i + 1) m' σ' H') /\ ∀ x H', J.yld i H x H' -> g x σ H' fun σ2 H2 => tb { D with nx := N, ct := N, bk := D.nx } σ2 H2)
noncomputable def pinsAt (fp : List Addr) (h : Heap) : List (Addr × Obj) := fp.filterMap fun b => (h.get? b).map fun o => (b, o)
theorem mem_pinsAt {fp : List Addr} {h : Heap} {b : Addr} {o : Obj} (hb : b ∈ fp) (e : h.get? b = some o) : (b, o) ∈ pinsAt fp h := List.mem_filterMap.mpr ⟨b, hb, by rw [e]; rfl⟩
theorem of_pinsAt {fp : List Addr} {h : Heap} {p : Addr × Obj} (hp : p ∈ pinsAt fp h) : p.1 ∈ fp /\ h.get? p.1 = some p.2 := by
 obtain ⟨b, hb, e⟩ := List.mem_filterMap.mp hp
 cases q : h.get? b with
 | none => rw [q] at e; cases e
 | some o =>
  rw [q] at e
  have e' : (b, o) = p := Option.some.inj e
  subst e'
  exact ⟨hb, q⟩
theorem Inv.pinned {pins : List (Addr × Obj)} {σ : St} {H : Hp} {s : Shared} {fp : List Addr} (I : Inv X pins σ H s) (hf : ∀ b ∈ fp, FpOk X pins H b) (ho : ∀ b ∈ fp, ∃ o, s.heap.get? b = some o /\ ∀ v, o.data ≠ .cell v) : Inv X (pins ++ pinsAt fp s.heap) σ H s :=
 I.pins_of fun p hp => (List.mem_append.mp hp).elim (fun z => I.pin p (List.mem_append_right _ z)) fun z => by
  obtain ⟨hb, e⟩ := of_pinsAt z
  obtain ⟨f0, f1, f2, _⟩ := hf p.1 hb
  obtain ⟨o, e', d⟩ := ho p.1 hb
  rw [e] at e'; cases e'
  exact ⟨e, f0, f1, f2, d⟩
theorem Inv.unpinned {pins pl : List (Addr × Obj)} {σ : St} {H : Hp} {s : Shared} (I : Inv X (pins ++ pl) σ H s) : Inv X pins σ H s := I.pins_of fun p hp => I.pin p (List.mem_append_right _ (List.mem_append_left _ hp))
set_option tactic.hygienic true in
theorem ps_for {iter : Expr} {body : List Stmt} {wi : TI} {g : TG} {tb : TS} {pos : Pos} (hp : PassesOwn (model X.prog X.w) X.A X.env X.xe) (hc : X.calm = true) (hi : PI X tg iter wi) (hg : PG X tg g) (hb : PSs X body tb)
  (hs : ∀ x, foldedSetIterable iter X.env x = pure x := by intro _; rfl) : PS X (.For tg iter body [] pos) (tFor wi g tb) := by
 intro pins s σ H D I h
 refine wpAny_For (thn (hi pins s σ H _ I h) fun v s1 h1 => thn h1 fun itv s2 h2 => ?_) hs
 obtain ⟨it, fp, tn, J, H2, e, I2, T, st2, f2, W, ⟨m0, w0⟩, turn⟩ := h2
 subst e
 have stat : ∀ {H' : Hp}, (∀ b ∈ fp, H' b = none) -> ∀ b ∈ fp, FpOk X pins H' b := fun hn b hb => ⟨hn b hb, (f2 b hb).2⟩
 refine codeAny_forLoop_any (fun n s' => ∃ i σ' H', Inv X pins σ' H' s' /\ tn i s'.heap /\ (∀ b ∈ fp, H' b = none) /\ W i n σ' H') ?_ m0 ⟨0, σ, H2, I2, st2, fun b hb => (f2 b hb).1, w0⟩
 rintro n s3 ⟨i, σ3, H3, I3, st3, fr3, w3⟩
 rcases turn i n σ3 H3 w3 with ⟨stop, qn⟩ | ⟨go, N, hN, step⟩
 ·refine wpAny_passesOwn hp (thn (T.done X rfl rfl rfl hc i pins s3 σ3 H3 X.xe I3 (stat fr3) st3 stop) fun r s4 ⟨hr, I4⟩ => ?_)
  subst hr
  exact wpAny_execs_nil ⟨σ3, H3, I4, qn⟩
 ·refine wpAny_passesOwn hp (thn (T.item X rfl rfl rfl hc i pins s3 σ3 H3 X.xe I3 (stat fr3) st3 go) fun r s4 ⟨u, hr, h4⟩ => ?_)
  subst hr
  refine wpAny_passesOwn hp (thn h4 fun _ s5 ⟨x, H5, I5, r5, y5, st5, fr5⟩ => ?_)
  have I5' := I5.pinned (stat fr5) (T.obj _ _ st5)
  refine wpAny_passesOwn hp (thn (hg _ s5 σ3 H5 x u _ I5' r5 (step x H5 y5)) fun _ s6 ⟨σ6, H6, I6, q6⟩ => ?_)
  refine wpAny_passesOwn hp (thn (hb _ s6 σ6 H6 _ I6 q6) fun f s7 q7 => ?_)
  have again : ∀ {σ7 : St} {H7 : Hp}, Inv X (pins ++ pinsAt fp s5.heap) σ7 H7 s7 -> N σ7 H7 -> ∃ m, m < n /\ ∃ i σ' H', Inv X pins σ' H' s7 /\ tn i s7.heap /\ (∀ b ∈ fp, H' b = none) /\ W i m σ' H' := fun {σ7 H7} I7 n7 => by
   obtain ⟨m', hm, w7⟩ := hN σ7 H7 n7
   refine ⟨m', hm, i + 1, σ7, H7, I7.unpinned, T.keep _ _ _ st5 fun b hb o e => (I7.pin (b, o) (List.mem_append_right _ (List.mem_append_right _ (mem_pinsAt hb e)))).1, fun b hb => ?_, w7⟩
   obtain ⟨o, e, d⟩ := T.obj _ _ st5 b hb
   exact (I7.pin (b, o) (List.mem_append_right _ (List.mem_append_right _ (mem_pinsAt hb e)))).2.1
  cases f with
  | next => obtain ⟨σ7, H7, I7, n7⟩ := q7; exact again I7 n7
  | cont => obtain ⟨σ7, H7, I7, n7⟩ := q7; exact again I7 n7
  | brk => obtain ⟨σ7, H7, I7, q7⟩ := q7; exact ⟨σ7, H7, I7.unpinned, q7⟩
  | ret v => obtain ⟨x7, σ7, H7, I7, r7, q7⟩ := q7; exact ⟨x7, σ7, H7, I7.unpinned, r7, q7⟩
end
theorem for_list {K : PySem.W.Frag} {a : Addr} {xs : List V} {g : TG} {tb : TS} {D : Ends} {σ : St} {H : Hp} (Pv : Nat -> St -> Hp -> Prop) (h0 : Pv 0 σ H) (hl : ∀ i σ H, i <= xs.length -> Pv i σ H -> SqL K H a xs)
  (hs : ∀ i x σ H, xs[i]? = some x -> Pv i σ H -> g x σ H fun σ2 H2 => tb { D with nx := Pv (i + 1), ct := Pv (i + 1), bk := D.nx } σ2 H2) (hd : ∀ σ H, Pv xs.length σ H -> D.nx σ H) :
  ∃ W : Nat -> Nat -> St -> Hp -> Prop, (∃ m, W 0 m σ H) /\ ∀ i m σ H, W i m σ H ->
   ((Itl K a).stop i H /\ D.nx σ H) \/ ((Itl K a).go i H /\ ∃ N : St -> Hp -> Prop, (∀ σ' H', N σ' H' -> ∃ m', m' < m /\ W (i + 1) m' σ' H') /\ ∀ x H', (Itl K a).yld i H x H' -> g x σ H' fun σ2 H2 => tb { D with nx := N, ct := N, bk := D.nx } σ2 H2) := by
 refine ⟨fun i m σ H => m = xs.length - i /\ i <= xs.length /\ Pv i σ H, ⟨xs.length, by simp, Nat.zero_le _, h0⟩, ?_⟩
 rintro i m σ H ⟨rfl, hi, p⟩
 have q := hl i σ H hi p
 by_cases hlt : i < xs.length
 ·refine .inr ⟨⟨xs, xs[i], q, by simp [hlt]⟩, Pv (i + 1), fun σ' H' p' => ⟨xs.length - (i + 1), by omega, rfl, hlt, p'⟩, fun x H' y => ?_⟩
  obtain ⟨e, y⟩ := y
  subst e
  exact hs i x σ _ (y xs q) p
 ·have e : i = xs.length := by omega
  subst e
  exact .inl ⟨⟨xs, q, Nat.le_refl _⟩, hd σ H p⟩
theorem for_range {lo : Int} {n : Nat} {g : TG} {tb : TS} {D : Ends} {σ : St} {H : Hp} (Pv : Nat -> St -> Hp -> Prop) (h0 : Pv 0 σ H)
  (hs : ∀ i σ H, i < n -> Pv i σ H -> g (.int (lo + i)) σ H fun σ2 H2 => tb { D with nx := Pv (i + 1), ct := Pv (i + 1), bk := D.nx } σ2 H2) (hd : ∀ σ H, Pv n σ H -> D.nx σ H) :
  ∃ W : Nat -> Nat -> St -> Hp -> Prop, (∃ m, W 0 m σ H) /\ ∀ i m σ H, W i m σ H ->
   ((Itr lo n).stop i H /\ D.nx σ H) \/ ((Itr lo n).go i H /\ ∃ N : St -> Hp -> Prop, (∀ σ' H', N σ' H' -> ∃ m', m' < m /\ W (i + 1) m' σ' H') /\ ∀ x H', (Itr lo n).yld i H x H' -> g x σ H' fun σ2 H2 => tb { D with nx := N, ct := N, bk := D.nx } σ2 H2) := by
 refine ⟨fun i m σ H => m = n - i /\ i <= n /\ Pv i σ H, ⟨n, by simp, Nat.zero_le _, h0⟩, ?_⟩
 rintro i m σ H ⟨rfl, hi, p⟩
 by_cases hlt : i < n
 ·refine .inr ⟨hlt, Pv (i + 1), fun σ' H' p' => ⟨n - (i + 1), by omega, rfl, hlt, p'⟩, fun x H' y => ?_⟩
  obtain ⟨e, y⟩ := y
  subst e y
  exact hs i σ _ hlt p
 ·have e : i = n := by omega
  subst e
  exact .inl ⟨Nat.le_refl _, hd σ H p⟩
end L2
namespace L2
open PySem PySem.Spec PyProof.Rows
noncomputable abbrev R2 := V -> V -> Hp -> VK -> Prop
noncomputable def OpR (X : Cx) (f : Value -> Value -> Sem Value) (r : R2) : Prop :=
 ∀ (pins : List (Addr × Obj)) (s : Shared) (σ : St) (H : Hp) (x y : V) (v u : Value) (Q : VK), Inv X pins σ H s -> RelV x v -> RelV y u -> r x y H Q ->
  wpAny (model X.prog X.w) X.A (f v u) (EP X pins σ Q) X.xe s
noncomputable def UnR (X : Cx) (f : Value -> Sem Value) (r : V -> Hp -> VK -> Prop) : Prop :=
 ∀ (pins : List (Addr × Obj)) (s : Shared) (σ : St) (H : Hp) (x : V) (v : Value) (Q : VK), Inv X pins σ H s -> RelV x v -> r x H Q ->
  wpAny (model X.prog X.w) X.A (f v) (EP X pins σ Q) X.xe s
noncomputable def CallR (X : Cx) (f : Value) (r : List V -> Hp -> VK -> Prop) : Prop :=
 ∀ (pins : List (Addr × Obj)) (s : Shared) (σ : St) (H : Hp) (xs : List V) (us : List Value) (Q : VK), Inv X pins σ H s -> Vals xs us -> r xs H Q ->
  wpAny (model X.prog X.w) X.A (call f us) (EP X pins σ Q) X.xe s
noncomputable def TruR (X : Cx) (r : V -> Hp -> (Bool -> Hp -> Prop) -> Prop) : Prop :=
 ∀ (pins : List (Addr × Obj)) (s : Shared) (σ : St) (H : Hp) (x : V) (v : Value) (Q : Bool -> Hp -> Prop), Inv X pins σ H s -> RelV x v -> r x H Q ->
  wpAny (model X.prog X.w) X.A (truthy v) (TP X pins σ Q) X.xe s
noncomputable def tOp (r : R2) (ta tb : TE) : TE := fun σ H Q => ta σ H fun x H1 => tb σ H1 fun y H2 => r x y H2 Q
noncomputable def tUn (r : V -> Hp -> VK -> Prop) (ta : TE) : TE := fun σ H Q => ta σ H fun x H1 => r x H1 Q
inductive rI (C : Int -> Int -> Prop) (g : Int -> Int -> V) (x : V) (y : V) (H : Hp) (Q : VK) : Prop
 | mk (i : _) (j : _) (c0 : x = .int i) (c1 : y = .int j) (c2 : C i j) (c3 : Q (g i j) H) : rI C g x y H Q
inductive rI0 (g : Int -> Int -> V) (x : V) (y : V) (H : Hp) (Q : VK) : Prop
 | mk (i : _) (j : _) (c0 : x = .int i) (c1 : y = .int j) (c2 : Q (g i j) H) : rI0 g x y H Q
inductive rU (g : Int -> V) (x : V) (H : Hp) (Q : VK) : Prop
 | mk (i : _) (c0 : x = .int i) (c1 : Q (g i) H) : rU g x H Q
section
variable {X : Cx} {a b c : Expr} {ta tb tc : TE} {pos : Pos}
theorem binT (ha : PE X a ta) (hb : PE X b tb) {pins : List (Addr × Obj)} {s : Shared} {σ : St} {H : Hp} {R : V -> V -> Hp -> Prop} (I : Inv X pins σ H s)
  (h : ta σ H fun x H1 => tb σ H1 fun y H2 => R x y H2) {Q : Value -> Shared -> Prop} {f : Value -> Value -> Sem Value}
  (hf : ∀ v u s2 x y H2, Inv X pins σ H2 s2 -> RelV x v -> RelV y u -> R x y H2 -> wpAny (model X.prog X.w) X.A (f v u) Q X.xe s2) :
  wpAny (model X.prog X.w) X.A (eval a X.env) (fun v s₁ => wpAny (model X.prog X.w) X.A (eval b X.env) (fun u s₂ => wpAny (model X.prog X.w) X.A (f v u) Q X.xe s₂) X.xe s₁) X.xe s := by
 refine thn (ha pins s σ H _ I h) fun v s1 ⟨x, H1, I1, r1, q1⟩ => ?_
 refine thn (hb pins s1 σ H1 _ I1 q1) fun u s2 ⟨y, H2, I2, r2, q2⟩ => ?_
 exact hf v u s2 x y H2 I2 r1 r2 q2
theorem pe_op {op : Operator} {r : R2} (ho : OpR X (binaryOp op) r) (ha : PE X a ta) (hb : PE X b tb) : PE X (.BinOp a op b pos) (tOp r ta tb) := by
 intro pins s σ H Q I h
 exact wpAny_BinOp (binT ha hb I h fun v u s2 x y H2 I2 rx ry q => ho pins s2 σ H2 x y v u Q I2 rx ry q)
theorem pe_un {op : UnaryOp} {r : V -> Hp -> VK -> Prop} (ho : UnR X (unaryOp op) r) (ha : PE X a ta) : PE X (.UnaryOp op a pos) (tUn r ta) := by
 intro pins s σ H Q I h
 exact UnaryOp_ (thn (ha pins s σ H _ I h) fun v s1 ⟨x, H1, I1, r1, q1⟩ => ho pins s1 σ H1 x v Q I1 r1 q1)
theorem opI {f : Value -> Value -> Sem Value} {C : Int -> Int -> Prop} {g : Int -> Int -> Int}
  (rule : ∀ (i j : Int) (t u : Tok) (s : Shared) (Q : Value -> Shared -> Prop) (E : Value -> Shared -> Prop), C i j -> Q (.int (g i j) s.toks) { s with toks := s.toks + 1 } -> wpAny (model X.prog X.w) X.A (f (.int i t) (.int j u)) Q E s) :
  OpR X f (rI C fun i j => .int (g i j)) := by
 intro pins s σ H x y v u Q I rx ry h
 obtain ⟨i, j, rfl, rfl, hc, q⟩ := h
 obtain ⟨t, rfl⟩ := rx
 obtain ⟨t', rfl⟩ := ry
 exact rule i j t t' s _ _ hc ⟨.int (g i j), H, I.tok _, ⟨_, rfl⟩, q⟩
theorem opI0 {f : Value -> Value -> Sem Value} {g : Int -> Int -> Int}
  (rule : ∀ (i j : Int) (t u : Tok) (s : Shared) (Q : Value -> Shared -> Prop) (E : Value -> Shared -> Prop), Q (.int (g i j) s.toks) { s with toks := s.toks + 1 } -> wpAny (model X.prog X.w) X.A (f (.int i t) (.int j u)) Q E s) :
  OpR X f (rI0 fun i j => .int (g i j)) := by
 intro pins s σ H x y v u Q I rx ry h
 obtain ⟨i, j, rfl, rfl, q⟩ := h
 obtain ⟨t, rfl⟩ := rx
 obtain ⟨t', rfl⟩ := ry
 exact rule i j t t' s _ _ ⟨.int (g i j), H, I.tok _, ⟨_, rfl⟩, q⟩
theorem opB0 {f : Value -> Value -> Sem Value} {g : Int -> Int -> Bool}
  (rule : ∀ (i j : Int) (t u : Tok) (s : Shared) (Q : Value -> Shared -> Prop) (E : Value -> Shared -> Prop), Q (.bool (g i j)) s -> wpAny (model X.prog X.w) X.A (f (.int i t) (.int j u)) Q E s) :
  OpR X f (rI0 fun i j => .bl (g i j)) := by
 intro pins s σ H x y v u Q I rx ry h
 obtain ⟨i, j, rfl, rfl, q⟩ := h
 obtain ⟨t, rfl⟩ := rx
 obtain ⟨t', rfl⟩ := ry
 exact rule i j t t' s _ _ ⟨.bl (g i j), H, I, rfl, q⟩
noncomputable def CDiv (i j : Int) : Prop := 0 < j /\ j < 1073741824
noncomputable def CDivN (i j : Int) : Prop := j ≠ 0 /\ j.natAbs < 1073741824
noncomputable def CPow (i j : Int) : Prop := 0 <= j /\ j <= 1000000 /\ i.natAbs < 2 ^ 64
noncomputable def CMul (i j : Int) : Prop := (-(2 ^ 64) < i /\ i < 2 ^ 64) \/ (-(2 ^ 64) < j /\ j < 2 ^ 64)
theorem CMul.ok {i j : Int} (h : CMul i j) : IntMulOk i j := by
 rcases h with ⟨h1, h2⟩ | ⟨h1, h2⟩
 ·exact .of_left (intBits_le_64 h1 h2)
 ·exact .of_right (intBits_le_64 h1 h2)
theorem op_add : OpR X (binaryOp .Add) (rI0 fun i j => .int (i + j)) := opI0 fun _ _ _ _ _ _ _ q => add_int q
theorem op_sub : OpR X (binaryOp .Sub) (rI0 fun i j => .int (i - j)) := opI0 fun _ _ _ _ _ _ _ q => sub_int q
theorem op_mul : OpR X (binaryOp .Mult) (rI CMul fun i j => .int (i * j)) := opI fun _ _ _ _ _ _ _ hc q => mul_int q hc.ok
theorem op_fdiv : OpR X (binaryOp .FloorDiv) (rI CDiv fun i j => .int (i / j)) := opI fun i j _ _ _ _ _ hc q => by
 have h1 : (0 : Int) < j := hc.1
 have h2 : j < 1073741824 := hc.2
 exact floordiv_int (by omega) (by rw [Int.fdiv_eq_ediv_of_nonneg i (by omega)]; exact q) (.inl (PyProof.noPylong_small (by omega)))
theorem op_mod : OpR X (binaryOp .Mod) (rI (fun _ j => 0 < j) fun i j => .int (i % j)) := opI fun i j _ _ _ _ _ hc q => by
 have h1 : (0 : Int) < j := hc
 exact mod_int' (by omega) (by rw [Int.fmod_eq_emod_of_nonneg i (by omega)]; exact q)
theorem op_pow : OpR X (binaryOp .Pow) (rI CPow fun i j => .int (i ^ j.toNat)) := opI fun _ _ _ _ _ _ _ hc q => pow_int_small hc.1 hc.2.1 hc.2.2 q
theorem unI {f : Value -> Sem Value} {g : Int -> Int}
  (rule : ∀ (i : Int) (t : Tok) (s : Shared) (Q : Value -> Shared -> Prop) (E : Value -> Shared -> Prop), Q (.int (g i) s.toks) { s with toks := s.toks + 1 } -> wpAny (model X.prog X.w) X.A (f (.int i t)) Q E s) :
  UnR X f (rU fun i => .int (g i)) := by
 intro pins s σ H x v Q I rx h
 obtain ⟨i, rfl, q⟩ := h
 obtain ⟨t, rfl⟩ := rx
 exact rule i t s _ _ ⟨.int (g i), H, I.tok _, ⟨_, rfl⟩, q⟩
theorem un_neg : UnR X (unaryOp .USub) (rU fun i => .int (-i)) := unI fun _ _ _ _ _ q => neg_int q
end
noncomputable def scal : V -> V -> Bool
 | .non, .non => true | .non, .int _ => true | .int _, .non => true | .non, .bl _ => true | .bl _, .non => true | .non, .str _ => true | .str _, .non => true
 | .int _, .int _ => true | .bl _, .bl _ => true | .str _, .str _ => true | .byt _, .byt _ => true
 | .int _, .str _ => true | .str _, .int _ => true | .bl _, .str _ => true | .str _, .bl _ => true
 | _, _ => false
noncomputable def rEq : R2 := fun x y H Q => scal x y = true /\ Q (.bl (decide (x = y))) H
noncomputable def rNe : R2 := fun x y H Q => scal x y = true /\ Q (.bl (!decide (x = y))) H
theorem dec_int {i j : Int} : decide (V.int i = V.int j) = (i == j) := by
 rw [Bool.eq_iff_iff]
 simp
theorem dec_bl {i j : Bool} : decide (V.bl i = V.bl j) = (i == j) := by
 rw [Bool.eq_iff_iff]
 simp
theorem dec_str {i j : Str} : decide (V.str i = V.str j) = (i == j) := by
 rw [Bool.eq_iff_iff]
 simp
theorem dec_byt {i j : Array UInt8} : decide (V.byt i = V.byt j) = (i.toList == j.toList) := by
 rw [Bool.eq_iff_iff]
 cases i
 cases j
 simp
section
variable {X : Cx} {a b c : Expr} {ta tb tc : TE} {pos : Pos}
theorem fin_bl {pins : List (Addr × Obj)} {σ : St} {H : Hp} {s : Shared} {Q : VK} {k k' : Bool} (I : Inv X pins σ H s) (q : Q (.bl k) H) (e : k = k') : EP X pins σ Q (.bool k') s := by
 subst e
 exact ⟨.bl k, H, I, rfl, q⟩
theorem op_eq : OpR X (compareOp .Eq) rEq := by
 intro pins s σ H x y v u Q I rx ry h
 obtain ⟨hs, q⟩ := h
 cases x with
 | non =>
  cases rx
  cases y with
  | non => cases ry; exact PySem.EqNone.eq_none_none (fin_bl I q (by simp))
  | bl j => cases ry; exact PySem.EqNone.eq_none_bool (fin_bl I q (by simp))
  | int j => obtain ⟨t', rfl⟩ := ry; exact PySem.EqNone.eq_none_int (fin_bl I q (by simp))
  | str j => obtain ⟨t', rfl⟩ := ry; exact PySem.EqNone.eq_none_str (fin_bl I q (by simp))
  | _ => exact absurd (show false = true from hs) Bool.false_ne_true
 | bl i =>
  cases rx
  cases y with
  | non => cases ry; exact PySem.EqNone.eq_bool_none (fin_bl I q (by simp))
  | bl j => cases ry; exact eq_bool (fin_bl I q dec_bl)
  | str j => obtain ⟨t', rfl⟩ := ry; exact PySem.EqMixed.eq_bool_str (fin_bl I q (by simp))
  | _ => exact absurd (show false = true from hs) Bool.false_ne_true
 | int i =>
  obtain ⟨t, rfl⟩ := rx
  cases y with
  | non => cases ry; exact PySem.EqNone.eq_int_none (fin_bl I q (by simp))
  | int j => obtain ⟨t', rfl⟩ := ry; exact eq_int (fin_bl I q dec_int)
  | str j => obtain ⟨t', rfl⟩ := ry; exact PySem.EqMixed.eq_int_str (fin_bl I q (by simp))
  | _ => exact absurd (show false = true from hs) Bool.false_ne_true
 | str i =>
  obtain ⟨t, rfl⟩ := rx
  cases y with
  | non => cases ry; exact PySem.EqNone.eq_str_none (fin_bl I q (by simp))
  | bl j => cases ry; exact PySem.EqMixed.eq_str_bool (fin_bl I q (by simp))
  | int j => obtain ⟨t', rfl⟩ := ry; exact PySem.EqMixed.eq_str_int (fin_bl I q (by simp))
  | str j => obtain ⟨t', rfl⟩ := ry; exact eq_str (fin_bl I q dec_str)
  | _ => exact absurd (show false = true from hs) Bool.false_ne_true
 | byt i =>
  obtain ⟨t, rfl⟩ := rx
  cases y with
  | byt j => obtain ⟨t', rfl⟩ := ry; exact PySem.W.eq_bytes (fin_bl I q dec_byt)
  | _ => exact absurd (show false = true from hs) Bool.false_ne_true
 | _ => cases y <;> exact absurd (show false = true from hs) Bool.false_ne_true
theorem op_ne : OpR X (compareOp .NotEq) rNe := by
 intro pins s σ H x y v u Q I rx ry h
 obtain ⟨hs, q⟩ := h
 cases x with
 | non =>
  cases rx
  cases y with
  | non => cases ry; exact PySem.EqNone.ne_none_none (fin_bl I q (by simp))
  | bl j => cases ry; exact PySem.EqNone.ne_none_bool (fin_bl I q (by simp))
  | int j => obtain ⟨t', rfl⟩ := ry; exact PySem.EqNone.ne_none_int (fin_bl I q (by simp))
  | str j => obtain ⟨t', rfl⟩ := ry; exact PySem.EqNone.ne_none_str (fin_bl I q (by simp))
  | _ => exact absurd (show false = true from hs) Bool.false_ne_true
 | bl i =>
  cases rx
  cases y with
  | non => cases ry; exact PySem.EqNone.ne_bool_none (fin_bl I q (by simp))
  | bl j => cases ry; exact ne_bool (fin_bl I q (congrArg not dec_bl))
  | str j => obtain ⟨t', rfl⟩ := ry; exact PySem.EqMixed.ne_bool_str (fin_bl I q (by simp))
  | _ => exact absurd (show false = true from hs) Bool.false_ne_true
 | int i =>
  obtain ⟨t, rfl⟩ := rx
  cases y with
  | non => cases ry; exact PySem.EqNone.ne_int_none (fin_bl I q (by simp))
  | int j => obtain ⟨t', rfl⟩ := ry; exact ne_int (fin_bl I q (congrArg not dec_int))
  | str j => obtain ⟨t', rfl⟩ := ry; exact PySem.EqMixed.ne_int_str (fin_bl I q (by simp))
  | _ => exact absurd (show false = true from hs) Bool.false_ne_true
 | str i =>
  obtain ⟨t, rfl⟩ := rx
  cases y with
  | non => cases ry; exact PySem.EqNone.ne_str_none (fin_bl I q (by simp))
  | bl j => cases ry; exact PySem.EqMixed.ne_str_bool (fin_bl I q (by simp))
  | int j => obtain ⟨t', rfl⟩ := ry; exact PySem.EqMixed.ne_str_int (fin_bl I q (by simp))
  | str j => obtain ⟨t', rfl⟩ := ry; exact ne_str (fin_bl I q (congrArg not dec_str))
  | _ => exact absurd (show false = true from hs) Bool.false_ne_true
 | byt i =>
  obtain ⟨t, rfl⟩ := rx
  cases y with
  | byt j => obtain ⟨t', rfl⟩ := ry; exact PySem.W.ne_bytes (fin_bl I q (congrArg not dec_byt))
  | _ => exact absurd (show false = true from hs) Bool.false_ne_true
 | _ => cases y <;> exact absurd (show false = true from hs) Bool.false_ne_true
theorem op_lt : OpR X (compareOp .Lt) (rI0 fun i j => .bl (decide (i < j))) := opB0 fun _ _ _ _ _ _ _ q => lt_int q
theorem op_le : OpR X (compareOp .LtE) (rI0 fun i j => .bl (decide (i <= j))) := opB0 fun _ _ _ _ _ _ _ q => le_int q
theorem op_gt : OpR X (compareOp .Gt) (rI0 fun i j => .bl (decide (j < i))) := opB0 fun _ _ _ _ _ _ _ q => gt_int q
theorem op_in_str : OpR X (compareOp .In) (fun x y H Q => ∃ i j, x = .str i /\ y = .str j /\ Q (.bl (!(Builtin.Str.occurrences j i 0 j.length 1).isEmpty)) H) := by
 intro pins s σ H x y v u Q I rx ry h
 obtain ⟨i, j, rfl, rfl, q⟩ := h
 obtain ⟨t, rfl⟩ := rx
 obtain ⟨t', rfl⟩ := ry
 exact in_str (fin_bl I q rfl)
theorem op_isN : OpR X (compareOp .Is) (fun x y H Q => y = .non /\ Q (.bl (decide (x = .non))) H) := by
 intro pins s σ H x y v u Q I rx ry h
 obtain ⟨rfl, q⟩ := h
 cases ry
 refine is_none_gen (fin_bl I q ?_)
 cases x <;> first
  | (cases rx; rfl)
  | (obtain ⟨t, rfl⟩ := rx; rfl)
theorem op_notin_str : OpR X (compareOp .NotIn) (fun x y H Q => ∃ i j, x = .str i /\ y = .str j /\ Q (.bl (!(!(Builtin.Str.occurrences j i 0 j.length 1).isEmpty))) H) := by
 intro pins s σ H x y v u Q I rx ry h
 obtain ⟨i, j, rfl, rfl, q⟩ := h
 obtain ⟨t, rfl⟩ := rx
 obtain ⟨t', rfl⟩ := ry
 exact notIn_str (fin_bl I q rfl)
noncomputable def isObj : HO -> Bool
 | .lst _ => true
 | .ins _ _ _ => true
 | _ => false
theorem nomark (b : Expr) {op : CmpOp} (h : op ≠ .In := by decide) (h2 : op ≠ .NotIn := by decide) : behindInMarks op b = false := by
 have e1 : (op == CmpOp.In) = false := by cases op <;> first | rfl | exact absurd rfl h
 have e2 : (op == CmpOp.NotIn) = false := by cases op <;> first | rfl | exact absurd rfl h2
 cases b <;> simp [behindInMarks, e1, e2]
theorem pe_cmpR {op : CmpOp} {r : R2} (ho : OpR X (compareOp op) r) (ha : PE X a ta) (hb : PE X b tb) (hm : behindInMarks op b = false) : PE X (.Compare a [op] [b] pos) (tOp r ta tb) := by
 intro pins s σ H Q I h
 exact wpAny_Compare1 (binT ha hb I h fun v u s2 x y H2 I2 rx ry q => ho pins s2 σ H2 x y v u Q I2 rx ry q) hm
noncomputable def tTest (t : TE) : TT := fun σ H Q => t σ H fun x H' => BlOf x H' Q
theorem pt_cmpR {op : CmpOp} {r : R2} (ho : OpR X (compareOp op) r) (ha : PE X a ta) (hb : PE X b tb) (hm : behindInMarks op b = false) : PT X (.Compare a [op] [b] pos) (tTest (tOp r ta tb)) := by
 intro pins s σ H Q I h
 refine wpAny_isTrue_Compare1 (thn (ha pins s σ H _ I h) fun v s1 ⟨x, H1, I1, r1, q1⟩ => thn (hb pins s1 σ H1 _ I1 q1) fun u s2 ⟨y, H2, I2, r2, q2⟩ =>
  thn (ho pins s2 σ H2 x y v u _ I2 r1 r2 q2) fun c s3 ⟨z, H3, I3, r3, k, e, q3⟩ => ?_) hm
 subst e
 cases r3
 exact wpAny_truthy_bool ⟨H3, I3, q3⟩
noncomputable def tChain (r r' : R2) (ta tb tc : TE) : TE := fun σ H Q => ta σ H fun x H1 => tb σ H1 fun y H2 => r x y H2 fun z H3 => ∃ k, z = .bl k /\
 (if k = true then tc σ H3 fun w' H4 => r' y w' H4 Q else Q (.bl false) H3)
theorem pt_chain {op op' : CmpOp} {r r' : R2} (ho : OpR X (compareOp op) r) (ho' : OpR X (compareOp op') r') (ha : PE X a ta) (hb : PE X b tb) (hc : PE X c tc)
  (hm : lastMarks [op, op'] [b, c] = false := by with_unfolding_all rfl) : PT X (.Compare a [op, op'] [b, c] pos) (tTest (tChain r r' ta tb tc)) := by
 intro pins s σ H Q I h
 refine isTrue_chain (thn (ha pins s σ H _ I h) fun v s1 ⟨x, H1, I1, r1, q1⟩ => test_link (thn (hb pins s1 σ H1 _ I1 q1) fun u s2 ⟨y, H2, I2, r2, q2⟩ =>
  thn (ho pins s2 σ H2 x y v u _ I2 r1 r2 q2) fun d s3 ⟨z, H3, I3, r3, k, e, q3⟩ => ?_)) hm
 subst e
 cases r3
 refine wpAny_truthy_bool ?_
 cases k with
 | false =>
  obtain ⟨k', e', q'⟩ := q3
  cases e'
  exact ite_ff ⟨H3, I3, q'⟩
 | true =>
  refine ite_tt (test_last (thn (hc pins s3 σ H3 _ I3 q3) fun w' s4 ⟨z', H4, I4, r4, q4⟩ => thn (ho' pins s4 σ H4 y z' u w' _ I4 r2 r4 q4) fun d' s5 ⟨z2, H5, I5, r5, k2, e2, q5⟩ => ?_))
  subst e2
  cases r5
  exact wpAny_truthy_bool ⟨H5, I5, q5⟩
noncomputable def TruV (K : PySem.W.Frag) (x : V) (H : Hp) (k : Bool) : Prop :=
 match x with
 | .non => k = false
 | .bl b => k = b
 | .int i => k = (i != 0)
 | .str y => y.length <= sizeLine /\ k = ((y.length : Int) != 0)
 | .byt y => y.size <= sizeLine /\ k = ((y.size : Int) != 0)
 | .ref p => (∃ xs, SqL K H p xs /\ k = !xs.isEmpty) \/ (∃ xs, SqT K H p xs /\ k = !xs.isEmpty) \/ ∃ kvs, H p = some (.dK kvs) /\ k = !kvs.isEmpty
 | _ => False
theorem line63 : (sizeLine : Nat) < 2 ^ 63 := by rw [sizeLine_eq]; decide
theorem op_add_str : OpR X (binaryOp .Add) (fun x y H Q => ∃ i j, x = .str i /\ y = .str j /\ i.length + j.length <= sizeLine /\ Q (.str (i ++ j)) H) := by
 intro pins s σ H x y v u Q I rx ry h
 obtain ⟨i, j, rfl, rfl, hz, q⟩ := h
 obtain ⟨t, rfl⟩ := rx
 obtain ⟨t', rfl⟩ := ry
 exact add_str (fun t' tk => ⟨.str (i ++ j), H, I.tok _, ⟨_, rfl⟩, q⟩) hz
noncomputable def PlainIxT (b : Expr) : Prop := ∀ o i, subscripted b false o i = operate [o, i] (getItem o i)
theorem vals1 {x : V} {us : List Value} (r : Vals [x] us) : ∃ u, us = [u] /\ RelV x u := by
 cases r with
 | cons r1 r2 => cases r2; exact ⟨_, rfl, r1⟩
theorem vals2 {x y : V} {us : List Value} (r : Vals [x, y] us) : ∃ u w', us = [u, w'] /\ RelV x u /\ RelV y w' := by
 cases r with
 | cons r1 r2 =>
  cases r2 with
  | cons r3 r4 => cases r4; exact ⟨_, _, rfl, r1, r3⟩
theorem call_int1 : CallR X (.type "int") (fun xs H Q => (∃ i, xs = [.int i] /\ Q (.int i) H) \/ ∃ k, xs = [.bl k] /\ Q (.int (if k then 1 else 0)) H) := by
 intro pins s σ H xs us Q I r h
 rcases h with ⟨i, rfl, q⟩ | ⟨k, rfl, q⟩
 ·obtain ⟨u, rfl, t, rfl⟩ := vals1 r
  exact call_int_int ⟨.int i, H, I, ⟨_, rfl⟩, q⟩
 ·obtain ⟨u, rfl, r1⟩ := vals1 r
  cases r1
  exact call_int_bool ⟨.int (if k then 1 else 0), H, I.tok _, ⟨_, rfl⟩, q⟩
theorem call_str_int : CallR X (.type "str") (fun xs H Q => ∃ i, xs = [.int i] /\ i.natAbs.log2 < 1920 /\ Q (.str (toString i)) H) := by
 intro pins s σ H xs us Q I r h
 obtain ⟨i, rfl, hz, q⟩ := h
 obtain ⟨u, rfl, t, rfl⟩ := vals1 r
 exact PySem.P.str_of_int hz ⟨.str _, H, I.tok _, ⟨_, rfl⟩, q⟩
noncomputable def LenV (K : PySem.W.Frag) (x : V) (H : Hp) (n : Nat) : Prop :=
 match x with
 | .str y => y.length <= sizeLine /\ n = y.length
 | .byt y => y.size <= sizeLine /\ n = y.size
 | .ref p => (∃ xs, SqL K H p xs /\ n = xs.length) \/ ∃ xs, SqT K H p xs /\ n = xs.length
 | _ => False
end
end L2
namespace L2
open PySem PySem.Spec PyProof.Rows
structure ObjM (h : Heap) (x dx C : Addr) (mA : Str -> Option Value) : Prop where
 obj : h.get? x = some (PySem.W.instObj C dx)
 ns : h.Ns1 dx mA
 ne : dx ≠ x
set_option tactic.hygienic true in
theorem lookIn_ns {h : Heap} {dx : Addr} {mA : Str -> Option Value} (n : h.Ns1 dx mA) : ∃ od, h.get? dx = some od /\ ∀ name, PySem.W.lookIn name od = some (mA name) := by
 obtain ⟨o, es, ep, ho, hd, hk, _, hm⟩ := n
 refine ⟨o, ho, fun name => ?_⟩
 have e := hm name
 unfold nsFind findBy at e
 rw [<- Array.find?_toList] at e
 unfold PySem.W.lookIn
 rw [hd]
 dsimp only
 split
 ·rename_i y q
  rw [q] at e
  exact congrArg some e
 ·rename_i q
  rw [q] at e
  have a : es.toList.any (·.refKey) = false := by
   rw [List.any_eq_false]
   intro y hy
   obtain ⟨z, t, hkey⟩ := hk y (Array.mem_toList_iff.mp hy)
   simp [DictEntry.refKey, hkey]
  have a' : ¬ es.toList.any (·.refKey) = true := by rw [a]; exact Bool.false_ne_true
  rw [if_neg a']
  exact congrArg some e
theorem ObjM.look {h : Heap} {x dx C : Addr} {mA : Str -> Option Value} (I : ObjM h x dx C mA) : ∃ od, PySem.W.InstAt h x (PySem.W.instObj C dx) C (some od) /\ ∀ name, PySem.W.lookIn name od = some (mA name) :=
 let ⟨od, ho, hl⟩ := lookIn_ns I.ns
 ⟨od, ⟨I.obj, rfl, rfl, ho⟩, hl⟩
section
variable {prog : Program} {w : World} {A : Around} {E : Value -> Shared -> Prop} {s : Shared} {K : PySem.W.Frag} {x dx C f : Addr} {mA : Str -> Option Value} {name : Str} {v : Value}
end
noncomputable def putF (f : Str) (v : V) : List (Str × V) -> List (Str × V)
 | [] => [(f, v)]
 | (g, x) :: r => if g = f then (g, v) :: r else (g, x) :: putF f v r
section
variable {P : Program} {w : World} {H H' : Hp} {h h' : Heap} {a C dx : Addr} {fs fs' : List (Str × V)}
theorem ins_get (hok : HOk P w H h) (e : H a = some (.ins C dx fs)) : ∃ mA, ObjM h a dx C mA /\ (∀ f, RelO (fs.lookup f) (mA f)) /\ PySem.Within mA (fs.map (·.1)) /\ fs.length <= 1000 /\ H dx = some (.own a) := by
 obtain ⟨d, z, ne, ob, mA, n, r, q⟩ := (show ObjOk P w H h a (.ins C dx fs) from hok a _ e)
 exact ⟨mA, ⟨ob, n, ne⟩, r, q, z, d⟩
end
structure Cls (K : PySem.W.Frag) (C : Addr) : Prop where
 pg : PySem.W.plainGet K C Str.empty = true
 hd : PySem.W.hasDictIn K C = true
 po : PySem.W.plainOver K C = true
 sa : PySem.W.findIn K (.ref C) "__setattr__" = some (some (.builtin "object.__setattr__"))
theorem Cls.get {K : PySem.W.Frag} {C : Addr} (c : Cls K C) (f : Str) : PySem.W.plainGet K C f = true := c.pg
noncomputable def NoAttr (K : PySem.W.Frag) (C : Addr) (f : Str) : Prop := PySem.W.findIn K (.ref C) f = some none
structure Con (K : PySem.W.Frag) (C : Addr) (f : Str) (v : V) (u : Value) : Prop where
 at_ : PySem.W.findIn K (.ref C) f = some (some u)
 rel : RelV v u
 get : PySem.W.specialIn K u "__get__" = some none
 cp : PySem.W.copiedNames.contains f = false
structure Meth (K : PySem.W.Frag) (C : Addr) (m : Str) (f : Addr) : Prop where
 at_ : PySem.W.findIn K (.ref C) m = some (some (.ref f))
 fn : PySem.W.isFn K (.ref f) = true
 kp : PySem.W.keepIn K (.ref f) = true
section
variable {X : Cx} {pins : List (Addr × Obj)} {σ : St} {H : Hp} {s : Shared} {a C dx : Addr} {fs : List (Str × V)} {f : Str} {v : V} {A : Around} {E : Value -> Shared -> Prop}
end
noncomputable def tFld (K : PySem.W.Frag) (ta : TE) (f : Str) : TE := fun σ H Q => ta σ H fun x H1 => ∃ a C dx fs v, x = .ref a /\ H1 a = some (.ins C dx fs) /\ Cls K C /\ NoAttr K C f /\ fs.lookup f = some v /\ Q v H1
noncomputable def tCon (K : PySem.W.Frag) (ta : TE) (f : Str) : TE := fun σ H Q => ta σ H fun x H1 => ∃ a C dx fs v u, x = .ref a /\ H1 a = some (.ins C dx fs) /\ Cls K C /\ Con K C f v u /\ fs.lookup f = none /\ Q v H1
noncomputable def sFld (K : PySem.W.Frag) (ta tv : TE) (f : Str) : TS := fun D σ H => tv σ H fun y H1 => ta σ H1 fun x H2 => ∃ a C dx fs, x = .ref a /\ H2 a = some (.ins C dx fs) /\ Cls K C /\ NoAttr K C f /\ fs.length < 1000 /\
 D.nx σ (upd H2 a (.ins C dx (putF f y fs)))
noncomputable def InOp (X : Cx) (op : Operator) (rd : V -> V -> Hp -> VK -> Prop) : Prop :=
 ∀ (pins : List (Addr × Obj)) (s : Shared) (σ : St) (H : Hp) (x y : V) (u v : Value) (Q : VK), Inv X pins σ H s -> RelV x u -> RelV y v -> rd x y H Q -> wpAny (model X.prog X.w) X.A (inplaceOp op u v) (EP X pins σ Q) X.xe s
noncomputable def sFldAug (K : PySem.W.Frag) (ta tv : TE) (rd : V -> V -> Hp -> VK -> Prop) (f : Str) : TS := fun D σ H => ta σ H fun x H1 => ∃ a C dx fs v, x = .ref a /\ H1 a = some (.ins C dx fs) /\ Cls K C /\ NoAttr K C f /\ fs.lookup f = some v /\
 tv σ H1 fun y H2 => rd v y H2 fun z H3 => ∃ dx' fs', H3 a = some (.ins C dx' fs') /\ fs'.length < 1000 /\ D.nx σ (upd H3 a (.ins C dx' (putF f z fs')))
section
variable {X : Cx} {o e value : Expr} {f : Str} {pos pos' tpos : Pos} {ta tv : TE}
noncomputable def rAdd : V -> V -> Hp -> VK -> Prop := fun x y H Q => ∃ i j, x = .int i /\ y = .int j /\ Q (.int (i + j)) H
noncomputable def rSub : V -> V -> Hp -> VK -> Prop := fun x y H Q => ∃ i j, x = .int i /\ y = .int j /\ Q (.int (i - j)) H
end
section
variable {X : Cx} {pins : List (Addr × Obj)} {σ : St} {H : Hp} {s : Shared} {A : Around} {E : Value -> Shared -> Prop} {Q : Value -> Shared -> Prop} {c : Value} {b : Bool}
inductive TyOf (K : PySem.W.Frag) (H : Hp) : V -> Value -> Prop where
 | non : TyOf K H .non (.type "NoneType")
 | bl (x : Bool) : TyOf K H (.bl x) (.type "bool")
 | int (i : Int) : TyOf K H (.int i) (.type "int")
 | str (x : Str) : TyOf K H (.str x) (.type "str")
 | flt (x : UInt64) : TyOf K H (.flt x) (.type "float")
 | lst {a : Addr} {xs : List V} (e : H a = some (.lst xs)) : TyOf K H (.ref a) (.type "list")
 | frz {a : Addr} {o : Obj} {xs : List V} (e : H a = some (.frz o (.lst xs))) : TyOf K H (.ref a) (.type "list")
 | tup {a : Addr} {xs : List V} (e : H a = some (.tup xs)) : TyOf K H (.ref a) (.type "tuple")
 | dK {a : Addr} {kvs : List (Key × V)} (e : H a = some (.dK kvs)) : TyOf K H (.ref a) (.type "dict")
 | dT {a : Addr} {kvs : List (List Key × V)} (e : H a = some (.dT kvs)) : TyOf K H (.ref a) (.type "dict")
 | ins {a C dx : Addr} {fs : List (Str × V)} (e : H a = some (.ins C dx fs)) (cl : Cls K C) (ha : PySem.W.findIn K (.ref C) "__class__" = some (some (.builtin "object.__class__")))
   (hn : PySem.W.specialIn K (.builtin "object.__class__") "__get__" = some (some (.builtin "getset_descriptor.__get__"))) (htk : PySem.W.takesIn K (.builtin "object.__class__") = some true)
   (hm : PySem.W.mroIn K C (.type "object") = some true) : TyOf K H (.ref a) (.ref C)
theorem isinst_ok {x : V} {u t : Value} (I : Inv X pins σ H s) (rx : RelV x u) (ty : TyOf X.K H x t) (e : PySem.W.kitOne X.K t c = some b) (h : ∀ tk, Q (.bool b) { s with toks := tk }) :
  wpAny (model X.prog X.w) A (call (.builtin "isinstance") [u, c]) Q E s := by
 cases ty with
 | non => cases (show u = Value.none from rx); exact PySem.W.kia_one PySem.W.kitx_none I.kIn True.intro e (fun z => nomatch z) h
 | bl y => cases (show u = Value.bool y from rx); exact PySem.W.kia_one PySem.W.kitx_bool I.kIn True.intro e (fun z => nomatch z) h
 | int i => obtain ⟨t, q⟩ := (show ∃ t, u = Value.int i t from rx); cases q; exact PySem.W.kia_one PySem.W.kitx_int I.kIn True.intro e (fun z => nomatch z) h
 | str y => obtain ⟨t, q⟩ := (show ∃ t, u = Value.str y t from rx); cases q; exact PySem.W.kia_one PySem.W.kitx_str I.kIn True.intro e (fun z => nomatch z) h
 | flt y => obtain ⟨t, q⟩ := (show ∃ t, u = Value.float y t from rx); cases q; exact PySem.W.kia_one PySem.W.kitx_float I.kIn True.intro e (fun z => nomatch z) h
 | @lst a xs ea =>
  cases (show u = Value.ref a from rx)
  obtain ⟨_, _, n, _, h1⟩ := (show ObjOk X.prog X.w H s.heap a (.lst xs) from I.hok a _ ea)
  exact PySem.W.kia_one PySem.W.kitx_list I.kIn ⟨_, h1, rfl⟩ e (fun z => nomatch z) h
 | @frz a ob xs ea =>
  cases (show u = Value.ref a from rx)
  obtain ⟨_, _, _, n, _, h1⟩ := (show ObjOk X.prog X.w H s.heap a (.frz ob (.lst xs)) from I.hok a _ ea)
  exact PySem.W.kia_one PySem.W.kitx_list I.kIn ⟨_, h1, rfl⟩ e (fun z => nomatch z) h
 | @tup a xs ea =>
  cases (show u = Value.ref a from rx)
  obtain ⟨_, _, _, p⟩ := (show ObjOk X.prog X.w H s.heap a (.tup xs) from I.hok a _ ea)
  obtain ⟨o, h1, h2, _⟩ := p
  exact PySem.W.kia_one PySem.W.kitx_tuple I.kIn ⟨o, h1, h2⟩ e (fun z => nomatch z) h
 | @dK a kvs ea =>
  cases (show u = Value.ref a from rx)
  obtain ⟨_, _, vs, _, p⟩ := (show ObjOk X.prog X.w H s.heap a (.dK kvs) from I.hok a _ ea)
  obtain ⟨o, es, ep, h1, h2, _⟩ := p
  exact PySem.W.kia_one PySem.W.kitx_dict I.kIn ⟨o, h1, h2.1⟩ e (fun z => nomatch z) h
 | @dT a kvs ea =>
  cases (show u = Value.ref a from rx)
  obtain ⟨_, _, xs, _, o, es, ep, h1, h2, _⟩ := (show ObjOk X.prog X.w H s.heap a (.dT kvs) from I.hok a _ ea)
  exact PySem.W.kia_one PySem.W.kitx_dict I.kIn ⟨o, h1, h2.1⟩ e (fun z => nomatch z) h
 | @ins a C dx fs ea cl ha hn htk hm =>
  cases (show u = Value.ref a from rx)
  obtain ⟨mA, O, _⟩ := ins_get I.hok ea
  obtain ⟨od, J, _⟩ := O.look
  exact PySem.W.kia_one (PySem.W.kitx_own (cl.get _) cl.hd ha hn htk hm) I.kIn J e (fun z => nomatch z) h
end
end L2
namespace L2
open PySem PySem.Spec PyProof.Rows
structure Room (k : Nat) (A : Around) : Prop where
 hd : A.handled = none
 dp : A.depth + 3 * k + 5 < recursionLimit
 un : A.units + 16 * k + 200 < cLine
theorem Room.mono {j k : Nat} {A : Around} (r : Room k A) (h : j <= k) : Room j A := ⟨r.hd, by have := r.dp; omega, by have := r.un; omega⟩
theorem Room.deeper {k : Nat} {A : Around} (r : Room (k + 1) A) (env : Env) : Room k (A.deeper env) :=
 ⟨r.hd, by have := r.dp; show A.depth + 1 + 3 * k + 5 < _; omega, by have := r.un; show A.units + 3 + 16 * k + 200 < _; omega⟩
theorem Room.depth {k : Nat} {A : Around} (r : Room k A) : A.depth < recursionLimit := by have := r.dp; omega
theorem Room.units {k : Nat} {A : Around} (r : Room k A) : A.units + 64 < cLine := by have := r.un; omega
noncomputable def tNil : TA := fun _ H Q => Q [] H
noncomputable def tCons (ta : TE) (tr : TA) : TA := fun σ H Q => ta σ H fun x H1 => tr σ H1 fun xs H2 => Q (x :: xs) H2
section
variable {X : Cx} {e : Expr} {es : List Expr} {te : TE} {t : TA} {pos : Pos}
theorem pa_nil : PA X [] tNil := fun _ _ _ _ H Q I h => Calls.spliced_nil ⟨[], H, I, .nil, h⟩
theorem pa_cons (ha : PE X e te) (hr : PA X es t) (hs : starEach (e :: es) X.env = (false, eval e X.env) :: starEach es X.env := by rfl) : PA X (e :: es) (tCons te t) := by
 intro pos pins s σ H Q I h
 rw [hs]
 show wpAny _ _ (spliced ((false, eval e X.env) :: backTo pos (starEach es X.env))) _ _ s
 refine Calls.spliced_cons (thn (ha pins s σ H _ I h) fun u s1 ⟨x, H1, I1, r1, q1⟩ => ?_)
 exact thn (hr pos pins s1 σ H1 _ I1 q1) fun us s2 ⟨xs, H2, I2, r2, q2⟩ => ⟨x :: xs, H2, I2, .cons r1 r2, q2⟩
noncomputable def tTup (t : TA) : TE := fun σ H Q => t σ H fun xs H1 => xs.length <= sizeLine /\ ∀ p, H1 p = none -> Q (.ref p) (upd H1 p (.tup xs))
noncomputable def tLst (t : TA) : TE := fun σ H Q => t σ H fun xs H1 => xs.length <= sizeLine /\ ∀ p, H1 p = none -> Q (.ref p) (upd H1 p (.lst xs))
theorem pe_tup {x1} (h : PA X es t) : PE X (.Tuple es x1 pos) (tTup t) := by
 intro pins s σ H Q I hq
 refine wpAny_Tuple_spliced (thn (h pos pins s σ H _ I hq) fun us s1 ⟨xs, H1, I1, r, z, q⟩ => ⟨by rw [<- r.length]; exact z, ?_⟩)
 have hf : H1 s1.heap.objs.size = none := I1.hok.fresh (Nat.le_refl _)
 refine ⟨.ref s1.heap.objs.size, upd H1 s1.heap.objs.size (.tup xs), I1.laid (t' := s1.toks) (fun b u e => Heap.get?_push_of_some _ e) (Nat.le_refl _) ?_, rfl, q _ hf⟩
 exact ⟨z, us, r, ⟨_, Heap.get?_push_size _ rfl, rfl, _, rfl⟩⟩
theorem pe_lst (h : PA X es t) : PE X (.List es pos) (tLst t) := by
 intro pins s σ H Q I hq
 refine wpAny_List_spliced (thn (h pos pins s σ H _ I hq) fun us s1 ⟨xs, H1, I1, r, z, q⟩ => ⟨by rw [<- r.length]; exact z, ?_⟩)
 have hf : H1 s1.heap.objs.size = none := I1.hok.fresh (Nat.le_refl _)
 refine ⟨.ref s1.heap.objs.size, upd H1 s1.heap.objs.size (.lst xs), I1.laid (t' := s1.toks) (fun b u e => Heap.get?_push_of_some _ e) (Nat.le_refl _) ?_, rfl, q _ hf⟩
 exact ⟨z, us, 0, r, Heap.get?_push_size _ rfl⟩
end
noncomputable abbrev Sp := List V -> Hp -> VK -> XK -> Prop
noncomputable abbrev CXT := List Env -> Hp -> Shared -> XK -> Value -> Shared -> Prop
structure Env0 (P : Program) (w : World) (K : PySem.W.Frag) (mg : Str -> Option Value) (base : Heap) (A : Around) (outer : List Env) (s : Shared) (H : Hp) : Prop where
 frames : A.frames = some outer
 mod : Mod K mg base
 bs : ∀ b o, base.get? b = some o -> s.heap.get? b = some o /\ H b = none
 bsz : base.objs.size <= s.heap.objs.size
 funs : s.heap.FunFrames base outer
 frf : ∀ b ∈ frs outer, H b = none
 hok : HOk P w H s.heap
 bare : AllBare s.gens
noncomputable def CE (outer : List Env) (P : Program) (w : World) (H : Hp) (s : Shared) (Q : VK) (u : Value) (s' : Shared) : Prop :=
 ∃ v H', s'.os = s.os /\ AllBare s'.gens /\ Un (frs outer) [] H H' s.heap s'.heap /\ HOk P w H' s'.heap /\ RelV v u /\ Q v H'
noncomputable def CR (CX : CXT) (outer : List Env) (P : Program) (w : World) (H : Hp) (s : Shared) (Q : VK) (E : XK) (r : Result) (s' : Shared) : Prop :=
 match r with
 | .ok (.ret u) => CE outer P w H s Q u s'
 | .ok _ => False
 | .error e => CX outer H s E e s'
structure FnOk (P : Program) (w : World) (K : PySem.W.Frag) (mg : Str -> Option Value) (base : Heap) (CX : CXT) (k : Nat) (f : Addr) (fd : FuncData) (ps : List Str) (sp : Sp) : Prop where
 len : ∀ vs H Q E, sp vs H Q E -> vs.length = ps.length
 run : ∀ (A : Around) (outer : List Env) (s : Shared) (H : Hp) (args : Args) (us : List Value) (vs : List V) (Q : VK) (E : XK), Room k A -> Env0 P w K mg base A outer s H -> BindsTo s fd args (ps.zip us) -> Vals vs us -> sp vs H Q E ->
  codeAny (model P w) A (.call (.ref f) args) (CR CX outer P w H s Q E) s
section
variable {X : Cx} {pins : List (Addr × Obj)} {σ : St} {H : Hp} {s s' : Shared}
theorem Inv.env0 (I : Inv X pins σ H s) : Env0 X.prog X.w X.K X.mg X.base X.A X.stack s H :=
 ⟨I.ok.frames, I.ok.mod, I.bs, Nat.le_trans I.ok.bsz I.sz, I.stack, I.stkFree, I.hok, I.bare⟩
theorem Inv.after {Q : VK} {u : Value} (I : Inv X pins σ H s) (h : CE X.stack X.prog X.w H s Q u s') : EP X pins σ Q u s' := by
 obtain ⟨v, H', os, bare, un, hok, r, q⟩ := h
 obtain ⟨hh, g, d, t, os'⟩ := s'
 obtain rfl : os' = s.os := os
 exact ⟨v, H', I.call (h' := hh) (g' := g) (d' := d) (t' := t) (ch := []) un hok bare (fun b z => absurd z (by simp)), r, q⟩
end
noncomputable def tCall (sp : Sp) (dvs : List V) (E : XK) (t : TA) : TE := fun σ H Q => t σ H fun vs H1 => sp (vs ++ dvs) H1 Q E
noncomputable def tMeth (C : Addr) (m : Str) (sp : Sp) (dvs : List V) (E : XK) (ta : TE) (t : TA) : TE := fun σ H Q => ta σ H fun x H1 => ∃ a dx fs, x = .ref a /\ H1 a = some (.ins C dx fs) /\ fs.lookup m = none /\
 t σ H1 fun vs H2 => sp (x :: (vs ++ dvs)) H2 Q E
noncomputable def tMake (C : Addr) (sp : Sp) (dvs : List V) (E : XK) (t : TA) : TE := fun σ H Q => t σ H fun vs H1 => ∀ x dx, H1 x = none -> H1 dx = none -> dx ≠ x ->
 sp (.ref x :: (vs ++ dvs)) (upd (upd H1 dx (.own x)) x (.ins C dx [])) (fun v H2 => v = .non /\ Q (.ref x) H2) E
noncomputable def Binds (K : PySem.W.Frag) (fd : FuncData) (ps : List Str) (ds : List Value) : Prop :=
 ∀ (s : Shared) (us : List Value), K.In s.heap -> (us ++ ds).length = ps.length -> BindsTo s fd ⟨us, []⟩ (ps.zip (us ++ ds))
theorem Binds.all {K : PySem.W.Frag} {fd : FuncData} {ps : List Str} (h : ∀ us : List Value, us.length = ps.length -> bindArgs fd ⟨us, []⟩ = pure (ps.zip us)) : Binds K fd ps [] := fun s us _ hl => by
 rw [List.append_nil] at hl ⊢
 exact .of_eq (h us hl)
noncomputable def Passes (CX : CXT) (X : Cx) (E : XK) : Prop := ∀ (pins : List (Addr × Obj)) (σ : St) (H : Hp) (s : Shared) (e : Value) (s' : Shared), Inv X pins σ H s -> CX X.stack H s E e s' -> X.xe e s'
section
variable {X : Cx} {CX : CXT} {k : Nat} {f C : Addr} {fd : FuncData} {ps : List Str} {sp : Sp} {dvs : List V} {ds : List Value} {E : XK} {x m : Str} {p pos apos : Pos} {e o : Expr} {es : List Expr} {ta : TE} {t : TA}
set_option tactic.hygienic true in
theorem run_fn {pins : List (Addr × Obj)} {σ : St} {H : Hp} {s : Shared} {Q : VK} {us : List Value} {vs : List V} (F : FnOk X.prog X.w X.K X.mg X.base CX k f fd ps sp) (hr : Room k X.A) (hb : Binds X.K fd ps ds) (hd : Vals dvs ds) (hx : Passes CX X E)
  (I : Inv X pins σ H s) (r : Vals vs us) (h : sp (vs ++ dvs) H Q E) : wpAny (model X.prog X.w) X.A (call (.ref f) us) (EP X pins σ Q) X.xe s := by
 have r2 : Vals (vs ++ dvs) (us ++ ds) := r.append hd
 have hl : (us ++ ds).length = ps.length := by rw [<- r2.length]; exact F.len _ _ _ _ h
 refine wpAny_call (codeAny_mono (F.run X.A X.stack s H ⟨us, []⟩ (us ++ ds) (vs ++ dvs) Q E hr I.env0 (hb s us I.kIn hl) r2 h) fun r s' hq => ?_)
 cases r with
 | error e => exact hx pins σ H s e s' I hq
 | ok fl =>
  cases fl with
  | ret u => exact I.after hq
  | next => exact False.elim hq
  | brk => exact False.elim hq
  | cont => exact False.elim hq
theorem pe_call (F : FnOk X.prog X.w X.K X.mg X.base CX k f fd ps sp) (hr : Room k X.A) (hg : Gl X x) (hm : X.mg x = some (.ref f)) (hk : PySem.W.keepIn X.K (.ref f) = true) (hb : Binds X.K fd ps ds) (hd : Vals dvs ds) (hx : Passes CX X E)
  (ha : PA X (e :: es) t) (hdb : (x == ("__debug__" : Str)) = false := by decide) (he : starEach (e :: es) X.env = (false, eval e X.env) :: starEach es X.env := by rfl) (hpl : (backTo pos (starEach es X.env)).any (·.1) = false := by rfl) :
  PE X (.Call (.Name x p) (e :: es) [] pos) (tCall sp dvs E t) := by
 intro pins s σ H Q I h
 refine wpAny_Call_Name_kw (ld_glob I hg hm ?_ hdb)
 refine PySem.W.callWith_K (h₀ := X.base) I.ok.mod.kin hk (thn (ha pos pins s σ H _ I h) fun us s1 ⟨vs, H1, I1, r, q⟩ => ⟨I1.kIn, ?_⟩) he hpl
 exact run_fn F hr hb hd hx I1 r q
structure Mk (K : PySem.W.Frag) (C f : Addr) : Prop where
 makes : PySem.W.makesIn K C = true
 init : PySem.W.findIn K (.ref C) "__init__" = some (some (.ref f))
 fn : PySem.W.isFn K (.ref f) = true
 kp : PySem.W.keepIn K (.ref C) = true
end
noncomputable def PK (X : Cx) (kws : List Keyword) (t : TA) : Prop :=
 ∀ (pos : Pos) (pins : List (Addr × Obj)) (s : Shared) (σ : St) (H : Hp) (Q : List V -> Hp -> Prop), Inv X pins σ H s -> t σ H Q -> wpAny (model X.prog X.w) X.A (evalAll ((backToKw pos (keywordEach kws X.env)).map (·.2))) (AP X pins σ Q) X.xe s
section
variable {X : Cx} {CX : CXT} {k : Nat} {f C : Addr} {fd : FuncData} {ps ks : List Str} {sp : Sp} {E : XK} {x m : Str} {p pos apos kpos : Pos} {e o : Expr} {es : List Expr} {kws : List Keyword} {te ta : TE} {t tk : TA} {nm : Option Str}
structure KBinds (K : PySem.W.Frag) (fd : FuncData) (ps ks : List Str) (g : List Value -> List Value -> List Value) (gV : List V -> List V -> List V) : Prop where
 to : ∀ (s : Shared) (us ws : List Value), K.In s.heap -> (g us ws).length = ps.length -> BindsTo s fd ⟨us, ks.zip ws⟩ (ps.zip (g us ws))
 rel : ∀ {vs : List V} {us : List Value} {zs : List V} {ws : List Value}, Vals vs us -> Vals zs ws -> Vals (gV vs zs) (g us ws)
noncomputable def tCallK (sp : Sp) (gV : List V -> List V -> List V) (E : XK) (t tk : TA) : TE := fun σ H Q => t σ H fun vs H1 => tk σ H1 fun zs H2 => sp (gV vs zs) H2 Q E
variable {g : List Value -> List Value -> List Value} {gV : List V -> List V -> List V}
end
structure FnScope (N P : List Str) (sc : Scope) : Prop where
 kind : sc.kind = .function
 co : sc.isCoroutine = false
 gen : sc.isGenerator = false
 nd : N.Nodup
 pre : N.take P.length = P
 par : ∀ x ∈ P, sc.names.lookup x = some .local \/ sc.names.lookup x = some .cell
 nofree : ∀ y ∈ sc.names, y.2 ≠ .free
theorem bindL_out {kindOf : Str -> Option NameKind} {x : Str} : ∀ {binds : List (Str × Value)} {m : Str -> Option Value}, (∀ v, (x, v) ∉ binds) -> bindL kindOf binds m x = m x
 | [], _, _ => rfl
 | (n, v) :: r, m, h => by
  unfold bindL
  rw [bindL_out fun w hw => h w (List.mem_cons_of_mem _ hw)]
  split
  ·have : x ≠ n := by rintro rfl; exact h v List.mem_cons_self
   simp [this]
  ·rfl
theorem bindC_out {kindOf : Str -> Option NameKind} {x : Str} : ∀ {binds : List (Str × Value)} {m : Str -> Option Value}, (∀ v, (x, v) ∉ binds) -> bindC kindOf binds m x = m x
 | [], _, _ => rfl
 | (n, v) :: r, m, h => by
  unfold bindC
  rw [bindC_out fun w hw => h w (List.mem_cons_of_mem _ hw)]
  split
  ·rfl
  ·have : x ≠ n := by rintro rfl; exact h v List.mem_cons_self
   simp [this]
theorem bindL_get {kindOf : Str -> Option NameKind} {x : Str} {v : Value} : ∀ {P : List Str} {vs : List Value} {i : Nat} {m : Str -> Option Value}, P.Nodup -> P[i]? = some x -> vs[i]? = some v -> kindOf x = some .local ->
  bindL kindOf (P.zip vs) m x = some v
 | [], _, _, _, _, h, _, _ => by simp at h
 | _ :: _, [], _, _, _, _, h, _ => by simp at h
 | p :: P, w :: vs, 0, m, nd, h1, h2, hk => by
  simp at h1 h2; subst h1; subst h2
  show bindL kindOf ((p, w) :: P.zip vs) m p = _
  unfold bindL
  rw [bindL_out fun v hv => (List.nodup_cons.mp nd).1 (List.of_mem_zip hv).1, if_pos hk]
  simp
 | p :: P, w :: vs, i + 1, m, nd, h1, h2, hk => by
  show bindL kindOf ((p, w) :: P.zip vs) m x = _
  unfold bindL
  exact bindL_get (i := i) (List.nodup_cons.mp nd).2 (by simpa using h1) (by simpa using h2) hk
theorem bindC_get {kindOf : Str -> Option NameKind} {x : Str} {v : Value} : ∀ {P : List Str} {vs : List Value} {i : Nat} {m : Str -> Option Value}, P.Nodup -> P[i]? = some x -> vs[i]? = some v -> kindOf x ≠ some .local ->
  bindC kindOf (P.zip vs) m x = some v
 | [], _, _, _, _, h, _, _ => by simp at h
 | _ :: _, [], _, _, _, _, h, _ => by simp at h
 | p :: P, w :: vs, 0, m, nd, h1, h2, hk => by
  simp at h1 h2; subst h1; subst h2
  show bindC kindOf ((p, w) :: P.zip vs) m p = _
  unfold bindC
  rw [bindC_out fun v hv => (List.nodup_cons.mp nd).1 (List.of_mem_zip hv).1, if_neg hk]
  simp
 | p :: P, w :: vs, i + 1, m, nd, h1, h2, hk => by
  show bindC kindOf ((p, w) :: P.zip vs) m x = _
  unfold bindC
  exact bindC_get (i := i) (List.nodup_cons.mp nd).2 (by simpa using h1) (by simpa using h2) hk
noncomputable def start (N : List Str) (vs : List V) : St := vs.map some ++ List.replicate (N.length - vs.length) none
noncomputable def cxOf (CX : CXT) (P : Program) (w : World) (K : PySem.W.Frag) (mg : Str -> Option Value) (base : Heap) (N : List Str) (qual : Str) (scope : Scope) (f : Addr) (cd : Value) (A : Around) (outer : List Env) (s : Shared) (H : Hp) (E : XK) : Cx where
 prog := P
 w := w
 K := K
 mg := mg
 base := base
 A := A.deeper (envOfC qual scope s.heap.objs.size f cd)
 N := N
 s₀ := s
 H₀ := H
 env := envOfC qual scope s.heap.objs.size f cd
 outer := outer
 stack := envOfC qual scope s.heap.objs.size f cd :: outer
 ex := []
 calm := true
 fn := fun _ => true
 pn := []
 xe := fun e s' => wpAny (model P w) (A.deeper (envOfC qual scope s.heap.objs.size f cd)) (leaving (envOfC qual scope s.heap.objs.size f cd) e) (fun _ s'' => CX outer H s E e s'') (fun e' s'' => CX outer H s E e' s'') s'
theorem cell_has {sc : Scope} {n : Nat} {x : Str} (h : sc.names.lookup x = some .cell) : ∃ c, (cellsFrom n sc.names []).lookup x = some c := by
 have q := PySem.W.cellsFrom_some sc.names n [] (.inl h)
 exact Option.isSome_iff_exists.mp q
theorem inv_start {CX : CXT} {P : Program} {w : World} {K : PySem.W.Frag} {mg : Str -> Option Value} {base : Heap} {N ps : List Str} {qual : Str} {scope : Scope} {f : Addr} {cd : Value} {A : Around} {outer : List Env} {s s1 : Shared} {H : Hp} {E : XK} {us : List Value} {vs : List V}
  (S : FnScope N ps scope) (hd : A.handled = none) (e0 : Env0 P w K mg base A outer s H) (hl : vs.length = ps.length) (r : Vals vs us)
  (x : InCallC s s.heap.objs.size (bindL (envOfC qual scope s.heap.objs.size f cd).kindOf (ps.zip us) fun _ => none) (cellsFrom (s.heap.objs.size + 1) scope.names []) (bindC (envOfC qual scope s.heap.objs.size f cd).kindOf (ps.zip us) fun _ => none) s1) :
  Inv (cxOf CX P w K mg base N qual scope f cd A outer s H E) [] (start N vs) H s1 := by
 have hpl : ps.length <= N.length := by have := congrArg List.length S.pre; rw [List.length_take] at this; omega
 obtain ⟨h1, tk, rfl, hk⟩ := x.done
 have noA : ∀ b : Addr, b ∉ (cxOf CX P w K mg base N qual scope f cd A outer s H E).ex := fun b z => absurd (show b ∈ ([] : List Addr) from z) (by simp)
 refine ⟨⟨e0.mod, S.kind, rfl, rfl, Nat.le_refl _, fun y z c h1 h2 => ?_, fun y hy => ?_, fun y c _ h => ?_, fun _ => hd, Around.frames_deeper e0.frames, .inr ⟨rfl, rfl⟩, fun b z => absurd z (noA b), e0.bs, e0.bsz, fun b _ _ => noA b, fun b z => absurd z (noA b), e0.funs, e0.frf⟩,
  rfl, e0.bare, Un.kept hk, ⟨_, x.toInCall.ns, fun i y v h1 h2 h3 => ?_⟩, fun y c h => ⟨_, x.cell y c h⟩, e0.hok.fresh (Nat.le_refl _), fun y c h => ?_, fun p hp => absurd (show p ∈ ([] : List (Addr × Obj)) from hp) (by simp), e0.hok.kept hk, ?_⟩
 ·exact name_of_addr x.apart (PySem.mem_of_lookup h1) (PySem.mem_of_lookup h2)
 ·have hy : scope.names.lookup y = some .cell \/ scope.names.lookup y = some .free := hy
  rcases hy with hy | hy
  ·exact cell_has hy
  ·exact absurd rfl (S.nofree _ (PySem.mem_of_lookup hy))
 ·exact Nat.le_of_lt (x.above y c (PySem.mem_of_lookup h))
 ·have hi : i < vs.length := by
   unfold start at h2
   by_cases hi : i < vs.length
   ·exact hi
   ·rw [List.getElem?_append_right (by simpa using hi)] at h2
    rw [List.getElem?_replicate] at h2
    split at h2 <;> cases h2
  have ha : vs[i]? = some v := by
   unfold start at h2
   rw [List.getElem?_append_left (by simpa using hi), List.getElem?_map] at h2
   cases e : vs[i]? with
   | none => rw [e] at h2; cases h2
   | some a => rw [e] at h2; cases h2; rfl
  obtain ⟨u, hu, rv⟩ := r.get ha
  have hp : ps[i]? = some y := by
   rw [<- S.pre, List.getElem?_take_of_lt (by omega)]; exact h1
  have ndP : ps.Nodup := by rw [<- S.pre]; exact S.nd.sublist (List.take_sublist _ _)
  refine ⟨u, rv, ?_⟩
  rcases S.par y (List.mem_of_getElem? hp) with k | k
  ·exact .inl ⟨k, bindL_get ndP hp hu k⟩
  ·obtain ⟨c, e⟩ := cell_has (n := s.heap.objs.size + 1) k
   refine .inr ⟨.inl k, c, e, ?_⟩
   have q := x.cell y c e
   rw [bindC_get ndP hp hu (by show scope.names.lookup y ≠ _; rw [k]; decide)] at q
   exact q
 ·exact e0.hok.fresh (Nat.le_of_lt (x.above y c (PySem.mem_of_lookup h)))
 ·unfold start
  show _ = N.length
  rw [List.length_append, List.length_map, List.length_replicate]
  omega
set_option tactic.hygienic true in
theorem fn_of {CX : CXT} {P : Program} {w : World} {K : PySem.W.Frag} {mg : Str -> Option Value} {base : Heap} {k : Nat} {f : Addr} {name qual : Str} {params : Arguments} {body : List Stmt} {scope : Scope} {dV kV doc pm cdv ct oc : Value} {an od : Option Addr}
  {osl : Array (Option Value)} {N ps : List Str} {sp : Sp} (lk : K.lookup f = some ⟨oc, od, .func (PySem.W.fnOf name qual params body scope dV kV doc pm an cdv ct), osl⟩) (hcd : PySem.W.codeIn K cdv qual = true) (S : FnScope N ps scope)
  (len : ∀ vs H Q E, sp vs H Q E -> vs.length = ps.length)
  (hbody : ∀ (A : Around) (outer : List Env) (s : Shared) (H : Hp) (vs : List V) (Q : VK) (E : XK), Room k (A.deeper (envOfC qual scope s.heap.objs.size f cdv)) -> sp vs H Q E ->
   ∃ t, PSs (cxOf CX P w K mg base N qual scope f cdv A outer s H E) body t /\ t { nx := fun _ H' => Q .non H', rt := Q } (start N vs) H) :
  FnOk P w K mg base CX (k + 1) f (PySem.W.fnOf name qual params body scope dV kV doc pm an cdv ct) ps sp := by
 refine ⟨len, fun A outer s H args us vs Q E hr e0 hb r hsp => ?_⟩
 have hl := len _ _ _ _ hsp
 have KX : K.In s.heap := e0.mod.kin.keeps fun b o e => (e0.bs b o e).1
 have lim : s.heap.NoLimit := e0.mod.nolimit.keeps fun b o e => (e0.bs b o e).1
 have hkind : ∀ y ∈ ps.zip us, scope.names.lookup y.1 = some .local \/ (scope.names.lookup y.1 = some .cell /\ ((cellsFrom (s.heap.objs.size + 1) scope.names []).lookup y.1).isSome = true) := fun ⟨n, v⟩ hy => by
  rcases S.par n (List.of_mem_zip hy).1 with q | q
  ·exact .inl q
  ·exact .inr ⟨q, PySem.W.cellsFrom_some _ _ _ (.inl q)⟩
 refine codeAny_call_function hr.depth (KX _ _ lk) rfl S.co S.gen rfl (PySem.W.codeRec_of KX hcd) (hb _ _ _ _ ?_)
 refine wpAny_newFunctionEnv_cells S.kind hkind fun env he s1 x => ?_
 subst he
 refine ⟨lim.keeps x.toInCall.keep, codeAny_func ?_⟩
 obtain ⟨t, ht, hq⟩ := hbody A outer s H vs Q E (hr.deeper _) hsp
 have I : Inv (cxOf CX P w K mg base N qual scope f cdv A outer s H E) [] (start N vs) H s1 := inv_start S hr.hd e0 hl r x
 refine wpAny_mono (ht [] s1 (start N vs) H _ I hq) (fun fl s' hs => ?_) fun e s' hs => hs
 have fin : ∀ {σ' : St} {H' : Hp} {v : V} {u : Value}, Inv (cxOf CX P w K mg base N qual scope f cdv A outer s H E) [] σ' H' s' -> RelV v u -> Q v H' -> CE outer P w H s Q u s' :=
  fun {σ' H' v u} J rv q => ⟨v, H', J.os, J.bare, J.base, J.hok, rv, q⟩
 cases fl with
 | ret u =>
  obtain ⟨v, σ', H', J, rv, q⟩ := hs
  exact fin J rv q
 | next =>
  obtain ⟨σ', H', J, q⟩ := hs
  exact fin (v := V.non) (u := Value.none) J rfl q
 | brk =>
  obtain ⟨_, _, _, q⟩ := hs
  exact False.elim q
 | cont =>
  obtain ⟨_, _, _, q⟩ := hs
  exact False.elim q
end L2
namespace L2
open PySem PySem.Spec PyProof.Rows
section
variable {X : Cx} {x : Str} {p pos : Pos} {e : Expr} {es : List Expr} {t : TA} {id T : String} {r : List V -> Hp -> VK -> Prop}
noncomputable def tCB (r : List V -> Hp -> VK -> Prop) (t : TA) : TE := fun σ H Q => t σ H fun vs H1 => r vs H1 Q
theorem pe_callB (hc : CallR X (.builtin id) r) (hg : Gl X x) (hm : X.mg x = none) (hv : bootBuiltins x = some (.builtin id)) (ha : PA X (e :: es) t) (hn : x ≠ "__name__" := by decide) (hdb : (x == ("__debug__" : Str)) = false := by decide)
  (he : starEach (e :: es) X.env = (false, eval e X.env) :: starEach es X.env := by rfl) (hpl : (backTo pos (starEach es X.env)).any (·.1) = false := by rfl) : PE X (.Call (.Name x p) (e :: es) [] pos) (tCB r t) := by
 intro pins s σ H Q I h
 refine wpAny_Call_Name_kw (ld_blt I hg hm hv ?_ hn hdb)
 exact PyProof.Rows.callWith_builtin1 (thn (ha pos pins s σ H _ I h) fun us s1 ⟨vs, H1, I1, r1, q1⟩ => hc pins s1 σ H1 vs us Q I1 r1 q1) he hpl
theorem pe_callTy (hc : CallR X (.type T) r) (hg : Gl X x) (hm : X.mg x = none) (hv : bootBuiltins x = some (.type T)) (ha : PA X (e :: es) t) (hn : x ≠ "__name__" := by decide) (hdb : (x == ("__debug__" : Str)) = false := by decide)
  (he : starEach (e :: es) X.env = (false, eval e X.env) :: starEach es X.env := by rfl) (hpl : (backTo pos (starEach es X.env)).any (·.1) = false := by rfl) : PE X (.Call (.Name x p) (e :: es) [] pos) (tCB r t) := by
 intro pins s σ H Q I h
 refine wpAny_Call_Name_kw (ld_blt I hg hm hv ?_ hn hdb)
 exact PyProof.Rows.callWith_type1 (thn (ha pos pins s σ H _ I h) fun us s1 ⟨vs, H1, I1, r1, q1⟩ => hc pins s1 σ H1 vs us Q I1 r1 q1) he hpl
end
end L2
namespace HT
open PySem PyProof.Rows
noncomputable def lexLt : List Int -> List Int -> Bool
 | [], [] => false
 | [], _ :: _ => true
 | _ :: _, [] => false
 | x :: xs, y :: ys => if x = y then lexLt xs ys else decide (x < y)
section
open PySem.SeqAt
open PySem.AutoSeq1 (wpAny_loadPart')
open PySem.MeetsSeq PySem.MeetsSeq2 PySem.MeetsSeq3
end
section
variable {prog : Program} {w : World} {A : Around} {E : Value -> Shared -> Prop} {s : Shared}
noncomputable def sIx (n d : Nat) : Option Int -> Nat
 | none => d
 | some v => if v < 0 then (v + (n : Int)).toNat else min v.toNat n
theorem sIx_none (n d : Nat) : sIx n d none = d := rfl
theorem sIx_nat (n d k : Nat) : sIx n d (some (k : Int)) = min k n := by
 show (if (k : Int) < 0 then ((k : Int) + (n : Int)).toNat else min (k : Int).toNat n) = min k n
 rw [if_neg (by omega), Int.toNat_natCast]
end
end HT
namespace L2
open PySem PySem.Spec PyProof.Rows
noncomputable abbrev TO := St -> Hp -> (Option Int -> Hp -> Prop) -> Prop
noncomputable def PO (X : Cx) (e : Option Expr) (t : TO) : Prop :=
 ∀ (pins : List (Addr × Obj)) (s : Shared) (σ : St) (H : Hp) (Q : Option Int -> Hp -> Prop), Inv X pins σ H s -> t σ H Q ->
  wpAny (model X.prog X.w) X.A (evalPart e X.env) (fun u s' => ∃ o H', Inv X pins σ H' s' /\ IsPart u o /\ Q o H') X.xe s
noncomputable def tNoPart : TO := fun _ H Q => Q none H
noncomputable def tPart (t : TE) : TO := fun σ H Q => t σ H fun x H1 => ∃ i, x = .int i /\ Q (some i) H1
section
variable {X : Cx} {e : Expr} {te : TE} {lo hi : Option Expr} {tl th : TO} {pos p2 : Pos}
theorem po_none : PO X none tNoPart := by
 intro pins s σ H Q I h
 rw [evalPart_none]
 exact wpAny_pure ⟨none, H, I, .none, h⟩
theorem po_some (h : PE X e te) : PO X (some e) (tPart te) := by
 intro pins s σ H Q I hw
 rw [evalPart_some]
 refine thn (h pins s σ H _ I hw) fun u s1 ⟨x, H1, I1, r1, q1⟩ => ?_
 obtain ⟨i, rfl, q⟩ := q1
 obtain ⟨t, rfl⟩ := r1
 exact ⟨some i, H1, I1, .int i t, q⟩
noncomputable def SlR (X : Cx) (r : V -> Option Int -> Option Int -> Hp -> VK -> Prop) : Prop :=
 ∀ (pins : List (Addr × Obj)) (s : Shared) (σ : St) (H : Hp) (x : V) (v vl vu : Value) (lo hi : Option Int) (sl : Addr) (Q : VK), Inv X pins σ H s -> RelV x v -> s.heap.IsSliceOf sl vl vu .none -> IsPart vl lo -> IsPart vu hi -> r x lo hi H Q ->
  ∃ T id, typeLookup (.type T) "__getitem__" = pure (some (.builtin id)) /\ s.TypeIs v T /\ wpAny (model X.prog X.w) X.A (getItem v (.ref sl)) (EP X pins σ Q) X.xe s
noncomputable def tSl (r : V -> Option Int -> Option Int -> Hp -> VK -> Prop) (te : TE) (tl th : TO) : TE := fun σ H Q => te σ H fun x H1 => tl σ H1 fun l H2 => th σ H2 fun u H3 => r x l u H3 Q
theorem pe_slice {r : V -> Option Int -> Option Int -> Hp -> VK -> Prop} (hr : SlR X r) (he : PE X e te) (hl : PO X lo tl) (hu : PO X hi th) : PE X (.Subscript e (.Slice lo hi none p2) pos) (tSl r te tl th) := by
 intro pins s σ H Q I h
 refine Subscript_ (thn (he pins s σ H _ I h) fun v s1 ⟨x, H1, I1, r1, q1⟩ => ?_)
 refine wpAny_Slice (thn (hl pins s1 σ H1 _ I1 q1) fun vl s2 ⟨l, H2, I2, pl, q2⟩ => thn (hu pins s2 σ H2 _ I2 q2) fun vu s3 ⟨u, H3, I3, pu, q3⟩ => ?_)
 rw [evalPart_none]
 refine wpAny_pure ?_
 have I4 : Inv X pins σ H3 { s3 with heap := s3.heap.push { cls := .type "slice", data := .fields #[vl, vu, .none] } } := I3.kept (t' := s3.toks) fun b ob q => Heap.get?_push_of_some _ q
 obtain ⟨T, id, hT, ht, hg⟩ := hr pins { s3 with heap := s3.heap.push { cls := .type "slice", data := .fields #[vl, vu, .none] } } σ H3 x v vl vu l u s3.heap.objs.size Q I4 r1 (Heap.IsSliceOf.new ..) pl pu q3
 show wpAny (model X.prog X.w) X.A (subscriptTail e (.Slice lo hi none p2) v (.ref s3.heap.objs.size)) (EP X pins σ Q) X.xe { s3 with heap := s3.heap.push { cls := .type "slice", data := .fields #[vl, vu, .none] } }
 exact tail_any (ops := [.ref s3.heap.objs.size, v]) ht hT hg (by with_unfolding_all rfl)
noncomputable def cutV (xs : List V) (lo hi : Option Int) : List V := (xs.drop (HT.sIx xs.length 0 lo)).take (HT.sIx xs.length xs.length hi - HT.sIx xs.length 0 lo)
theorem cutV_length (xs : List V) (lo hi : Option Int) : (cutV xs lo hi).length <= xs.length := by
 unfold cutV
 rw [List.length_take, List.length_drop]
 omega
noncomputable def rSlT (K : PySem.W.Frag) : V -> Option Int -> Option Int -> Hp -> VK -> Prop := fun x lo hi H Q => ∃ a xs, x = .ref a /\ SqT K H a xs /\
 ¬ (HT.sIx xs.length 0 lo = 0 /\ HT.sIx xs.length xs.length hi = xs.length) /\ ∀ p, H p = none -> Q (.ref p) (upd H p (.tup (cutV xs lo hi)))
noncomputable def rLtT (K : PySem.W.Frag) : R2 := fun x y H Q => ∃ a b ns ms, x = .ref a /\ y = .ref b /\ SqT K H a (ns.map V.int) /\ SqT K H b (ms.map V.int) /\ Q (.bl (HT.lexLt ns ms)) H
noncomputable def rCatT (K : PySem.W.Frag) : R2 := fun x y H Q => ∃ a b xs ys, x = .ref a /\ y = .ref b /\ SqT K H a xs /\ SqT K H b ys /\ xs ≠ [] /\ xs.length + ys.length <= sizeLine /\
 (ys = [] -> Q (.ref a) H) /\ (ys ≠ [] -> ∀ p, H p = none -> Q (.ref p) (upd H p (.tup (xs ++ ys))))
end
end L2
namespace L2
open PySem PySem.Spec PyProof.Rows
noncomputable def ixN (n : Nat) (i : Int) : Option Nat := if 0 <= i then (if i < n then some i.toNat else none) else if -(n : Int) <= i then some (i + n).toNat else none
noncomputable def atI {α : Type} (xs : List α) (i : Int) : Option α := (ixN xs.length i).bind fun j => xs[j]?
theorem ixN_seq {n : Nat} {i : Int} {j : Nat} (h : ixN n i = some j) : seqIndex? i n = some j /\ j < n /\ -(n : Int) <= i /\ i < n := by
 unfold ixN at h
 by_cases h0 : 0 <= i
 ·rw [if_pos h0] at h
  by_cases h1 : i < n
  ·rw [if_pos h1] at h
   have e : i.toNat = j := Option.some.inj h
   exact ⟨by rw [seqIndex_of h0 h1, e], by omega, by omega, h1⟩
  ·rw [if_neg h1] at h; cases h
 ·rw [if_neg h0] at h
  by_cases h1 : -(n : Int) <= i
  ·rw [if_pos h1] at h
   have e : (i + n).toNat = j := Option.some.inj h
   exact ⟨by rw [seqIndex_neg (by omega) h1, e], by omega, h1, by omega⟩
  ·rw [if_neg h1] at h; cases h
theorem atI_get {α : Type} {xs : List α} {i : Int} {v : α} (h : atI xs i = some v) : ∃ j, seqIndex? i xs.length = some j /\ xs[j]? = some v /\ j < xs.length /\ -(xs.length : Int) <= i /\ i < xs.length := by
 unfold atI at h
 cases e : ixN xs.length i with
 | none => rw [e] at h; cases h
 | some j =>
  rw [e] at h
  obtain ⟨h1, h2, h3, h4⟩ := ixN_seq e
  exact ⟨j, h1, h, h2, h3, h4⟩
theorem atI_nat {α : Type} {xs : List α} {j : Nat} {v : α} (h : xs[j]? = some v) : atI xs (j : Int) = some v := by
 have hj : j < xs.length := (List.getElem?_eq_some_iff.mp h).1
 have e : ixN xs.length (j : Int) = some j := by
  unfold ixN
  rw [if_pos (by omega), if_pos (by omega)]; simp
 unfold atI; rw [e]; exact h
theorem atI_last {α : Type} (xs : List α) (v : α) : atI (xs ++ [v]) (-1) = some v := by
 have hl : (xs ++ [v]).length = xs.length + 1 := by simp
 have e : ixN (xs ++ [v]).length (-1) = some xs.length := by
  unfold ixN
  rw [hl, if_neg (by decide), if_pos (by omega)]
  congr 1
  omega
 unfold atI
 rw [e]
 show (xs ++ [v])[xs.length]? = some v
 simp
noncomputable def PlainIx (b : Expr) : Prop := ∀ o i, subscripted b false o i = operate [o, i] (getItem o i)
noncomputable def IxR (X : Cx) (r : R2) : Prop :=
 ∀ (value slice : Expr) (pins : List (Addr × Obj)) (s : Shared) (σ : St) (H : Hp) (x y : V) (v u : Value) (Q : VK), Inv X pins σ H s -> RelV x v -> RelV y u -> r x y H Q ->
  subscripted slice false v u = operate [v, u] (getItem v u) -> wpAny (model X.prog X.w) X.A (subscriptTail value slice v u) (EP X pins σ Q) X.xe s
noncomputable def MtR (X : Cx) (id : String) (r : V -> List V -> Hp -> VK -> Prop) : Prop :=
 ∀ (pins : List (Addr × Obj)) (s : Shared) (σ : St) (H : Hp) (x : V) (xs : List V) (v : Value) (us : List Value) (Q : VK), Inv X pins σ H s -> RelV x v -> Vals xs us -> r x xs H Q ->
  wpAny (model X.prog X.w) X.A (call (.builtin id) (v :: us)) (EP X pins σ Q) X.xe s
section
variable {X : Cx} {a b : Expr} {ta tb : TE} {pos : Pos}
theorem pe_ix {r : R2} (hr : IxR X r) (ha : PE X a ta) (hb : PE X b tb) (hs : PlainIx b) : PE X (.Subscript a b pos) (tOp r ta tb) := by
 intro pins s σ H Q I h
 exact Subscript_ (binT ha hb I h fun v u s2 x y H2 I2 rx ry q => hr a b pins s2 σ H2 x y v u Q I2 rx ry q (hs _ _))
inductive rIxL (K : PySem.W.Frag) (x : V) (y : V) (H : Hp) (Q : VK) : Prop
 | mk (p : _) (xs : _) (i : _) (v : _) (c0 : x = .ref p) (c1 : y = .int i) (c2 : SqL K H p xs) (c3 : atI xs i = some v) (c4 : Q v H) : rIxL K x y H Q
inductive rIxT (K : PySem.W.Frag) (x : V) (y : V) (H : Hp) (Q : VK) : Prop
 | mk (p : _) (xs : _) (i : _) (v : _) (c0 : x = .ref p) (c1 : y = .int i) (c2 : SqT K H p xs) (c3 : atI xs i = some v) (c4 : Q v H) : rIxT K x y H Q
noncomputable def rIxS : R2 := fun x y H Q => ∃ z i c, x = .str z /\ y = .int i /\ z.length <= sizeLine /\ atI z.cps.toList i = some c /\ Q (.str ⟨#[c]⟩) H
theorem ix_list : IxR X (rIxL X.K) := by
 intro value slice pins s σ H x y v u Q I rx ry h hs
 obtain ⟨p, xs, i, z, rfl, rfl, hq, he, q⟩ := h
 cases rx
 obtain ⟨t, rfl⟩ := ry
 obtain ⟨its, r, pl, hz⟩ := I.list hq
 obtain ⟨j, h1, h2, h3, h4, h5⟩ := atI_get he
 obtain ⟨w, ew, rw'⟩ := r.get h2
 have hl := r.length
 have hn := line63
 have fin : EP X pins σ Q w s := ⟨z, H, I, rw', q⟩
 by_cases h0 : 0 <= i
 ·have hj : i.toNat = j := by
   rw [seqIndex_of h0 h5] at h1
   exact Option.some.inj h1
  exact item_listR pl.isList h0 (by omega) (by rw [hj]; simpa using ew) fin hs
 ·have hj : (i + (its.toArray.size : Int)).toNat = j := by
   rw [seqIndex_neg (by omega) h4] at h1
   rw [List.size_toArray, <- hl]
   exact Option.some.inj h1
  exact subscriptTail_builtinR (x := w) pl.isList.typeIs slot_list_getitem.lookup
   (wpAny_getItem_list_neg (Q := fun r s' => r = w /\ EP X pins σ Q r s') pl.isList (by omega) (by rw [List.size_toArray] <;> omega) (by omega) (by rw [hj]; simpa using ew) ⟨rfl, fin⟩) hs
theorem ix_tup : IxR X (rIxT X.K) := by
 intro value slice pins s σ H x y v u Q I rx ry h hs
 obtain ⟨p, xs, i, z, rfl, rfl, hq, he, q⟩ := h
 cases rx
 obtain ⟨t, rfl⟩ := ry
 obtain ⟨its, r, pl, hz⟩ := I.tuple hq
 obtain ⟨j, h1, h2, h3, h4, h5⟩ := atI_get he
 obtain ⟨w, ew, rw'⟩ := r.get h2
 have hl := r.length
 have hn := line63
 have fin : EP X pins σ Q w s := ⟨z, H, I, rw', q⟩
 exact subscriptTail_builtinR (x := w) pl.typeIs slot_tuple_getitem.lookup
  (getItem_tuple (j := j) (Q := fun r s' => r = w /\ EP X pins σ Q r s') pl (by omega) (by omega) (by rw [List.size_toArray, <- hl]; exact h1) (by simpa using ew) ⟨rfl, fin⟩) hs
theorem ix_str : IxR X rIxS := by
 intro value slice pins s σ H x y v u Q I rx ry h hs
 obtain ⟨z, i, c, rfl, rfl, hz, he, q⟩ := h
 obtain ⟨t, rfl⟩ := rx
 obtain ⟨t', rfl⟩ := ry
 obtain ⟨j, h1, h2, h3, h4, h5⟩ := atI_get he
 have hl : z.cps.toList.length = z.length := by simp [Str.length]
 rw [hl] at h1 h4 h5
 have hn := line63
 exact tail_any (typeIs_str s z t) slot_str_getitem.lookup (getItem_str (c := c) (by
  have e1 : decide (i < -(2 ^ 63 : Int)) = false := decide_eq_false (by omega)
  have e2 : decide (i >= 2 ^ 63) = false := decide_eq_false (by omega)
  rw [e1, e2, Bool.or_false]) (by rw [h1]; simpa using h2) ⟨.str ⟨#[c]⟩, H, I.tok _, ⟨_, rfl⟩, q⟩) hs
noncomputable def rIx (K : PySem.W.Frag) : R2 := fun x y H Q => rIxL K x y H Q \/ rIxT K x y H Q \/ rIxS x y H Q
theorem mapSeq_set (its : List Value) (n j : Nat) (u : Value) : Obj.mapSeq (·.setIfInBounds j u) { cls := .type "list", data := .seq its.toArray n } = { cls := .type "list", data := .seq (its.set j u).toArray n } := by
 simp [Obj.mapSeq]
theorem Inv.lst {pins : List (Addr × Obj)} {σ : St} {H : Hp} {s : Shared} {p : Addr} {xs : List V} (I : Inv X pins σ H s) (h : H p = some (.lst xs)) :
  ∃ (its : List Value) (n : Nat), Vals xs its /\ s.heap.get? p = some { cls := .type "list", data := .seq its.toArray n } /\ xs.length <= sizeLine := by
 obtain ⟨z, its, n, r, e⟩ := I.hok p _ h
 exact ⟨its, n, r, e, z⟩
theorem Inv.lstUpd {pins : List (Addr × Obj)} {σ : St} {H : Hp} {s : Shared} {p : Addr} {xs ys : List V} {its its' : List Value} {n n' : Nat} {f : Obj -> Obj} (I : Inv X pins σ H s) (h : H p = some (.lst xs))
  (ho : s.heap.get? p = some { cls := .type "list", data := .seq its.toArray n }) (hf : f { cls := .type "list", data := .seq its.toArray n } = { cls := .type "list", data := .seq its'.toArray n' }) (r : Vals ys its') (hz : ys.length <= sizeLine) (t : Nat) :
  Inv X pins σ (upd H p (.lst ys)) { s with heap := s.heap.update p f, toks := t } := by
 have e : (s.heap.update p f).get? p = some { cls := .type "list", data := .seq its'.toArray n' } := by
  rw [Heap.get?_update_self f ho (by rw [hf] <;> rfl), hf]
 refine I.write (x := p) (e := p) (by rw [h]; trivial) (.inl rfl) (fun b u hb q => (Heap.get?_update_other _ _ (Ne.symm hb)).trans q) ⟨_, e⟩ ?_
 exact ⟨hz, its', n', r, e⟩
noncomputable def rSetL : V -> V -> V -> Hp -> (Hp -> Prop) -> Prop := fun o i v H Q => ∃ p xs k j, o = .ref p /\ i = .int k /\ H p = some (.lst xs) /\ ixN xs.length k = some j /\ Q (upd H p (.lst (xs.set j v)))
theorem set_list : PSet X rSetL := by
 intro pins s σ H o i v ov iv u Q I ro ri rv h
 obtain ⟨p, xs, k, j, rfl, rfl, hp, hj, q⟩ := h
 cases ro
 obtain ⟨t, rfl⟩ := ri
 obtain ⟨its, n, r, ho, hz⟩ := I.lst hp
 obtain ⟨h1, h2, h3, h4⟩ := ixN_seq hj
 have hl := r.length
 have hn := line63
 have I' : Inv X pins σ (upd H p (.lst (xs.set j v))) { s with heap := s.heap.update p (Obj.mapSeq (·.setIfInBounds j u)) } :=
  I.lstUpd hp ho (mapSeq_set its n j u) (r.set rv j) (by rw [List.length_set]; exact hz) s.toks
 by_cases h0 : 0 <= k
 ·have hk : k.toNat = j := by
   rw [seqIndex_of h0 h4] at h1
   exact Option.some.inj h1
  exact PySem.W.ki_setAt ho h0 (by omega) (by rw [List.size_toArray, <- hl]; exact h4) (by rw [hk]; exact ⟨_, I', q⟩)
 ·have hk : (k + (its.toArray.size : Int)).toNat = j := by
   rw [seqIndex_neg (by omega) h3] at h1
   rw [List.size_toArray, <- hl]
   exact Option.some.inj h1
  exact PySem.W.ki_setBack ho (by omega) (by rw [List.size_toArray, <- hl]; exact h3) (by omega) (by rw [hk]; exact ⟨_, I', q⟩)
theorem slice_bounds (lo hi : Option Int) (n : Nat) : (sliceBounds lo hi none n).1 = ((HT.sIx n 0 lo : Nat) : Int) /\ (sliceBounds lo hi none n).2.1 = ((HT.sIx n n hi : Nat) : Int) /\ (sliceBounds lo hi none n).2.2 = 1 := by
 refine ⟨?_, ?_, rfl⟩
 ·cases lo with
  | none => simp [sliceBounds, HT.sIx]
  | some i =>
   simp only [sliceBounds, HT.sIx, Option.getD_none, show (1 : Int) > 0 by decide, if_true]
   by_cases h : i < 0
   ·simp only [h, if_true] <;> omega
   ·simp only [h, if_false] <;> omega
 ·cases hi with
  | none => simp [sliceBounds, HT.sIx]
  | some i =>
   simp only [sliceBounds, HT.sIx, Option.getD_none, show (1 : Int) > 0 by decide, if_true]
   by_cases h : i < 0
   ·simp only [h, if_true] <;> omega
   ·simp only [h, if_false] <;> omega
theorem slicePick_cut (its : List Value) (lo hi : Option Int) : slicePick its.toArray lo hi none = ((its.drop (HT.sIx its.length 0 lo)).take (HT.sIx its.length its.length hi - HT.sIx its.length 0 lo)).toArray := by
 obtain ⟨h1, h2, h3⟩ := slice_bounds lo hi its.toArray.size
 unfold slicePick
 rw [h1, h2, h3]
 simp only [sliceRange_one, pick_run, List.size_toArray] <;> rfl
noncomputable def rSlL (K : PySem.W.Frag) : V -> Option Int -> Option Int -> Hp -> VK -> Prop := fun x lo hi H Q => ∃ a xs, x = .ref a /\ SqL K H a xs /\ ∀ p, H p = none -> Q (.ref p) (upd H p (.lst (cutV xs lo hi)))
theorem sl_list : SlR X (rSlL X.K) := by
 intro pins s σ H x v vl vu lo hi sl Q I rx hs pl pu h
 obtain ⟨a, xs, rfl, hx, q⟩ := h
 cases rx
 obtain ⟨its, r, ht, hz⟩ := I.list hx
 have hlen := r.length
 refine ⟨"list", _, slot_list_getitem.lookup, ht.isList.typeIs, ?_⟩
 refine wpAny_getItem_list_slice ht.isList hs pl pu .none (by simp) ?_ (by rw [List.size_toArray] <;> omega)
 rw [slicePick_cut, <- hlen]
 refine ⟨.ref s.heap.objs.size, _, I.laid (t' := s.toks) (o := .lst (cutV xs lo hi)) (fun b ob q => Heap.get?_push_of_some _ q) (Nat.le_refl _) ?_, rfl, q _ (I.hok.fresh (Nat.le_refl _))⟩
 exact ⟨Nat.le_trans (cutV_length xs lo hi) hz, _, 0, (r.drop (HT.sIx xs.length 0 lo)).take (HT.sIx xs.length xs.length hi - HT.sIx xs.length 0 lo), Heap.get?_push_size _ rfl⟩
noncomputable def flatV : V -> Bool
 | .non => true
 | .bl _ => true
 | .int _ => true
 | .str _ => true
 | _ => false
noncomputable def eqV : V -> V -> Bool
 | .non, .non => true
 | .bl a, .bl b => a == b
 | .bl a, .int b => (if a then 1 else 0) == b
 | .int a, .bl b => a == (if b then 1 else 0)
 | .int a, .int b => a == b
 | .str a, .str b => a == b
 | _, _ => false
theorem eqAt_V {A : Around} {s : Shared} {y x : V} {u v : Value} (ry : RelV y u) (rx : RelV x v) (fy : flatV y = true) (fx : flatV x = true) : SeqAt.EqAt A s u v (eqV y x) := by
 cases y with
 | non =>
  cases ry
  cases x with
  | non => cases rx; exact SeqAt.EqAt.same _
  | bl b => cases rx; exact SeqAt.EqAt.none_bool b
  | int b => obtain ⟨t, rfl⟩ := rx; exact SeqAt.EqAt.none_int b t
  | str b => obtain ⟨t, rfl⟩ := rx; exact SeqAt.EqAt.none_str b t
  | _ => exact absurd (show false = true from fx) Bool.false_ne_true
 | bl a =>
  cases ry
  cases x with
  | non => cases rx; exact SeqAt.EqAt.bool_none a
  | bl b => cases rx; exact SeqAt.EqAt.bool_bool a b
  | int b => obtain ⟨t, rfl⟩ := rx; exact SeqAt.EqAt.bool_int a b t
  | str b => obtain ⟨t, rfl⟩ := rx; exact SeqAt.EqAt.bool_str a b t
  | _ => exact absurd (show false = true from fx) Bool.false_ne_true
 | int a =>
  obtain ⟨t', rfl⟩ := ry
  cases x with
  | non => cases rx; exact SeqAt.EqAt.int_none a t'
  | bl b => cases rx; exact SeqAt.EqAt.int_bool a t' b
  | int b => obtain ⟨t, rfl⟩ := rx; exact SeqAt.EqAt.int_int a t' b t
  | str b => obtain ⟨t, rfl⟩ := rx; exact SeqAt.EqAt.int_str a t' b t
  | _ => exact absurd (show false = true from fx) Bool.false_ne_true
 | str a =>
  obtain ⟨t', rfl⟩ := ry
  cases x with
  | non => cases rx; exact SeqAt.EqAt.str_none a t'
  | bl b => cases rx; exact SeqAt.EqAt.str_bool a t' b
  | int b => obtain ⟨t, rfl⟩ := rx; exact SeqAt.EqAt.str_int a t' b t
  | str b => obtain ⟨t, rfl⟩ := rx; exact SeqAt.EqAt.str_str a t' b t
  | _ => exact absurd (show false = true from fx) Bool.false_ne_true
 | _ => exact absurd (show false = true from fy) Bool.false_ne_true
noncomputable def eqU (x : V) (u : Value) : Bool := match u with
 | .none => eqV .non x
 | .bool b => eqV (.bl b) x
 | .int i _ => eqV (.int i) x
 | .str z _ => eqV (.str z) x
 | _ => false
theorem eqU_of {x y : V} {u : Value} (r : RelV y u) (f : flatV y = true) : eqU x u = eqV y x := by
 cases y with
 | non => cases r; rfl
 | bl b => cases r; rfl
 | int i => obtain ⟨t, rfl⟩ := r; rfl
 | str z => obtain ⟨t, rfl⟩ := r; rfl
 | _ => exact absurd (show false = true from f) Bool.false_ne_true
theorem any_eqU {x : V} : ∀ {xs : List V} {us : List Value}, Vals xs us -> xs.all flatV = true -> us.any (eqU x) = xs.any fun y => eqV y x
 | _, _, .nil, _ => rfl
 | y :: xs, u :: us, .cons r t, f => by
  rw [List.all_cons, Bool.and_eq_true] at f
  rw [List.any_cons, List.any_cons, eqU_of r f.1, any_eqU t f.2]
theorem mem_eqAt {A : Around} {s : Shared} {x : V} {v : Value} (rx : RelV x v) (fx : flatV x = true) : ∀ {xs : List V} {us : List Value}, Vals xs us -> xs.all flatV = true -> ∀ u ∈ us, SeqAt.EqAt A s u v (eqU x u)
 | _, _, .nil, _ => fun u hu => by cases hu
 | y :: xs, u :: us, .cons r t, f => fun u' hu => by
  rw [List.all_cons, Bool.and_eq_true] at f
  rcases List.mem_cons.mp hu with rfl | hu
  ·rw [eqU_of r f.1]; exact eqAt_V r rx f.1 fx
  ·exact mem_eqAt rx fx t f.2 u' hu
noncomputable def inV (x : V) (xs : List V) : Bool := xs.any fun y => eqV y x
noncomputable def rIn (K : PySem.W.Frag) (neg : Bool) : R2 := fun x y H Q => ∃ p xs, y = .ref p /\ (SqL K H p xs \/ SqT K H p xs) /\ flatV x = true /\ xs.all flatV = true /\ Q (.bl (if neg then !inV x xs else inV x xs)) H
theorem op_in_seq : OpR X (compareOp .In) (rIn X.K false) := by
 intro pins s σ H x y v u Q I rx ry h
 obtain ⟨p, xs, rfl, hq, fx, fs, q⟩ := h
 cases ry
 rcases hq with hq | hq
 ·obtain ⟨its, r, pl, hz⟩ := I.list hq
  refine SeqAt.in_listAt (eqU x) pl.isList (fun w hw => mem_eqAt rx fx r fs w (by simpa using hw)) ⟨.bl _, H, I, rfl, ?_⟩
  rw [show its.toArray.any (eqU x) = its.any (eqU x) by simp, any_eqU r fs]
  exact q
 ·obtain ⟨its, r, pl, hz⟩ := I.tuple hq
  refine SeqAt.in_tupleAt (eqU x) pl (fun w hw => mem_eqAt rx fx r fs w (by simpa using hw)) ⟨.bl _, H, I, rfl, ?_⟩
  rw [show its.toArray.any (eqU x) = its.any (eqU x) by simp, any_eqU r fs]
  exact q
theorem call_len_seq : CallR X (.builtin "len") (fun xs H Q => ∃ p ys, xs = [.ref p] /\ (SqL X.K H p ys \/ SqT X.K H p ys) /\ Q (.int ys.length) H) := by
 intro pins s σ H xs us Q I r h
 obtain ⟨p, ys, rfl, hq, q⟩ := h
 obtain ⟨u, rfl, rx⟩ := vals1 r
 cases rx
 have hn := line63
 rcases hq with hq | hq
 ·obtain ⟨its, r', pl, hz⟩ := I.list hq
  have hlen := r'.length
  exact Calls.call_len_list pl.isList (by simp only [List.size_toArray] <;> omega) ⟨.int ys.length, H, I.tok _, ⟨s.toks + 1, by rw [List.size_toArray, hlen]⟩, q⟩
 ·obtain ⟨its, r', pl, hz⟩ := I.tuple hq
  have hlen := r'.length
  exact len_tuple pl (by simp only [List.size_toArray] <;> omega) ⟨.int ys.length, H, I.tok _, ⟨s.toks + 1, by rw [List.size_toArray, hlen]⟩, q⟩
theorem call_len_str : CallR X (.builtin "len") (fun xs H Q => ∃ z, xs = [.str z] /\ z.length <= sizeLine /\ Q (.int z.length) H) := by
 intro pins s σ H xs us Q I r h
 obtain ⟨z, rfl, hz, q⟩ := h
 obtain ⟨u, rfl, t, rfl⟩ := vals1 r
 have hn := line63
 exact len_str (by omega) ⟨.int z.length, H, I.tok _, ⟨_, rfl⟩, q⟩
noncomputable def tyV (K : PySem.W.Frag) (T : String) (x : V) (H : Hp) : Prop := match x with
 | .str _ => T = "str"
 | .int _ => T = "int"
 | .ref p => (T = "list" /\ ∃ xs, SqL K H p xs) \/ (T = "tuple" /\ ∃ o, K.lookup p = some o /\ o.cls = .type "tuple" /\ o.dict = none) \/
   (T = "dict" /\ ((∃ kvs, H p = some (.dK kvs)) \/ ∃ kvs, H p = some (.dT kvs))) \/ (T = "set" /\ ∃ S n, H p = some (.set S n))
 | _ => False
theorem tyV_is {pins : List (Addr × Obj)} {σ : St} {H : Hp} {s : Shared} {T : String} {x : V} {v : Value} (I : Inv X pins σ H s) (r : RelV x v) (ty : tyV X.K T x H) :
  s.TypeIs v T /\ ∀ a, v = .ref a -> ∃ ob, s.heap.get? a = some ob /\ ob.dict = none := by
 cases x with
 | str z =>
  obtain ⟨t, rfl⟩ := r
  cases (show T = "str" from ty)
  exact ⟨typeIs_str s z t, fun _ e => nomatch e⟩
 | int i =>
  obtain ⟨t, rfl⟩ := r
  cases (show T = "int" from ty)
  exact ⟨typeIs_int s i t, fun _ e => nomatch e⟩
 | ref p =>
  cases r
  rcases ty with ⟨rfl, xs, hq⟩ | ⟨rfl, o, hk, hc, hd⟩ | ⟨rfl, hk⟩ | ⟨rfl, S, n, hk⟩
  ·obtain ⟨its, _, pl, _⟩ := I.list hq
   refine ⟨pl.isList.typeIs, fun a e => ?_⟩
   cases e
   obtain ⟨o, n, e, c, hd, _⟩ := pl
   exact ⟨o, e, hd⟩
  ·refine ⟨⟨o, I.kIn p o hk, hc⟩, fun a e => ?_⟩
   cases e
   exact ⟨o, I.kIn _ o hk, hd⟩
  ·have z : ∃ o, s.heap.get? p = some o /\ o.ExactDict := by
    rcases hk with ⟨kvs, hk⟩ | ⟨kvs, hk⟩
    ·obtain ⟨_, _, _, _, o, _, _, e, ex, _⟩ := I.hok p _ hk
     exact ⟨o, e, ex⟩
    ·obtain ⟨_, _, _, _, o, _, _, e, ex, _⟩ := I.hok p _ hk
     exact ⟨o, e, ex⟩
   obtain ⟨o, e, ex⟩ := z
   refine ⟨⟨o, e, ex.1⟩, fun a e2 => ?_⟩
   cases e2
   exact ⟨o, e, ex.2.1⟩
  ·obtain ⟨o, _, _, _, e, ex, _⟩ := I.hok p _ hk
   refine ⟨⟨o, e, ex.1⟩, fun a e2 => ?_⟩
   cases e2
   exact ⟨o, e, ex.2.1⟩
 | _ => exact False.elim ty
noncomputable def tBM0 (K : PySem.W.Frag) (T : String) (r : V -> List V -> Hp -> VK -> Prop) (to : TE) : TE := fun σ H Q => to σ H fun x H1 => tyV K T x H1 /\ r x [] H1 Q
noncomputable def tBM (K : PySem.W.Frag) (T : String) (r : V -> List V -> Hp -> VK -> Prop) (to : TE) (t : TA) : TE := fun σ H Q => to σ H fun x H1 => tyV K T x H1 /\ t σ H1 fun xs H2 => r x xs H2 Q
variable {o e : Expr} {es : List Expr} {to : TE} {t : TA} {name : Str} {apos cpos : Pos} {T id : String} {r : V -> List V -> Hp -> VK -> Prop}
theorem pe_bm0 (pa : PlainAttrs T) (slot : Slot T name id) (hty : typeOf (.builtin id) = pure (.type "method_descriptor")) (hm : MtR X id r) (ho : PE X o to)
  (hbase : attributeBase o name X.env (eval o X.env) = eval o X.env := by rfl) (hline : (apos.endLine == cpos.line) = true := by rfl) : PE X (.Call (.Attribute o name apos) [] [] cpos) (tBM0 X.K T r to) := by
 intro pins s σ H Q I h
 refine wpAny_Call_method0_late hbase hline (thn (ho pins s σ H _ I h) fun v s1 ⟨x, H1, I1, r1, ty, q1⟩ => ?_)
 obtain ⟨h1, h2⟩ := tyV_is I1 r1 ty
 exact ⟨T, id, pa, slot, hty, h1, h2, Calls.callWith_builtin rfl (PySem.evalArgs_none (hm pins s1 σ H1 x [] v [] Q I1 r1 .nil q1))⟩
theorem pe_bm (pa : PlainAttrs T) (slot : Slot T name id) (hty : typeOf (.builtin id) = pure (.type "method_descriptor")) (hm : MtR X id r) (ho : PE X o to) (ha : PA X (e :: es) t)
  (hbase : attributeBase o name X.env (eval o X.env) = eval o X.env := by rfl)
  (hfew : ((backTo cpos (starEach (e :: es) X.env)).all (fun x => !x.1) && (backToKw cpos (keywordEach [] X.env)).all (fun x => x.1.isSome)
   && decide ((e :: es).length + ([] : List Keyword).length + (if ([] : List Keyword).isEmpty then 0 else 1) < 30)) = true := by rfl)
  (hline : (apos.endLine == cpos.line) = true := by rfl) (hs : starEach (e :: es) X.env = (false, eval e X.env) :: starEach es X.env := by rfl) (hplain : (backTo cpos (starEach es X.env)).any (·.1) = false := by rfl) :
  PE X (.Call (.Attribute o name apos) (e :: es) [] cpos) (tBM X.K T r to t) := by
 intro pins s σ H Q I h
 refine wpAny_Call_method_late hbase hfew hline rfl (thn (ho pins s σ H _ I h) fun v s1 ⟨x, H1, I1, r1, ty, q1⟩ => ?_)
 obtain ⟨h1, h2⟩ := tyV_is I1 r1 ty
 refine ⟨T, id, pa, slot, hty, h1, h2, ?_⟩
 have hA := ha cpos pins s1 σ H1 _ I1 q1
 rw [hs] at hA ⊢
 refine Calls.callWith_builtin (by show (false || (backTo cpos (starEach es X.env)).any (·.1)) = false; rw [hplain] <;> rfl) (Calls.evalArgs_plain ?_)
 exact thn hA fun us s2 ⟨vs, H2, I2, r2, q2⟩ => hm pins s2 σ H2 x vs v us Q I2 r1 r2 q2
end
end L2
namespace L2
open PySem PySem.Spec PyProof.Rows
noncomputable def MtM (X : Cx) (id : String) (r : V -> List V -> Hp -> VK -> Prop) : Prop :=
 ∀ (pins : List (Addr × Obj)) (s : Shared) (σ : St) (H : Hp) (x : V) (xs : List V) (v : Value) (us : List Value) (Q : VK), Inv X pins σ H s -> RelV x v -> Vals xs us -> r x xs H Q ->
  wpAny (model X.prog X.w) X.A (call (.builtin id) (v :: us)) (EP X pins σ Q) X.xe s
theorem Vals.hd {x : V} {xs : List V} {us : List Value} (h : Vals (x :: xs) us) : ∃ u vs, us = u :: vs /\ RelV x u /\ Vals xs vs := by
 cases h with | cons r t => exact ⟨_, _, rfl, r, t⟩
theorem Vals.no {us : List Value} (h : Vals [] us) : us = [] := by
 cases h
 rfl
theorem Vals.one {x : V} {us : List Value} (h : Vals [x] us) : ∃ u, us = [u] /\ RelV x u := by
 obtain ⟨u, vs, rfl, r, t⟩ := h.hd
 rw [t.no]
 exact ⟨u, rfl, r⟩
theorem Vals.two {x y : V} {us : List Value} (h : Vals [x, y] us) : ∃ u v, us = [u, v] /\ RelV x u /\ RelV y v := by
 obtain ⟨u, vs, rfl, r, t⟩ := h.hd
 obtain ⟨v, rfl, q⟩ := t.one
 exact ⟨u, v, rfl, r, q⟩
theorem Vals.zero : ∀ {us : List Value}, Vals [] us -> us = []
 | _, .nil => rfl
theorem Vals.dropLast {xs : List V} {us : List Value} (h : Vals xs us) : Vals xs.dropLast us.dropLast := by
 induction h with
 | nil => exact .nil
 | cons r t ih =>
  cases t with
  | nil => exact .nil
  | cons q t' => exact .cons r ih
theorem Vals.reverse {xs : List V} {us : List Value} (h : Vals xs us) : Vals xs.reverse us.reverse := by
 induction h with
 | nil => exact .nil
 | cons r t ih => rw [List.reverse_cons, List.reverse_cons]; exact Vals.append ih (.cons r .nil)
theorem erase_last {α : Type} (l : List α) : l.eraseIdx (l.length - 1) = l.dropLast := by
 induction l with
 | nil => rfl
 | cons a r ih =>
  cases r with
  | nil => rfl
  | cons b r =>
   have e : (a :: b :: r).length - 1 = ((b :: r).length - 1) + 1 := by
    have h1 : (a :: b :: r).length = r.length + 2 := rfl
    have h2 : (b :: r).length = r.length + 1 := rfl
    omega
   rw [e, List.eraseIdx_cons_succ, ih]
   all_goals rfl
section
variable {X : Cx} {pins : List (Addr × Obj)} {σ : St} {H : Hp} {s : Shared} {l b : Addr} {xs ys zs : List V}
theorem Inv.lset {its its' : List Value} {n : Nat} {f : Array Value -> Array Value} {t' : Nat} (I : Inv X pins σ H s) (hH : H l = some (.lst xs))
  (e : s.heap.get? l = some { cls := .type "list", data := .seq its.toArray n }) (hf : f its.toArray = its'.toArray) (hv : Vals ys its') (hz : ys.length <= sizeLine) :
  Inv X pins σ (upd H l (.lst ys)) { s with heap := s.heap.update l (Obj.mapSeq f), toks := t' } := by
 have q := PySem.IsL.update e f
 rw [hf] at q
 refine I.write (x := l) (e := l) (by rw [hH]; exact trivial) (.inl rfl) (fun b' u hb hu => (Heap.get?_update_other s.heap (Obj.mapSeq f) (Ne.symm hb)).trans hu) ⟨_, q⟩ ?_
 exact ⟨hz, its', _, hv, q⟩
theorem Inv.lnew {its : List Value} {t' : Nat} (I : Inv X pins σ H s) (hv : Vals ys its) (hz : ys.length <= sizeLine) :
  Inv X pins σ (upd H s.heap.objs.size (.lst ys)) { s with heap := s.heap.push { cls := .type "list", data := .seq its.toArray }, toks := t' } :=
 I.laid (fun _ _ q => Heap.get?_push_of_some _ q) (Nat.le_refl _) ⟨hz, its, 0, hv, Heap.get?_push_size _ rfl⟩
theorem Inv.fresh (I : Inv X pins σ H s) : H s.heap.objs.size = none := I.hok.fresh (Nat.le_refl _)
theorem Inv.lstM (I : Inv X pins σ H s) (hH : H l = some (.lst xs)) : xs.length <= sizeLine /\ ∃ (its : List Value) (n : Nat), Vals xs its /\ xs.length = its.length /\ s.heap.get? l = some { cls := .type "list", data := .seq its.toArray n } := by
 obtain ⟨z, its, n, r, e⟩ := I.hok l _ hH
 exact ⟨z, its, n, r, r.length, e⟩
theorem notLongL {n : Nat} (h : n <= sizeLine) : Builtin.List.listTooLong n = false := by
 unfold Builtin.List.listTooLong
 exact decide_eq_false (by omega)
end
section
variable {X : Cx}
inductive rAppend (x : V) (vs : List V) (H : Hp) (Q : VK) : Prop
 | mk (l : _) (xs : _) (y : _) (c0 : x = .ref l) (c1 : vs = [y]) (c2 : H l = some (.lst xs)) (c3 : xs.length < sizeLine) (c4 : Q .non (upd H l (.lst (xs ++ [y])))) : rAppend  x vs H Q
theorem mt_append : MtM X "list.append" rAppend := by
 intro pins s σ H x vs v us Q I rx rv h
 obtain ⟨l, xs, y, rfl, rfl, hH, hz, q⟩ := h
 cases rx
 obtain ⟨u, rfl, ru⟩ := rv.one
 obtain ⟨z, its, n, r, hl, e⟩ := I.lstM hH
 refine call_meets F.slot_list_append ⟨_, e, rfl⟩ F.entry_list_append (F.args_list_append_2 _ _) (PySem.list_append l its.toArray n u (by rw [List.size_toArray]; omega)) ⟨e, ?_⟩
 refine ⟨.non, _, I.lset (its' := its ++ [u]) hH e (by simp) (r.append (.cons ru .nil)) ?_, rfl, q⟩
 rw [List.length_append, List.length_singleton]
 omega
noncomputable def rExtend : V -> List V -> Hp -> VK -> Prop := fun x vs H Q => ∃ l b xs zs, x = .ref l /\ vs = [.ref b] /\ H l = some (.lst xs) /\ H b = some (.lst zs) /\ xs.length + zs.length <= sizeLine /\ Q .non (upd H l (.lst (xs ++ zs)))
noncomputable def rPop : V -> List V -> Hp -> VK -> Prop := fun x vs H Q => ∃ l xs y, x = .ref l /\ vs = [] /\ H l = some (.lst xs) /\ xs[xs.length - 1]? = some y /\ Q y (upd H l (.lst xs.dropLast))
theorem mt_pop : MtM X "list.pop" rPop := by
 intro pins s σ H x vs v us Q I rx rv h
 obtain ⟨l, xs, y, rfl, rfl, hH, hy, q⟩ := h
 cases rx
 have hus := rv.zero
 subst hus
 obtain ⟨z, its, n, r, hl, e⟩ := I.lstM hH
 obtain ⟨u, hu, ru⟩ := r.get hy
 have hy' : its.toArray[its.toArray.size - 1]? = some u := by
  show its.toArray[its.length - 1]? = some u
  rw [<- Array.getElem?_toList, <- hl]
  exact hu
 refine call_meets F.slot_list_pop ⟨_, e, rfl⟩ F.entry_list_pop (F.args_list_pop_1 _) (MeetsSeq.list_pop_last l its.toArray n u hy' (by rw [List.size_toArray]; omega)) ⟨e, ?_⟩
 refine ⟨y, _, I.lset (its' := its.dropLast) hH e ?_ r.dropLast ?_, ru, q⟩
 ·show its.toArray.eraseIdxIfInBounds (its.toArray.size - 1) = its.dropLast.toArray
  rw [List.size_toArray, List.eraseIdxIfInBounds_toArray, erase_last]
 ·rw [List.length_dropLast]
  omega
noncomputable def rPopAt : V -> List V -> Hp -> VK -> Prop := fun x vs H Q => ∃ l xs i k y, x = .ref l /\ vs = [.int i] /\ H l = some (.lst xs) /\ -(2 ^ 63) <= i /\ i < 2 ^ 63 /\ seqIndex? i xs.length = some k /\ xs[k]? = some y /\ Q y (upd H l (.lst (xs.eraseIdx k)))
noncomputable def rReverse : V -> List V -> Hp -> VK -> Prop := fun x vs H Q => ∃ l xs, x = .ref l /\ vs = [] /\ H l = some (.lst xs) /\ Q .non (upd H l (.lst xs.reverse))
noncomputable def rClear : V -> List V -> Hp -> VK -> Prop := fun x vs H Q => ∃ l xs, x = .ref l /\ vs = [] /\ H l = some (.lst xs) /\ Q .non (upd H l (.lst []))
inductive rCat (x : V) (y : V) (H : Hp) (Q : VK) : Prop
 | mk (l : _) (b : _) (xs : _) (zs : _) (c0 : x = .ref l) (c1 : y = .ref b) (c2 : H l = some (.lst xs)) (c3 : H b = some (.lst zs)) (c4 : xs.length + zs.length <= sizeLine) (c5 : ∀ p, H p = none -> Q (.ref p) (upd H p (.lst (xs ++ zs)))) : rCat  x y H Q
theorem op_cat : OpR X (binaryOp .Add) rCat := by
 intro pins s σ H x y v u Q I rx ry h
 obtain ⟨l, b, xs, zs, rfl, rfl, hH, hB, hz, q⟩ := h
 cases rx
 cases ry
 obtain ⟨z, its, n, r, hl, e⟩ := I.lstM hH
 obtain ⟨z2, its2, n2, r2, hl2, e2⟩ := I.lstM hB
 refine PySem.P.add_list e e2 ?_ (by rw [List.size_toArray, List.size_toArray]; omega)
 have ea : its.toArray ++ its2.toArray = (its ++ its2).toArray := by simp
 rw [ea]
 exact ⟨.ref _, _, I.lnew (t' := s.toks) (r.append r2) (by rw [List.length_append]; omega), rfl, q _ I.fresh⟩
noncomputable def rRep : R2 := fun x y H Q => ∃ l k xs, x = .ref l /\ y = .int k /\ H l = some (.lst xs) /\ -(2 ^ 63) <= k /\ k < 2 ^ 63 /\ xs.length * k.toNat <= sizeLine /\
 ∀ p, H p = none -> Q (.ref p) (upd H p (.lst (List.replicate k.toNat xs).flatten))
end
section
variable {prog : Program} {w : World} {A : Around} {E : Value -> Shared -> Prop} {s : Shared}
end
section
variable {X : Cx}
end
end L2
namespace Att
open PySem PySem.W PySem.Calls PyProof.Rows
theorem ints_of_wellAll {P : Params} {h : Heap} : ∀ (ns : List Int) (vs : List Value), WellAll P h vs (ns.map WData.int) -> IntsAre vs ns := by
 intro ns
 induction ns with
 | nil =>
  intro vs w
  rw [List.map_nil] at w
  cases w
  exact .nil
 | cons n ns ih =>
  intro vs w
  rw [List.map_cons] at w
  cases w with
  | cons a b =>
   cases a
   exact .cons _ _ (ih _ b)
theorem script_of {l : OpenLaw} {n : Nat} (hn : l.most = some n) {P : Params} {h : Heap} {args : List WData} {vals : List Value}
  (hpre : l.row.toRowW.claim.pre args = true) (hwl : WellAll P h vals args) :
  ∃ a vs ns, vals = [Value.ref a] /\ args = [WData.list (ns.map WData.int)] /\ h.get? a = some { cls := .type "list", data := .seq vs.toArray } /\ IntsAre vs ns /\ ns.length <= n := by
 have hsh : WShape.hasAll [] args [.list .int] = true := (pre_splitW hpre).1
 have hc : l.pre.holds [] { args := args } = true := (pre_splitW hpre).2
 obtain ⟨d, r, rfl, h1, h2⟩ := hasAllW_cons hsh
 obtain rfl := hasAllW_nil h2
 obtain ⟨xs, rfl, h3⟩ := hasW_list h1
 obtain ⟨ns, rfl⟩ := items_int h3
 have hlen : ns.length <= n := by
  unfold OpenLaw.pre at hc
  have h4 : (WTm.not (.lt (.lit (.int (n : Int))) (.len (.arg 0)))).holds [] { args := [.list (ns.map .int)] } = true := by
   have h4 := (holds_andW hc).1
   rw [hn] at h4
   exact h4
  have h5 := condW_of h4 (w_not (w_lt w_lit (w_len_list (w_arg rfl))))
  rw [List.length_map] at h5
  refine Nat.le_of_not_lt fun q => ?_
  have q' : (n : Int) < ((ns.length : Nat) : Int) := by omega
  first
   | (rw [decide_eq_true q'] at h5; exact absurd h5 (by decide))
   | (simp at h5; omega)
 cases hwl with
 | cons w1 w2 =>
  cases w2
  cases w1 with
  | list ho hall => exact ⟨_, _, ns, rfl, rfl, ho, ints_of_wellAll ns _ hall, hlen⟩
theorem post_true (l : OpenLaw) (args : List WData) : l.row.toRowW.claim.post args (.bool true) args = true :=
 postW_of (r := l.row.toRowW) (X := (true == true))
  (show WShape.has [] (.bool true) .bool = true by first | rfl | decide | simp [WShape.has, WShape.arms, WShape.armsAll])
  (show (WTm.eq .res (.lit (.bool true))).value [] { args := args, res := some (.bool true), after := args } = some (.bool (true == true)) from w_eq_bool (w_res rfl) w_lit) rfl
theorem attach_call {l : OpenLaw} {n : Nat} {q : Program} {loose : List Str} {XP : (Str -> Option Value) -> Heap -> Prop} {YP : World -> Heap -> Prop} {d : DefRec}
  (hn : l.most = some n) (hdf : d.params.defaults = [])
  (call : ∀ (w : World) (s₀ s₁ : Shared) (mg mb : Str -> Option Value) (fa : Addr) (o : Obj) (pm cd doc : Value) (a : Addr) (vs : List Value) (ns : List Int),
   Ground q loose [] XP w s₀ mg mb s₁.heap -> YP w s₁.heap ->
   s₁.heap.get? fa = some o -> o.data = .func (docDef d.name d.params d.body d.scope pm cd doc) -> s₁.heap.CodeRec cd d.name -> mg d.name = some (.ref fa) ->
   s₁.heap.get? a = some { cls := .type "list", data := .seq vs.toArray } -> IntsAre vs ns -> ns.length <= n -> s₁.gens = #[] ->
   codeAny (model l.prog w) callerA (.call (.ref fa) ⟨[.ref a], []⟩) (fun r s' => r = .ok (.ret (.bool true)) /\ OldK s₁.heap s'.heap /\ s'.os = s₁.os /\ AllBare s'.gens) s₁) :
  WalkO q loose XP YP l.row.toRowW d [] (fun f vs => PySem.call f vs) := by
 intro w s₀ s₁ mg mb G Y fa o pm cd doc dV kV ho hd hcd hD hmg hg args vals as hpre hlay hrd hwl hlo
 obtain rfl : dV = .none := Dflts.none hD hdf
 obtain rfl : kV = .none := Dflts.noKw hD
 obtain ⟨a, vs, ns, rfl, rfl, hobj, hints, hlen⟩ := script_of hn hpre hwl
 refine enter_call (codeAny_mono (call w s₀ s₁ mg mb fa o pm cd doc a vs ns G Y ho (fd_plain hd) hcd hmg hobj hints hlen hg) fun r s' hq => ?_)
 obtain ⟨rfl, h2, h3, h4⟩ := hq
 exact ⟨.inl ⟨.bool true, .bool true, [], rfl, fun _ => rfl, .bool true, post_true l _, fun _ => ⟨List.Pairwise.nil, fun _ hm => (nomatch hm)⟩⟩, h2, h3, h4⟩
section
variable {prog : Program} {w : World} {A : Around} {E : Value -> Shared -> Prop} {s : Shared} {K : Frag}
noncomputable def noObjs (h : Heap) : Heap := { h with objs := #[] }
noncomputable def ledger (h : Heap) (L d : Addr) : List (Addr × Obj) := (List.range h.objs.size).filterMap fun a => if a = L \/ a = d then none else (h.get? a).map fun o => (a, o)
end
end Att
namespace L2
open PySem PySem.Spec PyProof.Rows
theorem vals_ints : ∀ {vs : List Value} {ns : List Int}, IntsAre vs ns -> Vals (ns.map V.int) vs
 | _, _, .nil => .nil
 | _, _, .cons n t h => .cons ⟨t, rfl⟩ (vals_ints h)
noncomputable def Only (H : Hp) : Prop := ∀ b, H b = none \/ ∃ o xs, H b = some (.frz o (.lst xs))
set_option tactic.hygienic true in
theorem law_call {P : Program} {w : World} {K : PySem.W.Frag} {mg mb : Str -> Option Value} {CX : CXT} {k : Nat} {fa a : Addr} {fd : FuncData} {x : Str} {sp : Sp} {s₁ : Shared} {vs : List Value} {ns : List Int}
  (KX : K.In s₁.heap) (hns : s₁.heap.Ns mainGlobals mg) (hb : s₁.heap.Ns builtinsNs mb) (hbb : ∀ x : Str, x ≠ "__name__" -> mb x = bootBuiltins x) (hlim : s₁.heap.NoLimit) (hg : s₁.gens = #[])
  (ha : s₁.heap.get? a = some { cls := .type "list", data := .seq vs.toArray }) (hi : IntsAre vs ns) (hl : ns.length <= sizeLine) (hr : Room k callerA)
  (F : ∀ base : Heap, K.In base -> base.Ns mainGlobals mg -> FnOk P w K mg base CX k fa fd [x] sp) (hbind : ∀ (s : Shared) (u : Value), BindsTo s fd ⟨[u], []⟩ [(x, u)])
  (hsp : ∀ H : Hp, Only H -> SqL K H a (ns.map V.int) -> sp [.ref a] H (fun v _ => v = .bl true) fun _ _ _ => False)
  (hCX : ∀ H e s', CX [] H s₁ (fun _ _ _ => False) e s' -> False) :
  codeAny (model P w) callerA (.call (.ref fa) ⟨[.ref a], []⟩) (fun r s' => r = .ok (.ret (.bool true)) /\ OldK s₁.heap s'.heap /\ s'.os = s₁.os /\ AllBare s'.gens) s₁ := by
 have rv := vals_ints hi
 have lenV := hi.length
 have core : ∀ H : Hp, Only H -> SqL K H a (ns.map V.int) -> HOk P w H s₁.heap -> (∀ b, H b ≠ none -> b = a) -> (H a ≠ none -> K.lookup a = none) ->
   codeAny (model P w) callerA (.call (.ref fa) ⟨[.ref a], []⟩) (fun r s' => r = .ok (.ret (.bool true)) /\ OldK s₁.heap s'.heap /\ s'.os = s₁.os /\ AllBare s'.gens) s₁ := by
  intro H hO hS hok hA hK
  have base_of : ∀ {b : Addr} {o : Obj}, s₁.heap.get? b = some o -> H b = none -> (hidT s₁.heap H).get? b = some o := fun e n => hidT_get e n
  have noA : ∀ {b : Addr} {o : Obj} {es : Array DictEntry} {ep : Nat}, s₁.heap.get? b = some o -> o.data = .dict es ep -> H b = none := fun {b o es ep} e d => by
   cases q : H b with
   | none => rfl
   | some u =>
    have e' : b = a := hA b (by rw [q]; simp)
    subst e'
    rw [ha] at e; cases e
    have d' : Data.seq vs.toArray _ = Data.dict es ep := d
    cases d'
  have nsK : ∀ {b : Addr} {m : Str -> Option Value}, s₁.heap.Ns b m -> (hidT s₁.heap H).Ns b m := fun {b m} ⟨o, es, ep, e, d, r⟩ => ⟨o, es, ep, base_of e (noA e d), d, r⟩
  have hKb : K.In (hidT s₁.heap H) := fun b o e => base_of (KX b o e) (by
   cases q : H b with
   | none => rfl
   | some u =>
    have e' : b = a := hA b (by rw [q]; simp)
    subst e'
    rw [hK (by rw [q]; simp)] at e; cases e)
  have hM : Mod K mg (hidT s₁.heap H) := ⟨hKb, nsK hns, ⟨mb, nsK hb, hbb⟩, let ⟨mc, h1, h2⟩ := hlim; ⟨mc, nsK h1, h2⟩⟩
  have e0 : Env0 P w K mg (hidT s₁.heap H) callerA [] s₁ H := ⟨rfl, hM, fun b o e => of_hidT e, Nat.le_of_eq (hidT_size _ _), trivial, fun b hb => absurd (show b ∈ ([] : List Addr) from hb) (by simp), hok, .of_eq hg⟩
  refine codeAny_mono ((F _ hKb (nsK hns)).run callerA [] s₁ H ⟨[.ref a], []⟩ [.ref a] [.ref a] _ _ hr e0 (hbind s₁ (.ref a)) (.cons rfl .nil) (hsp H hO hS)) fun r s' h => ?_
  cases r with
  | error e => exact (hCX H e s' h).elim
  | ok fl =>
   cases fl with
   | next => exact False.elim h
   | brk => exact False.elim h
   | cont => exact False.elim h
   | ret u =>
    obtain ⟨v, H', os, bare, un, hok', r', q⟩ := h
    have q' : v = .bl true := q
    subst q'
    obtain rfl : u = Value.bool true := r'
    refine ⟨rfl, OldK.of_keep fun b o e => ?_, os, bare⟩
    cases q : H b with
    | none => exact un.keep b o e q (by intro z; exact absurd (show b ∈ ([] : List Addr) from z) (by simp)) (by simp)
    | some u =>
     rcases hO b with z | ⟨ob, xs, z⟩
     ·rw [q] at z; cases z
     ·have z2 := un.frzs b ob _ z
      obtain ⟨e1, _⟩ := hok b _ z
      obtain ⟨e2, _⟩ := hok' b _ z2
      rw [e] at e1; cases e1
      exact e2
 cases hk : K.lookup a with
 | some o =>
  have e := KX a o hk
  rw [ha] at e
  cases e
  refine core (fun _ => none) (fun _ => .inl rfl) (.inr ⟨_, vs.toArray, _, hk, rfl, rfl, rfl, by rw [List.size_toArray, lenV]; exact hl, by simpa using rv⟩) (fun b u z => by have z' : (none : Option HO) = some u := z; cases z') (fun b z => absurd rfl z) fun z => absurd rfl z
 | none =>
  refine core (fun b => if b = a then some (.frz { cls := .type "list", data := .seq vs.toArray } (.lst (ns.map V.int))) else none) (fun b => ?_) (.inl (.inr ⟨{ cls := .type "list", data := .seq vs.toArray }, if_pos rfl⟩)) (fun b u z => ?_) (fun b z => ?_) fun _ => hk
  ·by_cases hb : b = a
   ·exact .inr ⟨_, _, if_pos hb⟩
   ·exact .inl (if_neg hb)
  ·by_cases hb : b = a
   ·have z' := (if_pos hb).symm.trans z
    cases z'
    subst hb
    exact ⟨ha, by rw [List.length_map]; exact hl, vs, _, rv, ha⟩
   ·have z' := (if_neg hb).symm.trans z
    cases z'
  ·by_cases hb : b = a
   ·exact hb
   ·exact absurd (if_neg hb) z
end L2
namespace L2
open PySem PySem.Spec PyProof.Rows
noncomputable abbrev KOf {K : PySem.W.Frag} {h : Heap} (_ : K.In h) : PySem.W.Frag := K
theorem walk_of {l : PySem.W.OpenLaw} {n k : Nat} {q : Program} {loose : List Str} {XP : (Str -> Option Value) -> Heap -> Prop} {YP : World -> Heap -> Prop} {d : DefRec} {K : Params -> PySem.W.Frag} {CX : World -> CXT} {sp : World -> Sp} {x : Str}
  (hn : l.most = some n) (hn2 : n <= sizeLine) (hdf : d.params.defaults = []) (hr : Room k callerA)
  (hY : ∀ (w : World) (h : Heap), YP w h -> (K w.params).In h)
  (F : ∀ (w : World) (mg : Str -> Option Value) (fa : Addr) (h : Heap), (K w.params).In h -> h.Ns mainGlobals mg -> mg d.name = some (.ref fa) ->
   ∃ fd : FuncData, (∀ (s : Shared) (u : Value), BindsTo s fd ⟨[u], []⟩ [(x, u)]) /\
    ∀ base : Heap, (K w.params).In base -> base.Ns mainGlobals mg -> FnOk l.prog w (K w.params) mg base (CX w) k fa fd [x] (sp w))
  (hsp : ∀ (w : World) (H : Hp) (a : Addr) (ns : List Int), ns.length <= n -> Only H -> SqL (K w.params) H a (ns.map V.int) -> sp w [.ref a] H (fun v _ => v = .bl true) fun _ _ _ => False)
  (hCX : ∀ (w : World) (H : Hp) (s : Shared) (e : Value) (s' : Shared), CX w [] H s (fun _ _ _ => False) e s' -> False) :
  PySem.W.WalkO q loose XP YP l.row.toRowW d [] (fun f vs => PySem.call f vs) := by
 refine Att.attach_call hn hdf fun w s₀ s₁ mg mb fa o pm cd doc a vs ns G Y ho hd hcd hmg hobj hints hlen hg => ?_
 have KX := hY w _ Y
 obtain ⟨fd, hb, hF⟩ := F w mg fa _ KX G.T.g hmg
 exact law_call KX G.T.g G.T.b G.T.builtins G.T.nolimit hg hobj hints (Nat.le_trans hlen hn2) hr hF hb (fun H hO hS => hsp w H a ns hlen hO hS) fun H e s' => hCX w H s₁ e s'
end L2
namespace L2
open PySem PySem.Spec PyProof.Rows
noncomputable def inClass (s : Stmt) (j : Nat) : Stmt := match s with
 | .ClassDef _ _ _ body _ _ _ _ _ _ _ => body.getD j (.Pass ⟨0, 0, 0, 0⟩)
 | _ => .Pass ⟨0, 0, 0, 0⟩
noncomputable def defArgs (s : Stmt) : Arguments := match s with
 | .FunctionDef _ a _ _ _ _ _ _ _ _ => a
 | _ => { posonlyargs := [], args := [], vararg := none, kwonlyargs := [], kw_defaults := [], kwarg := none, defaults := [] }
noncomputable def defBody (s : Stmt) : List Stmt := match s with
 | .FunctionDef _ _ b _ _ _ _ _ _ _ => b
 | _ => []
noncomputable def defScope (s : Stmt) : Scope := match s with
 | .FunctionDef _ _ _ _ _ _ sc _ _ _ => sc
 | _ => { kind := .function, names := [], isGenerator := false, isCoroutine := false }
noncomputable abbrev CX0 : CXT := fun _ _ _ _ _ _ => False
noncomputable abbrev E0 : XK := fun _ _ _ => False
theorem pass0 {X : Cx} : Passes CX0 X E0 := fun _ _ _ _ _ _ _ h => h.elim
structure Fun (K : PySem.W.Frag) (x qual : Str) (st : Stmt) (f : Addr) (fd : FuncData) : Prop where
 ex : ∃ (oc : Value) (od : Option Addr) (kV doc pm : Value) (an : Option Addr) (cdv ct : Value) (osl : Array (Option Value)),
  fd = PySem.W.fnOf x qual (defArgs st) (defBody st) (defScope st) .none kV doc pm an cdv ct /\ K.lookup f = some ⟨oc, od, .func fd, osl⟩ /\ PySem.W.codeIn K cdv qual = true
 kp : PySem.W.keepIn K (.ref f) = true
section
variable {P : Program} {w : World} {K : PySem.W.Frag} {mg : Str -> Option Value} {base : Heap}
theorem Fun.ok {x qual : Str} {st : Stmt} {f : Addr} {fd : FuncData} {N ps : List Str} {k : Nat} {sp : Sp} (F : Fun K x qual st f fd) (S : FnScope N ps (defScope st)) (len : ∀ vs H Q E, sp vs H Q E -> vs.length = ps.length)
  (hbody : ∀ (cdv : Value) (A : Around) (outer : List Env) (s : Shared) (H : Hp) (vs : List V) (Q : VK) (E : XK), Room k (A.deeper (envOfC qual (defScope st) s.heap.objs.size f cdv)) -> sp vs H Q E ->
   ∃ t, PSs (cxOf CX0 P w K mg base N qual (defScope st) f cdv A outer s H E).nox (defBody st) t /\ t { nx := fun _ H' => Q .non H', rt := Q } (start N vs) H) : FnOk P w K mg base CX0 (k + 1) f fd ps sp := by
 obtain ⟨oc, od, kV, doc, pm, an, cdv, ct, osl, rfl, lk, hcd⟩ := F.ex
 refine fn_of lk hcd S len fun A outer s H vs Q E hr hsp => ?_
 obtain ⟨t, h, q⟩ := hbody cdv A outer s H vs Q E hr hsp
 exact ⟨t, h.nox, q⟩
theorem Fun.binds {x qual : Str} {st : Stmt} {f : Addr} {fd : FuncData} {ps : List Str} (F : Fun K x qual st f fd)
  (h : ∀ (kV doc pm : Value) (an : Option Addr) (cdv ct : Value) (us : List Value), us.length = ps.length -> bindArgs (PySem.W.fnOf x qual (defArgs st) (defBody st) (defScope st) .none kV doc pm an cdv ct) ⟨us, []⟩ = pure (ps.zip us)) : Binds K fd ps [] := by
 obtain ⟨oc, od, kV, doc, pm, an, cdv, ct, osl, rfl, lk, hcd⟩ := F.ex
 exact .all (h kV doc pm an cdv ct)
theorem fun_mk {x qual : Str} {st : Stmt} {f : Addr} {oc : Value} {od an : Option Addr} {osl : Array (Option Value)} {kV doc pm cdv ct : Value} (l : K.lookup f = some ⟨oc, od, .func (PySem.W.fnOf x qual (defArgs st) (defBody st) (defScope st) .none kV doc pm an cdv ct), osl⟩)
  (c : PySem.W.codeIn K cdv qual = true) (k : PySem.W.keepIn K (.ref f) = true) : Fun K x qual st f (PySem.W.fnOf x qual (defArgs st) (defBody st) (defScope st) .none kV doc pm an cdv ct) := ⟨⟨oc, od, kV, doc, pm, an, cdv, ct, osl, rfl, l, c⟩, k⟩
end
theorem hu_of {A : Around} {k : Nat} (hr : Room k A) : A.units + 1 < cLine := Nat.lt_of_le_of_lt (Nat.add_le_add_left (by decide : 1 <= 64) _) hr.units
theorem small1000 {n : Nat} (h : n <= 1000) : n < sizeLine := Nat.lt_of_le_of_lt h (by decide)
section
variable {X : Cx}
theorem pv (i : Nat) {x : Str} {pos : Pos} (hN : X.N[i]? = some x := by rfl) (hv : Vis X.env.scope x := by first | exact Or.inl rfl | exact Or.inr (Or.inl rfl) | exact Or.inr (Or.inr rfl)) (hd : (x == ("__debug__" : Str)) = false := by decide)
  (hcd : (x == ("__classdict__" : Str)) = false := by decide) : PE X (.Name x pos) (tVar i) := pe_var hN hv hd hcd
end
theorem iteF {A B : Prop} (h : B) : if false = true then A else B := by
 rw [if_neg Bool.false_ne_true]
 exact h
theorem iteT {A B : Prop} (h : A) : if true = true then A else B := by
 rw [if_pos rfl]
 exact h
theorem ite2 {c A B : Prop} [Decidable c] (h1 : c -> A) (h2 : ¬ c -> B) : if c then A else B := by
 by_cases h : c
 ·rw [if_pos h]
  exact h1 h
 ·rw [if_neg h]
  exact h2 h
theorem iteNS {c A B : Prop} [Decidable c] (hc : c) (h : B) : if (!decide c) = true then A else B := by
 rw [decide_eq_true hc]
 exact iteF h
noncomputable def Same (H H' : Hp) : Prop := ∀ b o, H b = some o -> H' b = some o
theorem Same.refl (H : Hp) : Same H H := fun _ _ h => h
theorem Same.trans {H H1 H2 : Hp} (a : Same H H1) (b : Same H1 H2) : Same H H2 := fun c o h => b c o (a c o h)
theorem Same.free {H H' : Hp} (e : Same H H') {l : Addr} (h : H' l = Option.none) : H l = Option.none := by
 cases q : H l with
 | none => rfl
 | some o =>
  rw [e l o q] at h
  cases h
theorem Same.seq {K : PySem.W.Frag} {H H' : Hp} {a : Addr} {xs : List V} (e : Same H H') (h : SqL K H a xs) : SqL K H' a xs := by
 rcases h with (h | ⟨o, h⟩) | h
 ·exact .inl (.inl (e _ _ h))
 ·exact .inl (.inr ⟨o, e _ _ h⟩)
 ·exact .inr h
end L2
namespace L2
open PySem PySem.Spec PyProof.Rows
section
variable {prog : Program} {w : World} {A : Around} {R : Result -> Shared -> Prop} {s : Shared}
set_option tactic.hygienic true in
theorem compLoop_all {elt tg iter : Expr} {ifs : List Expr} {scope : Scope} {pos : Pos} {it acc : Value} {env : Env} {N : Value -> Shared -> Prop} (hN : N = notedBy (model prog w) A env fun e s' => R (.error e) s') (I : Nat -> Shared -> Prop)
  (turn : ∀ n s, I n s -> wpAny (model prog w) A (pyNext it) (fun r s1 => match r with
   | none => R (.ok .next) s1
   | some v => wpAny (model prog w) A (letOwnedTupleGo tg it v) (fun _ s2 => wpAny (model prog w) A (assign tg env v) (fun _ s3 =>
     wpAny (model prog w) A (forIn ifs true fun c r => if r = true then do let ok <- isTrue c env (eval c env); pure (ForInStep.yield ok) else pure (ForInStep.yield r)) (fun ok s4 =>
      if ok = true then wpAny (model prog w) A (eval elt env) (fun x s5 => wpAny (model prog w) A (call (.builtin "list.append") [acc, x]) (fun _ s6 => ∃ m, m < n /\ I m s6) N s5) N s4
      else ∃ m, m < n /\ I m s4) N s3) N s2) N s1) N s)
  (n : Nat) (h : I n s) : codeAny (model prog w) A (.compLoop (.ListComp elt [⟨tg, iter, ifs, 0⟩] scope pos) 0 it acc env) R s := by
 subst hN
 refine codeAny_loop rfl I (fun n s hI => ?_) n h
 show wpAny _ A ((compTurn (.ListComp elt [⟨tg, iter, ifs, 0⟩] scope pos) 0 it acc env).onRaise (fun x => do noteFrame x env; theTreesLotGoes x)) _ _ s
 refine wpAny_noted ?_
 rw [compTurn_list]
 refine wpAny_bind (wpAny_standAt (wpAny_bind (wpAny_mono (turn n s hI) (fun r s1 h1 => ?_) fun _ _ z => z)))
 cases r with
 | none => exact wpAny_pure h1
 | some v =>
  refine wpAny_bind (wpAny_mono h1 (fun _ s2 h2 => ?_) fun _ _ z => z)
  refine wpAny_bind (wpAny_mono h2 (fun _ s3 h3 => wpAny_bind (wpAny_mono h3 (fun ok s4 h4 => ?_) fun _ _ z => z)) fun _ _ z => z)
  cases ok with
  | false => exact wpAny_pure ⟨rfl, h4⟩
  | true => exact wpAny_bind (wpAny_bind (wpAny_mono h4 (fun x s5 h5 => wpAny_bind (wpAny_mono h5 (fun _ s6 h6 => wpAny_pure (wpAny_pure ⟨rfl, h6⟩)) fun _ _ z => z)) fun _ _ z => z))
end
noncomputable def cxComp (X : Cx) (N : List Str) (scope : Scope) (cl : List (Str × Addr)) (C : Addr) (s₀ : Shared) (H₀ : Hp) (fp : List Addr) (xe : Value -> Shared -> Prop) : Cx where
 prog := X.prog
 w := X.w
 K := X.K
 mg := X.mg
 base := X.base
 A := X.A
 N := N
 s₀ := s₀
 H₀ := H₀
 env := compEnvC scope cl C X.env
 outer := X.stack
 stack := X.stack
 ex := fp
 calm := X.calm
 fn := fun _ => false
 pn := []
 xe := xe
structure Caps (X : Cx) (scope : Scope) (cl : List (Str × Addr)) (cs : List (Str × Nat)) : Prop where
 clos : closureFor scope X.env = pure cl
 sub : ∀ x c, cl.lookup x = some c -> X.env.cells.lookup x = some c
 cap : ∀ p ∈ cs, X.N[p.2]? = some p.1 /\ X.env.scope.names.lookup p.1 = some .cell /\ (relabel scope X.env).names.lookup p.1 = some .cell /\ ∃ c, cl.lookup p.1 = some c
 has : ∀ x, ((relabel scope X.env).names.lookup x = some .cell \/ (relabel scope X.env).names.lookup x = some .free) -> ∃ c, cl.lookup x = some c
 kind : scope.kind = .function
 nocell : ∀ y ∈ scope.names, y.2 ≠ .cell
 names : ∀ y ∈ scope.names, y.2 = .local -> scope.names.lookup y.1 = some .local
noncomputable def capSt (n : Nat) (cs : List (Str × Nat)) (σ : St) : St := List.replicate n none ++ cs.map fun p => (σ[p.2]?).getD none
noncomputable def PTs (X : Cx) (ifs : List Expr) (t : TT) : Prop :=
 ∀ (pins : List (Addr × Obj)) (s : Shared) (σ : St) (H : Hp) (Q : Bool -> Hp -> Prop), Inv X pins σ H s -> t σ H Q ->
  wpAny (model X.prog X.w) X.A (forIn ifs true fun c r => if r = true then do let ok <- isTrue c X.env (eval c X.env); pure (ForInStep.yield ok) else pure (ForInStep.yield r)) (TP X pins σ Q) X.xe s
noncomputable def tYes : TT := fun _ H Q => Q true H
theorem pts_nil {X : Cx} : PTs X [] tYes := fun _ _ _ H _ I h => wpAny_tests_nil ⟨H, I, h⟩
theorem pts_one {X : Cx} {c : Expr} {t : TT} (h : PT X c t) : PTs X [c] t := fun pins s σ H Q I q => wpAny_tests_one (h pins s σ H Q I q)
noncomputable def LcGo (J : It) (D : Addr) (g : TG) (tt : TT) (te : TE) (Fin : Hp -> Prop) (W : Nat -> Nat -> St -> Hp -> Prop) : Prop :=
 ∀ i m σ H, W i m σ H -> (J.stop i H /\ Fin H) \/ (J.go i H /\ ∃ N : St -> Hp -> Prop, (∀ σ' H', N σ' H' -> ∃ m', m' < m /\ W (i + 1) m' σ' H') /\ ∀ x H1, J.yld i H x H1 -> g x σ H1 fun σ2 H2 => tt σ2 H2 fun b H3 =>
  if b = true then te σ2 H3 fun y H4 => ∃ ys, H4 D = some (.lst ys) /\ ys.length < sizeLine /\ N σ2 (upd H4 D (.lst (ys ++ [y]))) else N σ2 H3)
noncomputable def tLc (wi : TI) (n : Nat) (cs : List (Str × Nat)) (g : TG) (tt : TT) (te : TE) : TE := fun σ H Q => wi σ H fun J H1 => ∀ D, H1 D = none -> ∃ W : Nat -> Nat -> St -> Hp -> Prop, (∃ m, W 0 m (capSt n cs σ) (upd H1 D (.lst []))) /\ LcGo J D g tt te (Q (.ref D)) W
section
variable {X : Cx} {elt tg iter : Expr} {ifs : List Expr} {scope : Scope} {pos : Pos} {cl : List (Str × Addr)} {cs : List (Str × Nat)} {tn : List Str} {wi : TI} {g : TG} {tt : TT} {te : TE}
noncomputable def BlockEnd (X : Cx) (pins : List (Addr × Obj)) (σ : St) (C D : Addr) (Q : VK) (s' : Shared) : Prop :=
 ∃ H', Inv X pins σ H' s' /\ Q (.ref D) H' /\ H' C = none /\ C ≠ X.env.locals /\ X.s₀.heap.objs.size <= C /\ (∀ x c, X.env.cells.lookup x = some c -> c ≠ C) /\ (∀ p ∈ X.pn ++ pins, p.1 ≠ C) /\ ∃ m, s'.heap.Ns C m
set_option tactic.hygienic true in
theorem lc_block (K : Caps X scope cl cs) (hcalm : X.calm = true)
    (hg : ∀ C s₀ H₀ fp xe, PG (cxComp X (tn ++ cs.map (·.1)) scope cl C s₀ H₀ fp xe) tg g) (ht : ∀ C s₀ H₀ fp xe, PTs (cxComp X (tn ++ cs.map (·.1)) scope cl C s₀ H₀ fp xe) ifs tt) (he : ∀ C s₀ H₀ fp xe, PE (cxComp X (tn ++ cs.map (·.1)) scope cl C s₀ H₀ fp xe) elt te)
    {pins : List (Addr × Obj)} {σ : St} {s2 : Shared} {Q : VK} {itv : Value} {RR : Value -> Addr -> Result -> Shared -> Prop} {E : Value -> Shared -> Prop}
    (h : PIE X pins σ tg (fun J H1 => ∀ D, H1 D = none -> ∃ W : Nat -> Nat -> St -> Hp -> Prop, (∃ m, W 0 m (capSt tn.length cs σ) (upd H1 D (.lst []))) /\ LcGo J D g tt te (Q (.ref D)) W) itv s2)
    (hR : ∀ C D s', BlockEnd X pins σ C D Q s' -> RR (.ref D) C (.ok .next) s') :
    wpAny (model X.prog X.w) X.A (newList []) (fun acc s3 => wpAny (model X.prog X.w) X.A (newFunctionEnv scope X.env.globals cl [] X.env.qual none .none (some X.env)) (fun cenv s4 =>
      codeAny (model X.prog X.w) X.A (.compStart (.ListComp elt [⟨tg, iter, ifs, 0⟩] scope pos) 0 itv acc { cenv with scope := relabel scope X.env }) (RR acc cenv.locals) s4) E s3) E s2 := by
  obtain ⟨it, fp, tnf, J, H1, rfl, I1, T, st1, f1, q1⟩ := h
  refine wpAny_newObj_type (wpAny_newFunctionEnv K.nocell (by intro y hy; simp at hy) (fun h4 hns4 hsb4 => ?_) K.kind)
  dsimp only at hns4 hsb4 ⊢
  have hD : H1 s2.heap.objs.size = none := I1.hok.fresh (Nat.le_refl _)
  obtain ⟨W, ⟨m0, w0⟩, go⟩ := q1 _ hD
  have I3 : Inv X pins σ (upd H1 s2.heap.objs.size (.lst [])) { s2 with heap := s2.heap.push { cls := .type "list", dict := none, data := .seq ([] : List Value).toArray } } :=
    I1.laid (t' := s2.toks) (fun b o e => Heap.get?_push_of_some _ e) (Nat.le_refl _) ⟨Nat.zero_le _, [], 0, .nil, Heap.get?_push_size _ rfl⟩
  generalize hh3 : s2.heap.push { cls := .type "list", dict := none, data := .seq ([] : List Value).toArray } = h3 at I3 hns4 hsb4 ⊢
  have sz3 : h3.objs.size = s2.heap.objs.size + 1 := by rw [<- hh3, Heap.size_push]
  generalize hH3 : upd H1 s2.heap.objs.size (.lst []) = H3 at I3 w0
  have old4 : ∀ b o, h3.get? b = some o -> h4.get? b = some o := fun b o e => hsb4.extBut b o (Nat.ne_of_lt (Heap.lt_size e)) (Heap.get?_push_of_some _ e)
  have fpne : ∀ b ∈ fp, b < s2.heap.objs.size := fun b hb => by
    obtain ⟨o, e, _⟩ := T.obj _ _ st1 b hb
    exact Heap.lt_size e
  have H3fp : ∀ b ∈ fp, H3 b = none := fun b hb => by
    rw [<- hH3, upd_ne (Nat.ne_of_lt (fpne b hb))]
    exact (f1 b hb).1
  have HC : H3 h3.objs.size = none := I3.hok.fresh (Nat.le_refl _)
  have cellEnv : ∀ x c, (compEnvC scope cl h3.objs.size X.env).cells.lookup x = some c -> X.env.cells.lookup x = some c := fun x c e => K.sub x c e
  have hnd : ∀ xe, Cx.Ok (cxComp X (tn ++ cs.map (·.1)) scope cl h3.objs.size { s2 with heap := h3 } H3 fp xe) := fun xe =>
    { mod := I3.ok.mod
      kind := K.kind
      glob := I3.ok.glob
      blt := I3.ok.blt
      above := Nat.le_refl _
      inj := fun x y c e1 e2 => I3.ok.inj x y c (K.sub x c e1) (K.sub y c e2)
      has := fun x hx => K.has x hx
      cab := fun x c hf _ => by cases hf
      hd := I3.ok.hd
      frames := I3.ok.frames
      stk := .inl rfl
      exf := fun b hb => ⟨Nat.ne_of_lt (by rw [sz3]; exact Nat.lt_succ_of_lt (fpne b hb)), fun x c e => (f1 b hb).2.2.2.2.1 x c (K.sub x c e)⟩
      bs := I3.bs
      bsz := Nat.le_trans I3.ok.bsz I3.sz
      noex := fun b o e hb => by
        have hn := (f1 b hb).2.2.2.1
        rcases hn with z | z
        . exact I3.ok.noex b o e z
        . exact absurd (Nat.lt_of_lt_of_le (Heap.lt_size e) (Nat.le_trans I3.ok.bsz z)) (Nat.lt_irrefl _)
      exfs := fun b hb hf => by
        rcases List.mem_cons.mp (I3.stkSub b hf) with z | z
        . exact (f1 b hb).2.1 z
        . exact (f1 b hb).2.2.1 z
      funs := I3.stack
      frf := I3.stkFree }
  have Istart : ∀ xe tk, Inv (cxComp X (tn ++ cs.map (·.1)) scope cl h3.objs.size { s2 with heap := h3 } H3 fp xe) [] (capSt tn.length cs σ) H3 { s2 with heap := h4, toks := tk } := fun xe tk =>
    { ok := hnd xe
      os := rfl
      bare := I3.bare
      base := Un.kept old4
      loc := ⟨_, hns4, fun i x v e1 e2 e3 => by
        have hi : tn.length <= i := by
          refine Nat.not_lt.mp fun hlt => ?_
          unfold capSt at e2
          rw [List.getElem?_append_left (by rw [List.length_replicate]; exact hlt), List.getElem?_replicate, if_pos hlt] at e2
          cases e2
        have e1' : (tn ++ cs.map (·.1))[i]? = some x := e1
        rw [List.getElem?_append_right hi, List.getElem?_map] at e1'
        unfold capSt at e2
        rw [List.getElem?_append_right (by rw [List.length_replicate]; exact hi), List.length_replicate, List.getElem?_map] at e2
        cases ep : cs[i - tn.length]? with
        | none => rw [ep] at e1'; cases e1'
        | some p =>
          rw [ep] at e1' e2
          have ex : p.1 = x := Option.some.inj e1'
          have ev : (σ[p.2]?).getD none = some v := Option.some.inj e2
          obtain ⟨c1, c2, c3, c, c4⟩ := K.cap p (List.mem_of_getElem? ep)
          have es : σ[p.2]? = some (some v) := by
            cases q : σ[p.2]? with
            | none => rw [q] at ev; cases ev
            | some z =>
              rw [q] at ev
              have z' : z = some v := ev
              rw [z']
          obtain ⟨m, hn, hl⟩ := I3.loc
          obtain ⟨u, ru, lk⟩ := hl p.2 p.1 v c1 es (.inr (.inl c2))
          refine ⟨u, ru, .inr ⟨.inl (by rw [<- ex]; exact c3), c, by rw [<- ex]; exact c4, ?_⟩⟩
          rcases lk with ⟨k, _⟩ | ⟨_, c', e', z⟩
          . have k' : X.env.scope.names.lookup p.1 = some .local := k
            rw [c2] at k'
            cases k'
          . have := K.sub p.1 c c4
            rw [this] at e'
            cases e'
            obtain ⟨o, ho, hd⟩ := z
            exact ⟨o, old4 _ _ ho, hd⟩⟩
      cell := fun x c e => by
        obtain ⟨v, o, ho, hd⟩ := I3.cell x c (K.sub x c e)
        exact ⟨v, o, old4 _ _ ho, hd⟩
      free := HC
      freeC := fun x c e => I3.freeC x c (K.sub x c e)
      pin := fun p hp => nomatch (show p ∈ ([] : List (Addr × Obj)) from hp)
      hok := I3.hok.kept old4
      len := by
        show (capSt tn.length cs σ).length = (tn ++ cs.map (·.1)).length
        unfold capSt
        simp }
  have loop : ∀ xe, xe = notedBy (model X.prog X.w) X.A (compEnvC scope cl h3.objs.size X.env) (fun e s' => RR (.ref s2.heap.objs.size) h3.objs.size (.error e) s') ->
      codeAny (model X.prog X.w) X.A (.compLoop (.ListComp elt [⟨tg, iter, ifs, 0⟩] scope pos) 0 (.ref it) (.ref s2.heap.objs.size) (compEnvC scope cl h3.objs.size X.env)) (RR (.ref s2.heap.objs.size) h3.objs.size) { s2 with heap := h4, toks := s2.toks + ([] : List (Str × Value)).length } := by
    intro xe hxe
    have stat : ∀ {H' : Hp}, (∀ b ∈ fp, H' b = none) -> ∀ b ∈ fp, FpOk (cxComp X (tn ++ cs.map (·.1)) scope cl h3.objs.size { s2 with heap := h3 } H3 fp xe) [] H' b := fun {H'} hn b hb =>
      ⟨hn b hb, ((hnd xe).exf b hb).1, (hnd xe).exfs b hb, .inl hb, fun x c e => ((hnd xe).exf b hb).2 x c e, fun p hp => nomatch (show p ∈ ([] : List (Addr × Obj)) from hp)⟩
    refine compLoop_all hxe (fun n s' => ∃ i σ' H', Inv (cxComp X (tn ++ cs.map (·.1)) scope cl h3.objs.size { s2 with heap := h3 } H3 fp xe) [] σ' H' s' /\ tnf i s'.heap /\ (∀ b ∈ fp, H' b = none) /\ W i n σ' H') ?_ m0
      ⟨0, _, H3, Istart xe _, T.keep _ _ _ st1 fun b _ o e => old4 b o (by rw [<- hh3]; exact Heap.get?_push_of_some _ e), H3fp, w0⟩
    rintro n s5 ⟨i, σ5, H5, I5, st5, fr5, w5⟩
    rcases go i n σ5 H5 w5 with ⟨stop, fin⟩ | ⟨goes, Nx, hNx, step⟩
    . refine thn (T.done (cxComp X (tn ++ cs.map (·.1)) scope cl h3.objs.size { s2 with heap := h3 } H3 fp xe) rfl rfl rfl hcalm i [] s5 σ5 H5 xe I5 (stat fr5) st5 stop) fun r s6 ⟨hr, I6⟩ => ?_
      subst hr
      refine hR _ _ s6 ⟨H5, ?_, fin, I6.free, ?_, ?_, fun x c e => ?_, fun p hp => ?_, ?_⟩
      . refine Inv.call' (s := { s2 with heap := h3 }) (ch := fp) I3 I6.os I6.base I6.hok I6.bare fun b hb => ?_
        obtain ⟨a0, a1, a2, a3, a4, a5⟩ := f1 b hb
        exact ⟨a3, a1, a4, a5⟩
      . exact Nat.ne_of_gt I3.lt
      . exact I3.sz
      . obtain ⟨v, o, ho, _⟩ := I3.cell x c e
        exact Nat.ne_of_lt (Heap.lt_size ho)
      . exact Nat.ne_of_lt (Heap.lt_size (I3.pin p hp).1)
      . obtain ⟨m, hn, _⟩ := I6.loc
        exact ⟨m, hn⟩
    . refine thn (T.item (cxComp X (tn ++ cs.map (·.1)) scope cl h3.objs.size { s2 with heap := h3 } H3 fp xe) rfl rfl rfl hcalm i [] s5 σ5 H5 xe I5 (stat fr5) st5 goes) fun r s6 ⟨u, hr, h6⟩ => ?_
      subst hr
      refine thn h6 fun _ s7 ⟨x, H7, I7, r7, y7, st7, fr7⟩ => ?_
      have I7' := I7.pinned (stat fr7) (T.obj _ _ st7)
      have keepT : ∀ {σ' : St} {H' : Hp} {s' : Shared}, Inv (cxComp X (tn ++ cs.map (·.1)) scope cl h3.objs.size { s2 with heap := h3 } H3 fp xe) ([] ++ pinsAt fp s7.heap) σ' H' s' -> tnf (i + 1) s'.heap /\ ∀ b ∈ fp, H' b = none := fun {σ' H' s'} J =>
        ⟨T.keep _ _ _ st7 fun b hb o e => (J.pin (b, o) (List.mem_append_right _ (List.mem_append_right _ (mem_pinsAt hb e)))).1, fun b hb => by
          obtain ⟨o, e, d⟩ := T.obj _ _ st7 b hb
          exact (J.pin (b, o) (List.mem_append_right _ (List.mem_append_right _ (mem_pinsAt hb e)))).2.1⟩
      refine thn (hg _ _ _ _ xe _ s7 σ5 H7 x u _ I7' r7 (step x H7 y7)) fun _ s8 ⟨σ8, H8, I8, q8⟩ => ?_
      refine thn (ht _ _ _ _ xe _ s8 σ8 H8 _ I8 q8) fun ok s9 ⟨H9, I9, q9⟩ => ?_
      cases ok with
      | false =>
        rw [if_neg Bool.false_ne_true] at q9 ⊢
        obtain ⟨m', hm, w'⟩ := hNx _ _ q9
        exact ⟨m', hm, i + 1, σ8, H9, I9.unpinned, (keepT I9).1, (keepT I9).2, w'⟩
      | true =>
        rw [if_pos rfl] at q9 ⊢
        refine thn (he _ _ _ _ xe _ s9 σ8 H9 _ I9 q9) fun y s10 ⟨v, H10, I10, r10, ys, hys, hz, n10⟩ => ?_
        refine thn (mt_append _ s10 σ8 H10 (.ref s2.heap.objs.size) [v] (.ref s2.heap.objs.size) [y] (fun _ H => H = upd H10 s2.heap.objs.size (.lst (ys ++ [v]))) I10 rfl (.cons r10 .nil) ⟨_, ys, v, rfl, rfl, hys, hz, rfl⟩) fun _ s11 ⟨_, H11, I11, _, e11⟩ => ?_
        subst e11
        obtain ⟨m', hm, w'⟩ := hNx _ _ n10
        exact ⟨m', hm, i + 1, σ8, _, I11.unpinned, (keepT I11).1, (keepT I11).2, w'⟩
  exact codeAny_compStart_list (loop _ rfl) (T.self _ 0 _ _ _ (T.keep _ _ _ st1 fun b _ o e => old4 b o (by rw [<- hh3]; exact Heap.get?_push_of_some _ e)) (loop _ rfl))
theorem pe_lc (K : Caps X scope cl cs) (hcalm : X.calm = true) (hi : PI X tg iter wi)
  (hg : ∀ C s₀ H₀ fp xe, PG (cxComp X (tn ++ cs.map (·.1)) scope cl C s₀ H₀ fp xe) tg g) (ht : ∀ C s₀ H₀ fp xe, PTs (cxComp X (tn ++ cs.map (·.1)) scope cl C s₀ H₀ fp xe) ifs tt) (he : ∀ C s₀ H₀ fp xe, PE (cxComp X (tn ++ cs.map (·.1)) scope cl C s₀ H₀ fp xe) elt te)
  (hs : ∀ x, foldedSetIterable iter X.env x = pure x := by intro _; rfl) : PE X (.ListComp elt [⟨tg, iter, ifs, 0⟩] scope pos) (tLc wi tn.length cs g tt te) := by
 intro pins s σ H Q I h
 rw [eval_ListComp]
 refine wpAny_comprehension_free (use := none) rfl hs K.clos K.kind K.names (thn (hi pins s σ H _ I h) fun v s1 h1 => thn h1 fun itv s2 h2 => ?_)
 refine lc_block (tn := tn) K hcalm hg ht he h2 fun C D s' ⟨H', I', q, c1, c2, c3, c4, c5, m, hn⟩ => ?_
 exact ⟨m, hn, fun h' hs' => ⟨.ref D, H', I'.turned (t' := s'.toks) (fun b o hb e => hs'.extBut b o hb e) c1 c2 (.inr c3) c4 c5, rfl, q⟩⟩
set_option tactic.hygienic true in
theorem ps_lc {y : Str} {py spos : Pos} {j : Nat} (K : Caps X scope cl cs) (hcalm : X.calm = true) (hi : PI X tg iter wi)
  (hg : ∀ C s₀ H₀ fp xe, PG (cxComp X (tn ++ cs.map (·.1)) scope cl C s₀ H₀ fp xe) tg g) (ht : ∀ C s₀ H₀ fp xe, PTs (cxComp X (tn ++ cs.map (·.1)) scope cl C s₀ H₀ fp xe) ifs tt) (he : ∀ C s₀ H₀ fp xe, PE (cxComp X (tn ++ cs.map (·.1)) scope cl C s₀ H₀ fp xe) elt te)
  (hN : X.N.Nodup) (hy : X.N[j]? = some y) (hl : X.env.scope.names.lookup y = some .local) (hsw : swapsWith (.ListComp elt [⟨tg, iter, ifs, 0⟩] scope pos) (some (.Name y py)) spos.line X.env = pure true)
  (hs : ∀ x, foldedSetIterable iter X.env x = pure x := by intro _; rfl) : PS X (.Assign [.Name y py] (.ListComp elt [⟨tg, iter, ifs, 0⟩] scope pos) spos) (tAsg (tLc wi tn.length cs g tt te) (gName j)) := by
 intro pins s σ H D0 I h
 rw [exec_Assign_Name_used _ _ _ _ hsw]
 refine wpAny_bind (wpAny_standAt (wpAny_bind ?_))
 show wpAny _ X.A (do let _ <- comprehension (.ListComp elt [⟨tg, iter, ifs, 0⟩] scope pos) scope X.env _ (newList []) false (eval iter X.env) (some (assign (.Name y py) X.env))) _ _ s
 refine wpAny_bind (wpAny_mono (wpAny_comprehension_free (use := some (assign (.Name y py) X.env)) (Q := fun _ s' => SP X pins D0 .next s') rfl hs K.clos K.kind K.names
  (thn (hi pins s σ H _ I h) fun v s1 h1 => thn h1 fun itv s2 h2 => ?_)) (fun _ s' hq => wpAny_pure (wpAny_pure hq)) fun _ _ e => e)
 refine lc_block (tn := tn) (pins := pins) (σ := σ) (Q := fun x H1 => gName j x σ H1 D0.nx) K hcalm hg ht he h2 fun C D s' ⟨H', I', q, c1, c2, c3, c4, c5, m, hn⟩ => ?_
 show wpAny _ X.A (assign (.Name y py) X.env (.ref D)) _ _ _
 refine wpAny_assign_Name (store_ok2 I' hN hy (.inl hl) (show RelV (.ref D) (.ref D) from rfl) (fun s'' I'' ⟨a, hsb, ha⟩ => ?_) (.inr hl))
 have hne : C ≠ a := by
  rcases ha with rfl | ha
  ·exact c2
  ·exact Ne.symm (c4 _ _ ha)
 exact ⟨m, hn.sameBut hsb hne, fun h' hs' => ⟨_, H', I''.turned (t' := s''.toks) (fun b o hb e => hs'.extBut b o hb e) c1 c2 (.inr c3) c4 c5, q⟩⟩
end
theorem lc_list {K : PySem.W.Frag} {a D : Addr} {xs : List V} {g : TG} {tt : TT} {te : TE} {Fin : Hp -> Prop} {σ0 : St} {H0 : Hp} (Pv : Nat -> St -> Hp -> Prop) (h0 : Pv 0 σ0 H0) (hl : ∀ i σ H, i <= xs.length -> Pv i σ H -> SqL K H a xs)
  (hs : ∀ i x σ H, xs[i]? = some x -> Pv i σ H -> g x σ H fun σ2 H2 => tt σ2 H2 fun b H3 => if b = true then te σ2 H3 fun y H4 => ∃ ys, H4 D = some (.lst ys) /\ ys.length < sizeLine /\ Pv (i + 1) σ2 (upd H4 D (.lst (ys ++ [y]))) else Pv (i + 1) σ2 H3)
  (hd : ∀ σ H, Pv xs.length σ H -> Fin H) :
  ∃ W : Nat -> Nat -> St -> Hp -> Prop, (∃ m, W 0 m σ0 H0) /\ LcGo (Itl K a) D g tt te Fin W := by
 refine ⟨fun i m σ H => m = xs.length - i /\ i <= xs.length /\ Pv i σ H, ⟨xs.length, by simp, Nat.zero_le _, h0⟩, ?_⟩
 rintro i m σ H ⟨rfl, hi, p⟩
 have q := hl i σ H hi p
 by_cases hlt : i < xs.length
 ·refine .inr ⟨⟨xs, xs[i], q, by simp [hlt]⟩, Pv (i + 1), fun σ' H' p' => ⟨xs.length - (i + 1), by omega, rfl, hlt, p'⟩, fun x H' y => ?_⟩
  obtain ⟨e, y⟩ := y
  subst e
  exact hs i x σ _ (y xs q) p
 ·have e : i = xs.length := by lia
  subst e
  exact .inl ⟨⟨xs, q, Nat.le_refl _⟩, hd σ H p⟩
end L2
namespace L2
open PySem PySem.Spec PyProof.Rows
noncomputable def Itz (K : PySem.W.Frag) (a b : Addr) : It :=
  ⟨fun i H => ∃ xs ys x y, SqL K H a xs /\ SqL K H b ys /\ xs[i]? = some x /\ ys[i]? = some y,
   fun i H v H' => ∃ t x y, H t = none /\ v = .ref t /\ H' = upd H t (.tup [x, y]) /\ (∀ xs, SqL K H a xs -> xs[i]? = some x) /\ ∀ ys, SqL K H b ys -> ys[i]? = some y,
   fun i H => ∃ xs ys, SqL K H a xs /\ SqL K H b ys /\ (xs.length <= i \/ ys.length <= i)⟩
theorem Inv.turnedL {X : Cx} {pins : List (Addr × Obj)} {σ : St} {H : Hp} {s : Shared} {h' : Heap} {t' : Nat} {fp : List Addr} (I : Inv X pins σ H s) (k : ∀ b o, b ∉ fp -> s.heap.get? b = some o -> h'.get? b = some o) (hf : ∀ b ∈ fp, FpOk X pins H b) :
  Inv X pins σ H { s with heap := h', toks := t' } := by
 have nit : ∀ b u, H b = some u -> b ∉ fp := fun b u e z => by have := (hf b z).1; rw [this] at e; cases e
 refine I.step (g' := s.gens) (d' := s.drawn) (ch := fp) (fun b hb => ?_) (fun b o _ _ hc e _ => k b o hc e) (fun b o _ _ hc e _ => ⟨o.slots, k b o hc e⟩) (fun _ _ _ _ n => n)
  (fun b o hc e => ⟨o, k b o hc e⟩) (fun _ _ e => e) (fun _ _ _ e => e) (fun b ps e => ⟨#[], by rw [e]; simp⟩) (fun m hm => ?_) (fun b u e => ?_) I.bare
 ·obtain ⟨_, a1, _, a3, a4, a5⟩ := hf b hb
  exact ⟨a3, a1, a4, a5⟩
 ·obtain ⟨o, es, ep, ho, r⟩ := hm
  exact ⟨o, es, ep, k _ o (fun z => (hf _ z).2.1 rfl) ho, r⟩
 ·refine (I.hok b u e).stay (fun c v hc q => k c v ?_ q) (fun _ q => q) fun _ _ q => q
  rcases hc with z | z
  ·rw [z]; exact nit b u e
  ·exact nit c _ z
theorem turn_zip {P : Program} {w : World} {K : PySem.W.Frag} {elts : List Expr} {k1 : Nat} {tp : Pos} {z TI TO i1 i2 a b : Addr} (D : ZipApart z TI TO i1 i2 a b) :
  Turn P w K (.Tuple elts k1 tp) (Itz K a b) [z, TI, TO, i1, i2] z (fun i h => IsZip h z TI TO .none /\ IsPair h TI (.ref i1) (.ref i2) /\ (∃ u v, IsPair h TO u v) /\ h.IsListIter i1 a i /\ h.IsListIter i2 b i) where
 mem := by simp
 obj := fun i h ⟨s1, s2, ⟨u, v, s3⟩, s4, s5⟩ c hc => by
  simp only [List.mem_cons, List.not_mem_nil, or_false] at hc
  rcases hc with rfl | rfl | rfl | rfl | rfl
  ·exact ⟨_, s1, fun v q => by cases q⟩
  ·exact ⟨_, s2, fun v q => by cases q⟩
  ·exact ⟨_, s3, fun v q => by cases q⟩
  ·obtain ⟨o, e, _, d⟩ := s4
   exact ⟨o, e, fun v q => by rw [d] at q; cases q⟩
  ·obtain ⟨o, e, _, d⟩ := s5
   exact ⟨o, e, fun v q => by rw [d] at q; cases q⟩
 keep := fun i h h' ⟨s1, s2, ⟨u, v, s3⟩, s4, s5⟩ kk => ⟨kk z (by simp) _ s1, kk TI (by simp) _ s2, ⟨u, v, kk TO (by simp) _ s3⟩, s4.at fun o e => kk i1 (by simp) o e, s5.at fun o e => kk i2 (by simp) o e⟩
 item := by
  intro X hP hw hK hc i pins s σ H E I hf st hg
  subst hP hw hK
  obtain ⟨xs, ys, x, y, hx, hy, ex, ey⟩ := hg
  obtain ⟨its, rv, p1, hz1⟩ := I.list hx
  obtain ⟨jts, rw', p2, hz2⟩ := I.list hy
  obtain ⟨u, hu, ru⟩ := rv.get ex
  obtain ⟨v, hv, rv'⟩ := rw'.get ey
  obtain ⟨s1, s2, ⟨o1, o2, s3⟩, s4, s5⟩ := st
  refine wpAny_pyNext_zip_item D s1 s2 s3 s4 s5 p1.isList p2.isList (x := u) (y := v) (by simpa using hu) (by simpa using hv) fun h' t1 t2 t3 t4 t5 t6 t7 => ?_
  refine ⟨_, rfl, wpAny_letOwnedTupleGo_zip t1 fun h2 g1 g2 => ?_⟩
  have hT : s.heap.objs.size ≠ z := Nat.ne_of_gt (Heap.lt_size s1)
  have kk : ∀ c o, c ∉ [z, TI, TO, i1, i2] -> s.heap.get? c = some o -> h2.get? c = some o := fun c o hc e => by
   simp only [List.mem_cons, List.not_mem_nil, or_false, not_or] at hc
   exact (g2.2 c hc.1).trans (t7 c o hc.1 hc.2.2.1 hc.2.2.2.1 hc.2.2.2.2 e)
  have hTI : h2.get? TI = some { cls := .type "tuple", data := .seq #[.ref i1, .ref i2] } := (g2.2 TI D.TIz).trans (t7 TI _ D.TIz D.TITO D.TIi1 D.TIi2 s2)
  have I1 : Inv X pins σ H { s with heap := h2 } := I.turnedL (t' := s.toks) kk hf
  have hn : H s.heap.objs.size = none := I.hok.fresh (Nat.le_refl _)
  have hTn : h2.get? s.heap.objs.size = some { cls := .type "tuple", data := .seq #[u, v] } := (g2.2 _ hT).trans t5
  have ok2 : HOk X.prog X.w (upd H s.heap.objs.size (.tup [x, y])) h2 := fun c q e => by
   by_cases hcs : c = s.heap.objs.size
   ·subst hcs
    rw [upd_same] at e
    cases e
    exact ⟨by show 2 <= sizeLine; decide, [u, v], .cons ru (.cons rv' .nil), _, hTn, rfl, 0, rfl⟩
   ·rw [upd_ne hcs] at e
    exact (I1.hok c q e).stay (fun _ _ _ q => q) (fun d q => by rw [upd_ne (ne_of_none q hn)]; exact q) fun d xs q => by rw [upd_ne (ne_of_none q hn)]; exact q
  have I2 : Inv X pins σ (upd H s.heap.objs.size (.tup [x, y])) { s with heap := h2 } := by
   refine I.step (h' := h2) (g' := s.gens) (d' := s.drawn) (t' := s.toks) (ch := [z, TI, TO, i1, i2]) (fun c hcm => ?_) (fun c o _ _ hc e _ => kk c o hc e) (fun c o _ _ hc e _ => ⟨o.slots, kk c o hc e⟩)
    (fun c o _ e n => by rw [upd_ne (Nat.ne_of_lt (Heap.lt_size e))]; exact n) (fun c o hc e => ⟨o, kk c o hc e⟩) (fun c q e => by rw [upd_ne (ne_of_none e hn)]; exact e) (fun c o q e => by rw [upd_ne (ne_of_none e hn)]; exact e)
    (fun c ps e => ⟨#[], by rw [upd_ne (ne_of_none e hn), e]; simp⟩) (fun m hm => ?_) ok2 I.bare
   ·obtain ⟨_, a1, _, a3, a4, a5⟩ := hf c hcm
    exact ⟨a3, a1, a4, a5⟩
   ·obtain ⟨o, es, ep, ho, r⟩ := hm
    exact ⟨o, es, ep, kk _ o (fun q => (hf _ q).2.1 rfl) ho, r⟩
  refine ⟨.ref s.heap.objs.size, _, I2, rfl, ⟨s.heap.objs.size, x, y, hn, rfl, rfl, fun q hq => by rw [I.list_inj hq hx]; exact ex, fun q hq => by rw [I.list_inj hq hy]; exact ey⟩,
   ⟨g1, hTI, ⟨u, v, (g2.2 TO D.TOz).trans t2⟩, t3.at fun o e => (g2.2 _ D.i1z).trans e, t4.at fun o e => (g2.2 _ D.i2z).trans e⟩, fun c hcm => ?_⟩
  have hlt : c < s.heap.objs.size := by
   simp only [List.mem_cons, List.not_mem_nil, or_false] at hcm
   rcases hcm with rfl | rfl | rfl | rfl | rfl
   ·exact Heap.lt_size s1
   ·exact Heap.lt_size s2
   ·exact Heap.lt_size s3
   ·obtain ⟨o, e, _⟩ := s4; exact Heap.lt_size e
   ·obtain ⟨o, e, _⟩ := s5; exact Heap.lt_size e
  rw [upd_ne (Nat.ne_of_lt hlt)]
  exact (hf c hcm).1
 done := by
  intro X hP hw hK hc i pins s σ H E I hf st hg
  subst hP hw hK
  obtain ⟨xs, ys, hx, hy, hl⟩ := hg
  obtain ⟨its, rv, p1, hz1⟩ := I.list hx
  obtain ⟨jts, rw', p2, hz2⟩ := I.list hy
  obtain ⟨s1, s2, ⟨o1, o2, s3⟩, s4, s5⟩ := st
  have e1 := rv.length
  have e2 := rw'.length
  refine wpAny_pyNext_zip_end (I.ok.hd hc) D s1 s2 s3 s4 s5 p1.isList p2.isList (by simp; lia) fun h' hk => ⟨rfl, I.turnedL (t' := s.toks) (fun c o hc e => ?_) hf⟩
  simp only [List.mem_cons, List.not_mem_nil, or_false, not_or] at hc
  exact hk c o hc.1 hc.2.2.1 hc.2.2.2.1 hc.2.2.2.2 e
 self := fun _ _ _ _ _ st h => wpAny_pyIter_zip st.1 h
section
variable {X : Cx} {elts : List Expr} {k1 : Nat} {tp : Pos}
noncomputable def iZip (K : PySem.W.Frag) (ta : TA) : TI := fun σ H R => ta σ H fun vs H1 => ∃ a b, vs = [.ref a, .ref b] /\ (∃ xs, SqL K H1 a xs) /\ (∃ ys, SqL K H1 b ys) /\ R (Itz K a b) H1
theorem pi_zip {a b : Expr} {ta : TA} {p pos : Pos} (hg : Gl X "zip") (hm : X.mg "zip" = none) (ha : PA X [a, b] ta) (hs : starEach [a, b] X.env = [(false, eval a X.env), (false, eval b X.env)] := by rfl) (hs2 : starEach [b] X.env = [(false, eval b X.env)] := by rfl) :
  PI X (.Tuple elts k1 tp) (.Call (.Name "zip" p) [a, b] [] pos) (iZip X.K ta) := by
 intro pins s σ H R I h
 refine Call_ (ld_blt I hg hm boot_zip (PyProof.Rows.callWith_type1 (thn (ha pos pins s σ H _ I h) fun us s1 ⟨vs, H1, I1, r1, q1⟩ => ?_) (by rw [hs, hs2]) (by rw [hs2]; rfl)))
 obtain ⟨l1, l2, e, ⟨xs, hx⟩, ⟨ys, hy⟩, q⟩ := q1
 subst e
 cases r1 with
 | cons r rr =>
  cases rr with
  | cons r' rr =>
   cases rr
   cases r
   cases r'
   obtain ⟨its, rv, p1, hz1⟩ := I1.list hx
   obtain ⟨jts, rw', p2, hz2⟩ := I1.list hy
   obtain ⟨oa, hoa, _⟩ := p1.isList
   obtain ⟨ob, hob, _⟩ := p2.isList
   have hlt1 := Heap.lt_size hoa
   have hlt2 := Heap.lt_size hob
   refine call_zip_2 p1.isList p2.isList fun h' t1 t2 t3 t4 t5 t6 t7 => ?_
   refine wpAny_pyIter_zip t1 ?_
   have I2 : Inv X pins σ H1 { s1 with heap := h' } := I1.kept (t' := s1.toks) t7
   refine ⟨s1.heap.objs.size + 4, [s1.heap.objs.size + 4, s1.heap.objs.size + 2, s1.heap.objs.size + 3, s1.heap.objs.size, s1.heap.objs.size + 1], _, _, H1, rfl, I2, turn_zip (PySem.W.ktu_apart _ _ _ hlt1 hlt2), ⟨t1, t2, ⟨_, _, t3⟩, t4, t5⟩, fun c hc => ?_, q⟩
   refine I1.fpOk ?_ (I1.hok.fresh ?_) <;>
   ·simp only [List.mem_cons, List.not_mem_nil, or_false] at hc
    rcases hc with rfl | rfl | rfl | rfl | rfl <;> lia
end
end L2
namespace L2
open PySem PySem.Spec PyProof.Rows PySem.W
open RS (Pt kk dedP lexLt SetAt SetEx Tab Led Ents moreAll)
noncomputable def Tp (H : Hp) (a : Addr) (p : Pt) : Prop := H a = some (.tup [.int p.1, .int p.2])
noncomputable abbrev Ats (H : Hp) : List Addr -> List Pt -> Prop := Paired (Tp H)
noncomputable def Pts (H : Hp) (l : Addr) (ps : List Pt) : Prop := ∃ as : List Addr, H l = some (.lst (as.map V.ref)) /\ Ats H as ps
theorem vals_refs : ∀ {as : List Addr} {us : List Value}, Vals (as.map V.ref) us -> us = as.map Value.ref
 | [], _, h => by cases h; rfl
 | a :: as, _, h => by
  cases h with
  | cons r t =>
   rw [vals_refs t]
   have e := r
   cases e
   rfl
theorem refs_vals : ∀ (as : List Addr), Vals (as.map V.ref) (as.map Value.ref)
 | [] => .nil
 | _ :: as => .cons rfl (refs_vals as)
theorem ObjOk.obj {P : Program} {w : World} {H : Hp} {h : Heap} {a : Addr} {o : HO} (x : ObjOk P w H h a o) : ∃ ob, h.get? a = some ob := by
 cases o with
 | lst xs => obtain ⟨_, _, _, _, e⟩ := x; exact ⟨_, e⟩
 | tup xs => obtain ⟨_, _, _, ob, e, _⟩ := x; exact ⟨_, e⟩
 | dK kvs => obtain ⟨_, _, _, _, ob, _, _, e, _⟩ := x; exact ⟨_, e⟩
 | dT kvs => obtain ⟨_, _, _, _, ob, _, _, e, _⟩ := x; exact ⟨_, e⟩
 | set S n => obtain ⟨ob, _, _, _, e, _⟩ := x; exact ⟨_, e⟩
 | ins C dx fs => obtain ⟨_, _, _, e, _⟩ := x; exact ⟨_, e⟩
 | own y => exact x
 | xd fs => obtain ⟨_, ⟨_, _, _, e, _⟩, _⟩ := x; exact ⟨_, e⟩
 | rng lo hi => obtain ⟨_, _, _, e⟩ := x; exact ⟨_, e⟩
 | frz ob u => exact ⟨ob, x.1⟩
 | tbl ps => exact ⟨_, x⟩
 | met f y => exact ⟨_, x⟩
 | ext φ => exact x.2.1
section
variable {X : Cx} {pins : List (Addr × Obj)} {σ : St} {H : Hp} {s : Shared}
theorem Inv.key {a : Addr} {p : Pt} (I : Inv X pins σ H s) (h : Tp H a p) : IsTupleKey (intKind X.prog X.w) s.heap (kk p) a := by
 obtain ⟨_, its, r, o, ho, hc, n, hd⟩ := I.hok a _ h
 refine ⟨o, its.toArray, n, ho, hc, hd, ?_⟩
 cases r with
 | cons r1 r =>
  cases r with
  | cons r2 r =>
   cases r
   obtain ⟨t1, rfl⟩ := r1
   obtain ⟨t2, rfl⟩ := r2
   exact .cons (intKind_is _ _ _ _) (.cons (intKind_is _ _ _ _) .nil)
theorem Inv.grown {h' : Heap} {D : Addr} {o : HO} {t' : Nat} (I : Inv X pins σ H s) (k : ∀ b u, b ≠ X.env.locals -> s.heap.get? b = some u -> h'.get? b = some u) (ns : ∀ m, s.heap.Ns X.env.locals m -> h'.Ns X.env.locals m)
  (hD : H D = none) (hs : s.heap.get? D = none) (new : ObjOk X.prog X.w (upd H D o) h' D o) : Inv X pins σ (upd H D o) { s with heap := h', toks := t' } := by
 have tr : ∀ b u, H b = some u -> b ≠ X.env.locals := fun b u e z => by rw [z, I.free] at e; cases e
 refine I.step (h' := h') (g' := s.gens) (d' := s.drawn) (ch := []) (fun _ z => nomatch z) (fun b u hb _ _ e _ => k b u hb e) (fun b u hb _ _ e _ => ⟨u.slots, k b u hb e⟩)
  (fun b u _ e n => by rw [upd_ne (fun z => by rw [z, hs] at e; cases e)]; exact n) (fun b u _ e => ?_) (fun b xs e => by rw [upd_ne (ne_of_none e hD)]; exact e) (fun b u xs e => by rw [upd_ne (ne_of_none e hD)]; exact e)
  (fun b ps e => ⟨#[], by rw [upd_ne (ne_of_none e hD), e]; simp⟩) ns (fun b u e => ?_) I.bare
 ·by_cases hb : b = X.env.locals
  ·obtain ⟨m, hn, _⟩ := I.loc
   obtain ⟨o', _, _, ho', _⟩ := ns m hn
   exact ⟨o', by rw [hb]; exact ho'⟩
  ·exact ⟨u, k b u hb e⟩
 ·by_cases hb : b = D
  ·subst hb
   rw [upd_same] at e
   cases e
   exact new
  ·rw [upd_ne hb] at e
   refine (I.hok b u e).stay (fun c v hc q => k c v ?_ q) (fun c q => by rw [upd_ne (ne_of_none q hD)]; exact q) fun c xs q => by rw [upd_ne (ne_of_none q hD)]; exact q
   rcases hc with z | z
   ·rw [z]; exact tr b u e
   ·exact tr c _ z
theorem ns_uniq {h : Heap} {L : Addr} {m m' : Str -> Option Value} (a : h.Ns L m) (b : h.Ns L m') : m' = m := by
 obtain ⟨o, es, ep, ho, hd, _, hm⟩ := a
 obtain ⟨o', es', ep', ho', hd', _, hm'⟩ := b
 rw [ho] at ho'
 cases ho'
 rw [hd] at hd'
 injection hd' with e1 _
 subst e1
 funext x
 rw [<- hm x, <- hm' x]
theorem Inv.news {h' : Heap} {m : Str -> Option Value} (I : Inv X pins σ H s) (F : Fr X.base X.env.locals h' m) (N : News X.base X.env.locals h' (allNews X.base s.heap X.env.locals)) :
  ∀ b u, b ≠ X.env.locals -> s.heap.get? b = some u -> h'.get? b = some u := fun b u hb e => by
 cases q : X.base.get? b with
 | some v =>
  have := I.bk b v q
  rw [e] at this
  cases this
  exact F.keep b _ q
 | none => exact (N (b, u) (mem_allNews hb q e)).1
end
noncomputable def SetO (P : Program) (w : World) (S : Addr) (ents : List (Pt × Addr)) : HO :=
 .ext fun h => ∃ o es ep t, h.get? S = some o /\ o.ExactSet /\ o.data = .set es ep t /\ Tab t es /\ Led w t /\ es.toList.Perm (ents.map fun p => (tupleKeyHash (intKind P w) (kk p.1), Value.ref p.2))
theorem more_eq : ∀ (l xs : List (Pt × Addr)), moreAll (xs.map fun p => (kk p.1, p.2)) (l.map fun p => (kk p.1, p.2)) = (l.foldl RS.addP xs).map fun p => (kk p.1, p.2)
 | [], _ => rfl
 | p :: l, xs => by
  have e : RS.more (xs.map fun p => (kk p.1, p.2)) (kk p.1) p.2 = (RS.addP xs p).map fun p => (kk p.1, p.2) := by
   unfold RS.more RS.addP
   have hiff : kk p.1 ∈ (xs.map fun p => (kk p.1, p.2)).map (·.1) ↔ p.1 ∈ xs.map (·.1) := by
    rw [List.map_map, List.mem_map, List.mem_map]
    constructor
    ·rintro ⟨q, hq, e⟩
     exact ⟨q, hq, RS.kk_inj e⟩
    ·rintro ⟨q, hq, e⟩
     exact ⟨q, hq, by show kk q.1 = kk p.1; rw [e]⟩
   by_cases h : p.1 ∈ xs.map (·.1)
   ·rw [if_pos h, if_pos (hiff.mpr h)]
   ·rw [if_neg h, if_neg (fun z => h (hiff.mp z)), List.map_append]
    rfl
  show moreAll (RS.more (xs.map fun p => (kk p.1, p.2)) (kk p.1) p.2) (l.map fun p => (kk p.1, p.2)) = _
  rw [e]
  exact more_eq l (RS.addP xs p)
section
variable {X : Cx}
noncomputable def rSetP (X : Cx) : List V -> Hp -> VK -> Prop := fun xs H Q => ∃ l as ps, xs = [.ref l] /\ H l = some (.lst (as.map V.ref)) /\ Ats H as ps /\ as.length <= 150 /\ ∀ S, H S = none -> Q (.ref S) (upd H S (SetO X.prog X.w S (dedP (ps.zip as))))
theorem zip_snd : ∀ {as : List Addr} {ps : List Pt}, as.length = ps.length -> (ps.zip as).map (fun p => Value.ref p.2) = as.map Value.ref
 | [], [], _ => rfl
 | a :: as, p :: ps, h => by
  simp only [List.zip_cons_cons, List.map_cons]
  rw [zip_snd (by simpa using h)]
theorem zip_tp {H : Hp} {as : List Addr} {ps : List Pt} (z : Ats H as ps) : ∀ q ∈ ps.zip as, Tp H q.2 q.1 := by
 induction z with
 | nil => exact fun q h => by cases h
 | cons r _ ih =>
  intro q h
  rcases List.mem_cons.mp h with rfl | h
  ·exact r
  ·exact ih q h
theorem call_set_pts (hc : X.calm = true) (hu : X.A.units + 8 < cLine) : CallR X (.type "set") (rSetP X) := by
 intro pins s σ H xs us Q I r h
 obtain ⟨l, as, ps, rfl, hl, ha, hn, q⟩ := h
 obtain ⟨u, rfl, ru⟩ := vals1 r
 cases ru
 obtain ⟨its, rv, p1, _⟩ := I.list (SqL.of hl)
 have e := vals_refs rv
 subst e
 have hlen : as.length = ps.length := Paired.length ha
 have el := zip_snd (as := as) (ps := ps) hlen
 have ezl : ((ps.zip as).map fun p => (kk p.1, p.2)).map (fun p => Value.ref p.2) = as.map Value.ref := by rw [List.map_map]; exact el
 refine RS.call_set_tups (its := (ps.zip as).map fun p => (kk p.1, p.2)) (I.ok.hd hc) hu (by rw [ezl]; exact p1.isList) (fun p hp => ?_) (by rw [List.length_map, List.length_zip]; lia) fun h' tk hS hk => ?_
 ·obtain ⟨z, hz, rfl⟩ := List.mem_map.mp hp
  exact I.key (zip_tp ha z hz)
 ·have em := more_eq (ps.zip as) []
  rw [List.map_nil] at em
  rw [em] at hS
  obtain ⟨o, es, ep, t, ho, he, hd, T, hle, E⟩ := hS
  refine ⟨.ref s.heap.objs.size, _, I.laid (h' := h') (t' := tk) (o := SetO X.prog X.w s.heap.objs.size (dedP (ps.zip as))) (fun b u e => hk b u e) (Nat.le_refl _) ⟨⟨o, es, ep, t, ho, he, hd, T, hle, ?_⟩, ⟨o, ho⟩, fun h1 h2 ⟨o, es, ep, t, x, y⟩ k => ⟨o, es, ep, t, k o x, y⟩⟩, rfl, q _ (I.hok.fresh (Nat.le_refl _))⟩
  have := E.perm
  rw [List.map_map] at this
  exact this
noncomputable def rSortP (X : Cx) : List V -> Hp -> VK -> Prop := fun xs H Q => ∃ S ents, xs = [.ref S] /\ H S = some (SetO X.prog X.w S ents) /\ (∀ p ∈ ents, Tp H p.2 p.1) /\ (ents.map (·.1)).Nodup /\ ents.length < 64 /\
 ∀ (D : Addr) (srt : List (Pt × Addr)), H D = none -> srt.Perm ents -> srt.Pairwise (fun p q : Pt × Addr => lexLt p.1 q.1 = true) -> Q (.ref D) (upd H D (.lst (srt.map fun p => V.ref p.2)))
theorem call_sorted_pts (hc : X.calm = true) : CallR X (.builtin "sorted") (rSortP X) := by
 intro pins s σ H xs us Q I r h
 obtain ⟨S, ents, rfl, hS, hk, nd, hn, q⟩ := h
 obtain ⟨u, rfl, ru⟩ := vals1 r
 cases ru
 obtain ⟨⟨o, es, ep, t, ho, he, hd, T, Lw, hp⟩, _, _⟩ := I.hok S _ hS
 obtain ⟨m, hm, _⟩ := id I.loc
 have F : Fr X.base X.env.locals s.heap m := ⟨hm, I.bk, Nat.le_trans I.ok.bsz I.ok.above⟩
 have N : News X.base X.env.locals s.heap (allNews X.base s.heap X.env.locals) := news_all
 have hsz : es.size = ents.length := by
  have := hp.length_eq
  rw [List.length_map, Array.length_toList] at this
  exact this
 refine kdu_sorted (RS.src_set (ep := ep) T Lw) (I.ok.hd hc) F N ⟨o, ho, he.1, hd⟩ (by rw [hsz, sizeLine_eq]; lia) fun D h1 tk vs F1 N1 l1 hlen hv => ?_
 have hw := (RS.walk_perm X.w S es ep).trans hp
 obtain ⟨its, pi, ei⟩ := RS.perm_map (fun p : Pt × Addr => (tupleKeyHash (intKind X.prog X.w) (kk p.1), Value.ref p.2)) hw ents rfl
 have evs : vs = its.map fun p => Value.ref p.2 := by
  refine List.ext_getElem? fun j => ?_
  have elen : vs.length = its.length := by rw [hlen, hsz]; exact pi.length_eq.symm
  rcases Nat.lt_or_ge j vs.length with hj | hj
  ·obtain ⟨e, h2, h3⟩ := hv j vs[j] (by simp [hj])
   rw [<- Array.getElem?_toList, ei, List.getElem?_map] at h2
   rw [List.getElem?_map]
   cases z : its[j]? with
   | none => rw [z] at h2; cases h2
   | some p =>
    rw [z] at h2
    cases h2
    rw [List.getElem?_eq_getElem hj, h3]
    rfl
  ·rw [List.getElem?_eq_none hj, List.getElem?_eq_none (by rw [List.length_map]; lia)]
 subst evs
 have off : ∀ z ∈ allNews X.base s.heap X.env.locals, z.1 ≠ D := fun z hz => Nat.ne_of_lt (l1 z hz)
 have nDs : s.heap.get? D = none := by
  cases z : s.heap.get? D with
  | none => rfl
  | some od =>
   have hD := N1 (D, _) List.mem_cons_self
   exact absurd (l1 (D, od) (mem_allNews hD.2.1 hD.2.2 z)) (Nat.lt_irrefl _)
 have nDH : H D = none := by
  cases z : H D with
  | none => rfl
  | some od =>
   obtain ⟨od', ho'⟩ := (I.hok D od z).obj
   rw [nDs] at ho'
   cases ho'
 refine RS.sort_pairs (s := { s with heap := h1, toks := tk }) (its := its) F1 N1 off (by rw [pi.length_eq]; exact hn) ((pi.map (·.1)).nodup_iff.mpr nd) (fun h' F' N' p hp' => ?_) fun h2 c srt F2 N2 ps hs => ?_
 ·have hkp := I.key (hk p (pi.mem_iff.mp hp'))
  have hne : p.2 ≠ X.env.locals := fun z => by
   have hh := hk p (pi.mem_iff.mp hp')
   unfold Tp at hh
   rw [z, I.free] at hh
   cases hh
  exact RS.tupKey_keep hkp fun o e => I.news F' N' _ o hne e
 ·have N3 : News X.base X.env.locals h2 (allNews X.base s.heap X.env.locals) := fun z hz => N2 z (List.mem_cons_of_mem _ hz)
  have gD := (N2 (D, _) List.mem_cons_self).1
  refine ⟨.ref D, _, I.grown (h' := h2) (t' := tk) (o := .lst (srt.map fun p => V.ref p.2)) (I.news F2 N3) (fun m' hm' => by rw [ns_uniq hm hm']; exact F2.ns) nDH nDs ⟨?_, srt.map (fun p => Value.ref p.2), c, ?_, gD⟩, rfl, q D srt nDH (ps.trans pi) hs⟩
  ·rw [List.length_map, ps.length_eq, pi.length_eq, sizeLine_eq]; lia
  ·have := refs_vals (srt.map (·.2))
   rw [List.map_map, List.map_map] at this
   exact this
end
end L2
namespace L2
open PySem PySem.Spec PyProof.Rows PySem.SeqAt
open RS (Pt kk)
theorem items_any {P P' : Program} {w w' : World} {ks : List Int} {vs : List Value} (h : ItemsAre (intKind P w) ks vs) : ItemsAre (intKind P' w') ks vs := by
 induction h with
 | nil => exact .nil
 | cons h1 _ ih => exact .cons h1 ih
theorem key_any {P P' : Program} {w w' : World} {h : Heap} {ks : List Int} {a : Addr} (x : IsTupleKey (intKind P w) h ks a) : IsTupleKey (intKind P' w') h ks a :=
 let ⟨o, its, n, ho, hc, hd, hi⟩ := x; ⟨o, its, n, ho, hc, hd, items_any hi⟩
theorem kk_dec (p q : Pt) : decide (kk p = kk q) = decide (p = q) := by
 by_cases h : p = q
 ·rw [h]; simp
 ·rw [decide_eq_false h, decide_eq_false fun e => h (RS.kk_inj e)]
section
variable {X : Cx}
theorem Inv.eqAt {pins : List (Addr × Obj)} {σ : St} {H : Hp} {s : Shared} {A : Around} {a b : Addr} {p q : Pt} (I : Inv X pins σ H s) (hu : A.units < cLine) (ha : Tp H a p) (hb : Tp H b q) : EqAt A s (.ref a) (.ref b) (decide (p = q)) := fun prog w E Q h =>
 wpAny_eqBool_tuple (knd := intKind prog w) hu (key_any (I.key ha)) (key_any (I.key hb)) (by rw [kk_dec]; exact h)
theorem paired_get {α β : Type} {F : α -> β -> Prop} {l₁ : List α} {l₂ : List β} (q : Paired F l₁ l₂) : ∀ (i : Nat) (a : α), l₁[i]? = some a -> ∃ b, l₂[i]? = some b /\ F a b := by
 induction q with
 | nil => exact fun i a h => by cases h
 | cons r _ ih =>
  intro i a h
  cases i with
  | zero => cases h; exact ⟨_, rfl, r⟩
  | succ i => exact ih i a h
noncomputable def rEqPts : R2 := fun x y H Q => ∃ l b ps qs, x = .ref l /\ y = .ref b /\ Pts H l ps /\ Pts H b qs /\ Q (.bl (decide (ps = qs))) H
theorem op_eqPts (hu : X.A.units + 1 < cLine) : OpR X (compareOp .Eq) rEqPts := by
 intro pins s σ H x y v u Q I rx ry h
 obtain ⟨l, b, ps, qs, rfl, rfl, ⟨as, hl, ha⟩, ⟨bs, hb, hbs⟩, q⟩ := h
 cases rx
 cases ry
 obtain ⟨its, r1, p1, _⟩ := I.list (SqL.of (K := X.K) hl)
 obtain ⟨jts, r2, p2, _⟩ := I.list (SqL.of (K := X.K) hb)
 have e1 := vals_refs r1
 have e2 := vals_refs r2
 subst e1 e2
 have n1 : as.length = ps.length := Paired.length ha
 have n2 : bs.length = qs.length := Paired.length hbs
 by_cases hn : as.length = bs.length
 ·refine eq_listAt (e := fun j => decide (ps[j]? = qs[j]?)) p1.isList p2.isList (by simp [hn]) (by lia) (fun j h1 h2 => ?_) ⟨.bl _, H, I, rfl, ?_⟩
  ·have h1' : j < as.length := by simpa using h1
   have h2' : j < bs.length := by simpa using h2
   obtain ⟨p, hp, tp⟩ := paired_get ha j as[j] (by simp [h1'])
   obtain ⟨p', hp', tp'⟩ := paired_get hbs j bs[j] (by simp [h2'])
   have ee := I.eqAt (A := X.A.in1) (by show X.A.units + 1 < cLine; exact hu) tp tp'
   have e3 : decide (ps[j]? = qs[j]?) = decide (p = p') := by rw [hp, hp']; simp
   rw [e3]
   simpa using ee
  ·have e4 : (List.range (as.map Value.ref).toArray.size).all (fun j => decide (ps[j]? = qs[j]?)) = decide (ps = qs) := by
    have hsz : (as.map Value.ref).toArray.size = ps.length := by simp [n1]
    rw [hsz]
    by_cases he : ps = qs
    ·subst he; simp
    ·rw [decide_eq_false he]
     cases hc : (List.range ps.length).all (fun j => decide (ps[j]? = qs[j]?)) with
     | false => rfl
     | true =>
      refine absurd (List.ext_getElem? fun j => ?_) he
      rcases Nat.lt_or_ge j ps.length with z | z
      ·exact of_decide_eq_true (List.all_eq_true.mp hc j (List.mem_range.mpr z))
      ·rw [List.getElem?_eq_none z, List.getElem?_eq_none (by lia)]
   rw [e4]
   exact q
 ·refine eq_list_lengthsAt p1.isList p2.isList (by simp [hn]) (by omega) ⟨.bl false, H, I, rfl, ?_⟩
  have e5 : decide (ps = qs) = false := decide_eq_false fun e => hn (by rw [n1, n2, e])
  rw [e5] at q
  exact q
noncomputable def rEqPt : R2 := fun x y H Q => ∃ a b p q, x = .ref a /\ y = .ref b /\ Tp H a p /\ Tp H b q /\ Q (.bl (decide (p = q))) H
noncomputable def isAt (H : Hp) (p : Pt) (y : Value) : Bool := match y with
 | .ref b => (match H b with
  | some (.tup [.int u, .int v]) => decide ((u, v) = p)
  | _ => false)
 | _ => false
theorem isAt_tp {H : Hp} {p q : Pt} {b : Addr} (h : Tp H b q) : isAt H p (.ref b) = decide (q = p) := by
 unfold isAt
 simp only
 unfold Tp at h
 rw [h]
theorem any_at {H : Hp} {p : Pt} : ∀ {as : List Addr} {ps : List Pt}, Ats H as ps -> (as.map Value.ref).any (isAt H p) = decide (p ∈ ps)
 | _, _, .nil => by simp
 | _, _, .cons (a := a) (b := q) (l₂ := r) h t => by
  rw [List.map_cons, List.any_cons, any_at t, isAt_tp h]
  by_cases e : q = p
  ·subst e; simp
  ·have : (p ∈ q :: r) ↔ p ∈ r := by
    rw [List.mem_cons]
    exact ⟨fun z => z.elim (fun z => absurd z.symm e) id, .inr⟩
   simp [e, this]
noncomputable def rInPts : R2 := fun x y H Q => ∃ a l p ps, x = .ref a /\ y = .ref l /\ Tp H a p /\ Pts H l ps /\ Q (.bl (decide (p ∈ ps))) H
theorem op_inPts (hu : X.A.units + 1 < cLine) : OpR X (compareOp .In) rInPts := by
 intro pins s σ H x y v u Q I rx ry h
 obtain ⟨a, l, p, ps, rfl, rfl, tp, ⟨as, hl, ha⟩, q⟩ := h
 cases rx
 cases ry
 obtain ⟨its, r1, p1, _⟩ := I.list (SqL.of (K := X.K) hl)
 have e1 := vals_refs r1
 subst e1
 refine in_listAt (isAt H p) p1.isList (fun y hy => ?_) ⟨.bl _, H, I, rfl, ?_⟩
 ·have hy' : y ∈ as.map Value.ref := by simpa using hy
  obtain ⟨j, hj, e⟩ := List.getElem_of_mem hy'
  have hj' : j < as.length := by simpa using hj
  obtain ⟨p', _, tp'⟩ := paired_get ha j as[j] (by simp [hj'])
  have ey : y = .ref as[j] := by rw [<- e]; simp
  rw [ey, isAt_tp tp']
  exact I.eqAt (A := X.A.in1) (by show X.A.units + 1 < cLine; exact hu) tp' tp
 ·have e2 : (as.map Value.ref).toArray.any (isAt H p) = decide (p ∈ ps) := by rw [<- any_at ha]; simp
  rw [e2]
  exact q
theorem call_all_bls (hc : X.calm = true) : CallR X (.builtin "all") (fun xs H Q => ∃ (l : Addr) (bs : List Bool), xs = [.ref l] /\ SqL X.K H l (bs.map V.bl) /\ Q (.bl (bs.all id)) H) := by
 intro pins s σ H xs us Q I r h
 obtain ⟨l, bs, rfl, hl, q⟩ := h
 obtain ⟨u, rfl, ru⟩ := vals1 r
 cases ru
 obtain ⟨its, rv, p1, _⟩ := I.list hl
 have hb : ∀ (j : Nat) (v : Value), its[j]? = some v -> ∃ b, bs[j]? = some b /\ v = .bool b := fun j v hv => by
  have hlen := rv.length
  rw [List.length_map] at hlen
  have hj : j < bs.length := by have := (List.getElem?_eq_some_iff.mp hv).1; lia
  obtain ⟨u, hu, ru⟩ := rv.get (i := j) (x := V.bl bs[j]) (by simp [hj])
  rw [hv] at hu
  cases hu
  exact ⟨bs[j], by simp [hj], ru⟩
 have hlt : l < s.heap.objs.size := let ⟨_, e, _⟩ := p1.isList; Heap.lt_size e
 refine call_all_walkS (wpAny_pyIter_list p1.isList ?_)
 refine ⟨s.heap.objs.size, _, _, _, its.toArray.size, _, _, (fun i => bs.getD i false), rfl, (Walks.list (by exact I.ok.hd hc) s.heap.objs.size l (Nat.ne_of_lt hlt) its.toArray).toS, ⟨⟨_, Heap.get?_push_size _ rfl, rfl, rfl⟩, p1.isList.push _⟩, ?_, fun s' hm => ?_⟩
 ·intro i v s' Q' E' hv hq
  obtain ⟨b, hb1, rfl⟩ := hb i v (by rw [<- Array.getElem?_toList] at hv; simpa using hv)
  have e : bs.getD i false = b := by simp [hb1]
  have hq' : Q' (bs.getD i false) s' := hq
  rw [e] at hq'
  exact wpAny_truthy_bool hq'
 ·have e : (List.range its.toArray.size).all (fun i => bs.getD i false) = bs.all id := by
   have hlen := rv.length
   rw [List.length_map] at hlen
   have hsz : its.toArray.size = bs.length := by simp [hlen]
   rw [hsz]
   have e2 : bs = (List.range bs.length).map fun i => bs.getD i false := by
    refine List.ext_getElem (by simp) fun i h1 h2 => ?_
    simp [h1]
   conv => rhs; rw [e2]
   rw [List.all_map]
   rfl
  rw [e]
  obtain ⟨h', g', d', tk', os'⟩ := s'
  have eg : g' = s.gens := hm.gens
  have ed : d' = s.drawn := hm.drawn
  have eo : os' = s.os := hm.os
  subst eg; subst ed; subst eo
  refine ⟨.bl _, H, I.kept (h' := h') (t' := tk') (fun b o eb => hm.heap b o (fun z => ?_) (Heap.get?_push_of_some _ eb)), rfl, q⟩
  have z' : b = s.heap.objs.size := by simpa using z
  rw [z'] at eb
  exact absurd (Heap.lt_size eb) (Nat.lt_irrefl _)
noncomputable def rInsert : V -> List V -> Hp -> VK -> Prop := fun x vs H Q => ∃ (l : Addr) (xs : List V) (i : Nat) (y : V), x = .ref l /\ vs = [.int (i : Int), y] /\ H l = some (.lst xs) /\ i <= xs.length /\ xs.length < sizeLine /\ (i : Int) < 2 ^ 63 /\ Q .non (upd H l (.lst (xs.take i ++ y :: xs.drop i)))
noncomputable def tLRev (K : PySem.W.Frag) (te : TE) : TE := fun σ H Q => te σ H fun x H1 => ∃ l ys, x = .ref l /\ SqL K H1 l ys /\ ∀ D, H1 D = none -> Q (.ref D) (upd H1 D (.lst ys.reverse))
theorem pe_lrev {e : Expr} {te : TE} {p1 p2 q1 q2 : Pos} (hc : X.calm = true) (hg : Gl X "list") (hm : X.mg "list" = none) (hg2 : Gl X "reversed") (hm2 : X.mg "reversed" = none) (he : PE X e te)
  (hs : starEach [.Call (.Name "reversed" p2) [e] [] q2] X.env = [(false, eval (.Call (.Name "reversed" p2) [e] [] q2) X.env)] := by rfl) (hs2 : starEach [e] X.env = [(false, eval e X.env)] := by rfl) :
  PE X (.Call (.Name "list" p1) [.Call (.Name "reversed" p2) [e] [] q2] [] q1) (tLRev X.K te) := by
 intro pins s σ H Q I h
 refine wpAny_Call_Name_kw (ld_blt I hg hm boot_list ?_)
 refine PyProof.Rows.callWith_type1 ?_ (by rw [hs]; rfl) rfl
 rw [hs]
 show wpAny _ _ (spliced ((false, eval (.Call (.Name "reversed" p2) [e] [] q2) X.env) :: backTo q1 [])) _ _ s
 refine Calls.spliced_cons ?_
 refine wpAny_Call_Name_kw (ld_blt I hg2 hm2 boot_reversed ?_)
 refine PyProof.Rows.callWith_type1 ?_ (by rw [hs2]; rfl) rfl
 rw [hs2]
 show wpAny _ _ (spliced ((false, eval e X.env) :: backTo q2 [])) _ _ s
 refine Calls.spliced_cons (thn (he pins s σ H _ I h) fun u s1 ⟨x, H1, I1, r1, l, ys, ex, hl, q⟩ => ?_)
 subst ex
 cases r1
 refine Calls.spliced_nil ?_
 obtain ⟨its, rv, pl, hz⟩ := I1.list hl
 refine call_reversed_list pl.isList ?_
 refine Calls.spliced_nil ?_
 have hlt : l < s1.heap.objs.size := let ⟨_, e, _⟩ := pl.isList; Heap.lt_size e
 have sz : (s1.heap.push (revObj l (((its.toArray.size : Nat) : Int) - 1))).objs.size = s1.heap.objs.size + 1 := Heap.size_push ..
 refine RS.call_list_rev (s := { s1 with heap := s1.heap.push (revObj l (((its.toArray.size : Nat) : Int) - 1)) }) (a := s1.heap.objs.size) (l := l) (its := its.toArray) (I1.ok.hd hc) ⟨_, Heap.get?_push_size _ rfl, rfl, rfl⟩ (pl.isList.push _) (Nat.ne_of_lt hlt)
  (by rw [List.size_toArray, <- rv.length]; exact hz) fun h' tk acc c hk hS hacc => ?_
 have nD : H1 (s1.heap.push (revObj l (((its.toArray.size : Nat) : Int) - 1))).objs.size = none := I1.hok.fresh (by rw [sz]; exact Nat.le_succ _)
 have ea : acc = its.reverse.toArray := by
  apply Array.toList_inj.mp
  rw [hacc]
 subst ea
 refine ⟨.ref _, _, I1.laid (h' := h') (t' := tk) (o := .lst ys.reverse) (fun b o eb => hk b o (Nat.ne_of_lt (Heap.lt_size eb)) (Heap.get?_push_of_some _ eb)) (by rw [sz]; exact Nat.le_succ _) ?_, rfl, q _ nD⟩
 exact ⟨by rw [List.length_reverse]; exact hz, its.reverse, c, rv.reverse, hS⟩
end
end L2
namespace L2
open PySem PySem.Spec PyProof.Rows
open RS (Pt)
theorem bootAll : bootBuiltins "all" = some (.builtin "all") := by decide +kernel
theorem bootIsi : bootBuiltins "isinstance" = some (.builtin "isinstance") := by decide +kernel
theorem bootSorted : bootBuiltins "sorted" = some (.builtin "sorted") := by decide +kernel
theorem bootSet : bootBuiltins "set" = some (.type "set") := by decide +kernel
theorem bootList : bootBuiltins "list" = some (.type "list") := by decide +kernel
theorem bootInt : bootBuiltins "int" = some (.type "int") := by decide +kernel
theorem bootBool : bootBuiltins "bool" = some (.type "bool") := by decide +kernel
theorem cut_from {xs : List V} (k : Nat) : cutV xs (some (k : Int)) none = xs.drop k := by
 unfold cutV
 rw [HT.sIx_nat, HT.sIx_none]
 rcases Nat.le_total k xs.length with h | h
 ·rw [Nat.min_eq_left h]
  exact List.take_of_length_le (by rw [List.length_drop]; exact Nat.le_refl _)
 ·rw [Nat.min_eq_right h, List.drop_of_length_le (Nat.le_refl _), List.drop_of_length_le h]
  simp
theorem cut_to {xs : List V} (k : Nat) : cutV xs none (some (k : Int)) = xs.take k := by
 unfold cutV
 rw [HT.sIx_nat, HT.sIx_none, List.drop_zero, Nat.sub_zero]
 rcases Nat.le_total k xs.length with h | h
 ·rw [Nat.min_eq_left h]
 ·rw [Nat.min_eq_right h, List.take_of_length_le (Nat.le_refl _), List.take_of_length_le h]
theorem cut_from1 {xs : List V} : cutV xs (some 1) none = xs.drop 1 := cut_from 1
theorem cut_to1 {xs : List V} : cutV xs none (some 1) = xs.take 1 := cut_to 1
theorem cut_init {xs : List V} : cutV xs none (some (-1)) = xs.dropLast := by
 unfold cutV
 have e : HT.sIx xs.length xs.length (some (-1)) = xs.length - 1 := by
  show (if (-1 : Int) < 0 then ((-1 : Int) + (xs.length : Int)).toNat else min (-1 : Int).toNat xs.length) = _
  rw [if_pos (by decide)]
  lia
 rw [e, HT.sIx_none, List.drop_zero, Nat.sub_zero, List.dropLast_eq_take]
theorem Ats.same {H H' : Hp} (e : Same H H') : ∀ {as : List Addr} {ps : List Pt}, Ats H as ps -> Ats H' as ps
 | _, _, .nil => .nil
 | _, _, .cons r t => .cons (e _ _ r) (Ats.same e t)
theorem Pts.same {H H' : Hp} (e : Same H H') {l : Addr} {ps : List Pt} (h : Pts H l ps) : Pts H' l ps := let ⟨as, a, b⟩ := h; ⟨as, e _ _ a, Ats.same e b⟩
theorem Ats.put {H : Hp} {D : Addr} {ys : List V} {o : HO} (hD : H D = some (.lst ys)) : ∀ {as : List Addr} {ps : List Pt}, Ats H as ps -> Ats (upd H D o) as ps
 | _, _, .nil => .nil
 | _, _, .cons r t => .cons (by
   show upd H D o _ = _
   rw [upd_ne (ne_of r hD (by intro z; cases z))]
   exact r) (Ats.put hD t)
theorem Ats.app {H : Hp} {as bs : List Addr} {ps qs : List Pt} (r : Ats H as ps) (s : Ats H bs qs) : Ats H (as ++ bs) (ps ++ qs) := by
 induction r with
 | nil => exact s
 | cons r _ ih => exact .cons r ih
theorem Ats.drop {H : Hp} : ∀ {as : List Addr} {ps : List Pt} (n : Nat), Ats H as ps -> Ats H (as.drop n) (ps.drop n)
 | _, _, 0, r => r
 | _, _, _ + 1, .nil => .nil
 | _, _, n + 1, .cons _ t => Ats.drop n t
theorem Ats.take {H : Hp} : ∀ {as : List Addr} {ps : List Pt} (n : Nat), Ats H as ps -> Ats H (as.take n) (ps.take n)
 | _, _, 0, _ => .nil
 | _, _, _ + 1, .nil => .nil
 | _, _, n + 1, .cons r t => .cons r (Ats.take n t)
theorem Ats.rev {H : Hp} : ∀ {as : List Addr} {ps : List Pt}, Ats H as ps -> Ats H as.reverse ps.reverse
 | _, _, .nil => .nil
 | _, _, .cons r t => by
  rw [List.reverse_cons, List.reverse_cons]
  exact Ats.app (Ats.rev t) (.cons r .nil)
theorem Ats.init {H : Hp} {as : List Addr} {ps : List Pt} (h : Ats H as ps) : Ats H as.dropLast ps.dropLast := by
 rw [List.dropLast_eq_take, List.dropLast_eq_take, Paired.length h]
 exact Ats.take _ h
theorem Ats.get {H : Hp} {as : List Addr} {ps : List Pt} (h : Ats H as ps) {i : Nat} {p : Pt} (e : ps[i]? = some p) : ∃ a, as[i]? = some a /\ Tp H a p := by
 have hl := Paired.length h
 have hi : i < as.length := by have := (List.getElem?_eq_some_iff.mp e).1; lia
 obtain ⟨q, hq, tp⟩ := paired_get h i as[i] (by simp [hi])
 rw [e] at hq
 cases hq
 exact ⟨as[i], by simp [hi], tp⟩
theorem same_upd {H : Hp} {a : Addr} {o : HO} (h : H a = none) : Same H (upd H a o) := fun b u e => by rw [upd_ne (ne_of_none e h)]; exact e
theorem same_set {H0 H : Hp} {D : Addr} {o : HO} (s : Same H0 H) (h : H0 D = none) : Same H0 (upd H D o) := fun b u e => by rw [upd_ne (ne_of_none e h)]; exact s b u e
theorem pts_push {H1 H4 : Hp} {D r : Addr} {vs : List Pt} {v : Pt} (hD : H1 D = none) (s : Same H1 H4) (p : Pts H4 D vs) (t : Tp H4 r v) (hl : vs.length < sizeLine) :
  ∃ ys, H4 D = some (.lst ys) /\ ys.length < sizeLine /\ Same H1 (upd H4 D (.lst (ys ++ [.ref r]))) /\ Pts (upd H4 D (.lst (ys ++ [.ref r]))) D (vs ++ [v]) := by
 obtain ⟨ds, h1, h2⟩ := p
 have hlen : ds.length = vs.length := Paired.length h2
 refine ⟨_, h1, by rw [List.length_map, hlen]; exact hl, same_set s hD, ds ++ [r], by rw [upd_same, List.map_append]; rfl, ?_⟩
 refine Ats.app (Ats.put h1 h2) (.cons ?_ .nil)
 show upd H4 D _ r = _
 rw [upd_ne (ne_of t h1 (by intro z; cases z))]
 exact t
theorem yes_go {σ : St} {H : Hp} {A B : Hp -> Prop} (h : A H) : tYes σ H (fun b H3 => if b = true then A H3 else B H3) := by
 show (if true = true then A H else B H)
 rw [if_pos rfl]
 exact h
theorem take_next {α : Type} {l : List α} {i : Nat} {x : α} (h : l[i]? = some x) : l.take (i + 1) = l.take i ++ [x] := by
 rw [List.take_add_one, h]
 rfl
theorem map_ref {as : List Addr} {i : Nat} {x : V} (h : (as.map V.ref)[i]? = some x) : ∃ a, as[i]? = some a /\ x = .ref a := by
 rw [List.getElem?_map] at h
 cases e : as[i]? with
 | none => rw [e] at h; cases h
 | some a => rw [e] at h; cases h; exact ⟨a, rfl, rfl⟩
theorem Caps.none {X : Cx} {scope : Scope} (hn : ∀ y ∈ scope.names, y.2 ≠ .free /\ y.2 ≠ .cell) (hk : scope.kind = .function) (hl : ∀ y ∈ scope.names, y.2 = .local -> scope.names.lookup y.1 = some .local) (hc : closureFor scope X.env = pure [] := by rfl) : Caps X scope [] [] where
 clos := hc
 sub := fun x c h => by cases h
 cap := fun p hp => by cases hp
 has := fun x hx => by
  have key : ∀ (names : List (Str × NameKind)), (∀ y ∈ names, y.2 ≠ .free /\ y.2 ≠ .cell) -> ∀ k, (names.map fun (n, k) => if (k == NameKind.free && X.env.scope.kind == .function && X.env.kindOf n == some .cell) then (n, NameKind.cell) else (n, k)).lookup x = some k -> k ≠ .free /\ k ≠ .cell := by
   intro names
   induction names with
   | nil => intro _ k h; cases h
   | cons y r ih =>
    intro hy k h
    obtain ⟨n, kd⟩ := y
    have h0 := hy (n, kd) List.mem_cons_self
    have hf : (kd == NameKind.free) = false := by cases kd <;> first | rfl | exact absurd rfl h0.1
    rw [List.map_cons] at h
    simp only [hf, Bool.false_and, Bool.false_eq_true, if_false] at h
    rw [List.lookup_cons] at h
    split at h
    ·cases h; exact h0
    ·exact ih (fun z hz => hy z (List.mem_cons_of_mem _ hz)) k h
  rcases hx with hx | hx
  ·exact absurd rfl (key scope.names hn _ hx).2
  ·exact absurd rfl (key scope.names hn _ hx).1
 kind := hk
 nocell := fun y hy => (hn y hy).2
 names := hl
theorem lc_zip {K : PySem.W.Frag} {a b D : Addr} {xs ys : List V} {g : TG} {tt : TT} {te : TE} {Fin : Hp -> Prop} {σ0 : St} {H0 : Hp} (Pv : Nat -> St -> Hp -> Prop) (h0 : Pv 0 σ0 H0) (hl : ∀ i σ H, Pv i σ H -> SqL K H a xs /\ SqL K H b ys)
  (hs : ∀ i x y σ H t, xs[i]? = some x -> ys[i]? = some y -> H t = none -> Pv i σ H -> g (.ref t) σ (upd H t (.tup [x, y])) fun σ2 H2 => tt σ2 H2 fun b H3 => if b = true then te σ2 H3 fun v H4 => ∃ zs, H4 D = some (.lst zs) /\ zs.length < sizeLine /\ Pv (i + 1) σ2 (upd H4 D (.lst (zs ++ [v]))) else Pv (i + 1) σ2 H3)
  (hd : ∀ i σ H, (i = xs.length \/ i = ys.length) -> i <= xs.length -> i <= ys.length -> Pv i σ H -> Fin H) :
  ∃ W : Nat -> Nat -> St -> Hp -> Prop, (∃ m, W 0 m σ0 H0) /\ LcGo (Itz K a b) D g tt te Fin W := by
 refine ⟨fun i m σ H => m = xs.length - i /\ i <= xs.length /\ i <= ys.length /\ Pv i σ H, ⟨xs.length, by simp, Nat.zero_le _, Nat.zero_le _, h0⟩, ?_⟩
 rintro i m σ H ⟨rfl, hi, hj, p⟩
 obtain ⟨q1, q2⟩ := hl i σ H p
 by_cases hlt : i < xs.length /\ i < ys.length
 ·refine .inr ⟨⟨xs, ys, xs[i]'hlt.1, ys[i]'hlt.2, q1, q2, by simp [hlt.1], by simp [hlt.2]⟩, Pv (i + 1), fun σ' H' p' => ⟨xs.length - (i + 1), by omega, rfl, hlt.1, hlt.2, p'⟩, fun v H' y => ?_⟩
  obtain ⟨t, x, y, ht, ev, eH, e1, e2⟩ := y
  subst ev eH
  exact hs i x y σ H t (e1 xs q1) (e2 ys q2) ht p
 ·refine .inl ⟨⟨xs, ys, q1, q2, by lia⟩, hd i σ H (by lia) hi hj p⟩
end L2
namespace RS
noncomputable def cellAt (ns : List Int) (k : Int) : Int := if k < ns.length then ns.getD k.toNat 0 else 0
noncomputable def stir (seed : Int) : Int := ((seed + 7919) % 2147483647 * ((seed + 7919) % 2147483647) + 48271 * ((seed + 7919) % 2147483647) + 12345) % 2147483629
noncomputable def popW : List Pt -> Pt -> List Pt
 | b :: a :: r, p => if 0 < cross (arrow a b) (arrow b p) then b :: a :: r else popW (a :: r) p
 | st, _ => st
noncomputable def chainR (ps : List Pt) : List Pt := ps.foldl (fun st p => p :: popW st p) []
noncomputable def chain (ps : List Pt) : List Pt := (chainR ps).reverse
noncomputable def swap (p : Pt) : Pt := (p.2, p.1)
noncomputable def order (ps : List Pt) : List Pt := (sortD (ps.map swap)).map swap
noncomputable def hull (ps : List Pt) : List Pt := if (order ps).length = 1 then order ps else (chain (order ps)).dropLast ++ (chain (order ps).reverse).dropLast
theorem popW_sub : ∀ (st : List Pt) (p : Pt), ∀ x ∈ popW st p, x ∈ st
 | [], _, x, h => h
 | [_], _, x, h => h
 | b :: a :: r, p, x, h => by
  unfold popW at h
  split at h
  ·exact h
  ·exact List.mem_cons_of_mem _ (popW_sub (a :: r) p x h)
theorem popW_len : ∀ (st : List Pt) (p : Pt), (popW st p).length <= st.length
 | [], _ => Nat.le_refl _
 | [_], _ => Nat.le_refl _
 | b :: a :: r, p => by
  unfold popW
  split
  ·exact Nat.le_refl _
  ·exact Nat.le_succ_of_le (popW_len (a :: r) p)
theorem chain_go : ∀ (ps st : List Pt), (∀ x ∈ ps.foldl (fun st p => p :: popW st p) st, x ∈ st \/ x ∈ ps) /\ (ps.foldl (fun st p => p :: popW st p) st).length <= st.length + ps.length
 | [], st => ⟨fun x h => .inl h, by simp⟩
 | p :: ps, st => by
  obtain ⟨a, b⟩ := chain_go ps (p :: popW st p)
  refine ⟨fun x h => ?_, ?_⟩
  ·rcases a x h with z | z
   ·rcases List.mem_cons.mp z with z | z
    ·exact .inr (by rw [z]; exact List.mem_cons_self)
    ·exact .inl (popW_sub st p x z)
   ·exact .inr (List.mem_cons_of_mem _ z)
  ·have := popW_len st p
   simp only [List.foldl_cons, List.length_cons] at b ⊢
   lia
theorem mem_chain {ps : List Pt} {x : Pt} (h : x ∈ chain ps) : x ∈ ps := by
 unfold chain chainR at h
 rcases (chain_go ps []).1 x (List.mem_reverse.mp h) with z | z
 ·cases z
 ·exact z
theorem chain_len (ps : List Pt) : (chain ps).length <= ps.length := by
 unfold chain chainR
 rw [List.length_reverse]
 have := (chain_go ps []).2
 simpa using this
theorem chainR_snoc (ps : List Pt) (p : Pt) : chainR (ps ++ [p]) = p :: popW (chainR ps) p := by
 unfold chainR
 rw [List.foldl_append]
 rfl
theorem mem_order {ps : List Pt} {x : Pt} : x ∈ order ps ↔ x ∈ ps := by
 unfold order
 rw [List.mem_map]
 constructor
 ·rintro ⟨y, hy, rfl⟩
  obtain ⟨z, hz, rfl⟩ := List.mem_map.mp (mem_sortD.mp hy)
  exact hz
 ·intro h
  exact ⟨swap x, mem_sortD.mpr (List.mem_map.mpr ⟨x, h, rfl⟩), rfl⟩
theorem ins_len (p : Pt) : ∀ l : List Pt, (ins p l).length <= l.length + 1
 | [] => Nat.le_refl _
 | q :: r => by
  unfold ins
  split
  ·exact Nat.le_succ _
  ·split
   ·exact Nat.le_refl _
   ·have := ins_len p r
    simp only [List.length_cons]
    lia
theorem sortD_len : ∀ l : List Pt, (sortD l).length <= l.length
 | [] => Nat.le_refl _
 | p :: l => by
  have h1 := sortD_len l
  have h2 := ins_len p (sortD l)
  show (ins p (sortD l)).length <= l.length + 1
  lia
theorem order_len (ps : List Pt) : (order ps).length <= ps.length := by
 unfold order
 rw [List.length_map]
 have := sortD_len (ps.map swap)
 rw [List.length_map] at this
 exact this
theorem mem_hull {ps : List Pt} {x : Pt} (h : x ∈ hull ps) : x ∈ ps := by
 unfold hull at h
 split at h
 ·exact mem_order.mp h
 ·rcases List.mem_append.mp h with z | z
  ·exact mem_order.mp (mem_chain (List.dropLast_subset _ z))
  ·exact mem_order.mp (List.mem_reverse.mp (mem_chain (List.dropLast_subset _ z)))
theorem hull_len (ps : List Pt) : (hull ps).length <= 2 * ps.length := by
 have h0 := order_len ps
 unfold hull
 split
 ·lia
 ·have h1 := chain_len (order ps)
  have h2 := chain_len (order ps).reverse
  rw [List.length_reverse] at h2
  rw [List.length_append, List.length_dropLast, List.length_dropLast]
  omega
noncomputable def spanAt (cell : Int) : Int := [3, 1, 8, 1000].getD (cell / 16 % 4).toNat 0
theorem span_cases (cell : Int) : spanAt cell = 3 \/ spanAt cell = 1 \/ spanAt cell = 8 \/ spanAt cell = 1000 := by
 unfold spanAt
 have h1 : 0 <= cell / 16 % 4 := Int.emod_nonneg _ (by decide)
 have h2 : cell / 16 % 4 < 4 := Int.emod_lt_of_pos _ (by decide)
 have h3 : (cell / 16 % 4).toNat = 0 \/ (cell / 16 % 4).toNat = 1 \/ (cell / 16 % 4).toNat = 2 \/ (cell / 16 % 4).toNat = 3 := by lia
 rcases h3 with e | e | e | e <;> rw [e] <;> simp
noncomputable def pointAt (ns : List Int) (at' span : Int) (k : Nat) : Pt :=
 let seed := stir (cellAt ns (at' + 1 + (k : Int) % 3) + 5003 * (k : Int))
 (seed / 7 % (2 * span + 1) - span, seed / 7 / (2 * span + 1) % (2 * span + 1) - span)
noncomputable def rawPoints (ns : List Int) (at' most : Int) : List Pt := (List.range (1 + cellAt ns at' % most).toNat).map (pointAt ns at' (spanAt (cellAt ns at')))
noncomputable def lawPoints (ns : List Int) (at' most : Int) : List Pt :=
 if cellAt ns at' / 64 % 5 = 1 then (rawPoints ns at' most).map (fun p => (p.1, (cellAt ns at' / 320 % 5 - 2) * p.1)) else rawPoints ns at' most
theorem point_bd (ns : List Int) (at' span : Int) (k : Nat) (hs : 0 < span) : -span <= (pointAt ns at' span k).1 /\ (pointAt ns at' span k).1 <= span /\ -span <= (pointAt ns at' span k).2 /\ (pointAt ns at' span k).2 <= span := by
 unfold pointAt
 simp only
 have a1 := Int.emod_nonneg (stir (cellAt ns (at' + 1 + (k : Int) % 3) + 5003 * (k : Int)) / 7) (show 2 * span + 1 ≠ 0 by lia)
 have a2 := Int.emod_lt_of_pos (stir (cellAt ns (at' + 1 + (k : Int) % 3) + 5003 * (k : Int)) / 7) (show 0 < 2 * span + 1 by lia)
 have b1 := Int.emod_nonneg (stir (cellAt ns (at' + 1 + (k : Int) % 3) + 5003 * (k : Int)) / 7 / (2 * span + 1)) (show 2 * span + 1 ≠ 0 by lia)
 have b2 := Int.emod_lt_of_pos (stir (cellAt ns (at' + 1 + (k : Int) % 3) + 5003 * (k : Int)) / 7 / (2 * span + 1)) (show 0 < 2 * span + 1 by omega)
 omega
theorem raw_bd (ns : List Int) (at' most : Int) : ∀ p ∈ rawPoints ns at' most, -1000 <= p.1 /\ p.1 <= 1000 /\ -1000 <= p.2 /\ p.2 <= 1000 := fun p hp => by
 obtain ⟨k, _, rfl⟩ := List.mem_map.mp hp
 have hs := span_cases (cellAt ns at')
 have := point_bd ns at' (spanAt (cellAt ns at')) k (by lia)
 lia
theorem raw_len (ns : List Int) (at' most : Int) (h : 0 < most) : (rawPoints ns at' most).length = (1 + cellAt ns at' % most).toNat /\ 0 <= cellAt ns at' % most /\ cellAt ns at' % most < most := by
 unfold rawPoints
 rw [List.length_map, List.length_range]
 exact ⟨rfl, Int.emod_nonneg _ (by lia), Int.emod_lt_of_pos _ h⟩
theorem law_bd (ns : List Int) (at' most : Int) : ∀ p ∈ lawPoints ns at' most, -2000 <= p.1 /\ p.1 <= 2000 /\ -2000 <= p.2 /\ p.2 <= 2000 := fun p hp => by
 unfold lawPoints at hp
 split at hp
 ·obtain ⟨q, hq, rfl⟩ := List.mem_map.mp hp
  have b := raw_bd ns at' most q hq
  have l1 := Int.emod_nonneg (cellAt ns at' / 320) (show (5 : Int) ≠ 0 by decide)
  have l2 := Int.emod_lt_of_pos (cellAt ns at' / 320) (show (0 : Int) < 5 by decide)
  dsimp only
  have hc : cellAt ns at' / 320 % 5 - 2 = -2 \/ cellAt ns at' / 320 % 5 - 2 = -1 \/ cellAt ns at' / 320 % 5 - 2 = 0 \/ cellAt ns at' / 320 % 5 - 2 = 1 \/ cellAt ns at' / 320 % 5 - 2 = 2 := by lia
  rcases hc with e | e | e | e | e <;> rw [e] <;> lia
 ·have b := raw_bd ns at' most p hp
  omega
theorem law_len (ns : List Int) (at' most : Int) (h : 0 < most) : (lawPoints ns at' most).length <= most.toNat /\ 0 < (lawPoints ns at' most).length := by
 obtain ⟨a, b, c⟩ := raw_len ns at' most h
 unfold lawPoints
 split
 ·rw [List.length_map, a]; lia
 ·rw [a]; lia
noncomputable def lawShape (ns : List Int) (at' most : Int) : List Pt := hull (lawPoints ns at' most)
end RS
namespace RS
noncomputable def turnsR : List Pt -> Prop
 | c :: b :: a :: r => 0 < cross (arrow a b) (arrow b c) /\ turnsR (b :: a :: r)
 | _ => True
noncomputable def turns : List Pt -> Prop
 | a :: b :: c :: r => 0 < cross (arrow a b) (arrow b c) /\ turns (b :: c :: r)
 | _ => True
noncomputable def steps (l : List Pt) : List Pt := List.zipWith arrow l (l.drop 1)
noncomputable def upp (p q : Pt) : Prop := p.2 < q.2 \/ (p.2 = q.2 /\ p.1 < q.1)
noncomputable def lined : List Pt -> Prop
 | a :: b :: r => before a b = true /\ lined (b :: r)
 | _ => True
end RS
namespace RS
noncomputable def dot (d q : Pt) : Int := d.1 * q.1 + d.2 * q.2
noncomputable def neg (a : Pt) : Pt := (-a.1, -a.2)
noncomputable def csum (a : Pt) (l : List Pt) : Int := (l.map (cross a)).sum
end RS
namespace RS
end RS
namespace L2
open PySem PySem.Spec PyProof.Rows PySem.SeqAt
open RS (Pt)
section
variable {X : Cx}
theorem call_isi : CallR X (.builtin "isinstance") (fun xs H Q => ∃ x T t b, xs = [x, .ty T] /\ TyOf X.K H x t /\ PySem.W.kitOne X.K t (.type T) = some b /\ Q (.bl b) H) := by
 intro pins s σ H xs us Q I r h
 obtain ⟨x, T, t, b, rfl, ty, e, q⟩ := h
 obtain ⟨u, v, rfl, ru, rv⟩ := vals2 r
 cases rv
 exact isinst_ok I ru ty e fun tk => ⟨.bl b, H, I.tok _, rfl, q⟩
end
end L2
namespace RS
theorem two_of {α : Type _} {l : List α} (h : l.length = 2) : ∃ a b, l = [a, b] := by
 obtain ⟨a, t, rfl⟩ := List.exists_cons_of_length_pos (Nat.lt_of_lt_of_eq Nat.two_pos h.symm)
 obtain ⟨b, rfl⟩ := List.length_eq_one_iff.mp (Nat.succ.inj h)
 exact ⟨a, b, rfl⟩
noncomputable def holdsM (cs : List Pt) (p : Pt) : Bool :=
 if cs.length = 1 then decide (p = cs.headD (0, 0))
 else if (List.zipWith (fun c a => decide (cross a (arrow c p) < 0)) cs (lawSides cs)).any id = true then false
 else decide (2 < cs.length) || decide (dot (arrow p (cs.getD 0 (0, 0))) (arrow p (cs.getD 1 (0, 0))) <= 0)
end RS
namespace L2
open PySem PySem.Spec PyProof.Rows PySem.SeqAt
open RS (Pt)
section
variable {X : Cx}
noncomputable def rNePts : R2 := fun x y H Q => ∃ l b ps qs, x = .ref l /\ y = .ref b /\ Pts H l ps /\ Pts H b qs /\ Q (.bl (!decide (ps = qs))) H
noncomputable def rIsi (K : PySem.W.Frag) : List V -> Hp -> VK -> Prop := fun xs H Q => ∃ x T t b, xs = [x, .ty T] /\ TyOf K H x t /\ PySem.W.kitOne K t (.type T) = some b /\ Q (.bl b) H
theorem call_isi' : CallR X (.builtin "isinstance") (rIsi X.K) := call_isi
end
theorem lc_tup {K : PySem.W.Frag} {a D : Addr} {xs : List V} {g : TG} {tt : TT} {te : TE} {Fin : Hp -> Prop} {σ0 : St} {H0 : Hp} (Pv : Nat -> St -> Hp -> Prop) (h0 : Pv 0 σ0 H0) (hl : ∀ i σ H, i <= xs.length -> Pv i σ H -> SqT K H a xs)
  (hs : ∀ i x σ H, xs[i]? = some x -> Pv i σ H -> g x σ H fun σ2 H2 => tt σ2 H2 fun b H3 => if b = true then te σ2 H3 fun y H4 => ∃ ys, H4 D = some (.lst ys) /\ ys.length < sizeLine /\ Pv (i + 1) σ2 (upd H4 D (.lst (ys ++ [y]))) else Pv (i + 1) σ2 H3)
  (hd : ∀ σ H, Pv xs.length σ H -> Fin H) :
  ∃ W : Nat -> Nat -> St -> Hp -> Prop, (∃ m, W 0 m σ0 H0) /\ LcGo (Itt K a) D g tt te Fin W := by
 refine ⟨fun i m σ H => m = xs.length - i /\ i <= xs.length /\ Pv i σ H, ⟨xs.length, by simp, Nat.zero_le _, h0⟩, ?_⟩
 rintro i m σ H ⟨rfl, hi, p⟩
 have q := hl i σ H hi p
 by_cases hlt : i < xs.length
 ·refine .inr ⟨⟨xs, xs[i], q, by simp [hlt]⟩, Pv (i + 1), fun σ' H' p' => ⟨xs.length - (i + 1), by omega, rfl, hlt, p'⟩, fun x H' y => ?_⟩
  obtain ⟨e, y⟩ := y
  subst e
  exact hs i x σ _ (y xs q) p
 ·have e : i = xs.length := by lia
  subst e
  exact .inl ⟨⟨xs, q, Nat.le_refl _⟩, hd σ H p⟩
end L2
namespace RS
noncomputable def co (k : Nat) (p : Pt) : Int := if k = 0 then p.1 else p.2
noncomputable def box (cs : List Pt) (p : Pt) (k : Nat) : Prop := (∃ c ∈ cs, co k c <= co k p) /\ ∃ c ∈ cs, co k p <= co k c
end RS
namespace RS
noncomputable def moved (p a : Pt) : Pt := (p.1 + a.1, p.2 + a.2)
noncomputable def stretched (t : Int) (a : Pt) : Pt := (a.1 * t, a.2 * t)
noncomputable def sameWay (a b : Pt) : Bool := decide (cross a b = 0) && decide (0 < dot a b)
noncomputable def mergeM : List Pt -> List Pt -> List Pt
 | [], os => os
 | a :: as, os => os.takeWhile (fun o => before o a) ++ a :: mergeM as (os.dropWhile (fun o => before o a))
noncomputable def joinStep (acc : List Pt) (a : Pt) : List Pt := match acc with
 | [] => [a]
 | j :: r => if sameWay j a = true then moved j a :: r else a :: j :: r
noncomputable def joinM (l : List Pt) : List Pt := (l.foldl joinStep []).reverse
noncomputable def alongStep (acc : List Pt) (a : Pt) : List Pt := match acc with
 | [] => []
 | c :: r => moved c a :: c :: r
noncomputable def along (first : Pt) (l : List Pt) : List Pt := (l.dropLast.foldl alongStep [first]).reverse
noncomputable def togetherM (cs es : List Pt) : List Pt := along (moved (cs.headD (0, 0)) (es.headD (0, 0))) (joinM (mergeM (lawSides cs) (lawSides es)))
noncomputable def greaterM (cs : List Pt) (t : Int) : List Pt := if t = 0 then [(0, 0)] else cs.map (stretched t)
end RS
namespace RS
noncomputable def inter (t : Int) : List Pt -> List Pt
 | [] => []
 | a :: l => stretched t a :: a :: inter t l
end RS
namespace L2
open PySem PySem.Spec PyProof.Rows
section
variable {X : Cx}
end
end L2
namespace L2
open PySem PySem.Spec PyProof.Rows PySem.SeqAt
section
variable {X : Cx}
end
end L2
namespace L2
open PySem PySem.Spec PyProof.Rows PySem.SeqAt
open RS (Pt)
section
variable {X : Cx}
noncomputable def rEqTag : R2 := fun x y H Q => ∃ a b l c t ps qs, x = .ref a /\ y = .ref b /\ H a = some (.tup [.str t, .ref l]) /\ H b = some (.tup [.str t, .ref c]) /\ Pts H l ps /\ Pts H c qs /\ Q (.bl (decide (ps = qs))) H
noncomputable def rNeTag : R2 := fun x y H Q => ∃ a b l c t ps qs, x = .ref a /\ y = .ref b /\ H a = some (.tup [.str t, .ref l]) /\ H b = some (.tup [.str t, .ref c]) /\ Pts H l ps /\ Pts H c qs /\ Q (.bl (!decide (ps = qs))) H
noncomputable def rNePt : R2 := fun x y H Q => ∃ a b p q, x = .ref a /\ y = .ref b /\ Tp H a p /\ Tp H b q /\ Q (.bl (!decide (p = q))) H
end
end L2
namespace L2
open PySem PySem.Spec PyProof.Rows PySem.SeqAt
open RS (Pt kk)
section
variable {X : Cx}
noncomputable def rNeTwo : R2 := fun x y H Q => ∃ l b l1 l2 b1 b2 ps qs, x = .ref l /\ y = .ref b /\ H l = some (.lst [.ref l1, .ref l2]) /\ H b = some (.lst [.ref b1, .ref b2]) /\ Pts H l1 ps /\ Pts H b1 ps /\ Pts H l2 qs /\ Pts H b2 qs /\ Q (.bl false) H
end
end L2
namespace L2
open PySem PySem.Spec PyProof.Rows
theorem ObjOk.is {P : Program} {w : World} {H : Hp} {h : Heap} {a : Addr} {o : HO} (x : ObjOk P w H h a o) : ∃ u, h.get? a = some u := by
 cases o with
 | lst xs => obtain ⟨_, _, _, _, e⟩ := x; exact ⟨_, e⟩
 | tup xs => obtain ⟨_, _, _, _, e, _⟩ := x; exact ⟨_, e⟩
 | dK kvs => obtain ⟨_, _, _, _, _, _, _, e, _⟩ := x; exact ⟨_, e⟩
 | dT kvs => obtain ⟨_, _, _, _, _, _, _, e, _⟩ := x; exact ⟨_, e⟩
 | set S n => obtain ⟨_, _, _, _, e, _⟩ := x; exact ⟨_, e⟩
 | ins C dx fs => obtain ⟨_, _, _, e, _⟩ := x; exact ⟨_, e⟩
 | own y => exact x
 | xd fs => obtain ⟨_, ⟨_, _, _, e, _⟩, _⟩ := x; exact ⟨_, e⟩
 | rng lo hi => obtain ⟨_, _, _, e⟩ := x; exact ⟨_, e⟩
 | frz ob u => exact ⟨_, x.1⟩
 | tbl ps => exact ⟨_, x⟩
 | met f y => exact ⟨_, x⟩
 | ext φ => exact x.2.1
structure Lies (old : Heap) (H : Hp) (l : List Env) (B h : Heap) : Prop where
 fr : h.FunFrames B l
 trk : ∀ b u o, H b = some u -> h.get? b = some o -> B.get? b = some o
 was : ∀ b u o, old.get? b = some u -> b ∉ frs l -> h.get? b = some o -> B.get? b = some o
section
variable {P : Program} {w : World} {old old' B h h' : Heap} {H H' : Hp} {l l' : List Env} {e : Addr} {cls a0 : Value}
theorem Lies.to (f : Lies old H l B h) (g : B.StaysIn h') (fr : h'.FunFrames B l') (hk : ∀ b u, H b = some u -> ∃ o, h.get? b = some o)
  (ho : ∀ b u, old'.get? b = some u -> b ∉ frs l' -> (∃ v, old.get? b = some v) /\ b ∉ frs l /\ ∃ o, h.get? b = some o) : Lies old' H l' B h' where
 fr := fr
 trk := fun b u o e1 e2 => by
  obtain ⟨o1, h1⟩ := hk b u e1
  have h2 := f.trk b u o1 e1 h1
  have h3 := g b o1 h2
  rw [e2] at h3
  cases h3
  exact h2
 was := fun b u o e1 n e2 => by
  obtain ⟨⟨v, hv⟩, nl, o1, h1⟩ := ho b u e1 n
  have h2 := f.was b v o1 hv nl h1
  have h3 := g b o1 h2
  rw [e2] at h3
  cases h3
  exact h2
theorem HOk.lies (x : HOk P w H h) (f : Lies old H l B h) (g : B.StaysIn h') : HOk P w H h' := fun a o q =>
 (x a o q).stay (fun b u hc r => by
  have : ∃ v, H b = some v := by
   rcases hc with z | z
   ·exact ⟨o, z ▸ q⟩
   ·exact ⟨_, z⟩
  obtain ⟨v, hv⟩ := this
  exact g b u (f.trk b v u hv r)) (fun _ q => q) fun _ _ q => q
theorem Un.lies (u : Un (frs l') [] H H' old h) (f : Lies old H' l B h) (g : B.StaysIn h') (fr : h'.FunFrames B l') (sm : h.UpToSlots h') (hs : ∀ b ∈ frs l', b ∈ frs l) (hl : ∀ b o, old.get? b = some o -> b ∉ frs l' -> b ∉ frs l) :
  Un (frs l') [] H H' old h' where
 keep := fun b o q n hb hx => g b o (f.was b o o q (hl b o q hb) (u.keep b o q n hb hx))
 slot := fun b o q n hb hx => by
  obtain ⟨sl, e1⟩ := u.slot b o q n hb hx
  obtain ⟨_, o1, h1, d1⟩ := f.fr.mem (hs b hb)
  rw [e1] at h1
  cases h1
  obtain ⟨sl', e3⟩ := sm b _ e1 d1
  exact ⟨sl', e3⟩
 free := u.free
 there := fun b o q hx => by
  obtain ⟨o', e1⟩ := u.there b o q hx
  by_cases hb : b ∈ frs l'
  ·obtain ⟨_, o2, h2, _⟩ := fr.mem hb
   exact ⟨o2, h2⟩
  ·exact ⟨o', g b o' (f.was b o o' q (hl b o q hb) e1)⟩
 tups := u.tups
 frzs := u.frzs
 tbls := u.tbls
end
noncomputable def CXR (P : Program) (w : World) : CXT := fun outer H s E v s' =>
 ∃ (e : Addr) (cls : Value) (H' : Hp) (B : Heap) (a0 : Value), v = .ref e /\ s'.os = s.os /\ AllBare s'.gens /\ Un (frs outer) [] H H' s.heap s'.heap /\ HOk P w H' s'.heap /\
  Heap.FlyingW B outer e cls a0 s'.heap /\ Lies s.heap H' outer B s'.heap /\ E cls none H'
theorem frs_cons {env : Env} {outer : List Env} {L : Addr} (h : env.frame = some L) {b : Addr} : b ∈ frs (env :: outer) ↔ b = L \/ b ∈ frs outer := by
 unfold frs
 rw [List.filterMap_cons, h]
 exact List.mem_cons
section
variable {P : Program} {w : World} {K : PySem.W.Frag} {mg : Str -> Option Value} {base : Heap} {N : List Str} {qual : Str} {scope : Scope} {f : Addr} {cd : Value} {A : Around} {outer : List Env} {s : Shared} {H : Hp} {E : XK}
theorem down {pins : List (Addr × Obj)} {σ : St} {H1 : Hp} {s1 : Shared} {B h' : Heap} {e : Addr} {cls a0 : Value} (I : Inv (cxOf (CXR P w) P w K mg base N qual scope f cd A outer s H E) pins σ H1 s1)
  (ly : Lies s.heap H1 (cxOf (CXR P w) P w K mg base N qual scope f cd A outer s H E).stack B s1.heap) (g : Heap.FlyingW B outer e cls a0 h') (sm : s1.heap.UpToSlots h') (q : E cls none H1) :
  CXR P w outer H s E (.ref e) { s1 with heap := h' } := by
 have hl : ∀ b o, s.heap.get? b = some o -> b ∉ frs outer -> b ∉ frs (cxOf (CXR P w) P w K mg base N qual scope f cd A outer s H E).stack := fun b o q n m => by
  rcases (frs_cons (L := s.heap.objs.size) rfl).mp m with z | z
  ·exact absurd z (Nat.ne_of_lt (Heap.lt_size q))
  ·exact n z
 refine ⟨e, cls, H1, B, a0, rfl, I.os, I.bare, Un.lies I.base ly g.1 g.2.2.1 sm (fun b m => (frs_cons (L := s.heap.objs.size) rfl).mpr (.inr m)) hl, I.hok.lies ly g.1, g, ?_, q⟩
 exact ly.to g.1 g.2.2.1 (fun b u z => (I.hok b u z).is) (fun b u z n => ⟨⟨u, z⟩, hl b u z n, I.base.there b u z (fun m => nomatch m)⟩)
noncomputable def Raises (X : Cx) (E : XK) : Prop := ∀ (pins : List (Addr × Obj)) (σ : St) (H : Hp) (s : Shared) (h' : Heap) (e : Addr) (cls : Value) (vs : List Value), Inv X pins σ H s -> Heap.MadeExcOf s.heap h' e cls vs -> E cls none H -> X.xe (.ref e) { s with heap := h' }
theorem raiseR : Raises (cxOf (CXR P w) P w K mg base N qual scope f cd A outer s H E) E := fun pins σ H1 s1 h1 e cls vs I m q => by
 have I1 : Inv (cxOf (CXR P w) P w K mg base N qual scope f cd A outer s H E) pins σ H1 { s1 with heap := h1 } := I.kept (t' := s1.toks) m.keeps
 have hl := PySem.W.funFrames_hide (as := frs (cxOf (CXR P w) P w K mg base N qual scope f cd A outer s H E).stack) I.stack (fun env he a ha => List.mem_filterMap.mpr ⟨env, he, ha⟩)
 have kb : (PySem.W.hideAll s1.heap (frs (cxOf (CXR P w) P w K mg base N qual scope f cd A outer s H E).stack)).StaysIn s1.heap := fun b o q => PySem.W.of_hideAll _ q
 have here : ∀ b o, b ∉ frs (cxOf (CXR P w) P w K mg base N qual scope f cd A outer s H E).stack -> (∃ v, s1.heap.get? b = some v) -> h1.get? b = some o -> (PySem.W.hideAll s1.heap (frs (cxOf (CXR P w) P w K mg base N qual scope f cd A outer s H E).stack)).get? b = some o := fun b o n ⟨v, hv⟩ e2 => by
  have e3 := m.keeps b v hv
  rw [e2] at e3
  cases e3
  exact PySem.W.hideAll_get _ hv n
 refine wpAny_leaves_madeW (s := { s1 with heap := h1 }) I.ok.frames rfl kb hl m fun h' t g _ _ sm => down (B := PySem.W.hideAll s1.heap (frs (cxOf (CXR P w) P w K mg base N qual scope f cd A outer s H E).stack)) I1 ⟨?_, ?_, ?_⟩ g sm q
 ·exact hl.of_keeps fun b o z _ => ⟨o, m.keeps b o z, rfl⟩
 ·exact fun b u o e1 e2 => here b o (fun z => by rw [I.stkFree b z] at e1; cases e1) (I.hok b u e1).is e2
 ·exact fun b u o e1 n e2 => here b o n (I.base.there b u e1 (fun m => nomatch m)) e2
end
abbrev vErr : List Value := [.type "ValueError", .type "Exception", .type "BaseException", .type "object"]
set_option tactic.hygienic true in
theorem exc_obj {K : PySem.W.Frag} {h : Heap} {C : Addr} (X : K.In h) (q : PySem.W.excIn K C vErr "ValueError.__new__" = true) :
  ∃ bm N nm qn bs hdct sn sub ab col dd k0 k1 k2 k3 k5 mN, h.get? C = some (excClassObj nm qn C N bs bm hdct sn sub ab col dd k0 k1 k2 k3 k5 "ValueError.__new__") /\ h.Ns N mN /\ mN "__init__" = none /\ OwnTail h vErr bm := by
 unfold PySem.W.excIn at q
 split at q
 case h_2 => exact Bool.noConfusion q
 case h_1 dd cd sl ho =>
  generalize hm : cd.mro = mr at q
  generalize hs : sl.toList = ls at q
  rcases mr with _ | ⟨v, bm⟩
  ·exact Bool.noConfusion q
  cases v
  case ref C' =>
   rcases ls with _ | ⟨k0, _ | ⟨k1, _ | ⟨k2, _ | ⟨k3, _ | ⟨k4, ls⟩⟩⟩⟩⟩
   iterate 5 exact Bool.noConfusion q
   rcases k4 with _ | v
   ·exact Bool.noConfusion q
   cases v
   case builtin n =>
    rcases ls with _ | ⟨k5, _ | ⟨k6, ls⟩⟩
    ·exact Bool.noConfusion q
    ·simp only [Bool.and_eq_true, beq_iff_eq, Bool.not_eq_true'] at q
     obtain ⟨⟨⟨⟨⟨q1, q2⟩, q3⟩, q4⟩, q5⟩, q6⟩ := q
     subst q1 q2
     cases cd
     dsimp only at hm q3 q5 q6
     subst hm q3
     obtain ⟨l⟩ := sl
     dsimp only at hs
     subst hs
     exact ⟨bm, _, _, _, _, _, _, _, _, _, dd, k0, k1, k2, k3, k5, _, X _ _ ho, .of_isNs (PySem.W.isNs_of_in X q5), PySem.W.nsMap_none_of_in X q5 q6, PySem.W.tail_of_in X q4⟩
    ·exact Bool.noConfusion q
   all_goals exact Bool.noConfusion q
  all_goals exact Bool.noConfusion q
section
variable {X : Cx}
noncomputable def tRaise (C : Addr) (E : XK) (t : TA) : TS := fun _ σ H => t σ H fun vs H1 => vs.length <= sizeLine /\ E (.ref C) none H1
theorem ps_raise {E : XK} {x : Str} {C : Addr} {e : Expr} {es : List Expr} {t : TA} {np cpos pos : Pos} (hr : Raises X E) (hc : X.calm = true) (hg : Gl X x) (hm : X.mg x = some (.ref C)) (hx : PySem.W.excIn X.K C vErr "ValueError.__new__" = true)
  (ha : PA X (e :: es) t) (hd : (x == ("__debug__" : Str)) = false := by decide) (he : starEach (e :: es) X.env = (false, eval e X.env) :: starEach es X.env := by rfl) (hpl : (backTo cpos (starEach es X.env)).any (·.1) = false := by rfl) :
  PS X (.Raise (some (.Call (.Name x np) (e :: es) [] cpos)) none pos) (tRaise C E t) := by
 intro pins s σ H D I h
 obtain ⟨bm, N, nm, qn, bs, hdct, sn, sub, ab, col, dd, k0, k1, k2, k3, k5, mN, hC, hN, hni, T⟩ := exc_obj I.mod.kin hx
 refine wpAny_Raise_call_subT (C := C) (nm := nm) (q := qn) (N := N) (bs := bs) (bm := bm) (hdct := hdct) (sn := sn) (sub := sub) (ab := ab) (col := col) (dd := dd) (k0 := k0) (k1 := k1) (k2 := k2) (k3 := k3) (k5 := k5)
  PySem.F.excBase_ValueError (mN := mN) (T.hasType PySem.F.excBase_ValueError.hasBase) (I.ok.hd hc) ?_ hni (ld_glob I hg hm ⟨rfl, ?_⟩ hd)
 ·rw [he]
  show (false || (backTo cpos (starEach es X.env)).any (·.1)) = false
  rw [hpl]
  rfl
 have go := ha cpos pins s σ H _ I h
 rw [he] at go ⊢
 exact Calls.evalArgs_plain (thn go fun us s1 ⟨vs, H1, I1, r, q⟩ => ⟨rfl, by rw [<- r.length]; exact q.1, I1.bk _ _ hC, hN.keeps I1.bk, T.keeps I1.bk, fun h' e m => hr pins σ H1 s1 h' e _ us I1 m q.2⟩)
end
end L2
namespace L2
open PySem PySem.Spec PyProof.Rows
theorem Fun.okR {P : Program} {w : World} {K : PySem.W.Frag} {mg : Str -> Option Value} {base : Heap} {x qual : Str} {st : Stmt} {f : Addr} {fd : FuncData} {N ps : List Str} {k : Nat} {sp : Sp} (F : Fun K x qual st f fd) (S : FnScope N ps (defScope st))
  (len : ∀ vs H Q E, sp vs H Q E -> vs.length = ps.length)
  (hbody : ∀ (cdv : Value) (A : Around) (outer : List Env) (s : Shared) (H : Hp) (vs : List V) (Q : VK) (E : XK), Room k (A.deeper (envOfC qual (defScope st) s.heap.objs.size f cdv)) -> sp vs H Q E ->
   ∃ t, PSs (cxOf (CXR P w) P w K mg base N qual (defScope st) f cdv A outer s H E) (defBody st) t /\ t { nx := fun _ H' => Q .non H', rt := Q } (start N vs) H) : FnOk P w K mg base (CXR P w) (k + 1) f fd ps sp := by
 obtain ⟨oc, od, kV, doc, pm, an, cdv, ct, osl, rfl, lk, hcd⟩ := F.ex
 exact fn_of lk hcd S len fun A outer s H vs Q E hr hsp => hbody cdv A outer s H vs Q E hr hsp
end L2
namespace L2
open PySem PySem.Spec PyProof.Rows
noncomputable abbrev ExcO (e : Addr) (cls : Value) : HO := .ext fun h => ∃ o, h.get? e = some o /\ o.cls = cls
noncomputable abbrev Cx.bear (X : Cx) (pins : List (Addr × Obj)) : Cx := { X with pn := X.pn ++ pins, xe := fun _ _ => False }
noncomputable abbrev Cx.tri (X : Cx) (pins : List (Addr × Obj)) (RX : XK) : Cx :=
 { X with pn := X.pn ++ pins, xe := fun v s' => ∃ (pins' : List (Addr × Obj)) (σ : St) (H : Hp) (s : Shared), Inv (X.bear pins) pins' σ H s /\ CXR X.prog X.w X.stack H s RX v s' }
noncomputable abbrev Cx.han (X : Cx) (pins : List (Addr × Obj)) (e : Addr) : Cx := { X with A := X.A.mark (some (.ref e)), calm := false, pn := X.pn ++ pins, xe := fun _ _ => False }
section
variable {X : Cx} {pins pins' : List (Addr × Obj)} {σ : St} {H : Hp} {s : Shared} {RX : XK} {e : Addr}
theorem Cx.Ok.bear (ok : X.Ok) : (X.bear pins).Ok :=
 ⟨ok.mod, ok.kind, ok.glob, ok.blt, ok.above, ok.inj, ok.has, ok.cab, ok.hd, ok.frames, ok.stk, ok.exf, ok.bs, ok.bsz, ok.noex, ok.exfs, ok.funs, ok.frf⟩
theorem Cx.Ok.tri (ok : X.Ok) : (X.tri pins RX).Ok :=
 ⟨ok.mod, ok.kind, ok.glob, ok.blt, ok.above, ok.inj, ok.has, ok.cab, ok.hd, ok.frames, ok.stk, ok.exf, ok.bs, ok.bsz, ok.noex, ok.exfs, ok.funs, ok.frf⟩
theorem Cx.Ok.untri (ok : (X.tri pins RX).Ok) : X.Ok :=
 ⟨ok.mod, ok.kind, ok.glob, ok.blt, ok.above, ok.inj, ok.has, ok.cab, ok.hd, ok.frames, ok.stk, ok.exf, ok.bs, ok.bsz, ok.noex, ok.exfs, ok.funs, ok.frf⟩
theorem Cx.Ok.han (ok : (X.bear pins).Ok) : (X.han pins e).Ok :=
 ⟨ok.mod, ok.kind, ok.glob, ok.blt, ok.above, ok.inj, ok.has, ok.cab, (fun z => nomatch z), ok.frames, ok.stk, ok.exf, ok.bs, ok.bsz, ok.noex, ok.exfs, ok.funs, ok.frf⟩
theorem Inv.tri (I : Inv X pins σ H s) : Inv (X.tri pins RX) [] σ H s :=
 ⟨I.ok.tri, I.os, I.bare, I.base, I.loc, I.cell, I.free, I.freeC, fun p hp => I.pin p (by rw [List.append_nil] at hp; exact hp), I.hok, I.len⟩
theorem Inv.untri (I : Inv (X.tri pins RX) pins' σ H s) : Inv X pins σ H s :=
 ⟨I.ok.untri, I.os, I.bare, I.base, I.loc, I.cell, I.free, I.freeC, fun p hp => I.pin p (List.mem_append_left _ hp), I.hok, I.len⟩
theorem Inv.triBear (I : Inv (X.tri pins RX) pins' σ H s) : Inv (X.bear pins) pins' σ H s :=
 ⟨I.ok.untri.bear, I.os, I.bare, I.base, I.loc, I.cell, I.free, I.freeC, I.pin, I.hok, I.len⟩
theorem Inv.han (I : Inv (X.bear pins) pins' σ H s) : Inv (X.han pins e) [] σ H s :=
 ⟨I.ok.han, I.os, I.bare, I.base, I.loc, I.cell, I.free, I.freeC, fun p hp => I.pin p (by rw [List.append_nil] at hp; exact List.mem_append_left _ hp), I.hok, I.len⟩
theorem Inv.unhan (ok : X.Ok) (I : Inv (X.han pins e) pins' σ H s) : Inv X pins σ H s :=
 ⟨ok, I.os, I.bare, I.base, I.loc, I.cell, I.free, I.freeC, fun p hp => I.pin p (List.mem_append_left _ hp), I.hok, I.len⟩
theorem passT : Passes (CXR X.prog X.w) (X.tri pins RX) RX := fun p σ H s _ _ I h => ⟨p, σ, H, s, I.triBear, h⟩
set_option tactic.hygienic true in
theorem SP.untri {D : Ends} {f : Flow} {s' : Shared} (h : SP (X.tri pins RX) [] D f s') : SP X pins D f s' := by
 cases f with
 | next => obtain ⟨σ', H', I, q⟩ := h; exact ⟨σ', H', I.untri, q⟩
 | brk => obtain ⟨σ', H', I, q⟩ := h; exact ⟨σ', H', I.untri, q⟩
 | cont => obtain ⟨σ', H', I, q⟩ := h; exact ⟨σ', H', I.untri, q⟩
 | ret u => obtain ⟨v, σ', H', I, r, q⟩ := h; exact ⟨v, σ', H', I.untri, r, q⟩
theorem name_gone {M : Model} {A : Around} {E : Value -> Shared -> Prop} {i : Nat} {n : Str} {pos : Pos} {Q : Unit -> Shared -> Prop} (I : Inv X pins σ H s) (hN : X.N.Nodup) (hi : X.N[i]? = some n) (hk : X.env.scope.names.lookup n = some .local)
  (h : ∀ s', Inv X pins (σ.set i none) H s' -> Q () s') : wpAny M A (do bindName X.env n .none; unbindBehindTheSuite X.env n pos) Q E s := by
 obtain ⟨m, hn, hl⟩ := id I.loc
 have hcls : (X.env.scope.kind == .class || (X.env.scope.kind == .module && X.env.locals != X.env.globals)) = false := by rw [I.ok.kind]; rfl
 refine wpAny_nameGoes_keeps hk hn hcls fun h' v hn' hs => h _ ?_
 have ne : ∀ b o, X.s₀.heap.get? b = some o -> b ≠ X.env.locals := fun b o e => Nat.ne_of_lt (Nat.lt_of_lt_of_le (Heap.lt_size e) I.ok.above)
 refine ⟨I.ok, I.os, I.bare, ⟨fun b o e q hb hx => (hs.2 b (ne b o e)).trans (I.base.keep b o e q hb hx), fun b o e q hb hx => ?_, I.base.free, fun b o e hx => ?_, I.base.tups, I.base.frzs, I.base.tbls⟩,
  ⟨_, hn', fun j y v' e1 e2 e3 => ?_⟩, fun y c e => ?_, I.free, I.freeC, fun p hp => ?_, fun b ob e => ?_, by rw [List.length_set]; exact I.len⟩
 ·obtain ⟨sl, e1⟩ := I.base.slot b o e q hb hx
  exact ⟨sl, (hs.2 b (ne b o e)).trans e1⟩
 ·obtain ⟨o', e1⟩ := I.base.there b o e hx
  exact ⟨o', (hs.2 b (ne b o e)).trans e1⟩
 ·have hj : j ≠ i := fun z => by
   subst z
   rw [List.getElem?_set] at e2
   split at e2
   ·split at e2 <;> cases e2
   ·exact absurd rfl ‹_›
  rw [List.getElem?_set_ne (Ne.symm hj)] at e2
  obtain ⟨u', r', q⟩ := hl j y v' e1 e2 e3
  refine ⟨u', r', ?_⟩
  rcases q with ⟨k, z⟩ | ⟨k, c, z1, z2⟩
  ·refine .inl ⟨k, ?_⟩
   have : y ≠ n := fun z => hj (nodup_ix hN e1 (z ▸ hi))
   simp [this, z]
  ·exact .inr ⟨k, c, z1, z2.sameBut hs (I.cne y c z1)⟩
 ·obtain ⟨w', z⟩ := I.cell y c e
  exact ⟨w', z.sameBut hs (I.cne y c e)⟩
 ·obtain ⟨e, q, n1, nf, d⟩ := I.pin p hp
  exact ⟨(hs.2 p.1 n1).trans e, q, n1, nf, d⟩
 ·refine (I.hok b ob e).stay (fun c w' hc q => (hs.2 c ?_).trans q) (fun _ q => q) fun _ _ q => q
  intro z
  rcases hc with y | y
  ·rw [<- y, z, I.free] at e; cases e
  ·rw [z, I.free] at y; cases y
noncomputable def tTry (tb : TS) (RX : XK) (i k : Nat) (th : Addr -> TS) : TS := fun D σ H => tb D σ H /\ ∀ (e : Addr) (cls : Value) (H1 : Hp), RX cls none H1 -> H1 e = none ->
 th e { nx := fun σ2 H2 => D.nx (σ2.set i none) H2, rt := fun _ _ => False } ((List.replicate k none).set i (some (.ref e))) (upd H1 e (ExcO e cls))
set_option tactic.hygienic true in
theorem ps_try {i : Nat} {n x : Str} {c : Value} {body suite : List Stmt} {b₀ : Stmt} {np hp pos : Pos} {tb : TS} {th : Addr -> TS} (nd : X.N.Nodup) (hn : X.N[i]? = some n) (hk : X.env.scope.names.lookup n = some .local)
  (hst : X.stack = X.env :: X.outer) (hf : X.env.frame = some X.env.locals) (hg : Gl X x) (hm : X.mg x = some c) (hx : ∀ cls H1, RX cls none H1 -> PySem.W.exmOne X.K cls c = some true)
  (hb : ∀ pins, PSs (X.tri pins RX) body tb) (hs : ∀ pins e, PSs (X.han pins e) (b₀ :: suite) (th e)) (hd : (x == ("__debug__" : Str)) = false := by decide) :
  PS X (.Try body [.ExceptHandler (some (.Name x np)) (some n) (b₀ :: suite) hp] [] [] pos) (tTry tb RX i X.N.length th) := by
 intro pins s σ H D I ⟨h1, h2⟩
 refine wpAny_Try_except (wpAny_mono (hb pins [] s σ H D I.tri h1) (fun f s1 q => ?_) fun v s1 q => ?_)
 ·have q' := SP.untri q
  cases f with
  | next => exact wpAny_execs_nil q'
  | brk => exact q'
  | cont => exact q'
  | ret u => exact q'
 obtain ⟨p', σ1, H1, s', I', e, cls, H2, B, a0, rfl, ho, hg', u, hok, fl, ly, q⟩ := q
 have fr : X.A.frames = some (X.env :: X.outer) := hst ▸ I.ok.frames
 have fl0 : Heap.FlyingW B (X.env :: X.outer) e cls a0 s1.heap := hst ▸ fl
 refine wpAny_looks_onW fr hf fl0 fun h4 held4 sm4 => ?_
 refine wpAny_landsW held4 fun h5 fly5 sm5 => ?_
 have sm : s1.heap.UpToSlots h5 := sm4.trans sm5
 obtain ⟨oe, ho1, hoc⟩ := fl.there
 obtain ⟨_, bn, _, oe', _, _, _, _, ho2, _, hod, _⟩ := id fl
 rw [ho1] at ho2
 cases ho2
 have nfr : e ∉ frs X.stack := fun z => by
  obtain ⟨_, o3, h3, d3⟩ := ly.fr.mem z
  rw [ho1] at h3
  cases h3
  exact d3 _ hod
 have n2 : H2 e = none := by
  cases z : H2 e with
  | none => rfl
  | some v =>
   have := ly.trk e v _ z ho1
   rw [bn] at this
   cases this
 have ns : s'.heap.get? e = none := by
  cases z : s'.heap.get? e with
  | none => rfl
  | some v =>
   have := ly.was e v _ z nfr ho1
   rw [bn] at this
   cases this
 have inv : ∀ h' : Heap, Heap.FlyingW B (X.env :: X.outer) e cls a0 h' -> s1.heap.UpToSlots h' -> Inv (X.bear pins) p' σ1 (upd H2 e (ExcO e cls)) { s1 with heap := h' } := fun h' g sm => by
  have g0 : Heap.FlyingW B X.stack e cls a0 h' := hst.symm ▸ g
  have U := Un.lies u ly g0.1 g0.2.2.1 sm (fun _ z => z) (fun _ _ _ z => z)
  have O := hok.lies ly g0.1
  have ne : ∀ b v, H2 b = some v -> b ≠ e := fun b v z y => by
   rw [y, n2] at z
   cases z
  refine I'.call' (s' := { s1 with heap := h' }) (ch := []) ho ⟨U.keep, U.slot, fun b o z1 z2 z3 => ?_, U.there, fun b xs z => ?_, fun b o v z => ?_, fun b ps z => ?_⟩ (fun b v z => ?_) hg' (fun b z => nomatch z)
  ·have : b ≠ e := fun y => by
    rw [y, ns] at z1
    cases z1
   rw [upd_ne this]
   exact U.free b o z1 z2 z3
  ·rw [upd_ne (ne b _ (U.tups b xs z))]
   exact U.tups b xs z
  ·rw [upd_ne (ne b _ (U.frzs b o v z))]
   exact U.frzs b o v z
  ·obtain ⟨more, y⟩ := U.tbls b ps z
   exact ⟨more, by rw [upd_ne (ne b _ y)]; exact y⟩
  ·by_cases hb : b = e
   ·subst hb
    rw [upd_same] at z
    cases z
    obtain ⟨o, y1, y2⟩ := g.there
    exact ⟨⟨o, y1, y2⟩, ⟨o, y1⟩, fun h1 h2 ⟨o', z1, z2⟩ st => ⟨o', st o' z1, z2⟩⟩
   ·rw [upd_ne hb] at z
    exact (O b v z).stay (fun _ _ _ y => y) (fun d y => by rw [upd_ne (ne d _ y)]; exact y) fun d xs y => by rw [upd_ne (ne d _ y)]; exact y
 have I5 : Inv (X.han pins e) [] σ1 (upd H2 e (ExcO e cls)) { s1 with heap := h5 } := (inv h5 fly5 sm).han
 have LT : PySem.W.Looks (model X.prog X.w) h5 (typeOf (.ref e)) cls := by
  obtain ⟨o, y1, y2⟩ := fly5.there
  rw [<- y2]
  exact (PySem.W.Looks.ld y1).andThen .now
 refine wpAny_handleBy_cons (codeAny_handlers_test (ld_glob (X := X.han pins e) (s := { s1 with heap := h5 }) I5 hg hm ?_ hd)) (by intro z; cases z)
 refine (PySem.W.exm_one (K := X.K) (h := h5) I5.kIn LT (hx cls H2 q)).here (s := { s1 with heap := h5 }) ?_
 refine codeAny_handlers_suite_as ?_
 refine lands_againW fly5 fun h6 fly6 sm6 => ?_
 have I6 : Inv (X.han pins e) [] σ1 (upd H2 e (ExcO e cls)) { s1 with heap := h6 } := (inv h6 fly6 (sm.trans sm6)).han
 have I6' : Inv (X.han pins e) [] (List.replicate X.N.length none) (upd H2 e (ExcO e cls)) { s1 with heap := h6 } := I6.weak (by rw [List.length_replicate]; exact I6.len.symm) (fun j v z => by
  rw [List.getElem?_replicate] at z
  split at z <;> cases z)
 refine store_ok (X := X.han pins e) (v := .ref e) (u := .ref e) I6' nd hn (.inl hk) rfl (fun s7 I7 => ?_) (.inr hk)
 refine wpAny_mono (hs pins e [] s7 _ _ _ I7 (h2 e cls H2 q n2)) (fun f s8 q8 => ?_) (fun _ _ z => False.elim z)
 cases f with
 | next =>
  obtain ⟨σ8, H8, I8, q8⟩ := q8
  exact name_gone (I8.unhan I.ok) nd hn hk fun s9 I9 => ⟨_, H8, I9, q8⟩
 | brk => obtain ⟨_, _, _, z⟩ := q8; exact False.elim z
 | cont => obtain ⟨_, _, _, z⟩ := q8; exact False.elim z
 | ret u => obtain ⟨_, _, _, _, _, z⟩ := q8; exact False.elim z
end
structure RoomM (k : Nat) (A : Around) : Prop where
 dp : A.depth + 3 * k + 5 < recursionLimit
 un : A.units + 16 * k + 200 < cLine
theorem Room.marked {k : Nat} {A : Around} (r : Room k A) (v : Option Value) : RoomM k (A.mark v) := ⟨r.dp, r.un⟩
theorem RoomM.deeper {k : Nat} {A : Around} (r : RoomM (k + 1) A) (env : Env) : RoomM k (A.deeper env) :=
 ⟨by have := r.dp; show A.depth + 1 + 3 * k + 5 < _; lia, by have := r.un; show A.units + 3 + 16 * k + 200 < _; lia⟩
theorem RoomM.depth {k : Nat} {A : Around} (r : RoomM k A) : A.depth < recursionLimit := by have := r.dp; lia
structure FnOkM (P : Program) (w : World) (K : PySem.W.Frag) (mg : Str -> Option Value) (base : Heap) (k : Nat) (f : Addr) (fd : FuncData) (ps : List Str) (sp : Sp) : Prop where
 len : ∀ vs H Q E, sp vs H Q E -> vs.length = ps.length
 run : ∀ (A : Around) (outer : List Env) (s : Shared) (H : Hp) (args : Args) (us : List Value) (vs : List V) (Q : VK) (E : XK), RoomM k A -> Env0 P w K mg base A outer s H -> BindsTo s fd args (ps.zip us) -> Vals vs us -> sp vs H Q E ->
  codeAny (model P w) A (.call (.ref f) args) (CR CX0 outer P w H s Q E) s
noncomputable abbrev cxM (P : Program) (w : World) (K : PySem.W.Frag) (mg : Str -> Option Value) (base : Heap) (N : List Str) (qual : Str) (scope : Scope) (f : Addr) (cd : Value) (A : Around) (outer : List Env) (s : Shared) (H : Hp) (E : XK) : Cx :=
 { cxOf CX0 P w K mg base N qual scope f cd A outer s H E with calm := false, xe := fun _ _ => False }
set_option tactic.hygienic true in
theorem Fun.okM {P : Program} {w : World} {K : PySem.W.Frag} {mg : Str -> Option Value} {base : Heap} {x qual : Str} {st : Stmt} {f : Addr} {fd : FuncData} {N ps : List Str} {k : Nat} {sp : Sp} (F : Fun K x qual st f fd) (S : FnScope N ps (defScope st))
  (len : ∀ vs H Q E, sp vs H Q E -> vs.length = ps.length)
  (hbody : ∀ (cdv : Value) (A : Around) (outer : List Env) (s : Shared) (H : Hp) (vs : List V) (Q : VK) (E : XK), RoomM k (A.deeper (envOfC qual (defScope st) s.heap.objs.size f cdv)) -> sp vs H Q E ->
   ∃ t, PSs (cxM P w K mg base N qual (defScope st) f cdv A outer s H E) (defBody st) t /\ t { nx := fun _ H' => Q .non H', rt := Q } (start N vs) H) : FnOkM P w K mg base (k + 1) f fd ps sp := by
 obtain ⟨oc, od, kV, doc, pm, an, cdv, ct, osl, rfl, lk, hcd⟩ := F.ex
 refine ⟨len, fun A outer s H args us vs Q E hr e0 hb r hsp => ?_⟩
 have hl := len _ _ _ _ hsp
 have KX : K.In s.heap := e0.mod.kin.keeps fun b o e => (e0.bs b o e).1
 have lim : s.heap.NoLimit := e0.mod.nolimit.keeps fun b o e => (e0.bs b o e).1
 have hkind : ∀ y ∈ ps.zip us, (defScope st).names.lookup y.1 = some .local \/ ((defScope st).names.lookup y.1 = some .cell /\ ((cellsFrom (s.heap.objs.size + 1) (defScope st).names []).lookup y.1).isSome = true) := fun ⟨n, v⟩ hy => by
  rcases S.par n (List.of_mem_zip hy).1 with q | q
  ·exact .inl q
  ·exact .inr ⟨q, PySem.W.cellsFrom_some _ _ _ (.inl q)⟩
 refine codeAny_call_function hr.depth (KX _ _ lk) rfl S.co S.gen rfl (PySem.W.codeRec_of KX hcd) (hb _ _ _ _ ?_)
 refine wpAny_newFunctionEnv_cells S.kind hkind fun env he s1 y => ?_
 subst he
 refine ⟨lim.keeps y.toInCall.keep, codeAny_func ?_⟩
 obtain ⟨t, ht, hq⟩ := hbody cdv A outer s H vs Q E (hr.deeper _) hsp
 have e1 : Env0 P w K mg base { A with handled := none } outer s H := ⟨e0.frames, e0.mod, e0.bs, e0.bsz, e0.funs, e0.frf, e0.hok, e0.bare⟩
 have I0 := inv_start (CX := CX0) (cd := cdv) (qual := qual) (f := f) (E := E) (A := { A with handled := none }) S rfl e1 hl r y
 have I : Inv (cxM P w K mg base N qual (defScope st) f cdv A outer s H E) [] (start N vs) H s1 :=
  ⟨⟨I0.ok.mod, I0.ok.kind, I0.ok.glob, I0.ok.blt, I0.ok.above, I0.ok.inj, I0.ok.has, I0.ok.cab, (fun z => nomatch z), Around.frames_deeper e0.frames, I0.ok.stk, I0.ok.exf, I0.ok.bs, I0.ok.bsz, I0.ok.noex, I0.ok.exfs, I0.ok.funs, I0.ok.frf⟩,
   I0.os, I0.bare, I0.base, I0.loc, I0.cell, I0.free, I0.freeC, I0.pin, I0.hok, I0.len⟩
 refine wpAny_mono (ht [] s1 (start N vs) H _ I hq) (fun fl s' hs => ?_) fun e s' hs => False.elim hs
 have fin : ∀ {σ' : St} {H' : Hp} {v : V} {u : Value}, Inv (cxM P w K mg base N qual (defScope st) f cdv A outer s H E) [] σ' H' s' -> RelV v u -> Q v H' -> CE outer P w H s Q u s' :=
  fun {σ' H' v u} J rv q => ⟨v, H', J.os, J.bare, J.base, J.hok, rv, q⟩
 cases fl with
 | ret u =>
  obtain ⟨v, σ', H', J, rv, q⟩ := hs
  exact fin J rv q
 | next =>
  obtain ⟨σ', H', J, q⟩ := hs
  exact fin (v := V.non) (u := Value.none) J rfl q
 | brk =>
  obtain ⟨_, _, _, q⟩ := hs
  exact False.elim q
 | cont =>
  obtain ⟨_, _, _, q⟩ := hs
  exact False.elim q
section
variable {X : Cx} {k : Nat} {f : Addr} {fd : FuncData} {ps : List Str} {sp : Sp} {x : Str} {p pos : Pos} {e : Expr} {es : List Expr} {t : TA}
set_option tactic.hygienic true in
theorem pe_callM (F : FnOkM X.prog X.w X.K X.mg X.base k f fd ps sp) (hr : RoomM k X.A) (hg : Gl X x) (hm : X.mg x = some (.ref f)) (hk : PySem.W.keepIn X.K (.ref f) = true) (hb : Binds X.K fd ps [])
  (ha : PA X (e :: es) t) (hdb : (x == ("__debug__" : Str)) = false := by decide) (he : starEach (e :: es) X.env = (false, eval e X.env) :: starEach es X.env := by rfl) (hpl : (backTo pos (starEach es X.env)).any (·.1) = false := by rfl) :
  PE X (.Call (.Name x p) (e :: es) [] pos) (tCall sp [] E0 t) := by
 intro pins s σ H Q I h
 refine wpAny_Call_Name_kw (ld_glob I hg hm ?_ hdb)
 refine PySem.W.callWith_K (h₀ := X.base) I.ok.mod.kin hk (thn (ha pos pins s σ H _ I h) fun us s1 ⟨vs, H1, I1, r, q⟩ => ⟨I1.kIn, ?_⟩) he hpl
 have q0 : sp vs H1 Q E0 := by
  have q' : sp (vs ++ []) H1 Q E0 := q
  rw [List.append_nil] at q'
  exact q'
 have hl : us.length = ps.length := by rw [<- r.length]; exact F.len _ _ _ _ q0
 have hb' := hb s1 us I1.kIn (by rw [List.append_nil]; exact hl)
 rw [List.append_nil] at hb'
 refine wpAny_call (codeAny_mono (F.run X.A X.stack s1 H1 ⟨us, []⟩ us vs Q E0 hr I1.env0 hb' r q0) fun r s' hq => ?_)
 cases r with
 | error e => exact False.elim hq
 | ok fl =>
  cases fl with
  | ret u => exact I1.after hq
  | next => exact False.elim hq
  | brk => exact False.elim hq
  | cont => exact False.elim hq
end
structure ExcF (K : PySem.W.Frag) (D : Addr) : Prop where
 ex : PySem.W.excIn K D vErr "ValueError.__new__" = true
 ga : PySem.W.findIn K (.ref D) "__getattribute__" = some (some (.builtin "BaseException.__getattribute__"))
 na : PySem.W.findIn K (.ref D) "__getattr__" = some none
 cl : PySem.W.findIn K (.ref D) "__class__" = some (some (.builtin "object.__class__"))
 sb : PySem.W.subIn K (.ref D) (.type "BaseException") = some true
 so : PySem.W.subIn K (.ref D) (.type "object") = some true
section
variable {prog : Program} {w : World} {A : Around} {E : Value -> Shared -> Prop} {h : Heap} {g : Array GenState} {d : Drawn} {t : Nat} {os : OsState} {a D : Addr} {o : Obj} {K : PySem.W.Frag}
theorem look_ty {M : Model} {v : Value} {n : Str} {r : Option Value} {Q : Option Value -> Shared -> Prop} (X : K.In h) (e : PySem.W.findIn K v n = some r) (q : Q r ⟨h, g, d, t, os⟩) : wpAny M A (typeLookup v n) Q E ⟨h, g, d, t, os⟩ := (PySem.W.looks_findIn X e).at q
theorem look_sub {M : Model} {v b : Value} {r : Bool} {Q : Bool -> Shared -> Prop} (X : K.In h) (e : PySem.W.subIn K v b = some r) (q : Q r ⟨h, g, d, t, os⟩) : wpAny M A (isSubtype v b) Q E ⟨h, g, d, t, os⟩ := (PySem.W.looks_subIn X e).at q
theorem exc_cls_get {R : Result -> Shared -> Prop} (X : K.In h) (F : ExcF K D) (hx : h.get? a = some o) (hc : o.cls = .ref D) (hq : R (.ok (.ret (.ref D))) ⟨h, g, d, t, os⟩) :
  codeAny (model prog w) A (.call (.builtin "getset_descriptor.__get__") ⟨[.builtin "object.__class__", .ref a, .ref D], []⟩) R ⟨h, g, d, t, os⟩ := by
 have hT5 : (⟨h, g, d, t, os⟩ : Shared).TypeIs (.builtin "object.__class__") "getset_descriptor" := PySem.F.typeOf_object_class
 have so : PySem.W.subIn K (.ref D) (.type (".".intercalate ("object.__class__".cutAt '.').dropLast)) = some true := by rw [PySem.F.owner_object_class]; exact F.so
 refine codeAny_call_builtin PySem.F.slot_gs_get.plain PySem.F.entry_gs_get (PySem.F.slot_gs_get.check _ _ _ _ _ _ _ _ hT5 (PySem.F.args_gs_get _ _ _) ?_)
 repeat (any_goals (first | assumption | (with_reducible refine wpAny_loadPart_at hx ?_; rw [hc]) | with_reducible refine look_sub X so ?_ | wp_step))
 refine ⟨Code.quiet_builtin _ (by decide +kernel), codeAny_builtin PySem.F.entry_object_class ?_⟩
 repeat (any_goals (first | assumption | (with_reducible refine wpAny_loadPart_at hx ?_; rw [hc]) | wp_step))
theorem exc_cls_entry {tk : Tok} {Q : Fin -> Shared -> Prop} (X : K.In h) (F : ExcF K D) (hx : h.get? a = some o) (hc : o.cls = .ref D) (hq : Q (.done (.ret (.ref D))) ⟨h, g, d, t, os⟩) :
  wpAny (model prog w) A (Builtin.«object.__getattribute__» ⟨[.ref a, .str "__class__" tk], []⟩) Q E ⟨h, g, d, t, os⟩ := by
 have hT5 : (⟨h, g, d, t, os⟩ : Shared).TypeIs (.builtin "object.__class__") "getset_descriptor" := PySem.F.typeOf_object_class
 have f5 := PySem.F.typeOf_object_class
 have f6 := PySem.F.slot_gs_get.lookup
 have f7 := PySem.F.slot_gs_set.lookup
 repeat (any_goals (first | assumption | (with_reducible refine wpAny_loadPart_at hx ?_; rw [hc]) | with_reducible refine look_ty X F.cl ?_ | wp_step))
 refine exc_cls_get X F hx hc ?_
 repeat (any_goals (first | assumption | wp_step))
theorem exc_ga_check {M : Model} {nameV : Value} {Q : Unit -> Shared -> Prop} (X : K.In h) (F : ExcF K D) (hx : h.get? a = some o) (hc : o.cls = .ref D) (hq : Q () ⟨h, g, d, t, os⟩) :
  wpAny M A (checkBuiltinCall "BaseException.__getattribute__" ⟨[.ref a, nameV], []⟩) Q E ⟨h, g, d, t, os⟩ := by
 have hk : builtinKind "BaseException.__getattribute__" = some .slot := by decide +kernel
 have hsplit : splitId "BaseException.__getattribute__" = some ("BaseException", "__getattribute__") := by decide +kernel
 have ha := PySem.F.args_bexc_ga (.ref a) nameV
 simp only [checkBuiltinCall, hk, hsplit]
 refine wpAny_bind ?_
 unfold isInstance
 repeat (first | (with_reducible refine wpAny_loadPart_at hx ?_; rw [hc]) | with_reducible refine look_sub X F.sb ?_ | wp_step)
 exact hq
theorem exc_cls_by {tk : Tok} {Q : Value -> Shared -> Prop} (X : K.In h) (F : ExcF K D) (hx : h.get? a = some o) (hc : o.cls = .ref D) (hq : Q (.ref D) ⟨h, g, d, t, os⟩) :
  wpAny (model prog w) A (getAttrBy (.ref a) (.str "__class__" tk) false) Q E ⟨h, g, d, t, os⟩ := by
 have f3 := PySem.F.excAttr_ValueError.ga.bind (.ref a)
 have hx0 : (false && onTheHeap (Value.builtin "BaseException.__getattribute__")) = false := rfl
 have hx2 : (Value.builtin "BaseException.__getattribute__" == Value.builtin "object.__getattribute__") = false := by decide +kernel
 have hx1 : (onTheHeap (Value.ref D) && Value.builtin "BaseException.__getattribute__" == Value.builtin "object.__getattribute__") = false := by rw [hx2]; rfl
 repeat (any_goals (first | assumption | (with_reducible refine wpAny_loadPart_at hx ?_; rw [hc]) | with_reducible refine look_ty X F.ga ?_ | with_reducible refine look_ty X F.na ?_ | wp_step))
 refine codeAny_call_builtin PySem.F.excAttr_ValueError.ga.plain PySem.F.entry_bexc_ga (exc_ga_check X F hx hc (exc_cls_entry X F hx hc ?_))
 repeat (any_goals (first | assumption | wp_step))
theorem exc_cls_attr {Q : Option Value -> Shared -> Prop} (X : K.In h) (F : ExcF K D) (hx : h.get? a = some o) (hc : o.cls = .ref D) (hq : Q (some (.ref D)) ⟨h, g, d, t + 1, os⟩) :
  wpAny (model prog w) A (getAttr? (.ref a) "__class__") Q E ⟨h, g, d, t, os⟩ := by
 unfold getAttr? getAttrBy?
 repeat (any_goals (first | assumption | with_reducible apply exc_cls_by X F hx hc | wp_step))
theorem kitx_exc (F : ExcF K D) : PySem.W.KitX K (.ref a) (.ref D) (fun h => ∃ o, h.get? a = some o /\ o.cls = .ref D) where
 ty := fun M h _ ⟨o, h1, h2⟩ => h2 ▸ (PySem.W.Looks.ld h1).andThen .now
 it := fun M h X _ => by
  obtain ⟨bm, N, nm, qn, bs, hdct, sn, sub, ab, col, dd, k0, k1, k2, k3, k5, mN, hC, _⟩ := exc_obj X F.ex
  intro A' Q' E' s' k q
  unfold isType loadHead
  exact wpAny_bind (wpAny_loadPart (k _ _ hC) (wpAny_pure q))
 ne := fun h tp dd its n sl X htp => by
  obtain ⟨bm, N, nm, qn, bs, hdct, sn, sub, ab, col, dd, k0, k1, k2, k3, k5, mN, hC, _⟩ := exc_obj X F.ex
  refine Bool.eq_false_iff.mpr fun q => ?_
  have e : D = tp := Value.ref.inj (beq_iff_eq.mp q)
  subst e
  have z := congrArg Obj.data (Option.some.inj (hC.symm.trans htp))
  exact nomatch z
 ca := fun {_ _ _ _ _ s} X ⟨o, h1, h2⟩ k => by
  obtain ⟨hh, gg, dd, tt, oo⟩ := s
  exact exc_cls_attr X F h1 h2 k
end
section
variable {X : Cx}
theorem call_isi_exc : CallR X (.builtin "isinstance") (fun xs H Q => ∃ e D c b, xs = [.ref e, c] /\ H e = some (ExcO e (.ref D)) /\ ExcF X.K D /\ (∀ u, RelV c u -> PySem.W.kitOne X.K (.ref D) u = some b) /\ Q (.bl b) H) := by
 intro pins s σ H xs us Q I r h
 obtain ⟨e, D, c, b, rfl, hH, F, hk, q⟩ := h
 obtain ⟨u, v, rfl, ru, rv⟩ := r.two
 cases ru
 exact PySem.W.kia_one (kitx_exc F) I.kIn (I.hok e _ hH).1 (hk v rv) (fun z => nomatch z) fun tk => ⟨.bl b, H, I.tok _, rfl, q⟩
noncomputable def rCountT : V -> List V -> Hp -> VK -> Prop := fun x vs H Q => ∃ (l : Addr) (bs : List Bool), x = .ref l /\ vs = [.bl true] /\ H l = some (.lst (bs.map V.bl)) /\ Q (.int (bs.countP id : Nat)) H
theorem vals_bls : ∀ {bs : List Bool} {us : List Value}, Vals (bs.map V.bl) us -> us = bs.map Value.bool
 | [], _, .nil => rfl
 | _ :: _, _, .cons r t => by
  cases r
  rw [vals_bls t]
  rfl
noncomputable def isT : Value -> Bool
 | .bool b => b
 | _ => false
theorem count_isT : ∀ (bs : List Bool), (bs.map Value.bool).countP isT = bs.countP id
 | [] => rfl
 | b :: bs => by
  rw [List.map_cons, List.countP_cons, List.countP_cons, count_isT bs]
  rfl
theorem mt_countT : MtM X "list.count" rCountT := by
 intro pins s σ H x vs v us Q I rx rv h
 obtain ⟨l, bs, rfl, rfl, hH, q⟩ := h
 cases rx
 obtain ⟨u, rfl, ru⟩ := rv.one
 cases ru
 obtain ⟨z, its, n, r, hl, e⟩ := I.lstM hH
 obtain rfl := vals_bls r
 refine call_meets PySem.F.slot_list_count ⟨_, e, rfl⟩ PySem.F.entry_list_count (PySem.F.args_list_count_2 _ _) (SeqAt.list_countAt l (bs.map Value.bool).toArray n none #[] (.bool true) isT) ⟨e, fun y hy => ?_, ?_⟩
 ·obtain ⟨b, _, rfl⟩ := List.mem_map.mp (List.mem_toArray.mp hy)
  have := SeqAt.EqAt.bool_bool (A := X.A.in1.in1) (s := s) b true
  have e1 : (b == true) = isT (.bool b) := by cases b <;> rfl
  rw [<- e1]
  exact SeqAt.EqAt.bool_bool b true
 ·refine ⟨.int _, H, I.tok _, ⟨_, rfl⟩, ?_⟩
  rw [List.toList_toArray, count_isT]
  exact q
noncomputable def rIndexT : V -> List V -> Hp -> VK -> Prop := fun x vs H Q => ∃ (l : Addr) (bs : List Bool) (j : Nat), x = .ref l /\ vs = [.bl true] /\ H l = some (.lst (bs.map V.bl)) /\ bs[j]? = some true /\ (∀ m, m < j -> bs[m]? = some false) /\ Q (.int (j : Nat)) H
theorem mt_indexT : MtM X "list.index" rIndexT := by
 intro pins s σ H x vs v us Q I rx rv h
 obtain ⟨l, bs, j, rfl, rfl, hH, hj, hno, q⟩ := h
 cases rx
 obtain ⟨u, rfl, ru⟩ := rv.one
 cases ru
 obtain ⟨z, its, n, r, hl, e⟩ := I.lstM hH
 obtain rfl := vals_bls r
 have hj' : j < (bs.map Value.bool).toArray.size := by
  rw [List.size_toArray, List.length_map]
  exact (List.getElem?_eq_some_iff.mp hj).1
 have at_ : ∀ m (hm : m < (bs.map Value.bool).toArray.size) b, bs[m]? = some b -> isT (bs.map Value.bool).toArray[m] = b := fun m hm b hb => by
  have : (bs.map Value.bool).toArray[m]? = some (.bool b) := by
   rw [List.getElem?_toArray, List.getElem?_map, hb]
   rfl
  rw [Array.getElem?_eq_getElem hm] at this
  rw [Option.some.inj this]
  rfl
 refine call_meets PySem.F.slot_list_index ⟨_, e, rfl⟩ PySem.F.entry_list_index (PySem.F.args_list_index_2 _ _) (SeqAt.list_indexAt l (bs.map Value.bool).toArray n none #[] (.bool true) isT j hj' ?_ (at_ j hj' true hj) (fun m hm h2 => at_ m hm false (hno m h2))) ⟨e, fun y hy => ?_, ?_⟩
 ·have h1 : j < bs.length := (List.getElem?_eq_some_iff.mp hj).1
  rw [List.length_map] at z
  have h2 : sizeLine < 2 ^ 63 - 1 := by decide
  lia
 ·obtain ⟨b, _, rfl⟩ := List.mem_map.mp (List.mem_toArray.mp hy)
  have e1 : (b == true) = isT (.bool b) := by cases b <;> rfl
  rw [<- e1]
  exact SeqAt.EqAt.bool_bool b true
 ·exact ⟨.int _, H, I.tok _, ⟨_, rfl⟩, q⟩
end
end L2
namespace L2
open PySem PySem.Spec PyProof.Rows
section
variable {X : Cx}
noncomputable def rSlS : V -> Option Int -> Option Int -> Hp -> VK -> Prop := fun x lo hi H Q => ∃ z, x = .str z /\ z.length <= sizeLine /\ Q (.str (Txt.slice z lo hi)) H
theorem sl_str : SlR X rSlS := by
 intro pins s σ H x v vl vu lo hi sl Q I rx hs pl pu h
 obtain ⟨z, rfl, hz, q⟩ := h
 obtain ⟨t, rfl⟩ := rx
 refine ⟨"str", _, PySem.F.slot_str_getitem.lookup, typeIs_str _ _ _, ?_⟩
 have fin : ∀ t' k, EP X pins σ Q (.str (Txt.slice z lo hi) t') { s with toks := k } := fun t' k => ⟨.str _, H, I.tok _, ⟨_, rfl⟩, q⟩
 cases pl with
 | none =>
  cases pu with
  | none => exact wpAny_getItem_str_slice (l := none) (u := none) (st := none) hs rfl (post_val_or_str ⟨Nat.le_trans (Txt.slice_le z _ _) hz, fin⟩)
  | int j tj => exact wpAny_getItem_str_slice (l := none) (u := some (j, tj)) (st := none) hs rfl (post_val_or_str ⟨Nat.le_trans (Txt.slice_le z _ _) hz, fin⟩)
 | int i ti =>
  cases pu with
  | none => exact wpAny_getItem_str_slice (l := some (i, ti)) (u := none) (st := none) hs rfl (post_val_or_str ⟨Nat.le_trans (Txt.slice_le z _ _) hz, fin⟩)
  | int j tj => exact wpAny_getItem_str_slice (l := some (i, ti)) (u := some (j, tj)) (st := none) hs rfl (post_val_or_str ⟨Nat.le_trans (Txt.slice_le z _ _) hz, fin⟩)
theorem vals_strs : ∀ {zs : List Str} {vs : List Value}, Vals (zs.map V.str) vs -> StrsAre vs zs
 | [], _, .nil => .nil
 | z :: zs, _, .cons ⟨t, rfl⟩ r => .cons z t (vals_strs r)
theorem strs_vals : ∀ (l : List (Str × Tok)), Vals ((l.map (·.1)).map V.str) (strValues l)
 | [] => .nil
 | p :: l => .cons ⟨p.2, rfl⟩ (strs_vals l)
noncomputable def rJoin (K : PySem.W.Frag) : V -> List V -> Hp -> VK -> Prop := fun x vs H Q => ∃ z l zs, x = .str z /\ vs = [.ref l] /\ SqL K H l (zs.map V.str) /\ (zs.map (·.length)).sum + zs.length * z.length <= 16777216 /\ Q (.str (Txt.join z zs)) H
theorem mt_join : MtR X "str.join" (rJoin X.K) := by
 intro pins s σ H x xs v us Q I rx rs h
 obtain ⟨z, l, zs, rfl, rfl, hl, hz, q⟩ := h
 obtain ⟨t, rfl⟩ := rx
 obtain ⟨u, rfl, ru⟩ := vals1 rs
 cases ru
 obtain ⟨its, r1, p1, _⟩ := I.list hl
 exact join_list p1.isList (by simpa using vals_strs r1) hz fun t' k => ⟨.str _, H, I.tok _, ⟨_, rfl⟩, q⟩
noncomputable def rSplit : V -> List V -> Hp -> VK -> Prop := fun x vs H Q => ∃ z y, x = .str z /\ vs = [.str y] /\ 0 < y.length /\ z.length + 2 <= sizeLine /\ ∀ p, H p = none -> Q (.ref p) (upd H p (.lst ((Txt.split z y).map V.str)))
theorem mt_split : MtR X "str.split" rSplit := by
 intro pins s σ H x xs v us Q I rx rs h
 obtain ⟨z, y, rfl, rfl, hy, hz, q⟩ := h
 obtain ⟨t, rfl⟩ := rx
 obtain ⟨u, rfl, ru⟩ := vals1 rs
 obtain ⟨t', rfl⟩ := ru
 have hle := split_le z y
 have hy0 : (y.length == 0) = false := by
  cases h : y.length == 0 with
  | false => rfl
  | true => have := eq_of_beq h; omega
 have fin : ∀ (l : List (Str × Tok)) (k : Nat), l.map (·.1) = Txt.split z y -> EP X pins σ Q (.ref s.heap.objs.size) { s with heap := s.heap.push { cls := .type "list", data := .seq (strValues l).toArray }, toks := k } := fun l k hl =>
  ⟨.ref s.heap.objs.size, _, I.laid (t' := k) (fun b o e => Heap.get?_push_of_some _ e) (Nat.le_refl _) (show ObjOk X.prog X.w _ _ _ (.lst ((Txt.split z y).map V.str)) from
   ⟨by rw [List.length_map]; omega, strValues l, 0, by rw [<- hl]; exact strs_vals l, Heap.get?_push_size _ rfl⟩), rfl, q _ (I.hok.fresh (Nat.le_refl _))⟩
 cases h1 : (decide (z.length < y.length) || decide (Builtin.Str.strKind z < Builtin.Str.strKind y))
 ·cases hf : (Builtin.Str.occurrences z y 0 z.length (z.length + 1)).isEmpty
  ·have hsz2 : (Builtin.Str.partsBetween z (Builtin.Str.occurrences z y 0 z.length (z.length + 1)) y.length).length <= sizeLine := by
    have e : Txt.split z y = Builtin.Str.partsBetween z (Builtin.Str.occurrences z y 0 z.length (z.length + 1)) y.length := (if_neg (ne_true_of_eq_false h1)).trans (if_neg (ne_true_of_eq_false hf))
    rw [<- e]
    omega
   refine call_meets PySem.F.slot_str_split (typeIs_str _ _ _) PySem.F.entry_str_split (PySem.F.args_str_split_2 _ _) (meets_str_split_sep z y t t' h1 hy0 hf (by omega) hsz2) ?_
   show wants (EP X pins σ Q) X.xe _ { s with toks := _, heap := s.heap.push { cls := .type "list", data := .seq (strsFrom s.toks (Builtin.Str.partsBetween z (Builtin.Str.occurrences z y 0 z.length (z.length + 1)) y.length)).toArray } }
   rw [strsFrom_eq]
   exact fin (numbered s.toks _) _ ((numbered_texts _ _).trans ((if_neg (ne_true_of_eq_false h1)).trans (if_neg (ne_true_of_eq_false hf))).symm)
  ·exact call_meets PySem.F.slot_str_split (typeIs_str _ _ _) PySem.F.entry_str_split (PySem.F.args_str_split_2 _ _) (meets_str_split_not_found z y t t' h1 hy0 hf) (fin [(z, t)] s.toks ((if_neg (ne_true_of_eq_false h1)).trans (if_pos hf)).symm)
 ·exact call_meets PySem.F.slot_str_split (typeIs_str _ _ _) PySem.F.entry_str_split (PySem.F.args_str_split_2 _ _) (meets_str_split_cannot_occur z y t t' h1) (fin [(z, t)] s.toks (if_pos h1).symm)
noncomputable def rStarts : V -> List V -> Hp -> VK -> Prop := fun x vs H Q => ∃ z y, x = .str z /\ vs = [.str y] /\ Q (.bl (Txt.startswith z y)) H
theorem mt_starts : MtR X "str.startswith" rStarts := by
 intro pins s σ H x xs v us Q I rx rs h
 obtain ⟨z, y, rfl, rfl, q⟩ := h
 obtain ⟨t, rfl⟩ := rx
 obtain ⟨u, rfl, ru⟩ := vals1 rs
 obtain ⟨t', rfl⟩ := ru
 exact SC.startswith ⟨.bl _, H, I, rfl, q⟩
noncomputable def rIntS : List V -> Hp -> VK -> Prop := fun xs H Q => ∃ z n, xs = [.str z] /\ PySem.intText? z = some n /\ z.length <= 640 /\ Q (.int n) H
theorem call_int_str : CallR X (.type "int") rIntS := by
 intro pins s σ H xs us Q I r h
 obtain ⟨z, n, rfl, hn, hl, q⟩ := h
 obtain ⟨u, rfl, t, rfl⟩ := vals1 r
 exact PySem.W.KIN.call_text hn hl ⟨.int n, H, I.tok _, ⟨_, rfl⟩, q⟩
noncomputable def Its (x : Str) : It := ⟨fun i _ => i < x.cps.size, fun i H v H' => H' = H /\ ∃ c, x.cps[i]? = some c /\ v = .str ⟨#[c]⟩, fun i _ => x.cps.size <= i⟩
theorem turn_str {P : Program} {w : World} {K : PySem.W.Frag} {tg : Expr} (it : Addr) (x : Str) (t : Tok) : Turn P w K tg (Its x) [it] it (fun i h => h.IsStrIter it "str_ascii_iterator" x t i) where
 mem := by simp
 obj := fun i h st b hb => by
  have e : b = it := by simpa using hb
  subst e
  obtain ⟨o, e, c, d⟩ := st
  exact ⟨o, e, fun v z => by rw [d] at z; cases z⟩
 keep := fun i h h' st k => let ⟨o, ho, r⟩ := st; ⟨o, k it (by simp) o ho, r⟩
 item := by
  intro X hP hw hK hc i pins s σ H E I hf st hg
  subst hP hw hK
  obtain ⟨f0, f1, f2, f3, f4, f5⟩ := hf it (by simp)
  have hi : i < x.cps.size := hg
  refine wpAny_pyNext_ascii_item st (c := x.cps[i]) (by simp [hi]) fun h' st' sb => ?_
  have I1 : Inv X pins σ H { s with heap := h', toks := s.toks + 1 } := I.turned (fun b o hb e => (sb.2 b hb).trans e) f0 f1 f3 f4 f5
  obtain ⟨o, e, c, d⟩ := id st'
  exact ⟨_, rfl, go_of (s := { s with heap := h', toks := s.toks + 1 }) e c d (by decide) ⟨.str ⟨#[x.cps[i]]⟩, H, I1, ⟨_, rfl⟩, ⟨rfl, _, by simp [hi], rfl⟩, st', fun b hb => (hf b hb).1⟩⟩
 done := by
  intro X hP hw hK hc i pins s σ H E I hf st hg
  subst hP hw hK
  obtain ⟨f0, f1, f2, f3, f4, f5⟩ := hf it (by simp)
  have hi : x.cps.size <= i := hg
  exact wpAny_pyNext_ascii_end (I.ok.hd hc) st (by simp [hi]) fun h' eb => ⟨rfl, I.turned (t' := s.toks) (fun b o hb e => eb b o hb e) f0 f1 f3 f4 f5⟩
 self := fun _ _ _ _ _ st h => wpAny_pyIter_striter_ascii st h
noncomputable def iStr (tl : TE) : TI := fun σ H R => tl σ H fun x H1 => ∃ z, x = .str z /\ z.cps.all (· < 128) = true /\ R (Its z) H1
theorem pi_str {tg l : Expr} {tl : TE} (hl : PE X l tl) : PI X tg l (iStr tl) := by
 intro pins s σ H R I h
 refine thn (hl pins s σ H _ I h) fun v s1 ⟨x, H1, I1, r1, q1⟩ => ?_
 obtain ⟨z, e, ha, q⟩ := q1
 subst e
 obtain ⟨t, rfl⟩ := r1
 refine wpAny_pyIter_ascii ha ?_
 refine ⟨s1.heap.objs.size, [s1.heap.objs.size], _, _, H1, rfl, I1.kept (t' := s1.toks) fun b o e => Heap.get?_push_of_some _ e, turn_str _ z t, ⟨_, Heap.get?_push_size _ rfl, rfl, rfl⟩, fun b hb => ?_, q⟩
 have e : b = s1.heap.objs.size := by simpa using hb
 subst e
 exact I1.fpOk (Nat.le_refl _) (I1.hok.fresh (Nat.le_refl _))
theorem lc_str {D : Addr} {z : Str} {g : TG} {tt : TT} {te : TE} {Fin : Hp -> Prop} {σ0 : St} {H0 : Hp} (Pv : Nat -> St -> Hp -> Prop) (h0 : Pv 0 σ0 H0)
  (hs : ∀ i c σ H, z.cps[i]? = some c -> Pv i σ H -> g (.str ⟨#[c]⟩) σ H fun σ2 H2 => tt σ2 H2 fun b H3 => if b = true then te σ2 H3 fun y H4 => ∃ ys, H4 D = some (.lst ys) /\ ys.length < sizeLine /\ Pv (i + 1) σ2 (upd H4 D (.lst (ys ++ [y]))) else Pv (i + 1) σ2 H3)
  (hd : ∀ σ H, Pv z.cps.size σ H -> Fin H) :
  ∃ W : Nat -> Nat -> St -> Hp -> Prop, (∃ m, W 0 m σ0 H0) /\ LcGo (Its z) D g tt te Fin W := by
 refine ⟨fun i m σ H => m = z.cps.size - i /\ i <= z.cps.size /\ Pv i σ H, ⟨z.cps.size, by simp, Nat.zero_le _, h0⟩, ?_⟩
 rintro i m σ H ⟨rfl, hi, p⟩
 by_cases hlt : i < z.cps.size
 ·refine .inr ⟨hlt, Pv (i + 1), fun σ' H' p' => ⟨z.cps.size - (i + 1), by omega, rfl, hlt, p'⟩, fun x H' y => ?_⟩
  obtain ⟨e, c, hc, rfl⟩ := y
  subst e
  exact hs i c σ _ hc p
 ·have e : i = z.cps.size := by omega
  subst e
  exact .inl ⟨Nat.le_refl _, hd σ H p⟩
noncomputable def num (i : Int) : Str := Str.ofString (toString i)
noncomputable def tF2 (ta tb : TE) (mid : Str) : TE := fun σ H Q => ta σ H fun x H1 => ∃ i : Int, x = .int i /\ i.natAbs.log2 < 1920 /\ (Str.empty ++ num i ++ mid).length <= sizeLine /\ tb σ H1 fun y H2 => ∃ j : Int, y = .int j /\ j.natAbs.log2 < 1920 /\
 (Str.empty ++ num i ++ mid ++ num j).length <= sizeLine /\ Q (.str (Str.empty ++ num i ++ mid ++ num j)) H2
end
end L2
namespace L2
open PySem PySem.Spec PyProof.Rows PySem.NumText
noncomputable def dsig (m : Nat) : List Nat := (Nat.toDigits 10 m).map Char.toNat
theorem num_nat (m : Nat) : (num (m : Int)).cps.toList = dsig m := PySem.W.KIN.signs_num m
theorem num_neg (m : Nat) : (num (-((m + 1 : Nat) : Int))).cps.toList = 45 :: dsig (m + 1) := by
 unfold num
 rw [signs_ofString]
 have e : toString (-((m + 1 : Nat) : Int)) = "-" ++ Nat.repr (m + 1) := by
  rw [Int.toString_eq_repr, Int.repr_eq_if, if_neg (by omega)]
  congr 2
 rw [e, String.toList_append, List.map_append, Nat.toList_repr]
 rfl
theorem num_cps (i : Int) : (0 <= i /\ (num i).cps.toList = dsig i.natAbs) \/ (i < 0 /\ (num i).cps.toList = 45 :: dsig i.natAbs) := by
 rcases Int.lt_or_le i 0 with h | h
 ·right
  obtain ⟨m, rfl⟩ : ∃ m : Nat, i = -((m + 1 : Nat) : Int) := ⟨i.natAbs - 1, by omega⟩
  refine ⟨h, ?_⟩
  rw [num_neg]
  congr 2
 ·left
  obtain ⟨m, rfl⟩ := Int.eq_ofNat_of_zero_le h
  exact ⟨h, num_nat m⟩
theorem dsig_digits (m : Nat) : AllDigits (dsig m) := fun c hc => by
 obtain ⟨ch, hch, e⟩ := List.mem_map.mp hc
 have r := digit_range (Nat.isDigit_of_mem_toDigits (by decide) (by decide) hch)
 rw [<- e]
 exact r
theorem dsig_ne (m : Nat) : dsig m ≠ [] := fun e => by
 have h := toDigits_len_ge 10 m
 rw [List.map_eq_nil_iff.mp e] at h
 exact absurd h (by decide)
theorem cps_len (x : Str) : x.cps.toList.length = x.length := Array.length_toList
theorem dsig_len {m : Nat} (h : m < 10 ^ 7) : 1 <= (dsig m).length /\ (dsig m).length <= 7 := by
 refine ⟨List.length_pos_iff.mpr (dsig_ne m), ?_⟩
 have := toString_length_le (v := (m : Int)) (by omega) (k := 7) (by decide) (by exact_mod_cast h)
 rw [<- num_nat, cps_len]
 exact this
theorem num_len {i : Int} (h : i.natAbs < 10 ^ 7) : 1 <= (num i).length /\ (num i).length <= 8 := by
 have d := dsig_len h
 rw [<- cps_len]
 rcases num_cps i with ⟨_, e⟩ | ⟨_, e⟩
 ·rw [e]; omega
 ·rw [e, List.length_cons]; omega
theorem num_log {i : Int} (h : i.natAbs < 10 ^ 7) : i.natAbs.log2 < 1920 := by
 rcases Nat.eq_zero_or_pos i.natAbs with z | z
 ·rw [z]; decide
 ·exact Nat.lt_of_lt_of_le ((Nat.log2_lt (by omega)).mpr (show i.natAbs < 2 ^ 24 by omega)) (by decide)
theorem str_ext {a b : Str} (h : a.cps.toList = b.cps.toList) : a = b := by
 obtain ⟨a⟩ := a
 obtain ⟨b⟩ := b
 congr 1
 exact Array.toList_inj.mp h
theorem starts_minus {x : Str} {c : Nat} {r : List Nat} (h : x.cps.toList = c :: r) : Txt.startswith x (Str.ofString "-") = (c == 45) := by
 unfold Txt.startswith
 have e : (Str.ofString "-").cps.toList = [45] := by rw [signs_ofString]; rfl
 have l1 : (Str.ofString "-").length = 1 := by rw [<- cps_len, e]; rfl
 have l2 : x.length = r.length + 1 := by rw [<- cps_len, h]; rfl
 rw [StrLaws.subAt_eq, e, l1, l2, h]
 simp
theorem slice_one {x : Str} {c : Nat} {r : List Nat} (h : x.cps.toList = c :: r) : (Txt.slice x (some 1) none).cps.toList = r := by
 have l2 : x.cps.toList.length = r.length + 1 := by rw [h]; rfl
 have e : Txt.slice x (some 1) none = StrLaws.sliceText x (some 1) none := rfl
 rw [e, StrLaws.sliceText_from (by omega), h]
 simp
theorem cnt_nn (c : Nat) : ∀ l : List Nat, 0 <= cnt c l /\ (cnt c l = 0 -> c ∉ l)
 | [] => ⟨by rw [cnt_nil]; exact Int.le_refl _, fun _ h => by cases h⟩
 | n :: l => by
  obtain ⟨a, b⟩ := cnt_nn c l
  rw [cnt_cons]
  by_cases h : n = c
  ·rw [if_pos h]
   exact ⟨by omega, fun z => by omega⟩
  ·rw [if_neg h]
   refine ⟨by omega, fun z hm => ?_⟩
   rcases List.mem_cons.mp hm with e | e
   ·exact h e.symm
   ·exact b (by omega) e
end L2
namespace L2
open PySem PySem.Spec PyProof.Rows PySem.NumText
open RS (Pt)
noncomputable def comma : Str := Str.ofString ","
noncomputable def blank1 : Str := Str.ofString " "
noncomputable def wordM (p : Pt) : Str := Str.empty ++ num p.1 ++ comma ++ num p.2
noncomputable def textM (ps : List Pt) : Str := Txt.join blank1 (ps.map wordM)
noncomputable def Sm (p : Pt) : Prop := p.1.natAbs < 10 ^ 7 /\ p.2.natAbs < 10 ^ 7
theorem comma_is : comma = ⟨#[44]⟩ := str_ext (by unfold comma; rw [signs_ofString]; rfl)
theorem blank_is : blank1 = ⟨#[32]⟩ := str_ext (by unfold blank1; rw [signs_ofString]; rfl)
theorem num_free {i : Int} {c : Nat} (h : c ∈ (num i).cps.toList) : c = 45 \/ (48 <= c /\ c <= 57) := by
 rcases num_cps i with ⟨_, e⟩ | ⟨_, e⟩
 ·rw [e] at h
  exact .inr (dsig_digits _ c h)
 ·rw [e] at h
  rcases List.mem_cons.mp h with q | q
  ·exact .inl q
  ·exact .inr (dsig_digits _ c q)
theorem empty_cps : Str.empty.cps.toList = [] := rfl
noncomputable def dueM (ps : List Pt) : Str := ps.foldl (fun d p => d ++ blank1 ++ num p.1 ++ comma ++ num p.2) (Str.ofString "")
noncomputable def figs : Str := Str.ofString "0123456789"
end L2
namespace L2
open PySem PySem.Spec PyProof.Rows PySem.NumText
open RS (Pt isShape)
theorem dsig_one {d : Nat} (h : d < 10) : dsig d = [48 + d] := by
 have : d = 0 \/ d = 1 \/ d = 2 \/ d = 3 \/ d = 4 \/ d = 5 \/ d = 6 \/ d = 7 \/ d = 8 \/ d = 9 := by omega
 rcases this with rfl | rfl | rfl | rfl | rfl | rfl | rfl | rfl | rfl | rfl <;> decide +kernel
theorem dsig_push {m d : Nat} (h0 : 0 < m) (h : d < 10) : dsig (m * 10 + d) = dsig m ++ [48 + d] := by
 rw [<- dsig_one h]
 unfold dsig
 rw [<- List.map_append, Nat.toDigits_append_toDigits (by decide) h0 h, Nat.mul_comm]
theorem dval_push (g : List Nat) (c : Nat) : digitsVal (g ++ [c]) = digitsVal g * 10 + (c - 48) := by
 unfold digitsVal
 rw [List.foldl_append]
 rfl
theorem concat_of (f : List Nat) : f = [] \/ ∃ g c, f = g ++ [c] := by
 rcases List.eq_nil_or_concat f with h | ⟨g, c, h⟩
 ·exact .inl h
 ·exact .inr ⟨g, c, by rw [h, List.concat_eq_append]⟩
theorem dsig_val : ∀ (n : Nat) (f : List Nat), f.length = n -> AllDigits f -> f ≠ [] -> f.head? ≠ some 48 -> dsig (digitsVal f) = f /\ 0 < digitsVal f := by
 intro n
 induction n with
 | zero => exact fun f h _ h0 => absurd (List.length_eq_zero_iff.mp h) h0
 | succ n ih =>
  intro f hl ha h0 hh
  rcases concat_of f with rfl | ⟨g, c, rfl⟩
  ·exact absurd rfl h0
  ·have hc := ha c (List.mem_append_right _ List.mem_cons_self)
   have e : 48 + (c - 48) = c := by omega
   rw [dval_push]
   by_cases hg : g = []
   ·subst hg
    have h1 : c ≠ 48 := fun z => hh (by rw [z]; rfl)
    have e0 : digitsVal [] * 10 + (c - 48) = c - 48 := by unfold digitsVal; simp
    rw [e0, dsig_one (by omega), e]
    exact ⟨rfl, by omega⟩
   ·have hh' : g.head? ≠ some 48 := by
     cases g with
     | nil => exact absurd rfl hg
     | cons x g => exact hh
    rw [List.length_append] at hl
    obtain ⟨i1, i2⟩ := ih g (Nat.succ.inj hl) (fun x hx => ha x (List.mem_append_left _ hx)) hg hh'
    rw [dsig_push i2 (by omega), i1, e]
    exact ⟨rfl, by omega⟩
theorem dsig_head : ∀ (n m : Nat), m <= n -> 0 < m -> (dsig m).head? ≠ some 48 := by
 intro n
 induction n with
 | zero => intro m h1 h2; omega
 | succ n ih =>
  intro m h1 h2
  by_cases h : m < 10
  ·rw [dsig_one h]
   intro z
   injection z with z
   omega
  ·have e := dsig_push (m := m / 10) (d := m % 10) (by omega) (by omega)
   rw [show m / 10 * 10 + m % 10 = m by omega] at e
   have := ih (m / 10) (by omega) (by omega)
   rw [e]
   cases hd : dsig (m / 10) with
   | nil =>
    intro z
    have := dsig_ne (m / 10)
    exact absurd hd this
   | cons x g =>
    rw [hd] at this
    exact this
theorem dval_lt : ∀ (n : Nat) (f : List Nat), f.length = n -> AllDigits f -> digitsVal f < 10 ^ n := by
 intro n
 induction n with
 | zero =>
  intro f h _
  rw [List.length_eq_zero_iff.mp h]
  decide
 | succ n ih =>
  intro f hl ha
  rcases concat_of f with rfl | ⟨g, c, rfl⟩
  ·exact absurd hl (by simp)
  ·have hc := ha c (List.mem_append_right _ List.mem_cons_self)
   rw [List.length_append] at hl
   have i := ih g (Nat.succ.inj hl) (fun x hx => ha x (List.mem_append_left _ hx))
   rw [dval_push, Nat.pow_succ]
   omega
noncomputable def Asc (x : Str) : Prop := ∀ c ∈ x.cps.toList, c < 128
noncomputable def Tx (n : Nat) (x : Str) : Prop := x.length <= n /\ Asc x
theorem Tx.wide {m n : Nat} {x : Str} (h : Tx m x) (k : m <= n) : Tx n x := ⟨Nat.le_trans h.1 k, h.2⟩
theorem Asc.all {x : Str} (h : Asc x) : x.cps.all (· < 128) = true := by
 rw [<- Array.all_toList, List.all_eq_true]
 exact fun c hc => decide_eq_true (h c hc)
theorem Asc.app {a b : Str} (h : Asc a) (k : Asc b) : Asc (a ++ b) := fun c hc => by
 rw [cps_toList_append] at hc
 rcases List.mem_append.mp hc with q | q
 ·exact h c q
 ·exact k c q
theorem Asc.one {c : Nat} (h : c < 128) : Asc ⟨#[c]⟩ := fun d hd => by
 rw [List.mem_singleton.mp hd]
 exact h
theorem join_has {c : Nat} {z : Str} : ∀ {ws : List Str}, c ∈ (Str.join z ws).cps.toList -> c ∈ z.cps.toList \/ ∃ w ∈ ws, c ∈ w.cps.toList
 | [], h => by
  rw [join_nil, empty_cps] at h
  cases h
 | [w], h => .inr ⟨w, List.mem_cons_self, h⟩
 | w :: v :: r, h => by
  rw [join_cons_cons, cps_toList_append, cps_toList_append] at h
  rcases List.mem_append.mp h with q | q
  ·rcases List.mem_append.mp q with q | q
   ·exact .inr ⟨w, List.mem_cons_self, q⟩
   ·exact .inl q
  ·rcases join_has q with q | ⟨u, hu, q⟩
   ·exact .inl q
   ·exact .inr ⟨u, List.mem_cons_of_mem _ hu, q⟩
theorem join_of {c : Nat} {z : Str} : ∀ {ws : List Str} {w : Str}, w ∈ ws -> c ∈ w.cps.toList -> c ∈ (Str.join z ws).cps.toList
 | [v], w, h, hc => by
  rw [List.mem_singleton.mp h] at hc
  exact hc
 | u :: v :: r, w, h, hc => by
  rw [join_cons_cons, cps_toList_append, cps_toList_append]
  rcases List.mem_cons.mp h with q | q
  ·exact List.mem_append_left _ (List.mem_append_left _ (q ▸ hc))
  ·exact List.mem_append_right _ (join_of q hc)
theorem join_len {z : Str} (hz : z.length = 1) : ∀ {ws : List Str}, ws ≠ [] -> (Str.join z ws).length + 1 = (ws.map (·.length)).sum + ws.length
 | [], h => absurd rfl h
 | [w], _ => by
  rw [join_one]
  simp
 | w :: v :: r, _ => by
  have ih := join_len hz (ws := v :: r) (by simp)
  rw [join_cons_cons, strLen_append, strLen_append, hz, List.map_cons, List.sum_cons, List.length_cons]
  omega
theorem Asc.join {z : Str} (hz : Asc z) {ws : List Str} (h : ∀ w ∈ ws, Asc w) : Asc (Txt.join z ws) := fun c hc => by
 have e : Txt.join z ws = Str.join z ws := StrLaws.glued_eq_join _ _
 rw [e] at hc
 rcases join_has hc with q | ⟨w, hw, q⟩
 ·exact hz c q
 ·exact h w hw c q
theorem split_ne (x : Str) (c : Nat) : Txt.split x ⟨#[c]⟩ ≠ [] := fun z => by
 have h := split_len x c
 have k := (cnt_nn c x.cps.toList).1
 rw [z, List.length_nil] at h
 omega
theorem split_sum (x : Str) (c : Nat) : ((Txt.split x ⟨#[c]⟩).map (·.length)).sum + (Txt.split x ⟨#[c]⟩).length = x.length + 1 := by
 have h := join_len (z := ⟨#[c]⟩) rfl (split_ne x c)
 rw [StrLaws.join_split] at h
 exact h.symm
theorem split_asc {x : Str} {c : Nat} (h : Asc x) : ∀ w ∈ Txt.split x ⟨#[c]⟩, Asc w := fun w hw d hd => by
 refine h d ?_
 have := join_of (z := ⟨#[c]⟩) hw hd
 rw [StrLaws.join_split] at this
 exact this
theorem sum_mem : ∀ {ws : List Str} {w : Str}, w ∈ ws -> w.length <= (ws.map (·.length)).sum
 | u :: r, w, h => by
  rw [List.map_cons, List.sum_cons]
  rcases List.mem_cons.mp h with q | q
  ·rw [q]
   exact Nat.le_add_right _ _
  ·exact Nat.le_trans (sum_mem q) (Nat.le_add_left _ _)
theorem split_tx {n : Nat} {x : Str} {c : Nat} (h : Tx n x) : ∀ w ∈ Txt.split x ⟨#[c]⟩, Tx n w := fun w hw => by
 refine ⟨?_, split_asc h.2 w hw⟩
 have a := sum_mem hw
 have b := split_sum x c
 have d := List.length_pos_of_mem hw
 have e := h.1
 omega
theorem slice_to {x : Str} {i : Nat} (h : i <= x.length) : (Txt.slice x none (some (i : Int))).cps.toList = x.cps.toList.take i := by
 have e : Txt.slice x none (some (i : Int)) = StrLaws.sliceText x none (some (i : Int)) := rfl
 rw [e, StrLaws.sliceText_to (by rw [cps_len]; omega)]
 simp
theorem slice_from {x : Str} {i : Nat} (h : i <= x.length) : (Txt.slice x (some (i : Int)) none).cps.toList = x.cps.toList.drop i := by
 have e : Txt.slice x (some (i : Int)) none = StrLaws.sliceText x (some (i : Int)) none := rfl
 rw [e, StrLaws.sliceText_from (by rw [cps_len]; omega)]
 have : (x.cps.toList.length : Int) - (i : Int) = ((x.cps.toList.drop i).length : Nat) := by
  rw [List.length_drop, cps_len]
  omega
 rw [this, Int.toNat_natCast, Int.toNat_natCast, List.take_length]
theorem slice_far {x : Str} {i : Nat} (h : x.length <= i) : (Txt.slice x (some (i : Int)) none).cps.toList = [] := by
 have e : Txt.slice x (some (i : Int)) none = Txt.slice x (some (x.length : Int)) none := by
  show StrLaws.sliceText x (some (i : Int)) none = StrLaws.sliceText x (some (x.length : Int)) none
  unfold StrLaws.sliceText
  have : Builtin.Str.strSliceIndices (some (i : Int)) none 1 x.length = Builtin.Str.strSliceIndices (some (x.length : Int)) none 1 x.length := by
   have a : ¬ ((i : Int) < 0) := by omega
   have b : ¬ ((x.length : Int) < 0) := by omega
   have c : min (i : Int) (x.length : Int) = (x.length : Int) := by omega
   simp only [Builtin.Str.strSliceIndices, a, b, c, if_false, Int.min_self, show (1 : Int) > 0 by decide, if_true]
  rw [this]
 rw [e, slice_from (Nat.le_refl _), <- cps_len, List.drop_length]
theorem slice_from' (x : Str) (i : Nat) : (Txt.slice x (some (i : Int)) none).cps.toList = x.cps.toList.drop i := by
 rcases Nat.le_total i x.length with h | h
 ·exact slice_from h
 ·rw [slice_far h, List.drop_eq_nil_of_le (by rw [cps_len]; exact h)]
theorem Tx.to {n : Nat} {x : Str} (h : Tx n x) {i : Nat} (hi : i <= x.length) : Asc (Txt.slice x none (some (i : Int))) /\ (Txt.slice x none (some (i : Int))).length = i := by
 refine ⟨fun c hc => ?_, ?_⟩
 ·rw [slice_to hi] at hc
  exact h.2 c (List.mem_of_mem_take hc)
 ·rw [<- cps_len, slice_to hi, List.length_take, cps_len]
  omega
theorem Tx.from {n : Nat} {x : Str} (h : Tx n x) (i : Nat) : Asc (Txt.slice x (some (i : Int)) none) /\ (Txt.slice x (some (i : Int)) none).length = x.length - i := by
 refine ⟨fun c hc => ?_, ?_⟩
 ·rw [slice_from' x i] at hc
  exact h.2 c (List.mem_of_mem_drop hc)
 ·rw [<- cps_len, slice_from' x i, List.length_drop, cps_len]
noncomputable abbrev dash : Str := Str.ofString "-"
noncomputable def figsOf (x : Str) : Str := if Txt.startswith x dash = true then Txt.slice x (some 1) none else x
noncomputable def isFig (c : Nat) : Bool := decide (48 <= c /\ c <= 57)
noncomputable def okF (x : Str) : Bool := decide (1 <= (figsOf x).length /\ (figsOf x).length <= 7) && (figsOf x).cps.toList.all isFig
noncomputable def valI (x : Str) : Int := (PySem.intText? x).getD 0
noncomputable def isN (x : Str) : Bool := okF x && decide (num (valI x) = x)
theorem fig_all : ∀ c : Nat, c < 128 -> (!(Builtin.Str.occurrences figs ⟨#[c]⟩ 0 figs.length 1).isEmpty) = isFig c := by decide +kernel
theorem dash_cps : dash.cps.toList = [45] := by
 rw [signs_ofString]
 rfl
theorem zero_cps : (Str.ofString "0").cps.toList = [48] := by
 rw [signs_ofString]
 rfl
theorem figs_cases (x : Str) : (∃ f, x.cps.toList = 45 :: f /\ Txt.startswith x dash = true /\ (figsOf x).cps.toList = f) \/ (Txt.startswith x dash = false /\ figsOf x = x /\ x.cps.toList.head? ≠ some 45) := by
 cases h : x.cps.toList with
 | nil =>
  have l : x.length = 0 := by rw [<- cps_len, h]; rfl
  have l1 : dash.length = 1 := by rw [<- cps_len, dash_cps]; rfl
  have e : Txt.startswith x dash = false := by
   unfold Txt.startswith
   rw [l, l1]
   rfl
  refine .inr ⟨e, ?_, by simp⟩
  unfold figsOf
  rw [if_neg (by rw [e]; decide)]
 | cons c r =>
  have e := starts_minus h
  by_cases hc : c = 45
  ·subst hc
   have e : Txt.startswith x dash = true := e
   refine .inl ⟨r, rfl, e, ?_⟩
   unfold figsOf
   rw [if_pos e]
   exact slice_one h
  ·have e : Txt.startswith x dash = false := by
    rw [e]
    cases hb : c == 45 with
    | false => rfl
    | true => exact absurd (eq_of_beq hb) hc
   refine .inr ⟨e, ?_, fun z => hc (Option.some.inj z)⟩
   unfold figsOf
   rw [if_neg (by rw [e]; decide)]
theorem figs_tx {n : Nat} {x : Str} (h : Tx n x) : Tx n (figsOf x) := by
 rcases figs_cases x with ⟨f, e, _, ef⟩ | ⟨_, ef, _⟩
 ·refine ⟨?_, fun c hc => ?_⟩
  ·rw [<- cps_len, ef]
   have a := h.1
   rw [<- cps_len, e, List.length_cons] at a
   omega
  ·rw [ef] at hc
   exact h.2 c (by rw [e]; exact List.mem_cons_of_mem _ hc)
 ·rw [ef]
  exact h
theorem okF_reads {x : Str} (h : okF x = true) : PySem.intText? x = some (valI x) /\ (valI x).natAbs < 10 ^ 7 /\ 1 <= x.length /\ x.length <= 8 /\
  (num (valI x) = x ↔ ¬ ((figsOf x).cps.toList.head? = some 48 /\ x ≠ Str.ofString "0")) := by
 unfold okF at h
 rw [Bool.and_eq_true, List.all_eq_true] at h
 obtain ⟨h1, h3⟩ := h
 obtain ⟨h1, h2⟩ := of_decide_eq_true h1
 have hd : AllDigits (figsOf x).cps.toList := fun c hc => of_decide_eq_true (h3 c hc)
 rcases figs_cases x with ⟨f, e, es, ef⟩ | ⟨es, ef, eh⟩
 ·have hl : f.length = (figsOf x).length := by rw [<- cps_len, ef]
  rw [ef] at hd ⊢
  have f0 : f ≠ [] := fun z => by
   rw [z, List.length_nil] at hl
   omega
  have xl : x.length = f.length + 1 := by
   rw [<- cps_len, e]
   rfl
  have r := intText_neg e hd f0 (by omega)
  have v : valI x = -((digitsVal f : Nat) : Int) := by
   unfold valI
   rw [r]
   rfl
  have lt := dval_lt f.length f rfl hd
  have lt7 : 10 ^ f.length <= 10 ^ 7 := Nat.pow_le_pow_right (by decide) (by omega)
  refine ⟨by rw [v]; exact r, by rw [v]; omega, by omega, by omega, ?_⟩
  have nz : x ≠ Str.ofString "0" := fun z => by
   rw [z, zero_cps] at e
   injection e with e _
   exact absurd e (by decide)
  rw [v]
  constructor
  ·rintro en ⟨hh, _⟩
   rcases num_cps (-((digitsVal f : Nat) : Int)) with ⟨_, c⟩ | ⟨hn, c⟩
   ·rw [en, e] at c
    have := dsig_digits _ 45 (by rw [<- c]; exact List.mem_cons_self)
    omega
   ·rw [en, e] at c
    injection c with _ c
    exact dsig_head _ _ (Nat.le_refl _) (by omega) (c ▸ hh)
  ·intro hn
   have hh : f.head? ≠ some 48 := fun z => hn ⟨z, nz⟩
   obtain ⟨a, b⟩ := dsig_val _ f rfl hd f0 hh
   refine str_ext ?_
   rcases num_cps (-((digitsVal f : Nat) : Int)) with ⟨h0, c⟩ | ⟨_, c⟩
   ·omega
   ·rw [c, e, show (-((digitsVal f : Nat) : Int)).natAbs = digitsVal f by omega, a]
 ·rw [ef] at hd h1 h2 ⊢
  have f0 : x.cps.toList ≠ [] := fun z => by
   have := cps_len x
   rw [z, List.length_nil] at this
   omega
  have r := intText_digits hd f0 (by omega)
  have v : valI x = ((digitsVal x.cps.toList : Nat) : Int) := by
   unfold valI
   rw [r]
   rfl
  have lt := dval_lt x.cps.toList.length x.cps.toList rfl hd
  have lt7 : 10 ^ x.cps.toList.length <= 10 ^ 7 := Nat.pow_le_pow_right (by decide) (by rw [cps_len]; omega)
  refine ⟨by rw [v]; exact r, by rw [v]; omega, h1, by omega, ?_⟩
  rw [v]
  constructor
  ·rintro en ⟨hh, hz⟩
   have c := num_nat (digitsVal x.cps.toList)
   rw [en] at c
   rcases Nat.eq_zero_or_pos (digitsVal x.cps.toList) with z | z
   ·rw [z] at c
    refine hz (str_ext ?_)
    rw [zero_cps, c]
    exact dsig_one (by decide)
   ·exact dsig_head _ _ (Nat.le_refl _) z (c ▸ hh)
  ·intro hn
   refine str_ext ?_
   rw [num_nat]
   by_cases hz : x = Str.ofString "0"
   ·rw [hz, zero_cps]
    exact dsig_one (by decide)
   ·exact (dsig_val _ _ rfl hd f0 fun z => hn ⟨z, hz⟩).1
theorem isN_okF {x : Str} (h : isN x = true) : okF x = true := by
 unfold isN at h
 rw [Bool.and_eq_true] at h
 exact h.1
noncomputable def isC (x : Str) : Bool := decide ((Txt.split x comma).length = 2) && (Txt.split x comma).all isN
noncomputable def cornerM (x : Str) : Pt := (valI ((Txt.split x comma).getD 0 Str.empty), valI ((Txt.split x comma).getD 1 Str.empty))
theorem isC_two {x : Str} (h : isC x = true) : ∃ a b, Txt.split x comma = [a, b] /\ isN a = true /\ isN b = true /\ cornerM x = (valI a, valI b) /\ 3 <= x.length := by
 unfold isC at h
 rw [Bool.and_eq_true, List.all_eq_true] at h
 obtain ⟨h1, h2⟩ := h
 obtain ⟨a, b, e⟩ := RS.two_of (of_decide_eq_true h1)
 have ha := h2 a (by rw [e]; exact List.mem_cons_self)
 have hb := h2 b (by rw [e]; exact List.mem_cons_of_mem _ List.mem_cons_self)
 refine ⟨a, b, e, ha, hb, by unfold cornerM; rw [e]; rfl, ?_⟩
 have s := split_sum x 44
 rw [<- comma_is, e] at s
 have a1 := (okF_reads (isN_okF ha)).2.2.1
 have b1 := (okF_reads (isN_okF hb)).2.2.1
 simp only [List.map_cons, List.map_nil, List.sum_cons, List.sum_nil, List.length_cons, List.length_nil] at s
 omega
theorem corner_sm {x : Str} (h : isC x = true) : Sm (cornerM x) := by
 obtain ⟨a, b, _, ha, hb, e, _⟩ := isC_two h
 rw [e]
 exact ⟨(okF_reads (isN_okF ha)).2.1, (okF_reads (isN_okF hb)).2.1⟩
noncomputable def wordsM (x : Str) : List Str := Txt.split x blank1
noncomputable def readM (x : Str) : Option (List Pt) := if ((wordsM x).all isC && isShape ((wordsM x).map cornerM)) = true then some ((wordsM x).map cornerM) else none
theorem words_few : ∀ {ws : List Str}, ws.all isC = true -> 3 * ws.length <= (ws.map (·.length)).sum
 | [], _ => Nat.le_refl _
 | w :: r, h => by
  rw [List.all_cons, Bool.and_eq_true] at h
  obtain ⟨_, _, _, _, _, _, l⟩ := isC_two h.1
  have ih := words_few h.2
  rw [List.map_cons, List.sum_cons, List.length_cons]
  omega
theorem words_len {n : Nat} {x : Str} (h : Tx n x) (k : (wordsM x).all isC = true) : 4 * (wordsM x).length <= n + 1 := by
 have a := words_few k
 have b := split_sum x 32
 rw [<- blank_is] at b
 have b : ((wordsM x).map (·.length)).sum + (wordsM x).length = x.length + 1 := b
 have c := h.1
 omega
theorem words_any {n : Nat} {x : Str} (h : Tx n x) : (wordsM x).length <= n + 1 := by
 have b := split_sum x 32
 rw [<- blank_is] at b
 have b : ((wordsM x).map (·.length)).sum + (wordsM x).length = x.length + 1 := b
 have c := h.1
 omega
theorem words_tx {n : Nat} {x : Str} (h : Tx n x) : ∀ w ∈ wordsM x, Tx n w := by
 unfold wordsM
 rw [blank_is]
 exact split_tx h
theorem words_ne (x : Str) : wordsM x ≠ [] := by
 unfold wordsM
 rw [blank_is]
 exact split_ne x 32
theorem parts_tx {n : Nat} {x : Str} (h : Tx n x) : ∀ w ∈ Txt.split x comma, Tx n w := by
 rw [comma_is]
 exact split_tx h
theorem parts_few {n : Nat} {x : Str} (h : Tx n x) : (Txt.split x comma).length <= n + 1 := by
 have b := split_sum x 44
 rw [<- comma_is] at b
 have c := h.1
 omega
theorem read_no {x : Str} (h : (wordsM x).all isC = false) : readM x = none := by
 unfold readM
 rw [h]
 rfl
theorem read_yes {x : Str} (h : (wordsM x).all isC = true) : readM x = if isShape ((wordsM x).map cornerM) = true then some ((wordsM x).map cornerM) else none := by
 unfold readM
 rw [h, Bool.true_and]
theorem words_back {n : Nat} {x : Str} {ws : List Str} (h : Tx n x) (hs : (ws.map (·.length)).sum = ((wordsM x).map (·.length)).sum) (hl : ws.length = (wordsM x).length) (hm : ∀ w ∈ ws, w ∈ wordsM x) : Tx n (Txt.join blank1 ws) := by
 have b1 : blank1.length = 1 := by
  rw [blank_is]
  rfl
 have e : Txt.join blank1 ws = Str.join blank1 ws := StrLaws.glued_eq_join _ _
 have p := List.length_pos_iff.mpr (words_ne x)
 refine ⟨?_, Asc.join (by rw [blank_is]; exact Asc.one (by decide)) fun w hw => (words_tx h w (hm w hw)).2⟩
 have j := join_len b1 (ws := ws) (fun z => by rw [z, List.length_nil] at hl; omega)
 have b := split_sum x 32
 rw [<- blank_is] at b
 have b : ((wordsM x).map (·.length)).sum + (wordsM x).length = x.length + 1 := b
 have c := h.1
 rw [e]
 omega
theorem sum_set : ∀ {ws : List Str} {i : Nat} {a : Str} (b : Str), ws[i]? = some a -> ((ws.set i b).map (·.length)).sum + a.length = (ws.map (·.length)).sum + b.length
 | u :: r, 0, a, b, h => by
  cases h
  rw [List.set_cons_zero, List.map_cons, List.map_cons, List.sum_cons, List.sum_cons]
  omega
 | u :: r, i + 1, a, b, h => by
  have ih := sum_set (ws := r) b (show r[i]? = some a from h)
  rw [List.set_cons_succ, List.map_cons, List.map_cons, List.sum_cons, List.sum_cons]
  omega
theorem swap_sum {ws : List Str} {i j : Nat} {a b : Str} (ha : ws[i]? = some a) (hb : ws[j]? = some b) : (((ws.set i b).set j a).map (·.length)).sum = (ws.map (·.length)).sum := by
 have s1 := sum_set b ha
 have hb' : (ws.set i b)[j]? = some b := by
  have li := (List.getElem?_eq_some_iff.mp ha).1
  rw [List.getElem?_set]
  by_cases e : i = j
  ·subst e
   rw [if_pos rfl, if_pos li]
  ·rw [if_neg e]
   exact hb
 have s2 := sum_set a hb'
 omega
theorem rot_sum (ws : List Str) (i : Nat) : ((ws.drop i ++ ws.take i).map (·.length)).sum = (ws.map (·.length)).sum := by
 have e : ws.map (·.length) = (ws.take i).map (·.length) ++ (ws.drop i).map (·.length) := by rw [<- List.map_append, List.take_append_drop]
 rw [e, List.map_append, List.sum_append, List.sum_append, Nat.add_comm]
end L2
namespace K1
open PySem L2
open RS (Pt arrow cross fstHalf before)
noncomputable def top (i : Nat) : Stmt := PySem.Challenge.pw_roundsum_k18_texts_refused.main.body.getD i (.Pass ⟨0, 0, 0, 0⟩)
noncomputable abbrev sArrowFrom : Stmt := top 8
noncomputable abbrev sTurn : Stmt := top 9
noncomputable abbrev sFirst : Stmt := top 10
noncomputable abbrev sBefore : Stmt := top 11
noncomputable def Bd (n : Int) (p : Pt) : Prop := -n <= p.1 /\ p.1 <= n /\ -n <= p.2 /\ p.2 <= n
inductive spPt2 (f : Pt -> Pt -> Pt) (vs : List V) (H : Hp) (Q : VK) (u3 : XK) : Prop
 | mk (a : _) (b : _) (p : _) (q : _) (c0 : vs = [.ref a, .ref b]) (c1 : Tp H a p) (c2 : Tp H b q) (c3 : ∀ r H', Same H H' -> Tp H' r (f p q) -> Q (.ref r) H') : spPt2 f vs H Q u3
inductive spInt2 (n : Int) (f : Pt -> Pt -> Int) (vs : List V) (H : Hp) (Q : VK) (u3 : XK) : Prop
 | mk (a : _) (b : _) (p : _) (q : _) (c0 : vs = [.ref a, .ref b]) (c1 : Tp H a p) (c2 : Tp H b q) (c3 : Bd n p) (c4 : Q (.int (f p q)) H) : spInt2 n f vs H Q u3
inductive spBl1 (f : Pt -> Bool) (vs : List V) (H : Hp) (Q : VK) (u3 : XK) : Prop
 | mk (a : _) (p : _) (c0 : vs = [.ref a]) (c1 : Tp H a p) (c2 : Q (.bl (f p)) H) : spBl1 f vs H Q u3
inductive spBl2 (n : Int) (f : Pt -> Pt -> Bool) (vs : List V) (H : Hp) (Q : VK) (u3 : XK) : Prop
 | mk (a : _) (b : _) (p : _) (q : _) (c0 : vs = [.ref a, .ref b]) (c1 : Tp H a p) (c2 : Tp H b q) (c3 : Bd n p) (c4 : Q (.bl (f p q)) H) : spBl2 n f vs H Q u3
section
variable {P : Program} {w : World} {K : PySem.W.Frag} {mg : Str -> Option Value} {base : Heap}
theorem scAF : FnScope ["start", "end"] ["start", "end"] (defScope sArrowFrom) := ⟨rfl, rfl, rfl, by decide +kernel, rfl, by decide +kernel, by decide +kernel⟩
theorem ok_arrow_from {f : Addr} {fd : FuncData} (F : Fun K "arrow_from" "arrow_from" sArrowFrom f fd) : FnOk P w K mg base CX0 1 f fd ["start", "end"] (spPt2 arrow) := by
 refine F.ok scAF (fun vs H Q E h => ?_) (fun cdv A outer s H vs Q E hr h => ?_)
 ·obtain ⟨a, b, p, q, rfl, _⟩ := h
  rfl
 ·obtain ⟨a, b, p, q, rfl, ha, hb, k⟩ := h
  refine ⟨_, pss_one (ps_ret (pe_tup (pa_cons (pe_op op_sub (pe_ix ix_tup (pv 1) pe_int (fun _ _ => rfl)) (pe_ix ix_tup (pv 0) pe_int (fun _ _ => rfl)))
   (pa_cons (pe_op op_sub (pe_ix ix_tup (pv 1) pe_int (fun _ _ => rfl)) (pe_ix ix_tup (pv 0) pe_int (fun _ _ => rfl))) pa_nil)))), ?_⟩
  refine ⟨_, rfl, b, _, _, _, rfl, rfl, SqT.of hb, rfl, ?_⟩
  refine ⟨_, rfl, a, _, _, _, rfl, rfl, SqT.of ha, rfl, _, _, rfl, rfl, ?_⟩
  refine ⟨_, rfl, b, _, _, _, rfl, rfl, SqT.of hb, rfl, ?_⟩
  refine ⟨_, rfl, a, _, _, _, rfl, rfl, SqT.of ha, rfl, _, _, rfl, rfl, ?_⟩
  exact ⟨by show 2 <= sizeLine; decide, fun r hn => k r _ (same_upd hn) upd_same⟩
theorem scTu : FnScope ["one", "other"] ["one", "other"] (defScope sTurn) := ⟨rfl, rfl, rfl, by decide +kernel, rfl, by decide +kernel, by decide +kernel⟩
theorem ok_turn {f : Addr} {fd : FuncData} (F : Fun K "turn" "turn" sTurn f fd) : FnOk P w K mg base CX0 1 f fd ["one", "other"] (spInt2 (2 ^ 62) cross) := by
 refine F.ok scTu (fun vs H Q E h => ?_) (fun cdv A outer s H vs Q E hr h => ?_)
 ·obtain ⟨a, b, p, q, rfl, _⟩ := h
  rfl
 ·obtain ⟨a, b, p, q, rfl, ha, hb, ⟨b1, b2, b3, b4⟩, k⟩ := h
  refine ⟨_, pss_one (ps_ret (pe_op op_sub (pe_op op_mul (pe_ix ix_tup (pv 0) pe_int (fun _ _ => rfl)) (pe_ix ix_tup (pv 1) pe_int (fun _ _ => rfl)))
   (pe_op op_mul (pe_ix ix_tup (pv 0) pe_int (fun _ _ => rfl)) (pe_ix ix_tup (pv 1) pe_int (fun _ _ => rfl))))), ?_⟩
  refine ⟨_, rfl, a, _, _, _, rfl, rfl, SqT.of ha, rfl, ?_⟩
  refine ⟨_, rfl, b, _, _, _, rfl, rfl, SqT.of hb, rfl, _, _, rfl, rfl, .inl ⟨by lia, by lia⟩, ?_⟩
  refine ⟨_, rfl, a, _, _, _, rfl, rfl, SqT.of ha, rfl, ?_⟩
  refine ⟨_, rfl, b, _, _, _, rfl, rfl, SqT.of hb, rfl, _, _, rfl, rfl, .inl ⟨by lia, by lia⟩, ?_⟩
  exact ⟨_, _, rfl, rfl, k⟩
theorem scFH : FnScope ["arrow"] ["arrow"] (defScope sFirst) := ⟨rfl, rfl, rfl, by decide +kernel, rfl, by decide +kernel, by decide +kernel⟩
theorem ok_first {f : Addr} {fd : FuncData} (F : Fun K "in_first_half" "in_first_half" sFirst f fd) : FnOk P w K mg base CX0 1 f fd ["arrow"] (spBl1 fstHalf) := by
 refine F.ok scFH (fun vs H Q E h => ?_) (fun cdv A outer s H vs Q E hr h => ?_)
 ·obtain ⟨a, p, rfl, _⟩ := h
  rfl
 ·obtain ⟨a, p, rfl, ha, k⟩ := h
  refine ⟨_, pss_one (ps_ret (pe_or (pe_cmpR op_gt (pe_ix ix_tup (pv 0) pe_int (fun _ _ => rfl)) pe_int (nomark _))
   (pe_one (pe_and (pe_cmpR op_eq (pe_ix ix_tup (pv 0) pe_int (fun _ _ => rfl)) pe_int (nomark _)) (pe_one (pe_cmpR op_gt (pe_ix ix_tup (pv 0) pe_int (fun _ _ => rfl)) pe_int (nomark _))))))), ?_⟩
  refine ⟨_, rfl, a, _, _, _, rfl, rfl, SqT.of ha, rfl, _, _, rfl, rfl, _, rfl, ?_⟩
  unfold fstHalf at k
  refine ite2 (fun h1 => ?_) (fun h1 => ?_)
  ·rw [h1] at k
   exact k
  ·rw [Bool.eq_false_iff.mpr h1, Bool.false_or] at k
   refine ⟨_, rfl, a, _, _, _, rfl, rfl, SqT.of ha, rfl, rfl, _, rfl, ?_⟩
   refine ite2 (fun h2 => ?_) (fun h2 => ?_)
   ·refine ⟨_, rfl, a, _, _, _, rfl, rfl, SqT.of ha, rfl, _, _, rfl, rfl, ?_⟩
    have e2 : decide (p.2 = 0) = true := by simpa using h2
    rw [e2, Bool.true_and] at k
    exact k
   ·have e2 : decide (p.2 = 0) = false := by simpa using h2
    rw [e2, Bool.false_and] at k
    exact k
theorem scGB : FnScope ["one", "other"] ["one", "other"] (defScope sBefore) := ⟨rfl, rfl, rfl, by decide +kernel, rfl, by decide +kernel, by decide +kernel⟩
theorem ok_before {f f1 f2 : Addr} {fd fd1 fd2 : FuncData} (F : Fun K "goes_before" "goes_before" sBefore f fd) (F1 : Fun K "in_first_half" "in_first_half" sFirst f1 fd1) (b1 : Binds K fd1 ["arrow"] []) (m1 : mg "in_first_half" = some (.ref f1))
  (F2 : Fun K "turn" "turn" sTurn f2 fd2) (b2 : Binds K fd2 ["one", "other"] []) (m2 : mg "turn" = some (.ref f2)) : FnOk P w K mg base CX0 2 f fd ["one", "other"] (spBl2 (2 ^ 62) before) := by
 have G1 : FnOk P w K mg base CX0 1 f1 fd1 ["arrow"] (spBl1 fstHalf) := ok_first F1
 have G2 : FnOk P w K mg base CX0 1 f2 fd2 ["one", "other"] (spInt2 (2 ^ 62) cross) := ok_turn F2
 refine F.ok scGB (fun vs H Q E h => ?_) (fun cdv A outer s H vs Q E hr h => ?_)
 ·obtain ⟨a, b, p, q, rfl, _⟩ := h
  rfl
 ·obtain ⟨a, b, p, q, rfl, ha, hb, hB, k⟩ := h
  refine ⟨_, pss_cons (ps_if (pt_cmpR op_ne (pe_call G1 hr rfl m1 F1.kp b1 .nil pass0 (pa_cons (pv 0) pa_nil)) (pe_call G1 hr rfl m1 F1.kp b1 .nil pass0 (pa_cons (pv 1) pa_nil)) (nomark _))
   (pss_one (ps_ret (pe_call G1 hr rfl m1 F1.kp b1 .nil pass0 (pa_cons (pv 0) pa_nil)))) pss_nil)
   (pss_one (ps_ret (pe_cmpR op_gt (pe_call G2 hr rfl m2 F2.kp b2 .nil pass0 (pa_cons (pv 0) (pa_cons (pv 1) pa_nil))) pe_int (nomark _)))), ?_⟩
  refine ⟨_, rfl, a, p, rfl, ha, _, rfl, b, q, rfl, hb, rfl, _, rfl, ?_⟩
  unfold before at k
  refine ite2 (fun h1 => ?_) (fun h1 => ?_)
  ·have e : (fstHalf p != fstHalf q) = true := by
    have : ¬ (V.bl (fstHalf p) = V.bl (fstHalf q)) := by simpa using h1
    simpa using this
   rw [if_pos e] at k
   exact ⟨_, rfl, a, p, rfl, ha, k⟩
  ·have e : ¬ (fstHalf p != fstHalf q) = true := by
    have : V.bl (fstHalf p) = V.bl (fstHalf q) := by simpa using h1
    injection this with this
    rw [this]
    simp
   rw [if_neg e] at k
   exact ⟨_, rfl, _, rfl, a, b, p, q, rfl, ha, hb, hB, _, _, rfl, rfl, k⟩
end
end K1
namespace K1
open PySem L2
open RS (Pt arrow cross fstHalf before round isShape)
noncomputable abbrev sRound : Stmt := top 13
noncomputable abbrev sIsShape : Stmt := top 14
inductive spPts1 (n : Int) (f : List Pt -> List Pt) (vs : List V) (H : Hp) (Q : VK) (u3 : XK) : Prop
 | mk (l : _) (ps : _) (c0 : vs = [.ref l]) (c1 : Pts H l ps) (c2 : ps.length <= 100) (c3 : (∀ p ∈ ps, Bd n p)) (c4 : ∀ r H', Same H H' -> H r = none -> Pts H' r (f ps) -> Q (.ref r) H') : spPts1 n f vs H Q u3
inductive spPtsBl (n : Int) (f : List Pt -> Bool) (vs : List V) (H : Hp) (Q : VK) (u3 : XK) : Prop
 | mk (l : _) (ps : _) (c0 : vs = [.ref l]) (c1 : Pts H l ps) (c2 : ps.length <= 100) (c3 : (∀ p ∈ ps, Bd n p)) (c4 : ∀ H', Same H H' -> Q (.bl (f ps)) H') : spPtsBl n f vs H Q u3
theorem nodup2 : ((["start", "end"] : List Str) ++ ([] : List (Str × Nat)).map (·.1)).Nodup := by decide +kernel
theorem size100 {n : Nat} (h : n <= 1000) : n < sizeLine := small1000 h
theorem rotLen {as : List Addr} : (as.drop 1 ++ as.take 1).length = as.length := by cases as <;> simp
section
variable {P : Program} {w : World} {K : PySem.W.Frag} {mg : Str -> Option Value} {base : Heap}
theorem scR : FnScope ["corners"] ["corners"] (defScope sRound) := ⟨rfl, rfl, rfl, by decide +kernel, rfl, by decide +kernel, by decide +kernel⟩
theorem ok_round {f f1 : Addr} {fd fd1 : FuncData} (F : Fun K "arrows_round" "arrows_round" sRound f fd) (F1 : Fun K "arrow_from" "arrow_from" sArrowFrom f1 fd1) (b1 : Binds K fd1 ["start", "end"] []) (m1 : mg "arrow_from" = some (.ref f1)) (mz : mg "zip" = none) :
  FnOk P w K mg base CX0 2 f fd ["corners"] (spPts1 (2 ^ 60) round) := by
 have G1 : FnOk P w K mg base CX0 1 f1 fd1 ["start", "end"] (spPt2 arrow) := ok_arrow_from F1
 refine F.ok scR (fun vs H Q E h => ?_) (fun cdv A outer s H vs Q E hr h => ?_)
 ·obtain ⟨l, ps, rfl, _⟩ := h
  rfl
 ·obtain ⟨l, ps, rfl, hl, hn, hB, k⟩ := h
  refine ⟨_, pss_one (ps_ret (pe_lc (tn := ["start", "end"]) (cs := []) (g := gTup K 2 (gCons (gName 0) (gCons (gName 1) gNil))) (tt := tYes) (te := tCall (spPt2 arrow) [] E0 (tCons (tVar 0) (tCons (tVar 1) tNil))) (Caps.none (by decide +kernel) rfl (by decide +kernel)) rfl
   (pi_zip rfl mz (pa_cons (pv 0) (pa_cons (pe_op op_cat (pe_slice sl_list (pv 0) (po_some pe_int) po_none) (pe_slice sl_list (pv 0) po_none (po_some pe_int))) pa_nil)))
   (fun C s₀ H₀ fp xe => pg_tup rfl (pgs_cons (pg_name (i := 0) nodup2 rfl (Or.inl rfl) (.inr rfl)) (pgs_cons (pg_name (i := 1) nodup2 rfl (Or.inl rfl) (.inr rfl)) pgs_nil)))
   (fun C s₀ H₀ fp xe => pts_nil)
   (fun C s₀ H₀ fp xe => pe_call G1 hr rfl m1 F1.kp b1 .nil pass0 (pa_cons (pv 0) (pa_cons (pv 1) pa_nil))))), ?_⟩
  obtain ⟨as, h1, h2⟩ := hl
  have hlen : as.length = ps.length := Paired.length h2
  refine ⟨_, rfl, _, rfl, ?_⟩
  refine ⟨_, rfl, l, _, rfl, SqL.of h1, fun d1 n1 => ?_⟩
  rw [cut_from1]
  have s1 : Same H (upd H d1 (.lst ((as.map V.ref).drop 1))) := same_upd n1
  refine ⟨_, rfl, _, rfl, l, _, rfl, SqL.of (s1 _ _ h1), fun d2 n2 => ?_⟩
  rw [cut_to1]
  have s2 := s1.trans (same_upd (o := .lst ((as.map V.ref).take 1)) n2)
  have e1 : upd (upd H d1 (.lst ((as.map V.ref).drop 1))) d2 (.lst ((as.map V.ref).take 1)) d1 = some (.lst ((as.map V.ref).drop 1)) := by rw [upd_ne (ne_of_none upd_same n2), upd_same]
  refine ⟨d1, d2, _, _, rfl, rfl, e1, upd_same, ?_, fun d3 n3 => ?_⟩
  ·rw [List.length_drop, List.length_take, List.length_map]
   exact Nat.le_of_lt (size100 (by lia))
  have s3 := s2.trans (same_upd (o := .lst ((as.map V.ref).drop 1 ++ (as.map V.ref).take 1)) n3)
  have ecat : (as.map V.ref).drop 1 ++ (as.map V.ref).take 1 = (as.drop 1 ++ as.take 1).map V.ref := by rw [List.map_append, List.map_drop, List.map_take]
  rw [ecat] at s3 ⊢
  generalize hHs : upd (upd (upd H d1 (.lst ((as.map V.ref).drop 1))) d2 (.lst ((as.map V.ref).take 1))) d3 (.lst ((as.drop 1 ++ as.take 1).map V.ref)) = Hs at s3 ⊢
  have h3 : Hs d3 = some (.lst ((as.drop 1 ++ as.take 1).map V.ref)) := by rw [<- hHs, upd_same]
  have ar : Ats Hs (as.drop 1 ++ as.take 1) (ps.drop 1 ++ ps.take 1) := Ats.same s3 (Ats.app (Ats.drop 1 h2) (Ats.take 1 h2))
  have al : Ats Hs as ps := Ats.same s3 h2
  refine ⟨l, d3, rfl, ⟨_, SqL.of (s3 _ _ h1)⟩, ⟨_, SqL.of h3⟩, fun D nD => ?_⟩
  refine lc_zip (K := K) (a := l) (b := d3) (D := D) (xs := as.map V.ref) (ys := (as.drop 1 ++ as.take 1).map V.ref) (fun i σ H' => (∃ u v, σ = [u, v]) /\ Same Hs H' /\ Pts H' D ((round ps).take i)) ⟨⟨none, none, rfl⟩, same_upd nD, [], upd_same, .nil⟩
   (fun i σ H' ⟨_, sm, _⟩ => ⟨SqL.of (sm _ _ (s3 _ _ h1)), SqL.of (sm _ _ h3)⟩) ?_ ?_
  ·rintro i x y σ H' t ex ey ht ⟨⟨u, v, rfl⟩, sm, pt⟩
   obtain ⟨a, ea, rfl⟩ := map_ref ex
   obtain ⟨b, eb, rfl⟩ := map_ref ey
   obtain ⟨p, ep, tp⟩ := paired_get al i a ea
   obtain ⟨q, eq, tq⟩ := paired_get ar i b eb
   have st := sm.trans (same_upd (o := .tup [.ref a, .ref b]) ht)
   refine ⟨t, _, rfl, SqT.of upd_same, rfl, _, _, rfl, _, _, rfl, rfl, ?_⟩
   refine yes_go ?_
   refine ⟨_, rfl, _, rfl, a, b, p, q, rfl, st _ _ tp, st _ _ tq, fun r H4 s4 tr => ?_⟩
   have er : (round ps)[i]? = some (arrow p q) := by
    unfold round
    rw [List.getElem?_zipWith, ep, eq]
   have hi : i < ps.length := (List.getElem?_eq_some_iff.mp ep).1
   have pt4 : Pts H4 D ((round ps).take i) := Pts.same s4 (Pts.same (same_upd ht) pt)
   obtain ⟨ys, y1, y2, y3, y4⟩ := pts_push nD (st.trans s4) pt4 tr (by rw [List.length_take, RS.round_length]; exact size100 (by lia))
   exact ⟨ys, y1, y2, ⟨_, _, rfl⟩, y3, by rw [take_next er]; exact y4⟩
  ·rintro i σ H' hi hi1 hi2 ⟨_, sm, pt⟩
   have ei : i = ps.length := by
    rw [List.length_map] at hi hi1
    rw [List.length_map, rotLen] at hi hi2
    lia
   rw [ei, List.take_of_length_le (by rw [RS.round_length]; exact Nat.le_refl _)] at pt
   exact k D H' (s3.trans sm) (s3.free nD) pt
end
end K1
namespace K1
open PySem L2
open RS (Pt arrow cross fstHalf before round isShape)
theorem bd_arrow {p q : Pt} (hp : Bd (2 ^ 60) p) (hq : Bd (2 ^ 60) q) : Bd (2 ^ 62) (arrow p q) := by
 obtain ⟨a1, a2, a3, a4⟩ := hp
 obtain ⟨b1, b2, b3, b4⟩ := hq
 unfold arrow
 refine ⟨?_, ?_, ?_, ?_⟩ <;> dsimp only <;> lia
theorem bd_round {ps : List Pt} (h : ∀ p ∈ ps, Bd (2 ^ 60) p) : ∀ a ∈ round ps, Bd (2 ^ 62) a := fun a ha => by
 unfold round at ha
 obtain ⟨i, hi, e⟩ := List.getElem_of_mem ha
 rw [List.getElem_zipWith] at e
 rw [<- e]
 refine bd_arrow (h _ (List.getElem_mem _)) (h _ ?_)
 have hm : (ps.drop 1 ++ ps.take 1)[i]'(by rw [List.length_zipWith] at hi; lia) ∈ ps.drop 1 ++ ps.take 1 := List.getElem_mem _
 rcases List.mem_append.mp hm with z | z
 ·exact List.mem_of_mem_drop z
 ·exact List.mem_of_mem_take z
theorem nodupAL : ((["arrow", "later"] : List Str) ++ ([] : List (Str × Nat)).map (·.1)).Nodup := by decide +kernel
section
variable {P : Program} {w : World} {K : PySem.W.Frag} {mg : Str -> Option Value} {base : Heap}
theorem scIS : FnScope ["corners", "arrows"] ["corners"] (defScope sIsShape) := ⟨rfl, rfl, rfl, by decide +kernel, rfl, by decide +kernel, by decide +kernel⟩
theorem ok_is_shape {f f1 f2 : Addr} {fd fd1 fd2 : FuncData} (F : Fun K "is_shape" "is_shape" sIsShape f fd)
  (G1 : FnOk P w K mg base CX0 2 f1 fd1 ["corners"] (spPts1 (2 ^ 60) round)) (k1 : PySem.W.keepIn K (.ref f1) = true) (b1 : Binds K fd1 ["corners"] []) (m1 : mg "arrows_round" = some (.ref f1))
  (G2 : FnOk P w K mg base CX0 2 f2 fd2 ["one", "other"] (spBl2 (2 ^ 62) before)) (k2 : PySem.W.keepIn K (.ref f2) = true) (b2 : Binds K fd2 ["one", "other"] []) (m2 : mg "goes_before" = some (.ref f2))
  (mz : mg "zip" = none) (ml : mg "len" = none) (ma : mg "all" = none) : FnOk P w K mg base CX0 3 f fd ["corners"] (spPtsBl (2 ^ 60) isShape) := by
 refine F.ok scIS (fun vs H Q E h => ?_) (fun cdv A outer s H vs Q E hr h => ?_)
 ·obtain ⟨l, ps, rfl, _⟩ := h
  rfl
 ·obtain ⟨l, ps, rfl, hl, hn, hB, k⟩ := h
  have hu := hu_of hr
  refine ⟨_, pss_cons (ps_if (pt_cmpR op_lt (pe_callB call_len_seq rfl ml PySem.boot_len (pa_cons (pv 0) pa_nil)) pe_int (nomark _))
    (pss_one (ps_ret (pe_cmpR op_eq (pe_callB call_len_seq rfl ml PySem.boot_len (pa_cons (pv 0) pa_nil)) pe_int (nomark _)))) pss_nil)
   (pss_cons (ps_set (i := 1) scIS.nd rfl (Or.inl rfl) (pe_call G1 hr rfl m1 k1 b1 .nil pass0 (pa_cons (pv 0) pa_nil)))
   (pss_cons (ps_if (pt_cmpR (op_inPts hu) (pe_tup (pa_cons pe_int (pa_cons pe_int pa_nil))) (pv 1) rfl) (pss_one (ps_ret pe_bl)) pss_nil)
   (pss_one (ps_ret (pe_callB (call_all_bls rfl) rfl ma bootAll (pa_cons
    (pe_lc (tn := ["arrow", "later"]) (cs := []) (g := gTup K 2 (gCons (gName 0) (gCons (gName 1) gNil))) (tt := tYes) (te := tCall (spBl2 (2 ^ 62) before) [] E0 (tCons (tVar 0) (tCons (tVar 1) tNil)))
     (Caps.none (by decide +kernel) rfl (by decide +kernel)) rfl
     (pi_zip rfl mz (pa_cons (pv 1) (pa_cons (pe_slice sl_list (pv 1) (po_some pe_int) po_none) pa_nil)))
     (fun C s₀ H₀ fp xe => pg_tup (n := 2) rfl (pgs_cons (pg_name (i := 0) nodupAL rfl (Or.inl rfl) (.inr rfl)) (pgs_cons (pg_name (i := 1) nodupAL rfl (Or.inl rfl) (.inr rfl)) pgs_nil)))
     (fun C s₀ H₀ fp xe => pts_nil)
     (fun C s₀ H₀ fp xe => pe_call G2 hr rfl m2 k2 b2 .nil pass0 (pa_cons (pv 0) (pa_cons (pv 1) pa_nil)))) pa_nil)))))), ?_⟩
  obtain ⟨as, h1, h2⟩ := id hl
  have hlen : as.length = ps.length := Paired.length h2
  have elen : ((as.map V.ref).length : Int) = (ps.length : Int) := by rw [List.length_map, hlen]
  refine ⟨_, rfl, l, _, rfl, .inl (SqL.of h1), _, _, rfl, rfl, _, rfl, ?_⟩
  unfold isShape at k
  refine ite2 (fun c1 => ?_) (fun c1 => ?_)
  ·refine ⟨_, rfl, l, _, rfl, .inl (SqL.of h1), rfl, ?_⟩
   have c1' : ps.length < 2 := by
    have := of_decide_eq_true c1
    lia
   rw [if_pos c1'] at k
   have e : decide (V.int ((as.map V.ref).length : Int) = V.int 1) = decide (ps.length = 1) := by
    rw [elen]
    by_cases z : ps.length = 1
    ·simp [z]
    ·have : ¬ (V.int (ps.length : Int) = V.int 1) := fun q => z (by injection q with q; (clear hn ma ml mz m2 k2 m1 k1 elen hlen h1 hu c1' c1 z; lia))
     simp [z, this]
   rw [e]
   exact k H (Same.refl H)
  ·have c1' : ¬ ps.length < 2 := fun z => c1 (by rw [elen]; exact decide_eq_true (by (clear ml mz m2 k2 m1 k1 h1 hu hn ma elen hlen c1; lia)))
   rw [if_neg c1'] at k
   refine ⟨_, rfl, l, ps, rfl, hl, hn, hB, fun r H2 s2 nr pr => ?_⟩
   refine ⟨by show 2 <= sizeLine; decide, fun t nt => ?_⟩
   have st := s2.trans (same_upd (o := .tup [.int 0, .int 0]) nt)
   refine ⟨_, rfl, t, r, (0, 0), round ps, rfl, rfl, upd_same, Pts.same (same_upd nt) pr, _, rfl, ?_⟩
   refine ite2 (fun c2 => ?_) (fun c2 => ?_)
   ·rw [if_pos (of_decide_eq_true c2)] at k
    exact k _ st
   ·rw [if_neg (fun z => c2 (decide_eq_true z))] at k
    obtain ⟨rs, r1, r2⟩ := Pts.same (same_upd (o := .tup [.int 0, .int 0]) nt) pr
    have rlen : rs.length = (round ps).length := Paired.length r2
    have rlen2 := RS.round_length ps
    refine ⟨_, rfl, _, rfl, _, rfl, r, _, rfl, SqL.of r1, fun d1 n1 => ?_⟩
    rw [cut_from1]
    have s3 := st.trans (same_upd (o := .lst ((rs.map V.ref).drop 1)) n1)
    generalize hHs : upd (upd H2 t (.tup [.int 0, .int 0])) d1 (.lst ((rs.map V.ref).drop 1)) = Hs at s3 ⊢
    have g1 : Hs d1 = some (.lst ((rs.map V.ref).drop 1)) := by rw [<- hHs, upd_same]
    have ss : Same (upd H2 t (.tup [.int 0, .int 0])) Hs := by rw [<- hHs]; exact same_upd n1
    have al : Ats Hs rs (round ps) := Ats.same ss r2
    have hr1 := ss _ _ r1
    have ed : (rs.map V.ref).drop 1 = (rs.drop 1).map V.ref := by rw [List.map_drop]
    rw [ed] at g1
    have ar : Ats Hs (rs.drop 1) ((round ps).drop 1) := Ats.drop 1 al
    refine ⟨r, d1, rfl, ⟨_, SqL.of hr1⟩, ⟨_, SqL.of g1⟩, fun D nD => ?_⟩
    refine lc_zip (K := K) (a := r) (b := d1) (D := D) (xs := rs.map V.ref) (ys := (rs.drop 1).map V.ref)
     (fun i σ H' => (∃ u v, σ = [u, v]) /\ Same Hs H' /\ H' D = some (.lst (((List.zipWith before (round ps) ((round ps).drop 1)).take i).map V.bl))) ⟨⟨none, none, rfl⟩, same_upd nD, upd_same⟩
     (fun i σ H' ⟨_, sm, _⟩ => ⟨SqL.of (sm _ _ hr1), SqL.of (sm _ _ g1)⟩) ?_ ?_
    ·rintro i x y σ H' t' ex ey ht ⟨⟨u, v, rfl⟩, sm, pt⟩
     obtain ⟨a, ea, rfl⟩ := map_ref ex
     obtain ⟨b, eb, rfl⟩ := map_ref ey
     obtain ⟨p, ep, tp⟩ := paired_get al i a ea
     obtain ⟨q, eq, tq⟩ := paired_get ar i b eb
     have st2 := sm.trans (same_upd (o := .tup [.ref a, .ref b]) ht)
     refine ⟨t', _, rfl, SqT.of upd_same, rfl, _, _, rfl, _, _, rfl, rfl, ?_⟩
     refine yes_go ?_
     refine ⟨_, rfl, _, rfl, a, b, p, q, rfl, st2 _ _ tp, st2 _ _ tq, bd_round hB p (List.mem_of_getElem? ep), ?_⟩
     have er : (List.zipWith before (round ps) ((round ps).drop 1))[i]? = some (before p q) := by rw [List.getElem?_zipWith, ep, eq]
     have pt' := same_upd (o := .tup [.ref a, .ref b]) ht _ _ pt
     refine ⟨_, pt', ?_, ⟨_, _, rfl⟩, same_set st2 nD, ?_⟩
     ·rw [List.length_map, List.length_take]
      have : i < (round ps).length := (List.getElem?_eq_some_iff.mp ep).1
      exact size100 (by lia)
     ·rw [upd_same, take_next er, List.map_append]
      rfl
    ·rintro i σ H' hi hi1 hi2 ⟨_, sm, pt⟩
     refine ⟨D, _, rfl, SqL.of pt, ?_⟩
     have ei : (List.zipWith before (round ps) ((round ps).drop 1)).take i = List.zipWith before (round ps) ((round ps).drop 1) := by
      refine List.take_of_length_le ?_
      rw [List.length_zipWith, List.length_drop]
      rw [List.length_map] at hi hi1
      rw [List.length_map, List.length_drop] at hi hi2
      lia
     rw [ei]
     exact k H' (s3.trans sm)
end
end K1
namespace K1
open PySem L2
open RS (Pt arrow cross fstHalf before round isShape cellAt stir popW chainR chain)
noncomputable abbrev sCell : Stmt := top 23
noncomputable abbrev sStir : Stmt := top 24
noncomputable abbrev sLCross : Stmt := top 25
noncomputable abbrev sLArrow : Stmt := top 26
noncomputable abbrev sChain : Stmt := top 27
inductive spCell (K : PySem.W.Frag) (vs : List V) (H : Hp) (Q : VK) (u3 : XK) : Prop
 | mk (a : _) (ns : _) (k : _) (c0 : vs = [.ref a, .int k]) (c1 : SqL K H a (ns.map V.int)) (c2 : 0 <= k) (c3 : Q (.int (cellAt ns k)) H) : spCell K vs H Q u3
inductive spStir (vs : List V) (H : Hp) (Q : VK) (u3 : XK) : Prop
 | mk (s : _) (c0 : vs = [.int s]) (c1 : Q (.int (stir s)) H) : spStir  vs H Q u3
theorem atI_neg1 {xs : List V} {x : V} (h : xs.getLast? = some x) : atI xs (-1) = some x := by
 rcases List.eq_nil_or_concat xs with e | ⟨ys, y, e⟩
 ·rw [e] at h; cases h
 ·rw [e, List.concat_eq_append, List.getLast?_append] at h
  rw [e, List.concat_eq_append]
  cases h
  exact atI_last ys y
theorem atI_at {xs : List V} {x : V} {i : Int} {j : Nat} (hi : i = (j : Int) - xs.length) (hj : j < xs.length) (h : xs[j]? = some x) : atI xs i = some x := by
 unfold atI ixN
 have h1 : ¬ (0 <= i) := by omega
 have h2 : -(xs.length : Int) <= i := by lia
 rw [if_neg h1, if_pos h2]
 have h3 : (i + (xs.length : Int)).toNat = j := by lia
 rw [h3]
 exact h
section
variable {P : Program} {w : World} {K : PySem.W.Frag} {mg : Str -> Option Value} {base : Heap}
theorem scCell : FnScope ["script", "k"] ["script", "k"] (defScope sCell) := ⟨rfl, rfl, rfl, by decide +kernel, rfl, by decide +kernel, by decide +kernel⟩
theorem ok_cell {f : Addr} {fd : FuncData} (F : Fun K "_law_cell_at" "_law_cell_at" sCell f fd) (ml : mg "len" = none) : FnOk P w K mg base CX0 1 f fd ["script", "k"] (spCell K) := by
 refine F.ok scCell (fun vs H Q E h => ?_) (fun cdv A outer s H vs Q E hr h => ?_)
 ·obtain ⟨a, ns, k, rfl, _⟩ := h
  rfl
 ·obtain ⟨a, ns, k, rfl, ha, hk, q⟩ := h
  refine ⟨_, pss_cons (ps_if (pt_cmpR op_lt (pv 1) (pe_callB call_len_seq rfl ml PySem.boot_len (pa_cons (pv 0) pa_nil)) (nomark _))
   (pss_one (ps_ret (pe_ix ix_list (pv 0) (pv 1) (fun _ _ => rfl)))) pss_nil) (pss_one (ps_ret pe_int)), ?_⟩
  refine ⟨_, rfl, _, rfl, a, _, rfl, .inl ha, _, _, rfl, rfl, _, rfl, ?_⟩
  have el : ((ns.map V.int).length : Int) = (ns.length : Int) := by rw [List.length_map]
  unfold cellAt at q
  refine ite2 (fun c => ?_) (fun c => ?_)
  ·have c' : k < (ns.length : Int) := by have := of_decide_eq_true c; omega
   rw [if_pos c'] at q
   refine ⟨_, rfl, _, rfl, a, _, k, _, rfl, rfl, ha, ?_, q⟩
   have hkn : k.toNat < ns.length := by lia
   have e1 : (ns.map V.int)[k.toNat]? = some (V.int (ns.getD k.toNat 0)) := by
    rw [List.getElem?_map, List.getElem?_eq_getElem hkn, List.getD_eq_getElem?_getD, List.getElem?_eq_getElem hkn]
    rfl
   have e2 := atI_nat e1
   have e3 : ((k.toNat : Nat) : Int) = k := by lia
   rw [e3] at e2
   exact e2
  ·have c' : ¬ k < (ns.length : Int) := fun z => c (decide_eq_true (by lia))
   rw [if_neg c'] at q
   exact q
theorem scStir : FnScope ["seed"] ["seed"] (defScope sStir) := ⟨rfl, rfl, rfl, by decide +kernel, rfl, by decide +kernel, by decide +kernel⟩
theorem ok_stir {f : Addr} {fd : FuncData} (F : Fun K "_law_stir" "_law_stir" sStir f fd) : FnOk P w K mg base CX0 1 f fd ["seed"] spStir := by
 refine F.ok scStir (fun vs H Q E h => ?_) (fun cdv A outer s H vs Q E hr h => ?_)
 ·obtain ⟨a, rfl, _⟩ := h
  rfl
 ·obtain ⟨sd, rfl, q⟩ := h
  refine ⟨_, pss_cons (ps_set (i := 0) scStir.nd rfl (Or.inl rfl) (pe_op op_mod (pe_op op_add (pv 0) pe_int) pe_int))
   (pss_one (ps_ret (pe_op op_mod (pe_op op_add (pe_op op_add (pe_op op_mul (pv 0) (pv 0)) (pe_op op_mul pe_int (pv 0))) pe_int) pe_int))), ?_⟩
  have h1 := Int.emod_nonneg (sd + 7919) (show (2147483647 : Int) ≠ 0 by decide)
  have h2 := Int.emod_lt_of_pos (sd + 7919) (show (0 : Int) < 2147483647 by decide)
  refine ⟨_, rfl, _, _, rfl, rfl, _, _, rfl, rfl, (by show (0 : Int) < 2147483647; decide), ?_⟩
  refine ⟨_, rfl, _, rfl, _, _, rfl, rfl, .inl ⟨by omega, by omega⟩, ?_⟩
  refine ⟨_, rfl, _, _, rfl, rfl, .inl ⟨by lia, by lia⟩, _, _, rfl, rfl, _, _, rfl, rfl, _, _, rfl, rfl, (by show (0 : Int) < 2147483629; decide), ?_⟩
  exact q
theorem scLC : FnScope ["one", "other"] ["one", "other"] (defScope sLCross) := ⟨rfl, rfl, rfl, by decide +kernel, rfl, by decide +kernel, by decide +kernel⟩
theorem ok_lcross {f : Addr} {fd : FuncData} (F : Fun K "_law_cross" "_law_cross" sLCross f fd) : FnOk P w K mg base CX0 1 f fd ["one", "other"] (spInt2 (2 ^ 62) cross) := by
 refine F.ok scLC (fun vs H Q E h => ?_) (fun cdv A outer s H vs Q E hr h => ?_)
 ·obtain ⟨a, b, p, q, rfl, _⟩ := h
  rfl
 ·obtain ⟨a, b, p, q, rfl, ha, hb, ⟨b1, b2, b3, b4⟩, k⟩ := h
  refine ⟨_, pss_one (ps_ret (pe_op op_sub (pe_op op_mul (pe_ix ix_tup (pv 0) pe_int (fun _ _ => rfl)) (pe_ix ix_tup (pv 1) pe_int (fun _ _ => rfl)))
   (pe_op op_mul (pe_ix ix_tup (pv 0) pe_int (fun _ _ => rfl)) (pe_ix ix_tup (pv 1) pe_int (fun _ _ => rfl))))), ?_⟩
  refine ⟨_, rfl, a, _, _, _, rfl, rfl, SqT.of ha, rfl, ?_⟩
  refine ⟨_, rfl, b, _, _, _, rfl, rfl, SqT.of hb, rfl, _, _, rfl, rfl, .inl ⟨by omega, by omega⟩, ?_⟩
  refine ⟨_, rfl, a, _, _, _, rfl, rfl, SqT.of ha, rfl, ?_⟩
  refine ⟨_, rfl, b, _, _, _, rfl, rfl, SqT.of hb, rfl, _, _, rfl, rfl, .inl ⟨by omega, by omega⟩, ?_⟩
  exact ⟨_, _, rfl, rfl, k⟩
theorem scLA : FnScope ["one", "other"] ["one", "other"] (defScope sLArrow) := ⟨rfl, rfl, rfl, by decide +kernel, rfl, by decide +kernel, by decide +kernel⟩
theorem ok_larrow {f : Addr} {fd : FuncData} (F : Fun K "_law_arrow" "_law_arrow" sLArrow f fd) : FnOk P w K mg base CX0 1 f fd ["one", "other"] (spPt2 arrow) := by
 refine F.ok scLA (fun vs H Q E h => ?_) (fun cdv A outer s H vs Q E hr h => ?_)
 ·obtain ⟨a, b, p, q, rfl, _⟩ := h
  rfl
 ·obtain ⟨a, b, p, q, rfl, ha, hb, k⟩ := h
  refine ⟨_, pss_one (ps_ret (pe_tup (pa_cons (pe_op op_sub (pe_ix ix_tup (pv 1) pe_int (fun _ _ => rfl)) (pe_ix ix_tup (pv 0) pe_int (fun _ _ => rfl)))
   (pa_cons (pe_op op_sub (pe_ix ix_tup (pv 1) pe_int (fun _ _ => rfl)) (pe_ix ix_tup (pv 0) pe_int (fun _ _ => rfl))) pa_nil)))), ?_⟩
  refine ⟨_, rfl, b, _, _, _, rfl, rfl, SqT.of hb, rfl, ?_⟩
  refine ⟨_, rfl, a, _, _, _, rfl, rfl, SqT.of ha, rfl, _, _, rfl, rfl, ?_⟩
  refine ⟨_, rfl, b, _, _, _, rfl, rfl, SqT.of hb, rfl, ?_⟩
  refine ⟨_, rfl, a, _, _, _, rfl, rfl, SqT.of ha, rfl, _, _, rfl, rfl, ?_⟩
  exact ⟨by show 2 <= sizeLine; decide, fun r hn => k r _ (same_upd hn) upd_same⟩
theorem scCh : FnScope ["points", "found", "point"] ["points"] (defScope sChain) := ⟨rfl, rfl, rfl, by decide +kernel, rfl, by decide +kernel, by decide +kernel⟩
theorem popW_drop {a b p : Pt} {r : List Pt} (h : ¬ 0 < cross (arrow a b) (arrow b p)) : popW (b :: a :: r) p = popW (a :: r) p := by
 rw [popW, if_neg h]
theorem popW_stay {a b p : Pt} {r : List Pt} (h : 0 < cross (arrow a b) (arrow b p)) : popW (b :: a :: r) p = b :: a :: r := by
 rw [popW, if_pos h]
theorem popW_short {st : List Pt} {p : Pt} (h : ¬ 1 < st.length) : popW st p = st := by
 match st, h with
 | [], _ => rfl
 | [_], _ => rfl
 | _ :: _ :: r, h => exact absurd (by simp) h
theorem two_last {H : Hp} {ds : List Addr} {a b : Pt} {r : List Pt} (h : Ats H ds (b :: a :: r).reverse) : ∃ x y es, ds = es ++ [x, y] /\ Tp H x a /\ Tp H y b /\ Ats H es r.reverse := by
 have e : (b :: a :: r).reverse = r.reverse ++ [a, b] := by simp
 rw [e] at h
 have hl : ds.length = r.reverse.length + 2 := by rw [Paired.length h]; simp
 have t := Ats.drop r.reverse.length h
 rw [List.drop_left] at t
 have t2 := Ats.take r.reverse.length h
 rw [List.take_left] at t2
 have ed : ds = ds.take r.reverse.length ++ ds.drop r.reverse.length := (List.take_append_drop _ _).symm
 generalize hds : ds.drop r.reverse.length = us at t ed
 cases t with
 | cons t1 t =>
  cases t with
  | cons t3 t => cases t; exact ⟨_, _, _, ed, t1, t3, t2⟩
theorem ok_chain {f f1 f2 : Addr} {fd fd1 fd2 : FuncData} (F : Fun K "_law_chain" "_law_chain" sChain f fd)
  (G1 : FnOk P w K mg base CX0 1 f1 fd1 ["one", "other"] (spInt2 (2 ^ 62) cross)) (k1 : PySem.W.keepIn K (.ref f1) = true) (b1 : Binds K fd1 ["one", "other"] []) (m1 : mg "_law_cross" = some (.ref f1))
  (G2 : FnOk P w K mg base CX0 1 f2 fd2 ["one", "other"] (spPt2 arrow)) (k2 : PySem.W.keepIn K (.ref f2) = true) (b2 : Binds K fd2 ["one", "other"] []) (m2 : mg "_law_arrow" = some (.ref f2))
  (ml : mg "len" = none) : FnOk P w K mg base CX0 2 f fd ["points"] (spPts1 (2 ^ 60) chain) := by
 refine F.ok scCh (fun vs H Q E h => ?_) (fun cdv A outer s H vs Q E hr h => ?_)
 ·obtain ⟨l, ps, rfl, _⟩ := h
  rfl
 ·obtain ⟨l, ps, rfl, hl, hn, hB, k⟩ := h
  refine ⟨_, pss_cons (ps_set (i := 1) scCh.nd rfl (Or.inl rfl) (pe_lst pa_nil))
   (pss_cons (ps_for PassesOwn.never rfl (pi_list (pv 0)) (pg_name (i := 2) scCh.nd rfl (Or.inl rfl))
    (pss_cons (ps_while PassesOwn.never (pt_cmpR op_gt (pe_callB call_len_seq rfl ml PySem.boot_len (pa_cons (pv 1) pa_nil)) pe_int (nomark _))
     (pss_cons (ps_if (pt_cmpR op_gt (pe_call G1 hr rfl m1 k1 b1 .nil pass0 (pa_cons (pe_call G2 hr rfl m2 k2 b2 .nil pass0 (pa_cons (pe_ix ix_list (pv 1) (pe_un un_neg pe_int) (fun _ _ => rfl)) (pa_cons (pe_ix ix_list (pv 1) (pe_un un_neg pe_int) (fun _ _ => rfl)) pa_nil)))
       (pa_cons (pe_call G2 hr rfl m2 k2 b2 .nil pass0 (pa_cons (pe_ix ix_list (pv 1) (pe_un un_neg pe_int) (fun _ _ => rfl)) (pa_cons (pv 2) pa_nil))) pa_nil))) pe_int (nomark _))
      (pss_one ps_break) pss_nil)
     (pss_one (ps_expr (pe_bm0 PySem.F.plainAttrs_list PySem.F.slot_list_pop PySem.F.type_list_pop mt_pop (pv 1))))))
    (pss_one (ps_expr (pe_bm PySem.F.plainAttrs_list PySem.F.slot_list_append PySem.F.type_list_append mt_append (pv 1) (pa_cons (pv 2) pa_nil))))))
   (pss_one (ps_ret (pv 1)))), ?_⟩
  obtain ⟨as, h1, h2⟩ := id hl
  have hlen : as.length = ps.length := Paired.length h2
  refine ⟨Nat.zero_le _, fun D nD => ?_⟩
  have s0 : Same H (upd H D (.lst [])) := same_upd nD
  refine ⟨_, rfl, l, rfl, ⟨_, SqL.of (s0 _ _ h1)⟩, ?_⟩
  refine for_list (xs := as.map V.ref) (fun i σ H' => (∃ u, σ = [some (.ref l), some (.ref D), u]) /\ Same H H' /\ Pts H' D (chainR (ps.take i)).reverse) ⟨⟨none, rfl⟩, s0, [], upd_same, .nil⟩
   (fun i σ H' _ ⟨_, sm, _⟩ => SqL.of (sm _ _ h1)) ?_ ?_
  ·rintro i x σ H' ex ⟨⟨u, rfl⟩, sm, pt⟩
   obtain ⟨a, ea, rfl⟩ := map_ref ex
   obtain ⟨p, ep, tp⟩ := paired_get h2 i a ea
   have hpB : Bd (2 ^ 60) p := hB p (List.mem_of_getElem? ep)
   have hi : i < ps.length := (List.getElem?_eq_some_iff.mp ep).1
   have inB : ∀ x ∈ chainR (ps.take i), Bd (2 ^ 60) x := fun x hx => hB x (List.mem_of_mem_take (RS.mem_chain (by unfold RS.chain; exact List.mem_reverse.mpr hx)))
   have inL : (chainR (ps.take i)).length <= 100 := by
    have := RS.chain_len (ps.take i)
    unfold RS.chain at this
    rw [List.length_reverse, List.length_take] at this
    lia
   refine ⟨fun m σ H' => σ = [some (.ref l), some (.ref D), some (.ref a)] /\ Same H H' /\ ∃ st, m = st.length /\ Pts H' D st.reverse /\ popW st p = popW (chainR (ps.take i)) p /\ (∀ x ∈ st, Bd (2 ^ 60) x) /\ st.length <= 100,
    ⟨_, rfl, sm, _, rfl, pt, rfl, inB, inL⟩, ?_⟩
   rintro m σ H2 ⟨rfl, sm2, st, rfl, pt2, ew, sB, sL⟩
   obtain ⟨ds, d1, d2⟩ := pt2
   have dlen : ds.length = st.length := by rw [Paired.length d2, List.length_reverse]
   refine ⟨_, rfl, D, _, rfl, .inl (SqL.of d1), _, _, rfl, rfl, _, rfl, ?_⟩
   refine ite2 (fun c => ?_) (fun c => ?_)
   ·have c' : 1 < st.length := by
     have := of_decide_eq_true c
     rw [List.length_map, dlen] at this
     lia
    match st, c', ew, sB, sL, d2, dlen with
    | b :: a' :: r, _, ew, sB, sL, d2, dlen =>
     obtain ⟨x, y, es, rfl, tx, ty, te⟩ := two_last d2
     have xe : ((es ++ [x, y]).map V.ref) = es.map V.ref ++ [V.ref x, V.ref y] := by rw [List.map_append]; rfl
     rw [xe] at d1
     have i1 : atI (es.map V.ref ++ [V.ref x, V.ref y]) (-1) = some (V.ref y) := atI_neg1 (by simp)
     have i2 : atI (es.map V.ref ++ [V.ref x, V.ref y]) (-2) = some (V.ref x) := atI_at (j := es.length) (by simp; lia) (by simp) (by simp)
     refine ⟨fun σ' H' => σ' = [some (.ref l), some (.ref D), some (.ref a)] /\ Same H H' /\ ∃ st, st.length < (b :: a' :: r).length /\ Pts H' D st.reverse /\ popW st p = popW (chainR (ps.take i)) p /\ (∀ x ∈ st, Bd (2 ^ 60) x) /\ st.length <= 100,
      fun σ' H' ⟨q1, q2, st, q3, q4⟩ => ⟨_, q3, q1, q2, st, rfl, q4⟩, ?_⟩
     refine ⟨_, rfl, _, rfl, D, _, _, _, rfl, rfl, SqL.of d1, i2, ?_⟩
     refine ⟨_, rfl, _, rfl, D, _, _, _, rfl, rfl, SqL.of d1, i1, x, y, a', b, rfl, tx, ty, fun r1 H3 s3 t3 => ?_⟩
     refine ⟨_, rfl, _, rfl, D, _, _, _, rfl, rfl, SqL.of (s3 _ _ d1), i1, _, rfl, y, a, b, p, rfl, s3 _ _ ty, s3 _ _ (sm2 _ _ tp), fun r2 H4 s4 t4 => ?_⟩
     refine ⟨r1, r2, arrow a' b, arrow b p, rfl, s4 _ _ t3, t4, bd_arrow (sB a' (by simp)) (sB b (by simp)), _, _, rfl, rfl, _, rfl, ?_⟩
     have s24 := s3.trans s4
     have d4 := s24 _ _ d1
     refine ite2 (fun c2 => ?_) (fun c2 => ?_)
     ·have c2' := of_decide_eq_true c2
      rw [popW_stay c2'] at ew
      refine ⟨_, rfl, .inl ⟨rfl, _, SqL.of d4⟩, _, rfl, D, _, _, rfl, rfl, d4, size100 (by simp at dlen sL ⊢; lia), ?_⟩
      have pp : Pts H4 D (b :: a' :: r).reverse := ⟨es ++ [x, y], by rw [d4, xe], Ats.same s24 d2⟩
      obtain ⟨ys, y1, y2, y3, y4⟩ := pts_push nD (sm2.trans s24) pp (s24 _ _ (sm2 _ _ tp)) (by rw [List.length_reverse]; exact size100 (by lia))
      rw [d4] at y1
      cases y1
      refine ⟨⟨_, rfl⟩, y3, ?_⟩
      rw [take_next ep, RS.chainR_snoc, <- ew, List.reverse_cons]
      exact y4
     ·have c2' : ¬ 0 < cross (arrow a' b) (arrow b p) := fun z => c2 (decide_eq_true z)
      rw [popW_drop c2'] at ew
      have edl : (es.map V.ref ++ [V.ref x, V.ref y]).dropLast = (es ++ [x]).map V.ref := by
       have : es.map V.ref ++ [V.ref x, V.ref y] = (es ++ [x]).map V.ref ++ [V.ref y] := by simp
       rw [this, List.dropLast_concat]
      refine ⟨_, rfl, .inl ⟨rfl, _, SqL.of d4⟩, D, _, V.ref y, rfl, rfl, d4, by simp, ?_⟩
      refine ⟨rfl, same_set (sm2.trans s24) nD, a' :: r, by simp, ⟨es ++ [x], by rw [upd_same, edl], ?_⟩, ew, fun z hz => sB z (List.mem_cons_of_mem _ hz), by simp at sL ⊢; lia⟩
      rw [List.reverse_cons]
      exact Ats.put d4 (Ats.app (Ats.same s24 te) (.cons (s24 _ _ tx) .nil))
   ·have c' : ¬ 1 < st.length := fun z => c (decide_eq_true (by rw [List.length_map, dlen]; lia))
    rw [popW_short c'] at ew
    refine ⟨_, rfl, .inl ⟨rfl, _, SqL.of d1⟩, _, rfl, D, _, _, rfl, rfl, d1, size100 (by rw [List.length_map]; lia), ?_⟩
    obtain ⟨ys, y1, y2, y3, y4⟩ := pts_push nD sm2 ⟨ds, d1, d2⟩ (sm2 _ _ tp) (by rw [List.length_reverse]; exact size100 (by lia))
    rw [d1] at y1
    cases y1
    refine ⟨⟨_, rfl⟩, y3, ?_⟩
    rw [take_next ep, RS.chainR_snoc, <- ew, List.reverse_cons]
    exact y4
  ·rintro σ H' ⟨⟨u, rfl⟩, sm, pt⟩
   refine ⟨_, rfl, ?_⟩
   rw [List.length_map, hlen, List.take_of_length_le (Nat.le_refl _)] at pt
   exact k D H' sm nD pt
end
end K1
namespace K1
open PySem L2
open RS (Pt arrow cross fstHalf before round isShape cellAt stir popW chainR chain swap order hull dedP sortD)
noncomputable abbrev sHull : Stmt := top 28
inductive spPtsN (m : Nat) (n : Int) (f : List Pt -> List Pt) (vs : List V) (H : Hp) (Q : VK) (u3 : XK) : Prop
 | mk (l : _) (ps : _) (c0 : vs = [.ref l]) (c1 : Pts H l ps) (c2 : 0 < ps.length) (c3 : ps.length <= m) (c4 : (∀ p ∈ ps, Bd n p)) (c5 : ∀ r H', Same H H' -> H r = none -> Pts H' r (f ps) -> Q (.ref r) H') : spPtsN m n f vs H Q u3
theorem srt_keys {l : List (Pt × Addr)} {srt : List (Pt × Addr)} (hp : srt.Perm (dedP l)) (hw : srt.Pairwise (fun p q : Pt × Addr => RS.lexLt p.1 q.1 = true)) : srt.map (·.1) = sortD (l.map (·.1)) := by
 refine RS.sorted_is (List.pairwise_map.mpr hw) fun x => ?_
 rw [(hp.map _).mem_iff]
 exact RS.dedP_keys l x
theorem zip_fst : ∀ {as : List Addr} {ps : List Pt}, as.length = ps.length -> (ps.zip as).map (·.1) = ps
 | [], [], _ => rfl
 | _ :: as, p :: ps, h => by
  rw [List.zip_cons_cons, List.map_cons, zip_fst (Nat.succ.inj h)]
theorem srt_ats {H : Hp} : ∀ {srt : List (Pt × Addr)}, (∀ p ∈ srt, Tp H p.2 p.1) -> Ats H (srt.map (·.2)) (srt.map (·.1))
 | [], _ => .nil
 | p :: _, h => .cons (h p List.mem_cons_self) (srt_ats fun q hq => h q (List.mem_cons_of_mem _ hq))
theorem nodup1 {x : Str} : (([x] : List Str) ++ ([] : List (Str × Nat)).map (·.1)).Nodup := by simp
theorem nodupUR : ((["up", "right"] : List Str) ++ ([] : List (Str × Nat)).map (·.1)).Nodup := by decide +kernel
theorem g_go {i : Nat} {v : V} {σ : St} {H : Hp} {Q : St -> Hp -> Prop} (h : Q (σ.set i (some v)) H) : gName i v σ H Q := h
theorem hu8_of {A : Around} {k : Nat} (hr : Room k A) : A.units + 8 < cLine := Nat.lt_of_le_of_lt (Nat.add_le_add_left (by decide : 8 <= 64) _) hr.units
section
variable {P : Program} {w : World} {K : PySem.W.Frag} {mg : Str -> Option Value} {base : Heap}
theorem scHu : FnScope ["points", "order"] ["points"] (defScope sHull) := ⟨rfl, rfl, rfl, by decide +kernel, rfl, by decide +kernel, by decide +kernel⟩
theorem ok_hull {f f1 : Addr} {fd fd1 : FuncData} (F : Fun K "_law_hull" "_law_hull" sHull f fd)
  (G1 : FnOk P w K mg base CX0 2 f1 fd1 ["points"] (spPts1 (2 ^ 60) chain)) (k1 : PySem.W.keepIn K (.ref f1) = true) (b1 : Binds K fd1 ["points"] []) (m1 : mg "_law_chain" = some (.ref f1))
  (ml : mg "len" = none) (mso : mg "sorted" = none) (mse : mg "set" = none) (mli : mg "list" = none) (mre : mg "reversed" = none) : FnOk P w K mg base CX0 3 f fd ["points"] (spPtsN 60 (2 ^ 60) hull) := by
 refine F.ok scHu (fun vs H Q E h => ?_) (fun cdv A outer s H vs Q E hr h => ?_)
 ·obtain ⟨l, ps, rfl, _⟩ := h
  rfl
 ·obtain ⟨l, ps, rfl, hl, hn0, hn, hB, k⟩ := h
  have hu8 := hu8_of hr
  refine ⟨_, pss_cons (ps_lc (j := 1) (tn := ["up", "right"]) (cs := []) (g := gTup K 2 (gCons (gName 0) (gCons (gName 1) gNil))) (tt := tYes) (te := tTup (tCons (tVar 1) (tCons (tVar 0) tNil))) (Caps.none (by decide +kernel) rfl (by decide +kernel)) rfl
    (pi_list (pe_callB (call_sorted_pts rfl) rfl mso bootSorted (pa_cons (pe_callTy (call_set_pts rfl hu8) rfl mse bootSet (pa_cons
     (pe_lc (tn := ["point"]) (cs := []) (g := gName 0) (tt := tYes) (te := tTup (tCons (tOp (rIxT K) (tVar 0) (tC (.int 1))) (tCons (tOp (rIxT K) (tVar 0) (tC (.int 0))) tNil))) (Caps.none (by decide +kernel) rfl (by decide +kernel)) rfl
      (pi_list (pv 0))
      (fun C s₀ H₀ fp xe => pg_name (i := 0) nodup1 rfl (Or.inl rfl) (.inr rfl))
      (fun C s₀ H₀ fp xe => pts_nil)
      (fun C s₀ H₀ fp xe => pe_tup (pa_cons (pe_ix ix_tup (pv 0) pe_int (fun _ _ => rfl)) (pa_cons (pe_ix ix_tup (pv 0) pe_int (fun _ _ => rfl)) pa_nil)))) pa_nil)) pa_nil)))
    (fun C s₀ H₀ fp xe => pg_tup (n := 2) rfl (pgs_cons (pg_name (i := 0) nodupUR rfl (Or.inl rfl) (.inr rfl)) (pgs_cons (pg_name (i := 1) nodupUR rfl (Or.inl rfl) (.inr rfl)) pgs_nil)))
    (fun C s₀ H₀ fp xe => pts_nil)
    (fun C s₀ H₀ fp xe => pe_tup (pa_cons (pv 1) (pa_cons (pv 0) pa_nil))) scHu.nd rfl rfl rfl)
   (pss_cons (ps_if (pt_cmpR op_eq (pe_callB call_len_seq rfl ml PySem.boot_len (pa_cons (pv 1) pa_nil)) pe_int (nomark _)) (pss_one (ps_ret (pv 1))) pss_nil)
   (pss_one (ps_ret (pe_op op_cat
    (pe_slice sl_list (pe_call G1 hr rfl m1 k1 b1 .nil pass0 (pa_cons (pv 1) pa_nil)) po_none (po_some (pe_un un_neg pe_int)))
    (pe_slice sl_list (pe_call G1 hr rfl m1 k1 b1 .nil pass0 (pa_cons (pe_lrev rfl rfl mli rfl mre (pv 1)) pa_nil)) po_none (po_some (pe_un un_neg pe_int))))))), ?_⟩
  obtain ⟨as, h1, h2⟩ := id hl
  have hlen : as.length = ps.length := Paired.length h2
  refine ⟨_, rfl, l, rfl, ⟨_, SqL.of h1⟩, fun D1 n1 => ?_⟩
  refine lc_list (K := K) (a := l) (D := D1) (xs := as.map V.ref) (fun i σ H' => (∃ u, σ = [u]) /\ Same H H' /\ Pts H' D1 ((ps.map swap).take i)) ⟨⟨none, rfl⟩, same_upd n1, [], upd_same, .nil⟩
   (fun i σ H' _ ⟨_, sm, _⟩ => SqL.of (sm _ _ h1)) ?_ ?_
  ·rintro i x σ H' ex ⟨⟨u, rfl⟩, sm, pt⟩
   obtain ⟨a, ea, rfl⟩ := map_ref ex
   obtain ⟨p, ep, tp⟩ := paired_get h2 i a ea
   have hi : i < ps.length := (List.getElem?_eq_some_iff.mp ep).1
   refine g_go ?_
   refine yes_go ?_
   have ta := SqT.of (K := K) (sm _ _ tp)
   refine ⟨_, rfl, a, _, _, _, rfl, rfl, ta, rfl, _, rfl, a, _, _, _, rfl, rfl, ta, rfl, by show 2 <= sizeLine; decide, fun t nt => ?_⟩
   have er : (ps.map swap)[i]? = some (swap p) := by rw [List.getElem?_map, ep]; rfl
   obtain ⟨ys, y1, y2, y3, y4⟩ := pts_push (r := t) (v := swap p) n1 (sm.trans (same_upd (o := .tup [.int p.2, .int p.1]) nt)) (Pts.same (same_upd nt) pt) upd_same (by rw [List.length_take, List.length_map]; exact size100 (by lia))
   exact ⟨ys, y1, y2, ⟨_, rfl⟩, y3, by rw [take_next er]; exact y4⟩
  ·rintro σ H2 ⟨_, sm, pt⟩
   rw [List.length_map, hlen, List.take_of_length_le (by rw [List.length_map]; exact Nat.le_refl _)] at pt
   obtain ⟨bs, c1, c2⟩ := pt
   have blen : bs.length = (ps.map swap).length := Paired.length c2
   have blen2 : bs.length = ps.length := by rw [blen, List.length_map]
   refine ⟨D1, bs, _, rfl, c1, c2, by lia, fun S nS => ?_⟩
   have sS := sm.trans (same_upd (o := SetO P w S (dedP ((ps.map swap).zip bs))) nS)
   have zl : ((ps.map swap).zip bs).length = ps.length := by rw [List.length_zip, List.length_map]; lia
   have etp : ∀ p ∈ dedP ((ps.map swap).zip bs), Tp (upd H2 S (SetO P w S (dedP ((ps.map swap).zip bs)))) p.2 p.1 := fun p hp => same_upd nS _ _ (zip_tp c2 p (RS.dedP_sub hp))
   refine ⟨S, _, rfl, upd_same, etp, RS.dedP_nodup _, by have := RS.dedP_len ((ps.map swap).zip bs); lia, fun D2 srt n2 perm pw => ?_⟩
   have ek : srt.map (·.1) = sortD (ps.map swap) := by rw [srt_keys perm pw, zip_fst blen]
   have ats : Ats (upd H2 S (SetO P w S (dedP ((ps.map swap).zip bs)))) (srt.map (·.2)) (sortD (ps.map swap)) := by
    rw [<- ek]
    exact srt_ats fun p hp => etp p (perm.mem_iff.mp hp)
   have emap : srt.map (fun p => V.ref p.2) = (srt.map (·.2)).map V.ref := by rw [List.map_map]; rfl
   rw [emap]
   dsimp only [cxOf, Cx.nox] at n2 ⊢
   have s3 := sS.trans (same_upd (o := .lst ((srt.map (·.2)).map V.ref)) n2)
   have a3 := Ats.same (same_upd (o := .lst ((srt.map (·.2)).map V.ref)) n2) ats
   generalize hcs : srt.map (·.2) = cs at s3 a3 ⊢
   have d3 : upd (upd H2 S (SetO P w S (dedP ((ps.map swap).zip bs)))) D2 (.lst (cs.map V.ref)) D2 = some (.lst (cs.map V.ref)) := upd_same
   generalize hH3 : upd (upd H2 S (SetO P w S (dedP ((ps.map swap).zip bs)))) D2 (.lst (cs.map V.ref)) = H3 at s3 a3 d3 ⊢
   have clen : cs.length = (sortD (ps.map swap)).length := Paired.length a3
   have slen : (sortD (ps.map swap)).length <= ps.length := by have := RS.sortD_len (ps.map swap); rw [List.length_map] at this; exact this
   refine ⟨D2, rfl, ⟨_, SqL.of d3⟩, fun D nD => ?_⟩
   refine lc_list (K := K) (a := D2) (D := D) (xs := cs.map V.ref) (fun i σ H' => (∃ u v, σ = [u, v]) /\ Same H3 H' /\ Pts H' D ((order ps).take i)) ⟨⟨none, none, rfl⟩, same_upd nD, [], upd_same, .nil⟩
    (fun i σ H' _ ⟨_, sm, _⟩ => SqL.of (sm _ _ d3)) ?_ ?_
   ·rintro i x σ H' ex ⟨⟨u, v, rfl⟩, sm', pt⟩
    obtain ⟨a, ea, rfl⟩ := map_ref ex
    obtain ⟨p, ep, tp⟩ := paired_get a3 i a ea
    have hi : i < (sortD (ps.map swap)).length := (List.getElem?_eq_some_iff.mp ep).1
    refine ⟨a, _, rfl, SqT.of (sm' _ _ tp), rfl, _, _, rfl, _, _, rfl, rfl, ?_⟩
    refine yes_go ?_
    refine ⟨_, rfl, _, rfl, by show 2 <= sizeLine; decide, fun t nt => ?_⟩
    have er : (order ps)[i]? = some (swap p) := by unfold order; rw [List.getElem?_map, ep]; rfl
    obtain ⟨ys, y1, y2, y3, y4⟩ := pts_push (r := t) (v := swap p) nD (sm'.trans (same_upd (o := .tup [.int p.2, .int p.1]) nt)) (Pts.same (same_upd nt) pt) upd_same (by rw [List.length_take]; exact size100 (by lia))
    exact ⟨ys, y1, y2, ⟨_, _, rfl⟩, y3, by rw [take_next er]; exact y4⟩
   ·rintro σ H4 ⟨_, sm', pt⟩
    have olen : (order ps).length = cs.length := by unfold order; rw [List.length_map, clen]
    rw [List.length_map, <- olen, List.take_of_length_le (Nat.le_refl _)] at pt
    have s4 := s3.trans sm'
    have nDH : H D = none := s3.free nD
    have oB : ∀ p ∈ order ps, Bd (2 ^ 60) p := fun p hp => hB p (RS.mem_order.mp hp)
    have oL := RS.order_len ps
    obtain ⟨os, o1, o2⟩ := id pt
    have oslen : os.length = (order ps).length := Paired.length o2
    refine ⟨_, rfl, D, _, rfl, .inl (SqL.of o1), rfl, _, rfl, ?_⟩
    unfold hull at k
    refine ite2 (fun c => ?_) (fun c => ?_)
    ·have c' : (order ps).length = 1 := by
      have := of_decide_eq_true c
      injection this with this
      rw [List.length_map, oslen] at this
      lia
     rw [if_pos c'] at k
     exact ⟨_, rfl, k D H4 s4 nDH pt⟩
    ·have c' : ¬ (order ps).length = 1 := fun z => c (decide_eq_true (by rw [List.length_map, oslen, z]; rfl))
     rw [if_neg c'] at k
     refine ⟨_, rfl, D, order ps, rfl, pt, by lia, oB, fun r1 H5 s5 nr1 p5 => ?_⟩
     obtain ⟨us, u1, u2⟩ := p5
     refine ⟨_, rfl, _, rfl, r1, _, rfl, SqL.of u1, fun d1 nd1 => ?_⟩
     rw [cut_init, <- List.map_dropLast]
     have s6 := s5.trans (same_upd (o := .lst (us.dropLast.map V.ref)) nd1)
     have v6 := Ats.same (same_upd (o := .lst (us.dropLast.map V.ref)) nd1) (Ats.init u2)
     have e6 : upd H5 d1 (.lst (us.dropLast.map V.ref)) d1 = some (.lst (us.dropLast.map V.ref)) := upd_same
     generalize hH6 : upd H5 d1 (.lst (us.dropLast.map V.ref)) = H6 at s6 v6 e6 ⊢
     refine ⟨_, rfl, D, _, rfl, SqL.of (s6 _ _ o1), fun d2 nd2 => ?_⟩
     rw [<- List.map_reverse]
     have s7 := s6.trans (same_upd (o := .lst (os.reverse.map V.ref)) nd2)
     have s67 : Same H6 (upd H6 d2 (.lst (os.reverse.map V.ref))) := same_upd nd2
     have p7 : Pts (upd H6 d2 (.lst (os.reverse.map V.ref))) d2 (order ps).reverse := ⟨_, upd_same, Ats.same s7 (Ats.rev o2)⟩
     generalize hH7 : upd H6 d2 (.lst (os.reverse.map V.ref)) = H7 at s7 s67 p7 ⊢
     refine ⟨d2, _, rfl, p7, by rw [List.length_reverse]; (clear clen d3 hH3 hcs emap ek n2 zl nS blen2 blen c1 n1 hlen h1 hu8 hH7 nd2 e6 hH6 nd1 u1 nr1 c' k1 nDH olen nD slen mse mso ml m1 c oslen mre mli o1 hn0; omega), fun p hp => oB p (List.mem_reverse.mp hp), fun r2 H8 s8 nr2 p8 => ?_⟩
     obtain ⟨vs', v1, v2⟩ := p8
     refine ⟨_, rfl, _, rfl, r2, _, rfl, SqL.of v1, fun d3' nd3 => ?_⟩
     rw [cut_init, <- List.map_dropLast]
     have s9 := s8.trans (same_upd (o := .lst (vs'.dropLast.map V.ref)) nd3)
     have s69 := s67.trans s9
     have w9 := Ats.same (same_upd (o := .lst (vs'.dropLast.map V.ref)) nd3) (Ats.init v2)
     have e9 : upd H8 d3' (.lst (vs'.dropLast.map V.ref)) d3' = some (.lst (vs'.dropLast.map V.ref)) := upd_same
     have ul : us.length = (chain (order ps)).length := Paired.length u2
     have vl : vs'.length = (chain (order ps).reverse).length := Paired.length v2
     have l1 := RS.chain_len (order ps)
     have l2 := RS.chain_len (order ps).reverse
     rw [List.length_reverse] at l2
     generalize hH9 : upd H8 d3' (.lst (vs'.dropLast.map V.ref)) = H9 at s9 s69 w9 e9 ⊢
     refine ⟨d1, d3', _, _, rfl, rfl, s69 _ _ e6, e9, ?_, fun r nr => ?_⟩
     ·rw [List.length_map, List.length_map, List.length_dropLast, List.length_dropLast]
      exact Nat.le_of_lt (size100 (by lia))
     rw [<- List.map_append]
     have all : Same H H9 := s4.trans (s6.trans s69)
     exact k r _ (all.trans (same_upd nr)) (all.free nr) ⟨_, upd_same, Ats.same (same_upd nr) (Ats.app (Ats.same s69 v6) w9)⟩
end
end K1
namespace K1
open PySem L2
open RS (Pt arrow cross fstHalf before round isShape cellAt stir popW chainR chain swap order hull dedP sortD spanAt pointAt rawPoints lawPoints lawShape)
set_option tactic.hygienic true in
theorem lookup_mem {y : Str} {k : NameKind} : ∀ {l : List (Str × NameKind)}, l.lookup y = some k -> (y, k) ∈ l
 | [], h => by cases h
 | (z, j) :: r, h => by
  rw [List.lookup_cons] at h
  split at h
  ·rename_i e
   cases h
   rw [eq_of_beq e]
   exact List.mem_cons_self
  ·exact List.mem_cons_of_mem _ (lookup_mem h)
set_option tactic.hygienic true in
theorem Caps.one {X : Cx} {scope : Scope} {x : Str} {c : Addr} {i : Nat} (clos : closureFor scope X.env = pure [(x, c)]) (hc : X.env.cells.lookup x = some c) (hN : X.N[i]? = some x) (hcell : X.env.scope.names.lookup x = some .cell)
  {names' : List (Str × NameKind)} (hrn : (relabel scope X.env).names = names') (hr : names'.lookup x = some .cell) (has : ∀ p ∈ names', p.2 = .cell \/ p.2 = .free -> p.1 = x) (kind : scope.kind = .function)
  (nocell : ∀ y ∈ scope.names, y.2 ≠ .cell) (names : ∀ y ∈ scope.names, y.2 = .local -> scope.names.lookup y.1 = some .local) (hself : (x == x) = true := by rfl) : Caps X scope [(x, c)] [(x, i)] where
 clos := clos
 sub := fun y d h => by
  rw [List.lookup_cons] at h
  split at h
  ·rename_i e
   cases h
   rw [eq_of_beq e]
   exact hc
  ·cases h
 cap := fun p hp => by
  rw [List.mem_singleton] at hp
  subst hp
  refine ⟨hN, hcell, by rw [hrn]; exact hr, c, ?_⟩
  show List.lookup x [(x, c)] = some c
  rw [List.lookup_cons, hself]
 has := fun y hy => by
  rw [hrn] at hy
  have e : y = x := by
   rcases hy with z | z
   ·exact has _ (lookup_mem z) (.inl rfl)
   ·exact has _ (lookup_mem z) (.inr rfl)
  subst e
  refine ⟨c, ?_⟩
  rw [List.lookup_cons, hself]
 kind := kind
 nocell := nocell
 names := names
noncomputable abbrev sPoints : Stmt := top 29
noncomputable abbrev sShape : Stmt := top 30
inductive spPoints (K : PySem.W.Frag) (g : List Int -> Int -> Int -> List Pt) (vs : List V) (H : Hp) (Q : VK) (u3 : XK) : Prop
 | mk (a : _) (ns : _) (i : _) (m : _) (c0 : vs = [.ref a, .int i, .int m]) (c1 : SqL K H a (ns.map V.int)) (c2 : 0 <= i) (c3 : 0 < m) (c4 : m <= 40) (c5 : ∀ r H', Same H H' -> H r = none -> Pts H' r (g ns i m) -> Q (.ref r) H') : spPoints K g vs H Q u3
theorem nodupPL : ((["point"] : List Str) ++ ([("lean", 8)] : List (Str × Nat)).map (·.1)).Nodup := by decide +kernel
theorem span_at (cell : Int) : atI ([3, 1, 8, 1000].map V.int) (cell / 16 % 4) = some (V.int (spanAt cell)) := by
 unfold spanAt
 have h1 : 0 <= cell / 16 % 4 := Int.emod_nonneg _ (by decide)
 have h2 : cell / 16 % 4 < 4 := Int.emod_lt_of_pos _ (by decide)
 generalize cell / 16 % 4 = t at h1 h2 ⊢
 have h3 : t = 0 \/ t = 1 \/ t = 2 \/ t = 3 := by lia
 rcases h3 with rfl | rfl | rfl | rfl <;> rfl
section
variable {P : Program} {w : World} {K : PySem.W.Frag} {mg : Str -> Option Value} {base : Heap}
theorem scPo : FnScope ["script", "at", "most", "cell", "span", "points", "k", "seed", "lean"] ["script", "at", "most"] (defScope sPoints) := ⟨rfl, rfl, rfl, by decide +kernel, rfl, by decide +kernel, by decide +kernel⟩
theorem ok_points {f f1 f2 : Addr} {fd fd1 fd2 : FuncData} (F : Fun K "_law_points" "_law_points" sPoints f fd)
  (G1 : FnOk P w K mg base CX0 1 f1 fd1 ["script", "k"] (spCell K)) (k1 : PySem.W.keepIn K (.ref f1) = true) (b1 : Binds K fd1 ["script", "k"] []) (m1 : mg "_law_cell_at" = some (.ref f1))
  (G2 : FnOk P w K mg base CX0 1 f2 fd2 ["seed"] spStir) (k2 : PySem.W.keepIn K (.ref f2) = true) (b2 : Binds K fd2 ["seed"] []) (m2 : mg "_law_stir" = some (.ref f2))
  (mr : mg "range" = none) : FnOk P w K mg base CX0 2 f fd ["script", "at", "most"] (spPoints K lawPoints) := by
 refine F.ok scPo (fun vs H Q E h => ?_) (fun cdv A outer s H vs Q E hr h => ?_)
 ·obtain ⟨a, ns, i, m, rfl, _⟩ := h
  rfl
 ·obtain ⟨a, ns, i0, m, rfl, hS, hi0, hm0, hm1, k⟩ := h
  refine ⟨_, pss_cons (ps_set (i := 3) scPo.nd rfl (Or.inl rfl) (pe_call G1 hr rfl m1 k1 b1 .nil pass0 (pa_cons (pv 0) (pa_cons (pv 1) pa_nil))))
   (pss_cons (ps_set (i := 4) scPo.nd rfl (Or.inl rfl) (pe_ix ix_list (pe_lst (pa_cons pe_int (pa_cons pe_int (pa_cons pe_int (pa_cons pe_int pa_nil))))) (pe_op op_mod (pe_op op_fdiv (pv 3) pe_int) pe_int) (fun _ _ => rfl)))
   (pss_cons (ps_set (i := 5) scPo.nd rfl (Or.inl rfl) (pe_lst pa_nil))
   (pss_cons (ps_for PassesOwn.never rfl (pi_range1 rfl mr (pa_cons (pe_op op_add pe_int (pe_op op_mod (pv 3) (pv 2))) pa_nil)) (pg_name (i := 6) scPo.nd rfl (Or.inl rfl))
    (pss_cons (ps_set (i := 7) scPo.nd rfl (Or.inl rfl) (pe_call G2 hr rfl m2 k2 b2 .nil pass0 (pa_cons
      (pe_op op_add (pe_call G1 hr rfl m1 k1 b1 .nil pass0 (pa_cons (pv 0) (pa_cons (pe_op op_add (pe_op op_add (pv 1) pe_int) (pe_op op_mod (pv 6) pe_int)) pa_nil))) (pe_op op_mul pe_int (pv 6))) pa_nil)))
    (pss_one (ps_expr (pe_bm PySem.F.plainAttrs_list PySem.F.slot_list_append PySem.F.type_list_append mt_append (pv 5) (pa_cons (pe_tup (pa_cons
      (pe_op op_sub (pe_op op_mod (pe_op op_fdiv (pv 7) pe_int) (pe_op op_add (pe_op op_mul pe_int (pv 4)) pe_int)) (pv 4))
      (pa_cons (pe_op op_sub (pe_op op_mod (pe_op op_fdiv (pe_op op_fdiv (pv 7) pe_int) (pe_op op_add (pe_op op_mul pe_int (pv 4)) pe_int)) (pe_op op_add (pe_op op_mul pe_int (pv 4)) pe_int)) (pv 4)) pa_nil))) pa_nil))))))
   (pss_cons (ps_if (pt_cmpR op_eq (pe_op op_mod (pe_op op_fdiv (pv 3) pe_int) pe_int) pe_int (nomark _))
    (pss_cons (ps_set (i := 8) scPo.nd rfl (Or.inr rfl) (pe_op op_sub (pe_op op_mod (pe_op op_fdiv (pv 3) pe_int) pe_int) pe_int))
    (pss_one (ps_lc (j := 5) (tn := ["point"]) (cs := [("lean", 8)]) (g := gName 0) (tt := tYes) (te := tTup (tCons (tOp (rIxT K) (tVar 0) (tC (.int 0))) (tCons (tOp (rI CMul fun i j => .int (i * j)) (tVar 1) (tOp (rIxT K) (tVar 0) (tC (.int 0)))) tNil)))
     (Caps.one (names' := [(".0", .local), ("point", .local), ("lean", .cell)]) rfl rfl rfl rfl rfl rfl (by decide +kernel) rfl (by decide +kernel) (by decide +kernel)) rfl
     (pi_list (pv 5))
     (fun C s₀ H₀ fp xe => pg_name (i := 0) nodupPL rfl (Or.inl rfl) (.inr rfl))
     (fun C s₀ H₀ fp xe => pts_nil)
     (fun C s₀ H₀ fp xe => pe_tup (pa_cons (pe_ix ix_tup (pv 0) pe_int (fun _ _ => rfl)) (pa_cons (pe_op op_mul (pv 1) (pe_ix ix_tup (pv 0) pe_int (fun _ _ => rfl))) pa_nil))) scPo.nd rfl rfl rfl))) pss_nil)
   (pss_one (ps_ret (pv 5))))))), ?_⟩
  have hsp := RS.span_cases (cellAt ns i0)
  refine ⟨_, rfl, _, rfl, a, ns, i0, rfl, hS, hi0, ?_⟩
  refine ⟨by show 4 <= sizeLine; decide, fun L nL => ?_⟩
  refine ⟨_, rfl, _, _, rfl, rfl, ⟨by decide, by decide⟩, _, _, rfl, rfl, (by show (0 : Int) < 4; decide), L, _, _, _, rfl, rfl, SqL.of upd_same, span_at (cellAt ns i0), ?_⟩
  refine ⟨Nat.zero_le _, fun D nD => ?_⟩
  have sL : Same H (upd H L (.lst [.int 3, .int 1, .int 8, .int 1000])) := same_upd nL
  generalize hHL : upd H L (.lst [.int 3, .int 1, .int 8, .int 1000]) = HL at sL nD ⊢
  have hSL : SqL K HL a (ns.map V.int) := Same.seq sL hS
  obtain ⟨rl1, rl2, rl3⟩ := RS.raw_len ns i0 m hm0
  refine ⟨_, rfl, _, rfl, _, _, rfl, rfl, hm0, _, _, rfl, rfl, _, rfl, by lia, by lia, ?_⟩
  refine for_range (fun i σ H' => (∃ u v, σ = [some (.ref a), some (.int i0), some (.int m), some (.int (cellAt ns i0)), some (.int (spanAt (cellAt ns i0))), some (.ref D), u, v, none]) /\ Same HL H' /\ Pts H' D ((rawPoints ns i0 m).take i)) ⟨⟨none, none, rfl⟩, same_upd nD, [], upd_same, .nil⟩ ?_ ?_
  ·rintro i σ H' hi ⟨⟨u, v, rfl⟩, sm, pt⟩
   rw [Int.zero_add]
   refine g_go ?_
   have hk3 := Int.emod_nonneg (i : Int) (show (3 : Int) ≠ 0 by decide)
   refine ⟨_, rfl, _, rfl, _, _, rfl, rfl, _, rfl, _, _, rfl, rfl, (by show (0 : Int) < 3; decide), _, _, rfl, rfl, a, ns, _, rfl, Same.seq sm hSL, by lia, ?_⟩
   refine ⟨_, rfl, _, _, rfl, rfl, .inl ⟨by decide, by decide⟩, _, _, rfl, rfl, _, rfl, ?_⟩
   obtain ⟨ds, d1, d2⟩ := id pt
   have hpos : 0 < 2 * spanAt (cellAt ns i0) + 1 := by lia
   have hsm : 2 * spanAt (cellAt ns i0) + 1 < 1073741824 := by lia
   refine ⟨_, rfl, .inl ⟨rfl, _, SqL.of d1⟩, ?_⟩
   refine ⟨_, rfl, _, _, rfl, rfl, ⟨by decide, by decide⟩, _, rfl, _, _, rfl, rfl, .inl ⟨by decide, by decide⟩, _, _, rfl, rfl, _, _, rfl, rfl, hpos, _, rfl, _, _, rfl, rfl, ?_⟩
   refine ⟨_, rfl, _, _, rfl, rfl, ⟨by decide, by decide⟩, _, rfl, _, _, rfl, rfl, .inl ⟨by decide, by decide⟩, _, _, rfl, rfl, _, _, rfl, rfl, ⟨hpos, hsm⟩, ?_⟩
   refine ⟨_, rfl, _, _, rfl, rfl, .inl ⟨by decide, by decide⟩, _, _, rfl, rfl, _, _, rfl, rfl, hpos, _, rfl, _, _, rfl, rfl, ?_⟩
   refine ⟨by show 2 <= sizeLine; decide, fun t nt => ?_⟩
   have hir : i < (rawPoints ns i0 m).length := by rw [rl1]; exact hi
   have er : (rawPoints ns i0 m)[i]? = some (pointAt ns i0 (spanAt (cellAt ns i0)) i) := by
    unfold rawPoints
    rw [List.getElem?_map, List.getElem?_range hi]
    rfl
   have dl : ds.length <= 100 := by rw [Paired.length d2, List.length_take]; lia
   have nt' := nt
   refine ⟨D, _, _, rfl, rfl, (same_upd nt) _ _ d1, size100 (by rw [List.length_map]; lia), ⟨_, _, rfl⟩, ?_⟩
   obtain ⟨ys, y1, y2, y3, y4⟩ := pts_push (r := t) (v := pointAt ns i0 (spanAt (cellAt ns i0)) i) nD (sm.trans (same_upd nt)) (Pts.same (same_upd nt) pt) upd_same (by rw [List.length_take]; exact size100 (by lia))
   have y1' := (same_upd (o := .tup [.int (pointAt ns i0 (spanAt (cellAt ns i0)) i).1, .int (pointAt ns i0 (spanAt (cellAt ns i0)) i).2]) nt) _ _ d1
   rw [y1'] at y1
   cases y1
   rw [take_next er]
   exact ⟨y3, y4⟩
  ·rintro σ H' ⟨⟨u, v, rfl⟩, sm, pt⟩
   have en : (1 + cellAt ns i0 % m).toNat = (rawPoints ns i0 m).length := rl1.symm
   rw [en, List.take_of_length_le (Nat.le_refl _)] at pt
   refine ⟨_, rfl, _, _, rfl, rfl, ⟨by decide, by decide⟩, _, _, rfl, rfl, (by show (0 : Int) < 5; decide), rfl, _, rfl, ?_⟩
   unfold lawPoints at k
   have s1 := sL.trans sm
   refine ite2 (fun c => ?_) (fun c => ?_)
   ·have c' : cellAt ns i0 / 64 % 5 = 1 := by
     have := of_decide_eq_true c
     injection this
    rw [if_pos c'] at k
    refine ⟨_, rfl, _, _, rfl, rfl, ⟨by decide, by decide⟩, _, _, rfl, rfl, (by show (0 : Int) < 5; decide), _, _, rfl, rfl, ?_⟩
    obtain ⟨ds, d1, d2⟩ := id pt
    have dlen : ds.length = (rawPoints ns i0 m).length := Paired.length d2
    refine ⟨_, rfl, D, rfl, ⟨_, SqL.of d1⟩, fun D2 n2 => ?_⟩
    have l1 := Int.emod_nonneg (cellAt ns i0 / 320) (show (5 : Int) ≠ 0 by decide)
    have l2 := Int.emod_lt_of_pos (cellAt ns i0 / 320) (show (0 : Int) < 5 by decide)
    refine lc_list (K := K) (a := D) (D := D2) (xs := ds.map V.ref) (fun i σ H2 => (∃ u, σ = [u, some (.int (cellAt ns i0 / 320 % 5 - 2))]) /\ Same H' H2 /\ Pts H2 D2 (((rawPoints ns i0 m).map (fun p => (p.1, (cellAt ns i0 / 320 % 5 - 2) * p.1))).take i)) ⟨⟨none, rfl⟩, same_upd n2, [], upd_same, .nil⟩
     (fun i σ H2 _ ⟨_, sm2, _⟩ => SqL.of (sm2 _ _ d1)) ?_ ?_
    ·rintro i x σ H2 ex ⟨⟨u', rfl⟩, sm2, pt2⟩
     obtain ⟨b, eb, rfl⟩ := map_ref ex
     obtain ⟨p, ep, tp⟩ := paired_get d2 i b eb
     have hi : i < (rawPoints ns i0 m).length := (List.getElem?_eq_some_iff.mp ep).1
     refine g_go ?_
     refine yes_go ?_
     have ta := SqT.of (K := K) (sm2 _ _ tp)
     refine ⟨_, rfl, b, _, _, _, rfl, rfl, ta, rfl, _, rfl, _, rfl, b, _, _, _, rfl, rfl, ta, rfl, _, _, rfl, rfl, .inl ⟨by lia, by lia⟩, by show 2 <= sizeLine; decide, fun t nt => ?_⟩
     have er : ((rawPoints ns i0 m).map (fun p => (p.1, (cellAt ns i0 / 320 % 5 - 2) * p.1)))[i]? = some (p.1, (cellAt ns i0 / 320 % 5 - 2) * p.1) := by rw [List.getElem?_map, ep]; rfl
     obtain ⟨ys, y1, y2, y3, y4⟩ := pts_push (r := t) (v := (p.1, (cellAt ns i0 / 320 % 5 - 2) * p.1)) n2 (sm2.trans (same_upd nt)) (Pts.same (same_upd nt) pt2) upd_same (by rw [List.length_take]; exact size100 (by lia))
     exact ⟨ys, y1, y2, ⟨_, rfl⟩, y3, by rw [take_next er]; exact y4⟩
    ·rintro σ H2 ⟨_, sm2, pt2⟩
     rw [List.length_map, dlen, List.take_of_length_le (by rw [List.length_map]; exact Nat.le_refl _)] at pt2
     exact ⟨_, rfl, k D2 H2 (s1.trans sm2) (s1.free n2) pt2⟩
   ·have c' : ¬ cellAt ns i0 / 64 % 5 = 1 := fun z => c (decide_eq_true (congrArg V.int z))
    rw [if_neg c'] at k
    exact ⟨_, rfl, k D H' s1 (sL.free nD) pt⟩
theorem scSh : FnScope ["script", "at", "most"] ["script", "at", "most"] (defScope sShape) := ⟨rfl, rfl, rfl, by decide +kernel, rfl, by decide +kernel, by decide +kernel⟩
theorem ok_shape {f f1 f2 : Addr} {fd fd1 fd2 : FuncData} (F : Fun K "_law_shape" "_law_shape" sShape f fd)
  (G1 : FnOk P w K mg base CX0 2 f1 fd1 ["script", "at", "most"] (spPoints K lawPoints)) (k1 : PySem.W.keepIn K (.ref f1) = true) (b1 : Binds K fd1 ["script", "at", "most"] []) (m1 : mg "_law_points" = some (.ref f1))
  (G2 : FnOk P w K mg base CX0 3 f2 fd2 ["points"] (spPtsN 60 (2 ^ 60) hull)) (k2 : PySem.W.keepIn K (.ref f2) = true) (b2 : Binds K fd2 ["points"] []) (m2 : mg "_law_hull" = some (.ref f2)) :
  FnOk P w K mg base CX0 4 f fd ["script", "at", "most"] (spPoints K lawShape) := by
 refine F.ok scSh (fun vs H Q E h => ?_) (fun cdv A outer s H vs Q E hr h => ?_)
 ·obtain ⟨a, ns, i, m, rfl, _⟩ := h
  rfl
 ·obtain ⟨a, ns, i0, m, rfl, hS, hi0, hm0, hm1, k⟩ := h
  refine ⟨_, pss_one (ps_ret (pe_call G2 hr rfl m2 k2 b2 .nil pass0 (pa_cons (pe_call G1 (hr.mono (by decide)) rfl m1 k1 b1 .nil pass0 (pa_cons (pv 0) (pa_cons (pv 1) (pa_cons (pv 2) pa_nil)))) pa_nil))), ?_⟩
  refine ⟨_, rfl, _, rfl, _, rfl, a, ns, i0, m, rfl, hS, hi0, hm0, hm1, fun r1 H1 s1 n1 p1 => ?_⟩
  obtain ⟨l1, l2⟩ := RS.law_len ns i0 m hm0
  refine ⟨r1, _, rfl, p1, l2, by lia, fun p hp => ?_, fun r H' s2 n2 p2 => k r H' (s1.trans s2) (s1.free n2) p2⟩
  have := RS.law_bd ns i0 m p hp
  unfold Bd
  lia
end
end K1
namespace K1
open PySem L2
open RS (Pt arrow cross fstHalf before round isShape half bad lawSides good)
noncomputable abbrev sHalf : Stmt := top 32
noncomputable abbrev sSides : Stmt := top 33
noncomputable abbrev sGood : Stmt := top 34
inductive spInt1 (f : Pt -> Int) (vs : List V) (H : Hp) (Q : VK) (u3 : XK) : Prop
 | mk (a : _) (p : _) (c0 : vs = [.ref a]) (c1 : Tp H a p) (c2 : Q (.int (f p)) H) : spInt1 f vs H Q u3
theorem round_get {ps : List Pt} {k : Nat} {p q : Pt} (hp : ps[k]? = some p) (hq : ps[(k + 1) % ps.length]? = some q) : (round ps)[k]? = some (arrow p q) := by
 have hk : k < ps.length := (List.getElem?_eq_some_iff.mp hp).1
 unfold round
 rw [List.getElem?_zipWith, hp]
 have e : (ps.drop 1 ++ ps.take 1)[k]? = some q := by
  rw [<- hq]
  rcases Nat.lt_or_ge (k + 1) ps.length with h | h
  ·rw [List.getElem?_append_left (by rw [List.length_drop]; omega), List.getElem?_drop, Nat.mod_eq_of_lt h, Nat.add_comm]
  ·have e1 : k + 1 = ps.length := by lia
   rw [List.getElem?_append_right (by rw [List.length_drop]; omega), List.length_drop, e1, Nat.mod_self]
   have e2 : k - (ps.length - 1) = 0 := by lia
   rw [e2, List.getElem?_take]
   simp
 rw [e]
theorem bd_sides {ps : List Pt} (h : ∀ p ∈ ps, Bd (2 ^ 60) p) : ∀ a ∈ lawSides ps, Bd (2 ^ 62) a := fun a ha => by
 unfold lawSides at ha
 split at ha
 ·cases ha
 ·exact bd_round h a ha
theorem sides_len (ps : List Pt) : (lawSides ps).length <= ps.length := by
 unfold lawSides
 split
 ·simp
 ·rw [RS.round_length]; exact Nat.le_refl _
theorem atI_i {xs : List V} {x : V} {i : Int} {j : Nat} (hi : i = (j : Int)) (h : xs[j]? = some x) : atI xs i = some x := by
 rw [hi]
 exact atI_nat h
theorem ref_get {as : List Addr} {i : Nat} {a : Addr} (h : as[i]? = some a) : (as.map V.ref)[i]? = some (V.ref a) := by
 rw [List.getElem?_map, h]
 rfl
section
variable {P : Program} {w : World} {K : PySem.W.Frag} {mg : Str -> Option Value} {base : Heap}
theorem scHf : FnScope ["arrow"] ["arrow"] (defScope sHalf) := ⟨rfl, rfl, rfl, by decide +kernel, rfl, by decide +kernel, by decide +kernel⟩
theorem ok_half {f : Addr} {fd : FuncData} (F : Fun K "_law_half" "_law_half" sHalf f fd) (mi : mg "int" = none) : FnOk P w K mg base CX0 1 f fd ["arrow"] (spInt1 half) := by
 refine F.ok scHf (fun vs H Q E h => ?_) (fun cdv A outer s H vs Q E hr h => ?_)
 ·obtain ⟨a, p, rfl, _⟩ := h
  rfl
 ·obtain ⟨a, p, rfl, ha, k⟩ := h
  refine ⟨_, pss_one (ps_ret (pe_callTy call_int1 rfl mi bootInt (pa_cons (pe_or (pe_cmpR op_lt (pe_ix ix_tup (pv 0) pe_int (fun _ _ => rfl)) pe_int (nomark _))
   (pe_one (pe_and (pe_cmpR op_eq (pe_ix ix_tup (pv 0) pe_int (fun _ _ => rfl)) pe_int (nomark _)) (pe_one (pe_cmpR op_lt (pe_ix ix_tup (pv 0) pe_int (fun _ _ => rfl)) pe_int (nomark _)))))) pa_nil))), ?_⟩
  refine ⟨_, rfl, a, _, _, _, rfl, rfl, SqT.of ha, rfl, _, _, rfl, rfl, _, rfl, ?_⟩
  unfold half at k
  refine ite2 (fun h1 => ?_) (fun h1 => ?_)
  ·rw [h1] at k
   exact .inr ⟨_, rfl, k⟩
  ·rw [Bool.eq_false_iff.mpr h1, Bool.false_or] at k
   refine ⟨_, rfl, a, _, _, _, rfl, rfl, SqT.of ha, rfl, rfl, _, rfl, ?_⟩
   refine ite2 (fun h2 => ?_) (fun h2 => ?_)
   ·refine ⟨_, rfl, a, _, _, _, rfl, rfl, SqT.of ha, rfl, _, _, rfl, rfl, ?_⟩
    have e2 : decide (p.2 = 0) = true := by simpa using h2
    rw [e2, Bool.true_and] at k
    exact .inr ⟨_, rfl, k⟩
   ·have e2 : decide (p.2 = 0) = false := by simpa using h2
    rw [e2, Bool.false_and] at k
    exact .inr ⟨_, rfl, k⟩
theorem scSi : FnScope ["corners", "found", "k"] ["corners"] (defScope sSides) := ⟨rfl, rfl, rfl, by decide +kernel, rfl, by decide +kernel, by decide +kernel⟩
theorem ok_sides {f f2 : Addr} {fd fd2 : FuncData} (F : Fun K "_law_sides" "_law_sides" sSides f fd)
  (G2 : FnOk P w K mg base CX0 1 f2 fd2 ["one", "other"] (spPt2 arrow)) (k2 : PySem.W.keepIn K (.ref f2) = true) (b2 : Binds K fd2 ["one", "other"] []) (m2 : mg "_law_arrow" = some (.ref f2))
  (ml : mg "len" = none) (mr : mg "range" = none) : FnOk P w K mg base CX0 2 f fd ["corners"] (spPts1 (2 ^ 60) lawSides) := by
 refine F.ok scSi (fun vs H Q E h => ?_) (fun cdv A outer s H vs Q E hr h => ?_)
 ·obtain ⟨l, ps, rfl, _⟩ := h
  rfl
 ·obtain ⟨l, ps, rfl, hl, hn, hB, k⟩ := h
  refine ⟨_, pss_cons (ps_if (pt_cmpR op_lt (pe_callB call_len_seq rfl ml PySem.boot_len (pa_cons (pv 0) pa_nil)) pe_int (nomark _)) (pss_one (ps_ret (pe_lst pa_nil))) pss_nil)
   (pss_cons (ps_set (i := 1) scSi.nd rfl (Or.inl rfl) (pe_lst pa_nil))
   (pss_cons (ps_for PassesOwn.never rfl (pi_range1 rfl mr (pa_cons (pe_callB call_len_seq rfl ml PySem.boot_len (pa_cons (pv 0) pa_nil)) pa_nil)) (pg_name (i := 2) scSi.nd rfl (Or.inl rfl))
    (pss_one (ps_expr (pe_bm PySem.F.plainAttrs_list PySem.F.slot_list_append PySem.F.type_list_append mt_append (pv 1) (pa_cons (pe_call G2 hr rfl m2 k2 b2 .nil pass0 (pa_cons (pe_ix ix_list (pv 0) (pv 2) (fun _ _ => rfl))
     (pa_cons (pe_ix ix_list (pv 0) (pe_op op_mod (pe_op op_add (pv 2) pe_int) (pe_callB call_len_seq rfl ml PySem.boot_len (pa_cons (pv 0) pa_nil))) (fun _ _ => rfl)) pa_nil))) pa_nil)))))
   (pss_one (ps_ret (pv 1))))), ?_⟩
  obtain ⟨as, h1, h2⟩ := id hl
  have hlen : as.length = ps.length := Paired.length h2
  have el : (as.map V.ref).length = ps.length := by rw [List.length_map, hlen]
  refine ⟨_, rfl, l, _, rfl, .inl (SqL.of h1), _, _, rfl, rfl, _, rfl, ?_⟩
  unfold lawSides at k
  refine ite2 (fun c => ?_) (fun c => ?_)
  ·have c' : ps.length < 2 := by
    have := of_decide_eq_true c
    lia
   rw [if_pos c'] at k
   exact ⟨Nat.zero_le _, fun D nD => k D _ (same_upd nD) nD ⟨[], upd_same, .nil⟩⟩
  ·have c' : ¬ ps.length < 2 := fun z => c (decide_eq_true (by lia))
   rw [if_neg c'] at k
   refine ⟨Nat.zero_le _, fun D nD => ?_⟩
   have s0 : Same H (upd H D (.lst [])) := same_upd nD
   refine ⟨_, rfl, l, _, rfl, .inl (SqL.of (s0 _ _ h1)), _, rfl, by (clear nD c' c el hlen h1 hn mr ml m2 k2; lia), by lia, ?_⟩
   refine for_range (fun i σ H' => (∃ u, σ = [some (.ref l), some (.ref D), u]) /\ Same H H' /\ Pts H' D ((round ps).take i)) ⟨⟨none, rfl⟩, s0, [], upd_same, .nil⟩ ?_ ?_
   ·rintro i σ H' hi ⟨⟨u, rfl⟩, sm, pt⟩
    have hi' : i < ps.length := by lia
    rw [Int.zero_add]
    refine g_go ?_
    obtain ⟨ds, d1, d2⟩ := id pt
    have hj : (i + 1) % ps.length < ps.length := Nat.mod_lt _ (by lia)
    obtain ⟨a, ea, tp⟩ := Ats.get h2 (List.getElem?_eq_getElem hi')
    obtain ⟨b, eb, tq⟩ := Ats.get h2 (List.getElem?_eq_getElem hj)
    refine ⟨_, rfl, .inl ⟨rfl, _, SqL.of d1⟩, ?_⟩
    refine ⟨_, rfl, _, rfl, l, _, _, _, rfl, rfl, SqL.of (sm _ _ h1), atI_nat (ref_get ea), ?_⟩
    refine ⟨_, rfl, _, rfl, _, _, rfl, rfl, _, rfl, l, _, rfl, .inl (SqL.of (sm _ _ h1)), _, _, rfl, rfl, (by show (0 : Int) < ((as.map V.ref).length : Int); lia), ?_⟩
    refine ⟨l, _, _, _, rfl, rfl, SqL.of (sm _ _ h1), atI_i (j := (i + 1) % ps.length) (by rw [el]; push_cast; rfl) (ref_get eb), ?_⟩
    refine ⟨a, b, _, _, rfl, sm _ _ tp, sm _ _ tq, fun t H3 s3 t3 => ?_⟩
    have er := round_get (List.getElem?_eq_getElem hi') (List.getElem?_eq_getElem hj)
    refine ⟨D, _, _, rfl, rfl, s3 _ _ d1, size100 (by rw [List.length_map, Paired.length d2, List.length_take, RS.round_length]; lia), ⟨_, rfl⟩, ?_⟩
    obtain ⟨ys, y1, y2, y3, y4⟩ := pts_push nD (sm.trans s3) (Pts.same s3 pt) t3 (by rw [List.length_take, RS.round_length]; exact size100 (by (clear m2 k2 c' c el hlen er eb hi nD mr ml ea d1 h1; omega)))
    rw [s3 _ _ d1] at y1
    cases y1
    rw [take_next er]
    exact ⟨y3, y4⟩
   ·rintro σ H' ⟨⟨u, rfl⟩, sm, pt⟩
    have en : ((as.map V.ref).length : Int).toNat = (round ps).length := by rw [RS.round_length]; lia
    rw [en, List.take_of_length_le (Nat.le_refl _)] at pt
    exact ⟨_, rfl, k D H' sm nD pt⟩
theorem scGo : FnScope ["corners", "arrows", "k", "ahead", "here"] ["corners"] (defScope sGood) := ⟨rfl, rfl, rfl, by decide +kernel, rfl, by decide +kernel, by decide +kernel⟩
theorem ok_good {f f1 f2 f3 : Addr} {fd fd1 fd2 fd3 : FuncData} (F : Fun K "_law_good" "_law_good" sGood f fd)
  (G1 : FnOk P w K mg base CX0 2 f1 fd1 ["corners"] (spPts1 (2 ^ 60) lawSides)) (k1 : PySem.W.keepIn K (.ref f1) = true) (b1 : Binds K fd1 ["corners"] []) (m1 : mg "_law_sides" = some (.ref f1))
  (G2 : FnOk P w K mg base CX0 1 f2 fd2 ["arrow"] (spInt1 half)) (k2 : PySem.W.keepIn K (.ref f2) = true) (b2 : Binds K fd2 ["arrow"] []) (m2 : mg "_law_half" = some (.ref f2))
  (G3 : FnOk P w K mg base CX0 1 f3 fd3 ["one", "other"] (spInt2 (2 ^ 62) cross)) (k3 : PySem.W.keepIn K (.ref f3) = true) (b3 : Binds K fd3 ["one", "other"] []) (m3 : mg "_law_cross" = some (.ref f3))
  (ml : mg "len" = none) (mr : mg "range" = none) : FnOk P w K mg base CX0 3 f fd ["corners"] (spPtsBl (2 ^ 60) good) := by
 refine F.ok scGo (fun vs H Q E h => ?_) (fun cdv A outer s H vs Q E hr h => ?_)
 ·obtain ⟨l, ps, rfl, _⟩ := h
  rfl
 ·obtain ⟨l, ps, rfl, hl, hn, hB, k⟩ := h
  have hu := hu_of hr
  have hr1 := hr.mono (j := 1) (by decide)
  refine ⟨_, pss_cons (ps_set (i := 1) scGo.nd rfl (Or.inl rfl) (pe_call G1 hr rfl m1 k1 b1 .nil pass0 (pa_cons (pv 0) pa_nil)))
   (pss_cons (ps_if (PW.pt (pw_or (pt_cmpR op_eq (pe_callB call_len_seq rfl ml PySem.boot_len (pa_cons (pv 0) pa_nil)) pe_int (nomark _)) (pw_or1 (pt_cmpR (op_inPts hu) (pe_tup (pa_cons pe_int (pa_cons pe_int pa_nil))) (pv 1) rfl)))) (pss_one (ps_ret pe_bl)) pss_nil)
   (pss_cons (ps_if (PW.pt (pw_and (pt_cmpR op_gt (pe_callB call_len_seq rfl ml PySem.boot_len (pa_cons (pv 1) pa_nil)) pe_int (nomark _)) (pw_and1 (pt_cmpR op_eq (pe_call G2 hr1 rfl m2 k2 b2 .nil pass0 (pa_cons (pe_ix ix_list (pv 1) pe_int (fun _ _ => rfl)) pa_nil)) pe_int (nomark _))))) (pss_one (ps_ret pe_bl)) pss_nil)
   (pss_cons (ps_for PassesOwn.never rfl (pi_range2 rfl mr (pa_cons pe_int (pa_cons (pe_callB call_len_seq rfl ml PySem.boot_len (pa_cons (pv 1) pa_nil)) pa_nil))) (pg_name (i := 2) scGo.nd rfl (Or.inl rfl))
    (pss_cons (ps_set (i := 3) scGo.nd rfl (Or.inl rfl) (pe_call G2 hr1 rfl m2 k2 b2 .nil pass0 (pa_cons (pe_ix ix_list (pv 1) (pe_op op_sub (pv 2) pe_int) (fun _ _ => rfl)) pa_nil)))
    (pss_cons (ps_set (i := 4) scGo.nd rfl (Or.inl rfl) (pe_call G2 hr1 rfl m2 k2 b2 .nil pass0 (pa_cons (pe_ix ix_list (pv 1) (pv 2) (fun _ _ => rfl)) pa_nil)))
    (pss_one (ps_if (PW.pt (pw_or (pt_cmpR op_gt (pv 3) (pv 4) (nomark _)) (pw_or1 (PW.pt (pw_and (pt_cmpR op_eq (pv 3) (pv 4) (nomark _)) (pw_and1 (pt_cmpR op_le (pe_call G3 hr1 rfl m3 k3 b3 .nil pass0 (pa_cons (pe_ix ix_list (pv 1) (pe_op op_sub (pv 2) pe_int) (fun _ _ => rfl)) (pa_cons (pe_ix ix_list (pv 1) (pv 2) (fun _ _ => rfl)) pa_nil))) pe_int (nomark _))))))))
     (pss_one (ps_ret pe_bl)) pss_nil)))))
   (pss_one (ps_ret pe_bl))))), ?_⟩
  obtain ⟨as, h1, h2⟩ := id hl
  have hlen : as.length = ps.length := Paired.length h2
  have el : (as.map V.ref).length = ps.length := by rw [List.length_map, hlen]
  refine ⟨_, rfl, l, ps, rfl, hl, hn, hB, fun r H2 s2 nr pr => ?_⟩
  obtain ⟨rs, r1, r2⟩ := id pr
  have rlen : rs.length = (lawSides ps).length := Paired.length r2
  have rel : (rs.map V.ref).length = (lawSides ps).length := by rw [List.length_map, rlen]
  have slen := sides_len ps
  have sB := bd_sides hB
  unfold good at k
  refine ⟨_, rfl, l, _, rfl, .inl (SqL.of (s2 _ _ h1)), rfl, _, rfl, ?_⟩
  refine ite2 (fun c1 => iteT ?_) (fun c1 => ?_)
  ·have c1' : ps.length = 0 := by
    have := of_decide_eq_true c1
    injection this with this
    lia
   rw [if_pos (.inl c1')] at k
   exact k _ s2
  have c1' : ¬ ps.length = 0 := fun z => c1 (decide_eq_true (by rw [el, z]; rfl))
  refine ⟨by show 2 <= sizeLine; decide, fun t nt => ?_⟩
  have st := s2.trans (same_upd (o := .tup [.int 0, .int 0]) nt)
  have s23 : Same H2 (upd H2 t (.tup [.int 0, .int 0])) := same_upd nt
  refine ⟨_, rfl, t, r, (0, 0), lawSides ps, rfl, rfl, upd_same, Pts.same s23 pr, _, rfl, ?_⟩
  generalize hH3 : upd H2 t (.tup [.int 0, .int 0]) = H3 at st s23 ⊢
  refine ite2 (fun c2 => ?_) (fun c2 => ?_)
  ·rw [if_pos (.inr (of_decide_eq_true c2))] at k
   exact k _ st
  have c2' : ¬ (0, 0) ∈ lawSides ps := fun z => c2 (decide_eq_true z)
  rw [if_neg (fun z => z.elim c1' c2')] at k
  have r3 := s23 _ _ r1
  have a3 : Ats H3 rs (lawSides ps) := Ats.same s23 r2
  have loop : (∀ H', Same H H' -> Q (.bl ((List.zipWith bad (lawSides ps) ((lawSides ps).drop 1)).all (! ·))) H') ->
    tSeq (tFor (iRng2 (tCons (tC (.int 1)) (tCons (tCB (fun xs H Q => ∃ p ys, xs = [.ref p] /\ (SqL K H p ys \/ SqT K H p ys) /\ Q (.int ys.length) H) (tCons (tVar 1) tNil)) tNil))) (gName 2)
     (tSeq (tAsg (tCall (spInt1 half) [] E0 (tCons (tOp (rIxL K) (tVar 1) (tOp (rI0 fun i j => .int (i - j)) (tVar 2) (tC (.int 1)))) tNil)) (gName 3))
      (tSeq (tAsg (tCall (spInt1 half) [] E0 (tCons (tOp (rIxL K) (tVar 1) (tVar 2)) tNil)) (gName 4))
       (tIfS (tOr (tTest (tOp (rI0 fun i j => .bl (decide (j < i))) (tVar 3) (tVar 4))) (tAnd (tTest (tOp rEq (tVar 3) (tVar 4))) (tTest (tOp (rI0 fun i j => .bl (decide (i <= j))) (tCall (spInt2 (2 ^ 62) cross) [] E0 (tCons (tOp (rIxL K) (tVar 1) (tOp (rI0 fun i j => .int (i - j)) (tVar 2) (tC (.int 1)))) (tCons (tOp (rIxL K) (tVar 1) (tVar 2)) tNil))) (tC (.int 0))))))
        (tRet (tC (.bl false))) tNext)))) (tRet (tC (.bl true))) { nx := fun _ H' => Q .non H', rt := Q } [some (.ref l), some (.ref r), none, none, none] H3 := by
   intro k
   refine ⟨_, rfl, r, _, rfl, .inl (SqL.of r3), 1, _, rfl, ⟨by lia, by lia, by (clear r3 c2' c2 hH3 nt c1' c1 slen rel rlen r1 nr el hlen h1 hu hn mr ml m3 k3 m2 k2 m1 k1; omega), by lia⟩, ?_⟩
   refine for_range (fun i σ H' => (∃ u v w, σ = [some (.ref l), some (.ref r), u, v, w]) /\ H' = H3 /\ ((List.zipWith bad (lawSides ps) ((lawSides ps).drop 1)).take i).all (! ·) = true) ⟨⟨_, _, _, rfl⟩, rfl, rfl⟩ ?_ ?_
   ·rintro i σ H' hi ⟨⟨u, v, w', rfl⟩, rfl, ok⟩
    refine g_go ?_
    have hi1 : i + 1 < (lawSides ps).length := by lia
    obtain ⟨a, ea, tp⟩ := Ats.get a3 (List.getElem?_eq_getElem (show i < (lawSides ps).length by lia))
    obtain ⟨b, eb, tq⟩ := Ats.get a3 (List.getElem?_eq_getElem hi1)
    have ia : atI (rs.map V.ref) ((1 + (i : Int)) - 1) = some (.ref a) := atI_i (j := i) (by lia) (ref_get ea)
    have ib : atI (rs.map V.ref) (1 + (i : Int)) = some (.ref b) := atI_i (j := i + 1) (by lia) (ref_get eb)
    refine ⟨_, rfl, _, rfl, _, _, rfl, rfl, r, _, _, _, rfl, rfl, SqL.of r3, ia, a, _, rfl, tp, ?_⟩
    refine ⟨_, rfl, _, rfl, r, _, _, _, rfl, rfl, SqL.of r3, ib, b, _, rfl, tq, ?_⟩
    have ez : (List.zipWith bad (lawSides ps) ((lawSides ps).drop 1))[i]? = some (bad ((lawSides ps)[i]'(by lia)) ((lawSides ps)[i + 1])) := by
     rw [List.getElem?_zipWith, List.getElem?_eq_getElem (show i < (lawSides ps).length by lia), List.getElem?_drop, Nat.add_comm 1 i, List.getElem?_eq_getElem hi1]
    generalize hp : (lawSides ps)[i]'(by lia) = p at ez tp ⊢
    generalize hq : (lawSides ps)[i + 1] = q at ez tq ⊢
    have hpB : Bd (2 ^ 62) p := sB p (by rw [<- hp]; exact List.getElem_mem _)
    have bad_end : bad p q = true -> Q (.bl false) H' := fun hb => by
     have : (List.zipWith bad (lawSides ps) ((lawSides ps).drop 1)).all (! ·) = false := by
      rw [<- Bool.not_eq_true]
      intro z
      have := List.all_eq_true.mp z _ (List.mem_of_getElem? ez)
      rw [hb] at this
      cases this
     rw [this] at k
     exact k _ st
    have good_on : bad p q = false -> ((List.zipWith bad (lawSides ps) ((lawSides ps).drop 1)).take (i + 1)).all (! ·) = true := fun hb => by
     rw [take_next ez, List.all_append, ok, hb]
     rfl
    unfold bad at bad_end good_on
    refine ⟨_, rfl, _, rfl, _, _, rfl, rfl, _, rfl, ?_⟩
    refine ite2 (fun d1 => iteT ?_) (fun d1 => ?_)
    ·exact bad_end (by rw [d1]; rfl)
    rw [Bool.eq_false_iff.mpr d1, Bool.false_or] at bad_end good_on
    refine ⟨_, rfl, _, rfl, rfl, _, rfl, ?_⟩
    refine ite2 (fun d2 => ?_) (fun d2 => ?_)
    ·have d2' : half p = half q := by
      have := of_decide_eq_true d2
      injection this
     rw [decide_eq_true d2', Bool.true_and] at bad_end good_on
     refine ⟨_, rfl, _, rfl, _, _, rfl, rfl, r, _, _, _, rfl, rfl, SqL.of r3, ia, _, rfl, _, rfl, r, _, _, _, rfl, rfl, SqL.of r3, ib, a, b, p, q, rfl, tp, tq, hpB, _, _, rfl, rfl, _, rfl, ?_⟩
     refine ite2 (fun d3 => ?_) (fun d3 => ?_)
     ·exact bad_end d3
     ·exact ⟨⟨_, _, _, rfl⟩, rfl, good_on (Bool.eq_false_iff.mpr d3)⟩
    ·have d2' : ¬ half p = half q := fun z => d2 (decide_eq_true (congrArg V.int z))
     rw [decide_eq_false d2', Bool.false_and] at good_on
     exact iteF ⟨⟨_, _, _, rfl⟩, rfl, good_on rfl⟩
   ·rintro σ H' ⟨⟨u, v, w', rfl⟩, rfl, ok⟩
    have en : (List.zipWith bad (lawSides ps) ((lawSides ps).drop 1)).take (((rs.map V.ref).length : Int) - 1).toNat = List.zipWith bad (lawSides ps) ((lawSides ps).drop 1) := by
     refine List.take_of_length_le ?_
     rw [List.length_zipWith, List.length_drop]
     lia
    rw [en] at ok
    rw [ok] at k
    exact k _ st
  refine ⟨_, rfl, r, _, rfl, .inl (SqL.of r3), _, _, rfl, rfl, _, rfl, ?_⟩
  refine ite2 (fun c3 => ?_) (fun c3 => iteF ?_)
  ·have c3' : 0 < (lawSides ps).length := by
    have := of_decide_eq_true c3
    lia
   obtain ⟨a, ea, tp⟩ := Ats.get a3 (List.getElem?_eq_getElem c3')
   have eh : (lawSides ps).headD (0, 0) = (lawSides ps)[0] := by
    rw [List.headD_eq_head?_getD, List.head?_eq_getElem?, List.getElem?_eq_getElem c3']
    rfl
   rw [eh] at k
   refine ⟨_, rfl, r, _, _, _, rfl, rfl, SqL.of r3, atI_i (j := 0) rfl (ref_get ea), a, _, rfl, tp, rfl, _, rfl, ?_⟩
   refine ite2 (fun c4 => ?_) (fun c4 => ?_)
   ·have c4' : half (lawSides ps)[0] = 1 := by
     have := of_decide_eq_true c4
     injection this
    rw [if_pos ⟨c3', c4'⟩] at k
    exact k _ st
   ·have c4' : ¬ half (lawSides ps)[0] = 1 := fun z => c4 (decide_eq_true (congrArg V.int z))
    rw [if_neg (fun z => c4' z.2)] at k
    exact loop k
  ·have c3' : ¬ 0 < (lawSides ps).length := fun z => c3 (decide_eq_true (by lia))
   rw [if_neg (fun z => c3' z.1)] at k
   exact loop k
end
end K1
namespace K1
open PySem L2
open RS (Pt arrow cross isShape dot holdsM cellAt lawShape)
noncomputable abbrev sLike : Stmt := top 31
theorem bootTuple : bootBuiltins "tuple" = some (.type "tuple") := by decide +kernel
inductive spLike (vs : List V) (H : Hp) (Q : VK) (u3 : XK) : Prop
 | mk (l : _) (b : _) (ps : _) (qs : _) (c0 : vs = [.ref l, .ref b]) (c1 : Pts H l ps) (c2 : Pts H b qs) (c3 : ∀ H', Same H H' -> Q (.bl (decide (ps = qs))) H') : spLike  vs H Q u3
section
variable {P : Program} {w : World} {K : PySem.W.Frag} {mg : Str -> Option Value} {base : Heap}
theorem scLk : FnScope ["found", "due", "point"] ["found", "due"] (defScope sLike) := ⟨rfl, rfl, rfl, by decide +kernel, rfl, by decide +kernel, by decide +kernel⟩
theorem ok_like {f : Addr} {fd : FuncData} (F : Fun K "_law_points_like" "_law_points_like" sLike f fd) (mis : mg "isinstance" = none) (mli : mg "list" = none) (mtu : mg "tuple" = none) (mi : mg "int" = none) (mb : mg "bool" = none) (ml : mg "len" = none) (ma : mg "all" = none) :
  FnOk P w K mg base CX0 1 f fd ["found", "due"] spLike := by
 refine F.ok scLk (fun vs H Q E h => ?_) (fun cdv A outer s H vs Q E hr h => ?_)
 ·obtain ⟨l, b, ps, qs, rfl, _⟩ := h
  rfl
 ·obtain ⟨l, b, ps, qs, rfl, hl, hb, k⟩ := h
  have hu := hu_of hr
  refine ⟨_, pss_cons (ps_if (PW.pt (pw_or (pt_not (pt_val (pe_callB call_isi' rfl mis bootIsi (pa_cons (pv 0) (pa_cons (pe_bltn (v := .ty "list") rfl mli bootList rfl) pa_nil))))) (pw_or1 (pt_cmpR op_ne (pe_callB call_len_seq rfl ml PySem.boot_len (pa_cons (pv 0) pa_nil)) (pe_callB call_len_seq rfl ml PySem.boot_len (pa_cons (pv 1) pa_nil)) (nomark _))))) (pss_one (ps_ret pe_bl)) pss_nil)
   (pss_cons (ps_for PassesOwn.never rfl (pi_list (pv 0)) (pg_name (i := 2) scLk.nd rfl (Or.inl rfl))
    (pss_cons (ps_if (PW.pt (pw_or (pt_not (pt_val (pe_callB call_isi' rfl mis bootIsi (pa_cons (pv 2) (pa_cons (pe_bltn (v := .ty "tuple") rfl mtu bootTuple rfl) pa_nil))))) (pw_or1 (pt_cmpR op_ne (pe_callB call_len_seq rfl ml PySem.boot_len (pa_cons (pv 2) pa_nil)) pe_int (nomark _))))) pss_never pss_nil)
    (pss_one (ps_if (pt_not (pt_val (pe_callB (call_all_bls rfl) rfl ma bootAll (pa_cons
     (pe_lc (tn := ["one"]) (cs := []) (g := gName 0) (tt := tYes) (te := tAndV (tCB (rIsi K) (tCons (tVar 0) (tCons (tC (.ty "int")) tNil))) (tNotV (tCB (rIsi K) (tCons (tVar 0) (tCons (tC (.ty "bool")) tNil)))))
      (Caps.none (by decide +kernel) rfl (by decide +kernel)) rfl
      (pi_tup (pv 2))
      (fun C s₀ H₀ fp xe => pg_name (i := 0) nodup1 rfl (Or.inl rfl) (.inr rfl))
      (fun C s₀ H₀ fp xe => pts_nil)
      (fun C s₀ H₀ fp xe => pe_and (pe_callB call_isi' rfl mis bootIsi (pa_cons (pv 0) (pa_cons (pe_bltn (v := .ty "int") rfl mi bootInt rfl) pa_nil))) (pe_one (pe_not (pe_callB call_isi' rfl mis bootIsi (pa_cons (pv 0) (pa_cons (pe_bltn (v := .ty "bool") rfl mb bootBool rfl) pa_nil))))))) pa_nil)))) pss_never pss_nil))))
   (pss_one (ps_ret (pe_cmpR (op_eqPts hu) (pv 0) (pv 1) (nomark _))))), ?_⟩
  obtain ⟨as, h1, h2⟩ := id hl
  obtain ⟨bs, g1, g2⟩ := id hb
  have hlen : as.length = ps.length := Paired.length h2
  have glen : bs.length = qs.length := Paired.length g2
  refine ⟨_, rfl, _, "list", _, true, rfl, .lst h1, rfl, _, rfl, iteF ?_⟩
  refine ⟨_, rfl, l, _, rfl, .inl (SqL.of h1), _, rfl, b, _, rfl, .inl (SqL.of g1), rfl, _, rfl, ?_⟩
  refine ite2 (fun c => ?_) (fun c => ?_)
  ·have hne : ¬ ps = qs := fun z => by
    have e : V.int ((as.map V.ref).length : Int) = V.int ((bs.map V.ref).length : Int) := by rw [List.length_map, List.length_map, hlen, glen, z]
    rw [decide_eq_true e] at c
    cases c
   rw [decide_eq_false hne] at k
   exact k H (Same.refl H)
  ·refine ⟨_, rfl, l, rfl, ⟨_, SqL.of h1⟩, ?_⟩
   refine for_list (xs := as.map V.ref) (fun i σ H' => (∃ u, σ = [some (.ref l), some (.ref b), u]) /\ Same H H') ⟨⟨none, rfl⟩, Same.refl H⟩ (fun i σ H' _ ⟨_, sm⟩ => SqL.of (sm _ _ h1)) ?_ ?_
   ·rintro i x σ H' ex ⟨⟨u, rfl⟩, sm⟩
    obtain ⟨a, ea, rfl⟩ := map_ref ex
    obtain ⟨p, ep, tp⟩ := paired_get h2 i a ea
    have tp' := sm _ _ tp
    refine g_go ?_
    refine ⟨_, rfl, _, "tuple", _, true, rfl, .tup tp', rfl, _, rfl, iteF ?_⟩
    refine ⟨_, rfl, a, _, rfl, .inr (SqT.of tp'), rfl, _, rfl, iteNS rfl ?_⟩
    refine ⟨_, rfl, a, rfl, ⟨_, SqT.of tp'⟩, fun D nD => ?_⟩
    refine lc_tup (K := K) (a := a) (D := D) (xs := [.int p.1, .int p.2]) (fun i σ H2 => (∃ u, σ = [u]) /\ Same H' H2 /\ H2 D = some (.lst ((List.replicate i true).map V.bl)) /\ i <= 2) ⟨⟨none, rfl⟩, same_upd nD, upd_same, by decide⟩
     (fun i σ H2 _ ⟨_, sm2, _⟩ => SqT.of (sm2 _ _ tp')) ?_ ?_
    ·rintro i x σ H2 ex ⟨⟨u', rfl⟩, sm2, hD, hi2⟩
     obtain ⟨z, rfl⟩ : ∃ z, x = .int z := by
      match i, ex with
      | 0, ex => exact ⟨_, (Option.some.inj ex).symm⟩
      | 1, ex => exact ⟨_, (Option.some.inj ex).symm⟩
     have hi : i < 2 := (List.getElem?_eq_some_iff.mp ex).1
     refine g_go ?_
     refine yes_go ?_
     refine ⟨_, rfl, _, "int", _, true, rfl, .int z, rfl, _, rfl, iteT ?_⟩
     refine ⟨_, rfl, _, "bool", _, false, rfl, .int z, rfl, _, rfl, ?_⟩
     refine ⟨_, hD, size100 (by rw [List.length_map, List.length_replicate]; lia), ⟨_, rfl⟩, same_set sm2 nD, ?_, hi⟩
     rw [upd_same, List.replicate_succ', List.map_append]
     rfl
    ·rintro σ H2 ⟨_, sm2, hD, _⟩
     exact ⟨D, List.replicate 2 true, rfl, SqL.of hD, _, rfl, iteF ⟨⟨_, rfl⟩, sm.trans sm2⟩⟩
   ·rintro σ H' ⟨⟨u, rfl⟩, sm⟩
    exact ⟨_, rfl, _, rfl, l, b, ps, qs, rfl, rfl, Pts.same sm hl, Pts.same sm hb, k H' sm⟩
end
end K1
namespace K1
open RS (Pt)
end K1
namespace K1
open PySem L2
noncomputable abbrev sWhich : Stmt := top 35
structure Five (mg : Str -> Option Value) (cN cM cP cS cT : Addr) : Prop where
 mN : mg "NoNote" = some (.ref cN)
 mM : mg "NoNumber" = some (.ref cM)
 mP : mg "NoPoints" = some (.ref cP)
 mS : mg "NoShape" = some (.ref cS)
 mT : mg "TooLong" = some (.ref cT)
structure Told5 (K : PySem.W.Frag) (cN cM cP cS cT D : Addr) (b0 b1 b2 b3 b4 : Bool) : Prop where
 ex : ExcF K D
 bN : PySem.W.kitOne K (.ref D) (.ref cN) = some b0
 bM : PySem.W.kitOne K (.ref D) (.ref cM) = some b1
 bP : PySem.W.kitOne K (.ref D) (.ref cP) = some b2
 bS : PySem.W.kitOne K (.ref D) (.ref cS) = some b3
 bT : PySem.W.kitOne K (.ref D) (.ref cT) = some b4
 bV : PySem.W.kitOne K (.ref D) (.type "ValueError") = some true
inductive spWhich (D : Addr) (out : Str) (vs : List V) (H : Hp) (Q : VK) (u3 : XK) : Prop
 | mk (e : _) (c0 : vs = [.ref e]) (c1 : H e = some (ExcO e (.ref D))) (c2 : ∀ H', Same H H' -> Q (.str out) H') : spWhich D out vs H Q u3
theorem bootVE : bootBuiltins "ValueError" = some (.type "ValueError") := by decide +kernel
section
variable {P : Program} {w : World} {K : PySem.W.Frag} {mg : Str -> Option Value} {base : Heap}
theorem scWh : FnScope ["e", "told"] ["e"] (defScope sWhich) := ⟨rfl, rfl, rfl, by decide +kernel, rfl, by decide +kernel, by decide +kernel⟩
theorem ok_which {cN cM cP cS cT D f : Addr} {fd : FuncData} {b0 b1 b2 b3 b4 : Bool} {j : Nat} {out : Str} (F : Fun K "_law_which" "_law_which" sWhich f fd) (C : Five mg cN cM cP cS cT) (T : Told5 K cN cM cP cS cT D b0 b1 b2 b3 b4)
  (hc : [b0, b1, b2, b3, b4].countP id = 1) (hj : [b0, b1, b2, b3, b4][j]? = some true) (hno : ∀ m, m < j -> [b0, b1, b2, b3, b4][m]? = some false) (hw : (["note", "number", "points", "shape", "long"] : List Str)[j]? = some out)
  (mis : mg "isinstance" = none) (mve : mg "ValueError" = none) : FnOkM P w K mg base 1 f fd ["e"] (spWhich D out) := by
 refine F.okM scWh (fun vs H Q E h => ?_) (fun cdv A outer s H vs Q E hr h => ?_)
 ·obtain ⟨e, rfl, _⟩ := h
  rfl
 ·obtain ⟨e, rfl, he, k⟩ := h
  refine ⟨_, pss_cons (ps_set (i := 1) scWh.nd rfl (Or.inl rfl) (pe_lst (pa_cons (pe_callB call_isi_exc rfl mis bootIsi (pa_cons (pv 0) (pa_cons (pe_glob (v := .ref cN) rfl C.mN rfl) pa_nil)))
    (pa_cons (pe_callB call_isi_exc rfl mis bootIsi (pa_cons (pv 0) (pa_cons (pe_glob (v := .ref cM) rfl C.mM rfl) pa_nil))) (pa_cons (pe_callB call_isi_exc rfl mis bootIsi (pa_cons (pv 0) (pa_cons (pe_glob (v := .ref cP) rfl C.mP rfl) pa_nil))) pa_nil)))))
   (pss_cons (ps_set (i := 1) scWh.nd rfl (Or.inl rfl) (pe_op op_cat (pv 1) (pe_lst (pa_cons (pe_callB call_isi_exc rfl mis bootIsi (pa_cons (pv 0) (pa_cons (pe_glob (v := .ref cS) rfl C.mS rfl) pa_nil)))
    (pa_cons (pe_callB call_isi_exc rfl mis bootIsi (pa_cons (pv 0) (pa_cons (pe_glob (v := .ref cT) rfl C.mT rfl) pa_nil))) pa_nil)))))
   (pss_cons (ps_if (PW.pt (pw_or (pt_not (pt_val (pe_callB call_isi_exc rfl mis bootIsi (pa_cons (pv 0) (pa_cons (pe_bltn (v := .ty "ValueError") rfl mve bootVE rfl) pa_nil)))))
    (pw_or1 (pt_cmpR op_ne (pe_bm PySem.F.plainAttrs_list PySem.F.slot_list_count PySem.F.type_list_count mt_countT (pv 1) (pa_cons pe_bl pa_nil)) pe_int (nomark _))))) pss_never pss_nil)
   (pss_one (ps_ret (pe_ix ix_list (pe_lst (pa_cons pe_str (pa_cons pe_str (pa_cons pe_str (pa_cons pe_str (pa_cons pe_str pa_nil)))))) (pe_bm PySem.F.plainAttrs_list PySem.F.slot_list_index PySem.F.type_list_index mt_indexT (pv 1) (pa_cons pe_bl pa_nil)) (fun _ _ => rfl)))))), ?_⟩
  refine ⟨_, rfl, e, D, _, _, rfl, he, T.ex, (fun u r => by cases r; exact T.bN), ?_⟩
  refine ⟨_, rfl, e, D, _, _, rfl, he, T.ex, (fun u r => by cases r; exact T.bM), ?_⟩
  refine ⟨_, rfl, e, D, _, _, rfl, he, T.ex, (fun u r => by cases r; exact T.bP), ?_⟩
  refine ⟨by show 3 <= sizeLine; decide, fun d1 n1 => ?_⟩
  have s1 : Same H (upd H d1 (.lst [.bl b0, .bl b1, .bl b2])) := same_upd n1
  have h1 : upd H d1 (.lst [.bl b0, .bl b1, .bl b2]) d1 = some (.lst [.bl b0, .bl b1, .bl b2]) := upd_same
  generalize upd H d1 (.lst [.bl b0, .bl b1, .bl b2]) = H1 at s1 h1 ⊢
  have he1 := s1 _ _ he
  refine ⟨_, rfl, ?_⟩
  refine ⟨_, rfl, e, D, _, _, rfl, he1, T.ex, (fun u r => by cases r; exact T.bS), ?_⟩
  refine ⟨_, rfl, e, D, _, _, rfl, he1, T.ex, (fun u r => by cases r; exact T.bT), ?_⟩
  refine ⟨by show 2 <= sizeLine; decide, fun d2 n2 => ?_⟩
  have s2 : Same H1 (upd H1 d2 (.lst [.bl b3, .bl b4])) := same_upd n2
  have h2 : upd H1 d2 (.lst [.bl b3, .bl b4]) d2 = some (.lst [.bl b3, .bl b4]) := upd_same
  generalize upd H1 d2 (.lst [.bl b3, .bl b4]) = H2 at s2 h2 ⊢
  refine ⟨d1, d2, _, _, rfl, rfl, s2 _ _ h1, h2, by show 5 <= sizeLine; decide, fun d3 n3 => ?_⟩
  have s3 : Same H2 (upd H2 d3 (.lst ([b0, b1, b2, b3, b4].map V.bl))) := same_upd n3
  have h3 : upd H2 d3 (.lst ([b0, b1, b2, b3, b4].map V.bl)) d3 = some (.lst ([b0, b1, b2, b3, b4].map V.bl)) := upd_same
  show tSeq _ _ _ _ (upd H2 d3 (.lst ([b0, b1, b2, b3, b4].map V.bl)))
  generalize upd H2 d3 (.lst ([b0, b1, b2, b3, b4].map V.bl)) = H3 at s3 h3 ⊢
  have he3 := s3 _ _ (s2 _ _ he1)
  refine ⟨_, rfl, e, D, _, true, rfl, he3, T.ex, (fun u r => by cases r; exact T.bV), _, rfl, iteF ?_⟩
  refine ⟨_, rfl, .inl ⟨rfl, _, SqL.of h3⟩, d3, _, rfl, rfl, h3, rfl, _, rfl, ?_⟩
  rw [hc]
  refine iteF ?_
  refine ⟨by show 5 <= sizeLine; decide, fun d4 n4 => ?_⟩
  have s4 : Same H3 (upd H3 d4 (.lst ((["note", "number", "points", "shape", "long"] : List Str).map V.str))) := same_upd n4
  have h4 : upd H3 d4 (.lst ((["note", "number", "points", "shape", "long"] : List Str).map V.str)) d4 = some (.lst ((["note", "number", "points", "shape", "long"] : List Str).map V.str)) := upd_same
  refine ⟨_, rfl, .inl ⟨rfl, _, SqL.of (s4 _ _ h3)⟩, d3, _, j, rfl, rfl, s4 _ _ h3, hj, hno, d4, _, _, _, rfl, rfl, SqL.of h4, atI_nat (by rw [List.getElem?_map, hw]; rfl), ?_⟩
  exact k _ (s1.trans (s2.trans (s3.trans s4)))
end
end K1
namespace K1
open PySem L2
open RS (Pt isShape)
noncomputable abbrev sIsNum : Stmt := top 18
noncomputable abbrev sIsCorner : Stmt := top 19
noncomputable abbrev sCornerOf : Stmt := top 20
noncomputable abbrev sRead : Stmt := top 21
inductive spIsNum (vs : List V) (H : Hp) (Q : VK) (u3 : XK) : Prop
 | mk (x : _) (c0 : vs = [.str x]) (c1 : Tx 400 x) (c2 : ∀ H', Same H H' -> Q (.bl (isN x)) H') : spIsNum  vs H Q u3
inductive spIsCorner (vs : List V) (H : Hp) (Q : VK) (u3 : XK) : Prop
 | mk (x : _) (c0 : vs = [.str x]) (c1 : Tx 400 x) (c2 : ∀ H', Same H H' -> Q (.bl (isC x)) H') : spIsCorner  vs H Q u3
inductive spCornerOf (vs : List V) (H : Hp) (Q : VK) (u3 : XK) : Prop
 | mk (x : _) (c0 : vs = [.str x]) (c1 : Tx 400 x) (c2 : isC x = true) (c3 : ∀ r H', Same H H' -> Tp H' r (cornerM x) -> Q (.ref r) H') : spCornerOf  vs H Q u3
inductive spRead (cN : Addr) (vs : List V) (H : Hp) (Q : VK) (E : XK) : Prop
 | mk (x : _) (c0 : vs = [.str x]) (c1 : Tx 362 x) (c2 : (readM x = none -> ∀ H', Same H H' -> E (.ref cN) none H')) (c3 : ∀ ps, readM x = some ps -> ∀ r H', Same H H' -> H r = none -> Pts H' r ps -> Q (.ref r) H') : spRead cN vs H Q E
theorem bootStr : bootBuiltins "str" = some (.type "str") := by decide +kernel
noncomputable def rInS : R2 := fun x y H Q => ∃ i j, x = .str i /\ y = .str j /\ Q (.bl (!(Builtin.Str.occurrences j i 0 j.length 1).isEmpty)) H
theorem op_inS {X : Cx} : OpR X (compareOp .In) rInS := op_in_str
noncomputable def rNotInS : R2 := fun x y H Q => ∃ i j, x = .str i /\ y = .str j /\ Q (.bl (!(!(Builtin.Str.occurrences j i 0 j.length 1).isEmpty))) H
theorem op_notInS {X : Cx} : OpR X (compareOp .NotIn) rNotInS := op_notin_str
theorem str_get {zs : List Str} {i : Nat} {x : V} (h : (zs.map V.str)[i]? = some x) : ∃ z, zs[i]? = some z /\ x = .str z := by
 rw [List.getElem?_map] at h
 cases e : zs[i]? with
 | none => rw [e] at h; cases h
 | some z => rw [e] at h; cases h; exact ⟨z, rfl, rfl⟩
theorem str_at {zs : List Str} {i : Nat} {z : Str} (h : zs[i]? = some z) : (zs.map V.str)[i]? = some (V.str z) := by
 rw [List.getElem?_map, h]
 rfl
theorem seq_to (J : St -> Hp -> Prop) {t rest : TS} {D : Ends} {σ : St} {H : Hp} (h : ∀ N : St -> Hp -> Prop, (∀ σ' H', J σ' H' -> N σ' H') -> t { D with nx := N } σ H) (k : ∀ σ' H', J σ' H' -> rest D σ' H') : tSeq t rest D σ H := h _ k
theorem bls_next {α : Type} {f : α -> Bool} {l : List α} {i : Nat} {x : α} (h : l[i]? = some x) : ((l.map f).take i).map V.bl ++ [V.bl (f x)] = ((l.map f).take (i + 1)).map V.bl := by
 have er : (l.map f)[i]? = some (f x) := by rw [List.getElem?_map, h]; rfl
 rw [take_next er, List.map_append]
 rfl
theorem all_map {α : Type} (f : α -> Bool) (l : List α) : (l.map f).all id = l.all f := by
 rw [List.all_map]
 rfl
theorem cps_get {x : Str} {i c : Nat} (h : x.cps[i]? = some c) : x.cps.toList[i]? = some c := by
 rw [Array.getElem?_toList]
 exact h
section
variable {P : Program} {w : World} {K : PySem.W.Frag} {mg : Str -> Option Value} {base : Heap}
theorem scNu : FnScope ["text", "figures"] ["text"] (defScope sIsNum) := ⟨rfl, rfl, rfl, by decide +kernel, rfl, by decide +kernel, by decide +kernel⟩
theorem ok_is_num {f : Addr} {fd : FuncData} {tk tk2 : Tok} (F : Fun K "is_number" "is_number" sIsNum f fd) (ml : mg "len" = none) (ma : mg "all" = none) (ms : mg "str" = none) (mi : mg "int" = none) (mF : mg "FIGURES" = some (.str figs tk)) (mM : mg "MOST_FIGURES" = some (.int 7 tk2)) : FnOk P w K mg base CX0 1 f fd ["text"] spIsNum := by
 refine F.ok scNu (fun vs H Q E h => ?_) (fun cdv A outer s H vs Q E hr h => ?_)
 ·obtain ⟨x, rfl, _⟩ := h
  rfl
 ·obtain ⟨x, rfl, hx, k⟩ := h
  refine ⟨_, pss_cons (ps_set (i := 1) scNu.nd rfl (Or.inl rfl) (pe_ifExp (pt_val (pe_bm PySem.F.plainAttrs_str PySem.F.slot_str_startswith PySem.F.type_str_startswith mt_starts (pv 0) (pa_cons pe_str pa_nil))) (pe_slice sl_str (pv 0) (po_some pe_int) po_none) (pv 0)))
   (pss_cons (ps_if (pt_not (pt_chain op_le op_le pe_int (pe_callB call_len_str rfl ml PySem.boot_len (pa_cons (pv 1) pa_nil)) (pe_glob (v := .int 7) rfl mM ⟨tk2, rfl⟩))) (pss_one (ps_ret pe_bl)) pss_nil)
   (pss_cons (ps_if (pt_not (pt_val (pe_callB (call_all_bls rfl) rfl ma bootAll (pa_cons
    (pe_lc (tn := ["figure"]) (cs := []) (g := gName 0) (tt := tYes) (te := tOp rInS (tVar 0) (tC (.str figs))) (Caps.none (by decide +kernel) rfl (by decide +kernel)) rfl
     (pi_str (pv 1))
     (fun C s₀ H₀ fp xe => pg_name (i := 0) nodup1 rfl (Or.inl rfl) (.inr rfl))
     (fun C s₀ H₀ fp xe => pts_nil)
     (fun C s₀ H₀ fp xe => pe_cmpR op_inS (pv 0) (pe_glob (v := .str figs) rfl mF ⟨tk, rfl⟩) rfl)) pa_nil)))) (pss_one (ps_ret pe_bl)) pss_nil)
   (pss_one (ps_ret (pe_cmpR op_eq (pe_callTy call_str_int rfl ms bootStr (pa_cons (pe_callTy call_int_str rfl mi bootInt (pa_cons (pv 0) pa_nil)) pa_nil)) (pv 0) (nomark _)))))), ?_⟩
  have xl := hx.1
  refine seq_to (fun σ H' => σ = [some (.str x), some (.str (figsOf x))] /\ H' = H) (fun N hN => ?_) ?_
  ·refine ⟨_, rfl, rfl, _, _, rfl, rfl, _, rfl, ?_⟩
   refine ite2 (fun c => ?_) (fun c => ?_)
   ·refine ⟨_, rfl, _, rfl, _, rfl, Nat.le_trans xl (by decide), hN _ _ ⟨?_, rfl⟩⟩
    unfold figsOf
    rw [if_pos c]
    rfl
   ·refine ⟨_, rfl, hN _ _ ⟨?_, rfl⟩⟩
    unfold figsOf
    rw [if_neg c]
    rfl
  rintro σ H' ⟨rfl, rfl⟩
  have ft := figs_tx hx
  have fl := ft.1
  have no : okF x = false -> ∀ H1, Same H' H1 -> Q (.bl false) H1 := fun z H1 s1 => by
   have := k H1 s1
   unfold isN at this
   rw [z] at this
   exact this
  have ed : okF x = (decide (1 <= (figsOf x).length /\ (figsOf x).length <= 7) && (figsOf x).cps.toList.all isFig) := rfl
  generalize figsOf x = y at ft fl ed ⊢
  refine ⟨_, rfl, _, rfl, (by show y.length <= 2 ^ 24; omega), _, _, rfl, rfl, _, rfl, ?_⟩
  refine ite2 (fun c1 => ?_) (fun c1 => ?_)
  ·have c1 := of_decide_eq_true c1
   refine ⟨_, _, rfl, rfl, _, rfl, ?_⟩
   refine ite2 (fun c2 => ?_) (fun c2 => ?_)
   ·refine no ?_ H' (Same.refl _)
    rw [ed, decide_eq_false]
    ·rfl
    ·intro z
     rw [decide_eq_true (show (y.length : Int) <= 7 by omega)] at c2
     cases c2
   have c2 : y.length <= 7 := Nat.le_of_not_lt fun z => c2 (by rw [decide_eq_false (show ¬ (y.length : Int) <= 7 by omega)]; rfl)
   refine ⟨_, rfl, y, rfl, ft.2.all, fun D nD => ?_⟩
   refine lc_str (z := y) (D := D) (fun j σ H1 => (∃ u, σ = [u]) /\ Same H' H1 /\ H1 D = some (.lst (((y.cps.toList.map isFig).take j).map V.bl))) ⟨⟨none, rfl⟩, same_upd nD, upd_same⟩ ?_ ?_
   ·rintro j c σ H1 hc ⟨⟨u, rfl⟩, sm, hD⟩
    have er := cps_get hc
    refine g_go ?_
    refine yes_go ?_
    refine ⟨_, rfl, _, _, rfl, rfl, ?_⟩
    rw [fig_all c (ft.2 c (List.mem_of_getElem? er))]
    refine ⟨_, hD, size100 (by rw [List.length_map, List.length_take, List.length_map, cps_len]; omega), ⟨_, rfl⟩, same_set sm nD, ?_⟩
    rw [upd_same, bls_next er]
   ·rintro σ H1 ⟨_, sm, hD⟩
    rw [List.take_of_length_le (by rw [List.length_map, cps_len]; exact Nat.le_refl _)] at hD
    refine ⟨D, _, rfl, SqL.of hD, _, rfl, ?_⟩
    rw [all_map]
    refine ite2 (fun c3 => ?_) (fun c3 => ?_)
    ·refine no ?_ H1 sm
     rw [ed]
     cases hb : y.cps.toList.all isFig with
     | false => rw [Bool.and_false]
     | true => rw [hb] at c3; cases c3
    have c3 : y.cps.toList.all isFig = true := by
     cases hb : y.cps.toList.all isFig with
     | false => exact absurd (by rw [hb]; rfl) c3
     | true => rfl
    have ok : okF x = true := by
     rw [ed, c3, decide_eq_true ⟨by omega, c2⟩]
     rfl
    obtain ⟨r1, r2, _⟩ := okF_reads ok
    refine ⟨_, rfl, x, valI x, rfl, r1, by omega, valI x, rfl, num_log r2, _, rfl, rfl, ?_⟩
    have := k H1 sm
    unfold isN at this
    rw [ok, Bool.true_and] at this
    have e : decide (V.str (Str.ofString (toString (valI x))) = V.str x) = decide (num (valI x) = x) := decide_eq_decide.mpr ⟨fun z => by injection z, fun z => congrArg V.str z⟩
    show Q (.bl (decide (V.str (Str.ofString (toString (valI x))) = V.str x))) H1
    rw [e]
    exact this
  ·refine ⟨_, rfl, iteT ?_⟩
   refine no ?_ H' (Same.refl _)
   rw [ed, decide_eq_false]
   ·rfl
   ·intro z
    exact c1 (decide_eq_true (by omega))
theorem scCn : FnScope ["text", "numbers"] ["text"] (defScope sIsCorner) := ⟨rfl, rfl, rfl, by decide +kernel, rfl, by decide +kernel, by decide +kernel⟩
theorem ok_is_corner {f f1 : Addr} {fd fd1 : FuncData} (F : Fun K "is_corner" "is_corner" sIsCorner f fd)
  (G1 : FnOk P w K mg base CX0 1 f1 fd1 ["text"] spIsNum) (k1 : PySem.W.keepIn K (.ref f1) = true) (b1 : Binds K fd1 ["text"] []) (m1 : mg "is_number" = some (.ref f1))
  (ml : mg "len" = none) (ma : mg "all" = none) : FnOk P w K mg base CX0 2 f fd ["text"] spIsCorner := by
 refine F.ok scCn (fun vs H Q E h => ?_) (fun cdv A outer s H vs Q E hr h => ?_)
 ·obtain ⟨x, rfl, _⟩ := h
  rfl
 ·obtain ⟨x, rfl, hx, k⟩ := h
  refine ⟨_, pss_cons (ps_set (i := 1) scCn.nd rfl (Or.inl rfl) (pe_bm PySem.F.plainAttrs_str PySem.F.slot_str_split PySem.F.type_str_split mt_split (pv 0) (pa_cons pe_str pa_nil)))
   (pss_one (ps_ret (pe_and (pe_cmpR op_eq (pe_callB call_len_seq rfl ml PySem.boot_len (pa_cons (pv 1) pa_nil)) pe_int (nomark _))
    (pe_one (pe_callB (call_all_bls rfl) rfl ma bootAll (pa_cons
     (pe_lc (tn := ["number"]) (cs := []) (g := gName 0) (tt := tYes) (te := tCall spIsNum [] E0 (tCons (tVar 0) tNil)) (Caps.none (by decide +kernel) rfl (by decide +kernel)) rfl
      (pi_list (pv 1))
      (fun C s₀ H₀ fp xe => pg_name (i := 0) nodup1 rfl (Or.inl rfl) (.inr rfl))
      (fun C s₀ H₀ fp xe => pts_nil)
      (fun C s₀ H₀ fp xe => pe_call G1 hr rfl m1 k1 b1 .nil pass0 (pa_cons (pv 0) pa_nil))) pa_nil)))))), ?_⟩
  have xl := hx.1
  refine ⟨_, rfl, rfl, x, comma, rfl, rfl, (by rw [comma_is]; decide), (by show _ <= 2 ^ 24; omega), fun d nd => ?_⟩
  have pt := parts_tx hx
  have pf := parts_few hx
  have ec : isC x = (decide ((Txt.split x comma).length = 2) && (Txt.split x comma).all isN) := rfl
  generalize Txt.split x comma = zs at pt pf ec ⊢
  have sd : Same H (upd H d (.lst (zs.map V.str))) := same_upd nd
  have hd : upd H d (.lst (zs.map V.str)) d = some (.lst (zs.map V.str)) := upd_same
  generalize upd H d (.lst (zs.map V.str)) = H1 at sd hd ⊢
  refine ⟨_, rfl, d, _, rfl, .inl (SqL.of hd), rfl, _, rfl, ?_⟩
  refine ite2 (fun c => ?_) (fun c => ?_)
  ·have c : zs.length = 2 := by
    have := of_decide_eq_true c
    injection this with this
    rw [List.length_map] at this
    omega
   refine ⟨_, rfl, d, rfl, ⟨_, SqL.of hd⟩, fun D nD => ?_⟩
   refine lc_list (K := K) (a := d) (D := D) (xs := zs.map V.str) (fun j σ H' => (∃ u, σ = [u]) /\ Same H1 H' /\ H' D = some (.lst (((zs.map isN).take j).map V.bl))) ⟨⟨none, rfl⟩, same_upd nD, upd_same⟩
    (fun j σ H' _ ⟨_, sm, _⟩ => SqL.of (sm _ _ hd)) ?_ ?_
   ·rintro j v σ H' ex ⟨⟨u, rfl⟩, sm, hD⟩
    obtain ⟨z, ez, rfl⟩ := str_get ex
    refine g_go ?_
    refine yes_go ?_
    refine ⟨_, rfl, z, rfl, pt z (List.mem_of_getElem? ez), fun H2 s2 => ?_⟩
    refine ⟨_, s2 _ _ hD, size100 (by rw [List.length_map, List.length_take, List.length_map]; omega), ⟨_, rfl⟩, same_set (sm.trans s2) nD, ?_⟩
    rw [upd_same, bls_next ez]
   ·rintro σ H' ⟨_, sm, hD⟩
    rw [List.length_map, List.take_of_length_le (by rw [List.length_map]; exact Nat.le_refl _)] at hD
    refine ⟨D, _, rfl, SqL.of hD, ?_⟩
    rw [all_map]
    have := k H' (sd.trans sm)
    rw [ec, decide_eq_true c, Bool.true_and] at this
    exact this
  ·have := k H1 sd
   rw [ec, decide_eq_false, Bool.false_and] at this
   ·exact this
   ·intro z
    refine c (decide_eq_true ?_)
    rw [List.length_map, z]
    rfl
theorem scCf : FnScope ["text", "numbers"] ["text"] (defScope sCornerOf) := ⟨rfl, rfl, rfl, by decide +kernel, rfl, by decide +kernel, by decide +kernel⟩
theorem ok_corner_of {f : Addr} {fd : FuncData} (F : Fun K "corner_of" "corner_of" sCornerOf f fd) (mi : mg "int" = none) : FnOk P w K mg base CX0 1 f fd ["text"] spCornerOf := by
 refine F.ok scCf (fun vs H Q E h => ?_) (fun cdv A outer s H vs Q E hr h => ?_)
 ·obtain ⟨x, rfl, _⟩ := h
  rfl
 ·obtain ⟨x, rfl, hx, hc, k⟩ := h
  refine ⟨_, pss_cons (ps_set (i := 1) scCf.nd rfl (Or.inl rfl) (pe_bm PySem.F.plainAttrs_str PySem.F.slot_str_split PySem.F.type_str_split mt_split (pv 0) (pa_cons pe_str pa_nil)))
   (pss_one (ps_ret (pe_tup (pa_cons (pe_callTy call_int_str rfl mi bootInt (pa_cons (pe_ix ix_list (pv 1) pe_int (fun _ _ => rfl)) pa_nil)) (pa_cons (pe_callTy call_int_str rfl mi bootInt (pa_cons (pe_ix ix_list (pv 1) pe_int (fun _ _ => rfl)) pa_nil)) pa_nil))))), ?_⟩
  have xl := hx.1
  obtain ⟨a, b, e, ha, hb, ec, _⟩ := isC_two hc
  obtain ⟨a1, _, _, a2, _⟩ := okF_reads (isN_okF ha)
  obtain ⟨b1, _, _, b2, _⟩ := okF_reads (isN_okF hb)
  rw [ec] at k
  refine ⟨_, rfl, rfl, x, comma, rfl, rfl, (by rw [comma_is]; decide), (by show _ <= 2 ^ 24; omega), fun d nd => ?_⟩
  rw [e]
  have sd : Same H (upd H d (.lst ([a, b].map V.str))) := same_upd nd
  have hd : upd H d (.lst ([a, b].map V.str)) d = some (.lst ([a, b].map V.str)) := upd_same
  generalize upd H d (.lst ([a, b].map V.str)) = H1 at sd hd ⊢
  refine ⟨_, rfl, d, _, _, _, rfl, rfl, SqL.of hd, rfl, a, valI a, rfl, a1, by omega, ?_⟩
  refine ⟨_, rfl, d, _, _, _, rfl, rfl, SqL.of hd, rfl, b, valI b, rfl, b1, by omega, ?_⟩
  exact ⟨by show 2 <= sizeLine; decide, fun r nr => k r _ (sd.trans (same_upd nr)) upd_same⟩
theorem scRd : FnScope ["text", "words", "corners"] ["text"] (defScope sRead) := ⟨rfl, rfl, rfl, by decide +kernel, rfl, by decide +kernel, by decide +kernel⟩
theorem ok_read {cN f f1 f2 f3 : Addr} {fd fd1 fd2 fd3 : FuncData} (F : Fun K "read" "read" sRead f fd)
  (G1 : FnOk P w K mg base CX0 2 f1 fd1 ["text"] spIsCorner) (k1 : PySem.W.keepIn K (.ref f1) = true) (b1 : Binds K fd1 ["text"] []) (m1 : mg "is_corner" = some (.ref f1))
  (G2 : FnOk P w K mg base CX0 1 f2 fd2 ["text"] spCornerOf) (k2 : PySem.W.keepIn K (.ref f2) = true) (b2 : Binds K fd2 ["text"] []) (m2 : mg "corner_of" = some (.ref f2))
  (G3 : FnOk P w K mg base CX0 3 f3 fd3 ["corners"] (spPtsBl (2 ^ 60) isShape)) (k3 : PySem.W.keepIn K (.ref f3) = true) (b3 : Binds K fd3 ["corners"] []) (m3 : mg "is_shape" = some (.ref f3))
  (ma : mg "all" = none) (mN : mg "NoNote" = some (.ref cN)) (xN : PySem.W.excIn K cN vErr "ValueError.__new__" = true) : FnOk P w K mg base (CXR P w) 4 f fd ["text"] (spRead cN) := by
 refine F.okR scRd (fun vs H Q E h => ?_) (fun cdv A outer s H vs Q E hr h => ?_)
 ·obtain ⟨x, rfl, _⟩ := h
  rfl
 ·obtain ⟨x, rfl, hx, kE, k⟩ := h
  have hr1 := hr.mono (j := 1) (by decide)
  have hr2 := hr.mono (j := 2) (by decide)
  refine ⟨_, pss_cons (ps_set (i := 1) scRd.nd rfl (Or.inl rfl) (pe_bm PySem.F.plainAttrs_str PySem.F.slot_str_split PySem.F.type_str_split mt_split (pv 0) (pa_cons pe_str pa_nil)))
   (pss_cons (ps_if (pt_not (pt_val (pe_callB (call_all_bls rfl) rfl ma bootAll (pa_cons
     (pe_lc (tn := ["word"]) (cs := []) (g := gName 0) (tt := tYes) (te := tCall spIsCorner [] E0 (tCons (tVar 0) tNil)) (Caps.none (by decide +kernel) rfl (by decide +kernel)) rfl
      (pi_list (pv 1))
      (fun C s₀ H₀ fp xe => pg_name (i := 0) nodup1 rfl (Or.inl rfl) (.inr rfl))
      (fun C s₀ H₀ fp xe => pts_nil)
      (fun C s₀ H₀ fp xe => pe_call G1 hr2 rfl m1 k1 b1 .nil pass0 (pa_cons (pv 0) pa_nil))) pa_nil)))) (pss_one (ps_raise raiseR rfl rfl mN xN (pa_cons pe_str pa_nil))) pss_nil)
   (pss_cons (ps_lc (j := 2) (tn := ["word"]) (cs := []) (g := gName 0) (tt := tYes) (te := tCall spCornerOf [] E0 (tCons (tVar 0) tNil)) (Caps.none (by decide +kernel) rfl (by decide +kernel)) rfl
      (pi_list (pv 1))
      (fun C s₀ H₀ fp xe => pg_name (i := 0) nodup1 rfl (Or.inl rfl) (.inr rfl))
      (fun C s₀ H₀ fp xe => pts_nil)
      (fun C s₀ H₀ fp xe => pe_call G2 hr1 rfl m2 k2 b2 .nil pass0 (pa_cons (pv 0) pa_nil)) scRd.nd rfl rfl rfl)
   (pss_cons (ps_if (pt_not (pt_val (pe_call G3 hr rfl m3 k3 b3 .nil pass0 (pa_cons (pv 2) pa_nil)))) (pss_one (ps_raise raiseR rfl rfl mN xN (pa_cons pe_str pa_nil))) pss_nil)
   (pss_one (ps_ret (pv 2)))))), ?_⟩
  have xl := hx.1
  have wt := words_tx hx
  have wf := words_any hx
  have wl := words_len hx
  have rN := read_no (x := x)
  have rY := read_yes (x := x)
  refine ⟨_, rfl, rfl, x, blank1, rfl, rfl, (by rw [blank_is]; decide), (by show _ <= 2 ^ 24; omega), fun d nd => ?_⟩
  show tSeq _ _ _ _ (upd H d (.lst ((wordsM x).map V.str)))
  generalize wordsM x = ws at wt wf wl rN rY ⊢
  have sd : Same H (upd H d (.lst (ws.map V.str))) := same_upd nd
  have hd : upd H d (.lst (ws.map V.str)) d = some (.lst (ws.map V.str)) := upd_same
  generalize upd H d (.lst (ws.map V.str)) = H1 at sd hd ⊢
  refine ⟨_, rfl, d, rfl, ⟨_, SqL.of hd⟩, fun D nD => ?_⟩
  refine lc_list (K := K) (a := d) (D := D) (xs := ws.map V.str) (fun j σ H' => (∃ u, σ = [u]) /\ Same H1 H' /\ H' D = some (.lst (((ws.map isC).take j).map V.bl))) ⟨⟨none, rfl⟩, same_upd nD, upd_same⟩
   (fun j σ H' _ ⟨_, sm, _⟩ => SqL.of (sm _ _ hd)) ?_ ?_
  ·rintro j v σ H' ex ⟨⟨u, rfl⟩, sm, hD⟩
   obtain ⟨z, ez, rfl⟩ := str_get ex
   refine g_go ?_
   refine yes_go ?_
   refine ⟨_, rfl, z, rfl, (wt z (List.mem_of_getElem? ez)).wide (by decide), fun H2 s2 => ?_⟩
   refine ⟨_, s2 _ _ hD, size100 (by rw [List.length_map, List.length_take, List.length_map]; omega), ⟨_, rfl⟩, same_set (sm.trans s2) nD, ?_⟩
   rw [upd_same, bls_next ez]
  ·rintro σ H2 ⟨_, s2, hD⟩
   rw [List.length_map, List.take_of_length_le (by rw [List.length_map]; exact Nat.le_refl _)] at hD
   refine ⟨D, _, rfl, SqL.of hD, _, rfl, ?_⟩
   rw [all_map]
   cases hall : ws.all isC with
   | false => exact iteT ⟨by show 1 <= sizeLine; decide, kE (rN hall) H2 (sd.trans s2)⟩
   | true =>
    refine iteF ?_
    have wl := wl hall
    have rY := rY hall
    have hC : ∀ z ∈ ws, isC z = true := List.all_eq_true.mp hall
    refine ⟨_, rfl, d, rfl, ⟨_, SqL.of (s2 _ _ hd)⟩, fun M nM => ?_⟩
    refine lc_list (K := K) (a := d) (D := M) (xs := ws.map V.str) (fun j σ H' => (∃ u, σ = [u]) /\ Same H2 H' /\ Pts H' M ((ws.map cornerM).take j)) ⟨⟨none, rfl⟩, same_upd nM, [], upd_same, .nil⟩
     (fun j σ H' _ ⟨_, sm, _⟩ => SqL.of (sm _ _ (s2 _ _ hd))) ?_ ?_
    ·rintro j v σ H' ex ⟨⟨u, rfl⟩, sm, pt⟩
     obtain ⟨z, ez, rfl⟩ := str_get ex
     have hz := List.mem_of_getElem? ez
     have er : (ws.map cornerM)[j]? = some (cornerM z) := by rw [List.getElem?_map, ez]; rfl
     refine g_go ?_
     refine yes_go ?_
     refine ⟨_, rfl, z, rfl, (wt z hz).wide (by decide), hC z hz, fun r H3 s3 tr => ?_⟩
     obtain ⟨ys, y1, y2, y3, y4⟩ := pts_push nM (sm.trans s3) (Pts.same s3 pt) tr (by rw [List.length_take, List.length_map]; exact size100 (by omega))
     exact ⟨ys, y1, y2, ⟨_, rfl⟩, y3, by rw [take_next er]; exact y4⟩
    ·rintro σ H3 ⟨_, s3, pM⟩
     rw [List.length_map, List.take_of_length_le (by rw [List.length_map]; exact Nat.le_refl _)] at pM
     have pB : ∀ p ∈ ws.map cornerM, Bd (2 ^ 60) p := fun p hp => by
      obtain ⟨z, hz, rfl⟩ := List.mem_map.mp hp
      obtain ⟨q1, q2⟩ := corner_sm (hC z hz)
      unfold Bd
      omega
     have pl : (ws.map cornerM).length <= 100 := by rw [List.length_map]; omega
     generalize ws.map cornerM = ps at rY pM pB pl
     refine ⟨_, rfl, M, ps, rfl, pM, pl, pB, fun H4 s4 => ⟨_, rfl, ?_⟩⟩
     have s02 := sd.trans s2
     cases hs : isShape ps with
     | false =>
      rw [hs] at rY
      exact iteT ⟨by show 1 <= sizeLine; decide, kE rY H4 (s02.trans (s3.trans s4))⟩
     | true =>
      rw [hs] at rY
      exact iteF ⟨_, rfl, k ps rY M H4 (s02.trans (s3.trans s4)) (s02.free nM) (Pts.same s4 pM)⟩
end
end K1
namespace KH
open PySem PySem.W L2
open K1 (top)
noncomputable abbrev e (P : Params) (x : Str) (t : Nat) (v : Value) : DictEntry := ⟨PyData.keyHash P x, .str x t, v⟩
noncomputable abbrev r (a : Nat) : Value := .ref a
noncomputable abbrev i (k : Int) (t : Nat) : Value := .int k t
noncomputable abbrev z (k : Int) : Value := .int k 0
noncomputable abbrev s (x : Str) (t : Nat) : Value := .str x t
noncomputable abbrev t (x : String) : Value := .type x
noncomputable abbrev co (l : List Value) : Obj := ⟨.type "code", none, .fields l.toArray, #[]⟩
noncomputable abbrev tu (l : List Value) : Obj := ⟨.type "tuple", none, .seq l.toArray 0, #[]⟩
noncomputable abbrev fi (l : List Value) : Obj := ⟨.none, none, .fields l.toArray, #[]⟩
noncomputable abbrev fnT (x : Str) (k : Nat) (dV kV doc pm : Value) (an : Option Addr) (cdv ct : Value) : FuncData := fnOf x x (defArgs (top k)) (defBody (top k)) (defScope (top k)) dV kV doc pm an cdv ct
noncomputable abbrev f0 (x : Str) (k : Nat) : Obj := ⟨.none, none, .func ⟨x, x, defArgs (top k), .stmts (defBody (top k)), defScope (top k), 0, [], .none, .none, .none, .none, none, .none, .none, 0⟩, #[]⟩
noncomputable def heapK (P : Params) : Frag := (nat_lit 2, ⟨.none, none, (.dict #[] 0), #[]⟩) ::
 (nat_lit 3, ⟨(t "dict"), none, (.dict #[(e P "__name__" 165 (s "law_roundsum_k18_texts_refused" 366)), (e P "__doc__" 166 .none), (e P "__package__" 167 .none), (e P "__loader__" 168 (.builtin "__main__.__loader__#opaque")), (e P "__spec__" 169 .none), (e P "__annotations__" 170 (r 6)), (e P "__builtins__" 171 (r 4)), (e P "__file__" 173 (s "/claim/cut.py" 172)), (e P "__cached__" 174 .none), (e P "RoundError" 206 (r 24)), (e P "NoShape" 222 (r 37)), (e P "NoPoints" 238 (r 49)), (e P "NoNumber" 254 (r 61)), (e P "TooLong" 270 (r 73)), (e P "NoNote" 286 (r 85)), (e P "arrow_from" 296 (r 94)), (e P "turn" 304 (r 101)), (e P "in_first_half" 311 (r 108)), (e P "goes_before" 319 (r 115)), (e P "arrows_round" 327 (r 120)), (e P "is_shape" 333 (r 125)), (e P "FIGURES" 337 (s "0123456789" 336)), (e P "MOST_FIGURES" 339 (i 7 338)), (e P "is_number" 345 (r 130)), (e P "is_corner" 351 (r 135)), (e P "corner_of" 359 (r 142)), (e P "read" 365 (r 147)), (e P "_law_cell_at" 375 (r 154)), (e P "_law_stir" 382 (r 161)), (e P "_law_cross" 390 (r 168)), (e P "_law_arrow" 398 (r 175)), (e P "_law_chain" 407 (r 182)), (e P "_law_hull" 413 (r 187)), (e P "_law_points" 419 (r 192)), (e P "_law_shape" 428 (r 199)), (e P "_law_points_like" 434 (r 204)), (e P "_law_half" 441 (r 211)), (e P "_law_sides" 450 (r 218)), (e P "_law_good" 461 (r 225)), (e P "_law_which" 469 (r 232)), (e P "_law_number" 475 (r 237)), (e P "_law_written" 481 (r 242)), (e P "_law_changed" 495 (r 249)), (e P "_law_asked" 504 (r 256)), (e P "law" 510 (r 261))] 45), #[]⟩) ::
 (nat_lit 15, tu [(t "ValueError")]) ::
 (nat_lit 22, tu []) ::
 (nat_lit 23, ⟨(t "dict"), none, (.dict #[(e P "__module__" 196 (s "roundsum.errors" 187)), (e P "__firstlineno__" 200 (i 2 199)), (e P "__static_attributes__" 201 (r 22)), (e P "__weakref__" 203 (r 25)), (e P "__doc__" 204 .none)] 3), #[]⟩) ::
 (nat_lit 24, ⟨(t "type"), none, (.cls ⟨"RoundError", [(t "ValueError")], [(r 24), (t "ValueError"), (t "Exception"), (t "BaseException"), (t "object")], 23, "RoundError", true, [], [(r 37), (r 49), (r 61), (r 73), (r 85)], false, none, false⟩), #[(some (r 15)), none, (some (s "RoundError" 189)), (some (s "RoundError" 197)), (some (.builtin "ValueError.__new__")), (some (.bool true))]⟩) ::
 (nat_lit 25, ⟨(t "getset_descriptor"), none, (.fields #[(s "__weakref__" 202), (r 24), (.builtin "ExceptionGroup.__weakref__"), .none]), #[]⟩) ::
 (nat_lit 28, tu [(r 24)]) ::
 (nat_lit 35, tu []) ::
 (nat_lit 36, ⟨(t "dict"), none, (.dict #[(e P "__module__" 214 (s "roundsum.errors" 187)), (e P "__firstlineno__" 218 (i 4 217)), (e P "__static_attributes__" 219 (r 35)), (e P "__doc__" 220 .none)] 2), #[]⟩) ::
 (nat_lit 37, ⟨(t "type"), none, (.cls ⟨"NoShape", [(r 24)], [(r 37), (r 24), (t "ValueError"), (t "Exception"), (t "BaseException"), (t "object")], 36, "NoShape", true, [], [], false, none, false⟩), #[(some (r 28)), none, (some (s "NoShape" 207)), (some (s "NoShape" 215)), (some (.builtin "ValueError.__new__")), (some (.bool true))]⟩) ::
 (nat_lit 40, tu [(r 24)]) ::
 (nat_lit 47, tu []) ::
 (nat_lit 48, ⟨(t "dict"), none, (.dict #[(e P "__module__" 230 (s "roundsum.errors" 187)), (e P "__firstlineno__" 234 (i 6 233)), (e P "__static_attributes__" 235 (r 47)), (e P "__doc__" 236 .none)] 2), #[]⟩) ::
 (nat_lit 49, ⟨(t "type"), none, (.cls ⟨"NoPoints", [(r 24)], [(r 49), (r 24), (t "ValueError"), (t "Exception"), (t "BaseException"), (t "object")], 48, "NoPoints", true, [], [], false, none, false⟩), #[(some (r 40)), none, (some (s "NoPoints" 223)), (some (s "NoPoints" 231)), (some (.builtin "ValueError.__new__")), (some (.bool true))]⟩) ::
 (nat_lit 52, tu [(r 24)]) ::
 (nat_lit 59, tu []) ::
 (nat_lit 60, ⟨(t "dict"), none, (.dict #[(e P "__module__" 246 (s "roundsum.errors" 187)), (e P "__firstlineno__" 250 (i 8 249)), (e P "__static_attributes__" 251 (r 59)), (e P "__doc__" 252 .none)] 2), #[]⟩) ::
 (nat_lit 61, ⟨(t "type"), none, (.cls ⟨"NoNumber", [(r 24)], [(r 61), (r 24), (t "ValueError"), (t "Exception"), (t "BaseException"), (t "object")], 60, "NoNumber", true, [], [], false, none, false⟩), #[(some (r 52)), none, (some (s "NoNumber" 239)), (some (s "NoNumber" 247)), (some (.builtin "ValueError.__new__")), (some (.bool true))]⟩) ::
 (nat_lit 64, tu [(r 24)]) ::
 (nat_lit 71, tu []) ::
 (nat_lit 72, ⟨(t "dict"), none, (.dict #[(e P "__module__" 262 (s "roundsum.errors" 187)), (e P "__firstlineno__" 266 (i 10 265)), (e P "__static_attributes__" 267 (r 71)), (e P "__doc__" 268 .none)] 2), #[]⟩) ::
 (nat_lit 73, ⟨(t "type"), none, (.cls ⟨"TooLong", [(r 24)], [(r 73), (r 24), (t "ValueError"), (t "Exception"), (t "BaseException"), (t "object")], 72, "TooLong", true, [], [], false, none, false⟩), #[(some (r 64)), none, (some (s "TooLong" 255)), (some (s "TooLong" 263)), (some (.builtin "ValueError.__new__")), (some (.bool true))]⟩) ::
 (nat_lit 76, tu [(r 24)]) ::
 (nat_lit 83, tu []) ::
 (nat_lit 84, ⟨(t "dict"), none, (.dict #[(e P "__module__" 278 (s "roundsum.errors" 187)), (e P "__firstlineno__" 282 (i 12 281)), (e P "__static_attributes__" 283 (r 83)), (e P "__doc__" 284 .none)] 2), #[]⟩) ::
 (nat_lit 85, ⟨(t "type"), none, (.cls ⟨"NoNote", [(r 24)], [(r 85), (r 24), (t "ValueError"), (t "Exception"), (t "BaseException"), (t "object")], 84, "NoNote", true, [], [], false, none, false⟩), #[(some (r 76)), none, (some (s "NoNote" 271)), (some (s "NoNote" 279)), (some (.builtin "ValueError.__new__")), (some (.bool true))]⟩) ::
 (nat_lit 88, tu []) ::
 (nat_lit 90, tu [(s "start" 292), (s "end" 293)]) ::
 (nat_lit 91, tu []) ::
 (nat_lit 93, co [(s "arrow_from" 289), (s "arrow_from" 290), (s "/claim/cut.py" 291), (z 15), (z 2), (z 0), (z 0), (z 3), (r 88), (.bool true), (z 181), (r 89), .none, (r 90), (r 91), (r 92), (z 294), (z 15), (s "/claim/cut.py" 295)]) ::
 (nat_lit 94, ⟨(t "function"), none, (.func (fnT "arrow_from" 8 .none .none .none (s "roundsum.arrows" 287) none (r 93) .none)), #[]⟩) ::
 (nat_lit 95, tu []) ::
 (nat_lit 97, tu [(s "one" 300), (s "other" 301)]) ::
 (nat_lit 98, tu []) ::
 (nat_lit 100, co [(s "turn" 297), (s "turn" 298), (s "/claim/cut.py" 299), (z 17), (z 2), (z 0), (z 0), (z 3), (r 95), (.bool true), (z 181), (r 96), .none, (r 97), (r 98), (r 99), (z 302), (z 17), (s "/claim/cut.py" 303)]) ::
 (nat_lit 101, ⟨(t "function"), none, (.func (fnT "turn" 9 .none .none .none (s "roundsum.arrows" 287) none (r 100) .none)), #[]⟩) ::
 (nat_lit 102, tu []) ::
 (nat_lit 104, tu [(s "arrow" 308)]) ::
 (nat_lit 105, tu []) ::
 (nat_lit 107, co [(s "in_first_half" 305), (s "in_first_half" 306), (s "/claim/cut.py" 307), (z 19), (z 1), (z 0), (z 0), (z 3), (r 102), (.bool true), (z 181), (r 103), .none, (r 104), (r 105), (r 106), (z 309), (z 19), (s "/claim/cut.py" 310)]) ::
 (nat_lit 108, ⟨(t "function"), none, (.func (fnT "in_first_half" 10 .none .none .none (s "roundsum.arrows" 287) none (r 107) .none)), #[]⟩) ::
 (nat_lit 109, tu []) ::
 (nat_lit 111, tu [(s "one" 315), (s "other" 316)]) ::
 (nat_lit 112, tu []) ::
 (nat_lit 114, co [(s "goes_before" 312), (s "goes_before" 313), (s "/claim/cut.py" 314), (z 21), (z 2), (z 0), (z 0), (z 3), (r 109), (.bool true), (z 181), (r 110), .none, (r 111), (r 112), (r 113), (z 317), (z 21), (s "/claim/cut.py" 318)]) ::
 (nat_lit 115, ⟨(t "function"), none, (.func (fnT "goes_before" 11 .none .none .none (s "roundsum.arrows" 287) none (r 114) .none)), #[]⟩) ::
 (nat_lit 116, tu []) ::
 (nat_lit 119, co [(s "arrows_round" 322), (s "arrows_round" 323), (s "/claim/cut.py" 324), (z 26), (z 1), (z 0), (z 0), (z 3), (r 116), (.bool true), (z 181), (r 117), .none, .none, .none, (r 118), (z 325), (z 26), (s "/claim/cut.py" 326)]) ::
 (nat_lit 120, ⟨(t "function"), none, (.func (fnT "arrows_round" 13 .none .none .none (s "roundsum.shapes" 320) none (r 119) .none)), #[]⟩) ::
 (nat_lit 121, tu []) ::
 (nat_lit 124, co [(s "is_shape" 328), (s "is_shape" 329), (s "/claim/cut.py" 330), (z 28), (z 1), (z 0), (z 0), (z 3), (r 121), (.bool true), (z 181), (r 122), .none, .none, .none, (r 123), (z 331), (z 28), (s "/claim/cut.py" 332)]) ::
 (nat_lit 125, ⟨(t "function"), none, (.func (fnT "is_shape" 14 .none .none .none (s "roundsum.shapes" 320) none (r 124) .none)), #[]⟩) ::
 (nat_lit 126, tu []) ::
 (nat_lit 129, co [(s "is_number" 340), (s "is_number" 341), (s "/claim/cut.py" 342), (z 38), (z 1), (z 0), (z 0), (z 3), (r 126), (.bool true), (z 181), (r 127), .none, .none, .none, (r 128), (z 343), (z 38), (s "/claim/cut.py" 344)]) ::
 (nat_lit 130, ⟨(t "function"), none, (.func (fnT "is_number" 18 .none .none .none (s "roundsum.notes" 334) none (r 129) .none)), #[]⟩) ::
 (nat_lit 131, tu []) ::
 (nat_lit 134, co [(s "is_corner" 346), (s "is_corner" 347), (s "/claim/cut.py" 348), (z 45), (z 1), (z 0), (z 0), (z 3), (r 131), (.bool true), (z 181), (r 132), .none, .none, .none, (r 133), (z 349), (z 45), (s "/claim/cut.py" 350)]) ::
 (nat_lit 135, ⟨(t "function"), none, (.func (fnT "is_corner" 19 .none .none .none (s "roundsum.notes" 334) none (r 134) .none)), #[]⟩) ::
 (nat_lit 136, tu []) ::
 (nat_lit 138, tu [(s "text" 355), (s "numbers" 356)]) ::
 (nat_lit 139, tu []) ::
 (nat_lit 141, co [(s "corner_of" 352), (s "corner_of" 353), (s "/claim/cut.py" 354), (z 48), (z 1), (z 0), (z 0), (z 3), (r 136), (.bool true), (z 181), (r 137), .none, (r 138), (r 139), (r 140), (z 357), (z 48), (s "/claim/cut.py" 358)]) ::
 (nat_lit 142, ⟨(t "function"), none, (.func (fnT "corner_of" 20 .none .none .none (s "roundsum.notes" 334) none (r 141) .none)), #[]⟩) ::
 (nat_lit 143, tu []) ::
 (nat_lit 146, co [(s "read" 360), (s "read" 361), (s "/claim/cut.py" 362), (z 51), (z 1), (z 0), (z 0), (z 3), (r 143), (.bool true), (z 181), (r 144), .none, .none, .none, (r 145), (z 363), (z 51), (s "/claim/cut.py" 364)]) ::
 (nat_lit 147, ⟨(t "function"), none, (.func (fnT "read" 21 .none .none .none (s "roundsum.notes" 334) none (r 146) .none)), #[]⟩) ::
 (nat_lit 148, tu []) ::
 (nat_lit 150, tu [(s "script" 371), (s "k" 372)]) ::
 (nat_lit 151, tu []) ::
 (nat_lit 153, co [(s "_law_cell_at" 368), (s "_law_cell_at" 369), (s "/claim/cut.py" 370), (z 60), (z 2), (z 0), (z 0), (z 3), (r 148), (.bool true), (z 181), (r 149), .none, (r 150), (r 151), (r 152), (z 373), (z 60), (s "/claim/cut.py" 374)]) ::
 (nat_lit 154, ⟨(t "function"), none, (.func (fnT "_law_cell_at" 23 .none .none .none (s "law_roundsum_k18_texts_refused" 366) none (r 153) .none)), #[]⟩) ::
 (nat_lit 155, tu []) ::
 (nat_lit 157, tu [(s "seed" 379)]) ::
 (nat_lit 158, tu []) ::
 (nat_lit 160, co [(s "_law_stir" 376), (s "_law_stir" 377), (s "/claim/cut.py" 378), (z 64), (z 1), (z 0), (z 0), (z 3), (r 155), (.bool true), (z 181), (r 156), .none, (r 157), (r 158), (r 159), (z 380), (z 64), (s "/claim/cut.py" 381)]) ::
 (nat_lit 161, ⟨(t "function"), none, (.func (fnT "_law_stir" 24 .none .none .none (s "law_roundsum_k18_texts_refused" 366) none (r 160) .none)), #[]⟩) ::
 (nat_lit 162, tu []) ::
 (nat_lit 164, tu [(s "one" 386), (s "other" 387)]) ::
 (nat_lit 165, tu []) ::
 (nat_lit 167, co [(s "_law_cross" 383), (s "_law_cross" 384), (s "/claim/cut.py" 385), (z 67), (z 2), (z 0), (z 0), (z 3), (r 162), (.bool true), (z 181), (r 163), .none, (r 164), (r 165), (r 166), (z 388), (z 67), (s "/claim/cut.py" 389)]) ::
 (nat_lit 168, ⟨(t "function"), none, (.func (fnT "_law_cross" 25 .none .none .none (s "law_roundsum_k18_texts_refused" 366) none (r 167) .none)), #[]⟩) ::
 (nat_lit 169, tu []) ::
 (nat_lit 171, tu [(s "one" 394), (s "other" 395)]) ::
 (nat_lit 172, tu []) ::
 (nat_lit 174, co [(s "_law_arrow" 391), (s "_law_arrow" 392), (s "/claim/cut.py" 393), (z 69), (z 2), (z 0), (z 0), (z 3), (r 169), (.bool true), (z 181), (r 170), .none, (r 171), (r 172), (r 173), (z 396), (z 69), (s "/claim/cut.py" 397)]) ::
 (nat_lit 175, ⟨(t "function"), none, (.func (fnT "_law_arrow" 26 .none .none .none (s "law_roundsum_k18_texts_refused" 366) none (r 174) .none)), #[]⟩) ::
 (nat_lit 176, tu []) ::
 (nat_lit 178, tu [(s "points" 402), (s "found" 403), (s "point" 404)]) ::
 (nat_lit 179, tu []) ::
 (nat_lit 181, co [(s "_law_chain" 399), (s "_law_chain" 400), (s "/claim/cut.py" 401), (z 71), (z 1), (z 0), (z 0), (z 3), (r 176), (.bool true), (z 181), (r 177), .none, (r 178), (r 179), (r 180), (z 405), (z 71), (s "/claim/cut.py" 406)]) ::
 (nat_lit 182, ⟨(t "function"), none, (.func (fnT "_law_chain" 27 .none .none .none (s "law_roundsum_k18_texts_refused" 366) none (r 181) .none)), #[]⟩) ::
 (nat_lit 183, tu []) ::
 (nat_lit 186, co [(s "_law_hull" 408), (s "_law_hull" 409), (s "/claim/cut.py" 410), (z 80), (z 1), (z 0), (z 0), (z 3), (r 183), (.bool true), (z 181), (r 184), .none, .none, .none, (r 185), (z 411), (z 80), (s "/claim/cut.py" 412)]) ::
 (nat_lit 187, ⟨(t "function"), none, (.func (fnT "_law_hull" 28 .none .none .none (s "law_roundsum_k18_texts_refused" 366) none (r 186) .none)), #[]⟩) ::
 (nat_lit 188, tu []) ::
 (nat_lit 191, co [(s "_law_points" 414), (s "_law_points" 415), (s "/claim/cut.py" 416), (z 85), (z 3), (z 0), (z 0), (z 3), (r 188), (.bool true), (z 181), (r 189), .none, .none, .none, (r 190), (z 417), (z 85), (s "/claim/cut.py" 418)]) ::
 (nat_lit 192, ⟨(t "function"), none, (.func (fnT "_law_points" 29 .none .none .none (s "law_roundsum_k18_texts_refused" 366) none (r 191) .none)), #[]⟩) ::
 (nat_lit 193, tu []) ::
 (nat_lit 195, tu [(s "script" 423), (s "at" 424), (s "most" 425)]) ::
 (nat_lit 196, tu []) ::
 (nat_lit 198, co [(s "_law_shape" 420), (s "_law_shape" 421), (s "/claim/cut.py" 422), (z 96), (z 3), (z 0), (z 0), (z 3), (r 193), (.bool true), (z 181), (r 194), .none, (r 195), (r 196), (r 197), (z 426), (z 96), (s "/claim/cut.py" 427)]) ::
 (nat_lit 199, ⟨(t "function"), none, (.func (fnT "_law_shape" 30 .none .none .none (s "law_roundsum_k18_texts_refused" 366) none (r 198) .none)), #[]⟩) ::
 (nat_lit 200, tu []) ::
 (nat_lit 203, co [(s "_law_points_like" 429), (s "_law_points_like" 430), (s "/claim/cut.py" 431), (z 98), (z 2), (z 0), (z 0), (z 3), (r 200), (.bool true), (z 181), (r 201), .none, .none, .none, (r 202), (z 432), (z 98), (s "/claim/cut.py" 433)]) ::
 (nat_lit 204, ⟨(t "function"), none, (.func (fnT "_law_points_like" 31 .none .none .none (s "law_roundsum_k18_texts_refused" 366) none (r 203) .none)), #[]⟩) ::
 (nat_lit 205, tu []) ::
 (nat_lit 207, tu [(s "arrow" 438)]) ::
 (nat_lit 208, tu []) ::
 (nat_lit 210, co [(s "_law_half" 435), (s "_law_half" 436), (s "/claim/cut.py" 437), (z 107), (z 1), (z 0), (z 0), (z 3), (r 205), (.bool true), (z 181), (r 206), .none, (r 207), (r 208), (r 209), (z 439), (z 107), (s "/claim/cut.py" 440)]) ::
 (nat_lit 211, ⟨(t "function"), none, (.func (fnT "_law_half" 32 .none .none .none (s "law_roundsum_k18_texts_refused" 366) none (r 210) .none)), #[]⟩) ::
 (nat_lit 212, tu []) ::
 (nat_lit 214, tu [(s "corners" 445), (s "found" 446), (s "k" 447)]) ::
 (nat_lit 215, tu []) ::
 (nat_lit 217, co [(s "_law_sides" 442), (s "_law_sides" 443), (s "/claim/cut.py" 444), (z 109), (z 1), (z 0), (z 0), (z 3), (r 212), (.bool true), (z 181), (r 213), .none, (r 214), (r 215), (r 216), (z 448), (z 109), (s "/claim/cut.py" 449)]) ::
 (nat_lit 218, ⟨(t "function"), none, (.func (fnT "_law_sides" 33 .none .none .none (s "law_roundsum_k18_texts_refused" 366) none (r 217) .none)), #[]⟩) ::
 (nat_lit 219, tu []) ::
 (nat_lit 221, tu [(s "corners" 454), (s "arrows" 455), (s "k" 456), (s "ahead" 457), (s "here" 458)]) ::
 (nat_lit 222, tu []) ::
 (nat_lit 224, co [(s "_law_good" 451), (s "_law_good" 452), (s "/claim/cut.py" 453), (z 116), (z 1), (z 0), (z 0), (z 3), (r 219), (.bool true), (z 181), (r 220), .none, (r 221), (r 222), (r 223), (z 459), (z 116), (s "/claim/cut.py" 460)]) ::
 (nat_lit 225, ⟨(t "function"), none, (.func (fnT "_law_good" 34 .none .none .none (s "law_roundsum_k18_texts_refused" 366) none (r 224) .none)), #[]⟩) ::
 (nat_lit 226, tu []) ::
 (nat_lit 228, tu [(s "e" 465), (s "told" 466)]) ::
 (nat_lit 229, tu []) ::
 (nat_lit 231, co [(s "_law_which" 462), (s "_law_which" 463), (s "/claim/cut.py" 464), (z 128), (z 1), (z 0), (z 0), (z 3), (r 226), (.bool true), (z 181), (r 227), .none, (r 228), (r 229), (r 230), (z 467), (z 128), (s "/claim/cut.py" 468)]) ::
 (nat_lit 232, ⟨(t "function"), none, (.func (fnT "_law_which" 35 .none .none .none (s "law_roundsum_k18_texts_refused" 366) none (r 231) .none)), #[]⟩) ::
 (nat_lit 233, tu []) ::
 (nat_lit 236, co [(s "_law_number" 470), (s "_law_number" 471), (s "/claim/cut.py" 472), (z 134), (z 1), (z 0), (z 0), (z 3), (r 233), (.bool true), (z 181), (r 234), .none, .none, .none, (r 235), (z 473), (z 134), (s "/claim/cut.py" 474)]) ::
 (nat_lit 237, ⟨(t "function"), none, (.func (fnT "_law_number" 36 .none .none .none (s "law_roundsum_k18_texts_refused" 366) none (r 236) .none)), #[]⟩) ::
 (nat_lit 238, tu []) ::
 (nat_lit 241, co [(s "_law_written" 476), (s "_law_written" 477), (s "/claim/cut.py" 478), (z 143), (z 1), (z 0), (z 0), (z 3), (r 238), (.bool true), (z 181), (r 239), .none, .none, .none, (r 240), (z 479), (z 143), (s "/claim/cut.py" 480)]) ::
 (nat_lit 242, ⟨(t "function"), none, (.func (fnT "_law_written" 37 .none .none .none (s "law_roundsum_k18_texts_refused" 366) none (r 241) .none)), #[]⟩) ::
 (nat_lit 243, tu []) ::
 (nat_lit 245, tu [(s "text" 485), (s "cell" 486), (s "at" 487), (s "sign" 488), (s "words" 489), (s "place" 490), (s "other" 491), (s "first" 492)]) ::
 (nat_lit 246, tu []) ::
 (nat_lit 248, co [(s "_law_changed" 482), (s "_law_changed" 483), (s "/claim/cut.py" 484), (z 153), (z 2), (z 0), (z 0), (z 3), (r 243), (.bool true), (z 181), (r 244), .none, (r 245), (r 246), (r 247), (z 493), (z 153), (s "/claim/cut.py" 494)]) ::
 (nat_lit 249, ⟨(t "function"), none, (.func (fnT "_law_changed" 38 .none .none .none (s "law_roundsum_k18_texts_refused" 366) none (r 248) .none)), #[]⟩) ::
 (nat_lit 250, tu []) ::
 (nat_lit 252, tu [(s "text" 499), (s "told" 500), (s "e" 501)]) ::
 (nat_lit 253, tu []) ::
 (nat_lit 255, co [(s "_law_asked" 496), (s "_law_asked" 497), (s "/claim/cut.py" 498), (z 171), (z 1), (z 0), (z 0), (z 3), (r 250), (.bool true), (z 181), (r 251), .none, (r 252), (r 253), (r 254), (z 502), (z 171), (s "/claim/cut.py" 503)]) ::
 (nat_lit 256, ⟨(t "function"), none, (.func (fnT "_law_asked" 39 .none .none .none (s "law_roundsum_k18_texts_refused" 366) none (r 255) .none)), #[]⟩) ::
 (nat_lit 257, tu []) ::
 (nat_lit 260, co [(s "law" 505), (s "law" 506), (s "/claim/cut.py" 507), (z 178), (z 1), (z 0), (z 0), (z 3), (r 257), (.bool true), (z 181), (r 258), .none, .none, .none, (r 259), (z 508), (z 178), (s "/claim/cut.py" 509)]) ::
 (nat_lit 261, ⟨(t "function"), none, (.func (fnT "law" 40 .none .none .none (s "law_roundsum_k18_texts_refused" 366) none (r 260) .none)), #[]⟩) :: []
noncomputable def heapAs : List Addr := [2, 3, 15, 22, 23, 24, 25, 28, 35, 36, 37, 40, 47, 48, 49, 52, 59, 60, 61, 64, 71, 72, 73, 76, 83, 84, 85, 88, 90, 91, 93, 94, 95, 97, 98, 100, 101, 102, 104, 105, 107, 108, 109, 111, 112, 114, 115, 116, 119, 120, 121, 124, 125, 126, 129, 130, 131, 134, 135, 136, 138, 139, 141, 142, 143, 146, 147, 148, 150, 151, 153, 154, 155, 157, 158, 160, 161, 162, 164, 165, 167, 168, 169, 171, 172, 174, 175, 176, 178, 179, 181, 182, 183, 186, 187, 188, 191, 192, 193, 195, 196, 198, 199, 200, 203, 204, 205, 207, 208, 210, 211, 212, 214, 215, 217, 218, 219, 221, 222, 224, 225, 226, 228, 229, 231, 232, 233, 236, 237, 238, 241, 242, 243, 245, 246, 248, 249, 250, 252, 253, 255, 256, 257, 260, 261]
noncomputable def heapM (P : Params) : Frag := (nat_lit 11, tu []) ::
 (nat_lit 12, fi [(z 2), (z 0), (r 20), (z 4), (z 0), (r 33), (z 6), (z 0), (r 45), (z 8), (z 0), (r 57), (z 10), (z 0), (r 69), (z 12), (z 0), (r 81), (z 15), (z 0), (r 93), (z 17), (z 0), (r 100), (z 19), (z 0), (r 107), (z 21), (z 0), (r 114), (z 26), (z 0), (r 119), (z 28), (z 0), (r 124), (z 38), (z 0), (r 129), (z 45), (z 0), (r 134), (z 48), (z 0), (r 141), (z 51), (z 0), (r 146), (z 60), (z 0), (r 153), (z 64), (z 0), (r 160), (z 67), (z 0), (r 167), (z 69), (z 0), (r 174), (z 71), (z 0), (r 181), (z 80), (z 0), (r 186), (z 85), (z 0), (r 191), (z 96), (z 0), (r 198), (z 98), (z 0), (r 203), (z 107), (z 0), (r 210), (z 109), (z 0), (r 217), (z 116), (z 0), (r 224), (z 128), (z 0), (r 231), (z 134), (z 0), (r 236), (z 143), (z 0), (r 241), (z 153), (z 0), (r 248), (z 171), (z 0), (r 255), (z 178), (z 0), (r 260)]) ::
 (nat_lit 13, co [(s "<module>" 182), (s "<module>" 183), (s "/claim/cut.py" 184), (z 1), (z 0), (z 0), (z 0), (z 0), (r 11), (.bool false), (z 181), (r 12), .none, .none, .none, .none, (z 185), (z 1), (s "/claim/cut.py" 186)]) ::
 (nat_lit 14, ⟨(t "frame"), none, .plain, #[(some (r 13)), (some (r 3)), (some (r 3)), none, (some (s "__main__" 164)), none, (some (r 0))]⟩) ::
 (nat_lit 16, ⟨(t "builtin_function_or_method"), none, (.fields #[(.builtin "type.__prepare__"), (t "type")]), #[]⟩) ::
 (nat_lit 17, ⟨(t "dict"), none, (.dict #[(e P "__module__" 196 (s "roundsum.errors" 187)), (e P "__qualname__" 198 (s "RoundError" 197)), (e P "__firstlineno__" 200 (i 2 199)), (e P "__static_attributes__" 201 (r 22))] 4), #[]⟩) ::
 (nat_lit 18, tu []) ::
 (nat_lit 19, fi []) ::
 (nat_lit 20, co [(s "RoundError" 191), (s "RoundError" 192), (s "/claim/cut.py" 193), (z 2), (z 0), (z 0), (z 0), (z 0), (r 18), (.bool false), (z 181), (r 19), .none, .none, .none, .none, (z 194), (z 2), (s "/claim/cut.py" 195)]) ::
 (nat_lit 21, ⟨(t "frame"), none, .plain, #[(some (r 20)), (some (r 3)), (some (r 17)), none, (some (s "roundsum.errors" 187)), none, (some (r 0))]⟩) ::
 (nat_lit 26, ⟨(t "super"), none, (.fields #[(r 24), (r 24), (r 24)]), #[]⟩) ::
 (nat_lit 27, ⟨(t "builtin_function_or_method"), none, (.fields #[(.builtin "object.__init_subclass__"), (r 24)]), #[]⟩) ::
 (nat_lit 29, ⟨(t "builtin_function_or_method"), none, (.fields #[(.builtin "type.__prepare__"), (t "type")]), #[]⟩) ::
 (nat_lit 30, ⟨(t "dict"), none, (.dict #[(e P "__module__" 214 (s "roundsum.errors" 187)), (e P "__qualname__" 216 (s "NoShape" 215)), (e P "__firstlineno__" 218 (i 4 217)), (e P "__static_attributes__" 219 (r 35))] 4), #[]⟩) ::
 (nat_lit 31, tu []) ::
 (nat_lit 32, fi []) ::
 (nat_lit 33, co [(s "NoShape" 209), (s "NoShape" 210), (s "/claim/cut.py" 211), (z 4), (z 0), (z 0), (z 0), (z 0), (r 31), (.bool false), (z 181), (r 32), .none, .none, .none, .none, (z 212), (z 4), (s "/claim/cut.py" 213)]) ::
 (nat_lit 34, ⟨(t "frame"), none, .plain, #[(some (r 33)), (some (r 3)), (some (r 30)), none, (some (s "roundsum.errors" 187)), none, (some (r 0))]⟩) ::
 (nat_lit 38, ⟨(t "super"), none, (.fields #[(r 37), (r 37), (r 37)]), #[]⟩) ::
 (nat_lit 39, ⟨(t "builtin_function_or_method"), none, (.fields #[(.builtin "object.__init_subclass__"), (r 37)]), #[]⟩) ::
 (nat_lit 41, ⟨(t "builtin_function_or_method"), none, (.fields #[(.builtin "type.__prepare__"), (t "type")]), #[]⟩) ::
 (nat_lit 42, ⟨(t "dict"), none, (.dict #[(e P "__module__" 230 (s "roundsum.errors" 187)), (e P "__qualname__" 232 (s "NoPoints" 231)), (e P "__firstlineno__" 234 (i 6 233)), (e P "__static_attributes__" 235 (r 47))] 4), #[]⟩) ::
 (nat_lit 43, tu []) ::
 (nat_lit 44, fi []) ::
 (nat_lit 45, co [(s "NoPoints" 225), (s "NoPoints" 226), (s "/claim/cut.py" 227), (z 6), (z 0), (z 0), (z 0), (z 0), (r 43), (.bool false), (z 181), (r 44), .none, .none, .none, .none, (z 228), (z 6), (s "/claim/cut.py" 229)]) ::
 (nat_lit 46, ⟨(t "frame"), none, .plain, #[(some (r 45)), (some (r 3)), (some (r 42)), none, (some (s "roundsum.errors" 187)), none, (some (r 0))]⟩) ::
 (nat_lit 50, ⟨(t "super"), none, (.fields #[(r 49), (r 49), (r 49)]), #[]⟩) ::
 (nat_lit 51, ⟨(t "builtin_function_or_method"), none, (.fields #[(.builtin "object.__init_subclass__"), (r 49)]), #[]⟩) ::
 (nat_lit 53, ⟨(t "builtin_function_or_method"), none, (.fields #[(.builtin "type.__prepare__"), (t "type")]), #[]⟩) ::
 (nat_lit 54, ⟨(t "dict"), none, (.dict #[(e P "__module__" 246 (s "roundsum.errors" 187)), (e P "__qualname__" 248 (s "NoNumber" 247)), (e P "__firstlineno__" 250 (i 8 249)), (e P "__static_attributes__" 251 (r 59))] 4), #[]⟩) ::
 (nat_lit 55, tu []) ::
 (nat_lit 56, fi []) ::
 (nat_lit 57, co [(s "NoNumber" 241), (s "NoNumber" 242), (s "/claim/cut.py" 243), (z 8), (z 0), (z 0), (z 0), (z 0), (r 55), (.bool false), (z 181), (r 56), .none, .none, .none, .none, (z 244), (z 8), (s "/claim/cut.py" 245)]) ::
 (nat_lit 58, ⟨(t "frame"), none, .plain, #[(some (r 57)), (some (r 3)), (some (r 54)), none, (some (s "roundsum.errors" 187)), none, (some (r 0))]⟩) ::
 (nat_lit 62, ⟨(t "super"), none, (.fields #[(r 61), (r 61), (r 61)]), #[]⟩) ::
 (nat_lit 63, ⟨(t "builtin_function_or_method"), none, (.fields #[(.builtin "object.__init_subclass__"), (r 61)]), #[]⟩) ::
 (nat_lit 65, ⟨(t "builtin_function_or_method"), none, (.fields #[(.builtin "type.__prepare__"), (t "type")]), #[]⟩) ::
 (nat_lit 66, ⟨(t "dict"), none, (.dict #[(e P "__module__" 262 (s "roundsum.errors" 187)), (e P "__qualname__" 264 (s "TooLong" 263)), (e P "__firstlineno__" 266 (i 10 265)), (e P "__static_attributes__" 267 (r 71))] 4), #[]⟩) ::
 (nat_lit 67, tu []) ::
 (nat_lit 68, fi []) ::
 (nat_lit 69, co [(s "TooLong" 257), (s "TooLong" 258), (s "/claim/cut.py" 259), (z 10), (z 0), (z 0), (z 0), (z 0), (r 67), (.bool false), (z 181), (r 68), .none, .none, .none, .none, (z 260), (z 10), (s "/claim/cut.py" 261)]) ::
 (nat_lit 70, ⟨(t "frame"), none, .plain, #[(some (r 69)), (some (r 3)), (some (r 66)), none, (some (s "roundsum.errors" 187)), none, (some (r 0))]⟩) ::
 (nat_lit 74, ⟨(t "super"), none, (.fields #[(r 73), (r 73), (r 73)]), #[]⟩) ::
 (nat_lit 75, ⟨(t "builtin_function_or_method"), none, (.fields #[(.builtin "object.__init_subclass__"), (r 73)]), #[]⟩) ::
 (nat_lit 77, ⟨(t "builtin_function_or_method"), none, (.fields #[(.builtin "type.__prepare__"), (t "type")]), #[]⟩) ::
 (nat_lit 78, ⟨(t "dict"), none, (.dict #[(e P "__module__" 278 (s "roundsum.errors" 187)), (e P "__qualname__" 280 (s "NoNote" 279)), (e P "__firstlineno__" 282 (i 12 281)), (e P "__static_attributes__" 283 (r 83))] 4), #[]⟩) ::
 (nat_lit 79, tu []) ::
 (nat_lit 80, fi []) ::
 (nat_lit 81, co [(s "NoNote" 273), (s "NoNote" 274), (s "/claim/cut.py" 275), (z 12), (z 0), (z 0), (z 0), (z 0), (r 79), (.bool false), (z 181), (r 80), .none, .none, .none, .none, (z 276), (z 12), (s "/claim/cut.py" 277)]) ::
 (nat_lit 82, ⟨(t "frame"), none, .plain, #[(some (r 81)), (some (r 3)), (some (r 78)), none, (some (s "roundsum.errors" 187)), none, (some (r 0))]⟩) ::
 (nat_lit 86, ⟨(t "super"), none, (.fields #[(r 85), (r 85), (r 85)]), #[]⟩) ::
 (nat_lit 87, ⟨(t "builtin_function_or_method"), none, (.fields #[(.builtin "object.__init_subclass__"), (r 85)]), #[]⟩) ::
 (nat_lit 89, fi []) ::
 (nat_lit 92, f0 "arrow_from" 8) ::
 (nat_lit 96, fi []) ::
 (nat_lit 99, f0 "turn" 9) ::
 (nat_lit 103, fi []) ::
 (nat_lit 106, f0 "in_first_half" 10) ::
 (nat_lit 110, fi []) ::
 (nat_lit 113, f0 "goes_before" 11) ::
 (nat_lit 117, fi []) ::
 (nat_lit 118, f0 "arrows_round" 13) ::
 (nat_lit 122, fi []) ::
 (nat_lit 123, f0 "is_shape" 14) ::
 (nat_lit 127, fi []) ::
 (nat_lit 128, f0 "is_number" 18) ::
 (nat_lit 132, fi []) ::
 (nat_lit 133, f0 "is_corner" 19) ::
 (nat_lit 137, fi []) ::
 (nat_lit 140, f0 "corner_of" 20) ::
 (nat_lit 144, fi []) ::
 (nat_lit 145, f0 "read" 21) ::
 (nat_lit 149, fi []) ::
 (nat_lit 152, f0 "_law_cell_at" 23) ::
 (nat_lit 156, fi []) ::
 (nat_lit 159, f0 "_law_stir" 24) ::
 (nat_lit 163, fi []) ::
 (nat_lit 166, f0 "_law_cross" 25) ::
 (nat_lit 170, fi []) ::
 (nat_lit 173, f0 "_law_arrow" 26) ::
 (nat_lit 177, fi []) ::
 (nat_lit 180, f0 "_law_chain" 27) ::
 (nat_lit 184, fi []) ::
 (nat_lit 185, f0 "_law_hull" 28) ::
 (nat_lit 189, fi []) ::
 (nat_lit 190, f0 "_law_points" 29) ::
 (nat_lit 194, fi []) ::
 (nat_lit 197, f0 "_law_shape" 30) ::
 (nat_lit 201, fi []) ::
 (nat_lit 202, f0 "_law_points_like" 31) ::
 (nat_lit 206, fi []) ::
 (nat_lit 209, f0 "_law_half" 32) ::
 (nat_lit 213, fi []) ::
 (nat_lit 216, f0 "_law_sides" 33) ::
 (nat_lit 220, fi []) ::
 (nat_lit 223, f0 "_law_good" 34) ::
 (nat_lit 227, fi []) ::
 (nat_lit 230, f0 "_law_which" 35) ::
 (nat_lit 234, fi []) ::
 (nat_lit 235, f0 "_law_number" 36) ::
 (nat_lit 239, fi []) ::
 (nat_lit 240, f0 "_law_written" 37) ::
 (nat_lit 244, fi []) ::
 (nat_lit 247, f0 "_law_changed" 38) ::
 (nat_lit 251, fi []) ::
 (nat_lit 254, f0 "_law_asked" 39) ::
 (nat_lit 258, fi []) ::
 (nat_lit 259, f0 "law" 40) :: []
noncomputable def heapN (P : Params) : Frag := (nat_lit 3, ⟨(t "dict"), none, (.dict #[(e P "__name__" 165 (s "roundsum.errors" 187)), (e P "__doc__" 166 .none), (e P "__package__" 167 .none), (e P "__loader__" 168 (.builtin "__main__.__loader__#opaque")), (e P "__spec__" 169 .none), (e P "__annotations__" 170 (r 6)), (e P "__builtins__" 171 (r 4)), (e P "__file__" 173 (s "/claim/cut.py" 172)), (e P "__cached__" 174 .none), (e P "RoundError" 206 (r 24)), (e P "NoShape" 222 (r 37)), (e P "NoPoints" 238 (r 49)), (e P "NoNumber" 254 (r 61)), (e P "TooLong" 270 (r 73))] 14), #[]⟩) ::
 (nat_lit 12, fi [(z 2), (z 0), (r 20), (z 4), (z 0), (r 33), (z 6), (z 0), (r 45), (z 8), (z 0), (r 57), (z 10), (z 0), (r 69)]) ::
 (nat_lit 24, ⟨(t "type"), none, (.cls ⟨"RoundError", [(t "ValueError")], [(r 24), (t "ValueError"), (t "Exception"), (t "BaseException"), (t "object")], 23, "RoundError", true, [], [(r 37), (r 49), (r 61), (r 73)], false, none, false⟩), #[(some (r 15)), none, (some (s "RoundError" 189)), (some (s "RoundError" 197)), (some (.builtin "ValueError.__new__")), (some (.bool true))]⟩) :: []
theorem hookE (P : Params) : heapAs = (heapK P).map (·.1) := by kernel_rfl
noncomputable abbrev hook : Hook := kHook heapK heapAs hookE
noncomputable abbrev pw : Program := PySem.Challenge.pw_roundsum_k18_texts_refused
noncomputable def seenQ : Program := view pw [1, 2, 3, 4, 5, 6, 8, 9, 10, 11, 13, 14, 16, 17, 18, 19, 20, 21, 23, 24, 25, 26, 27, 28, 29, 30, 31, 32, 33, 34, 35, 36, 37, 38, 39, 40]
noncomputable def bootH (P : Params) : Heap := ((fencedOpening treeTable pw ⟨fun _ _ => 0, P⟩ 4366).getD {}).heap
noncomputable def objE (P : Params) (a : Nat) : Obj := match (heapM P).lookup a with
 | some o => o
 | none => match (heapK P).lookup a with
  | some o => o
  | none => ((bootH P).objs[a]?).getD default
noncomputable def objM (P : Params) (a : Nat) : Obj := match (heapN P).lookup a with
 | some o => o
 | none => objE P a
noncomputable def endH (P : Params) : Heap := ⟨((List.range 262).map (objE P)).toArray, {}⟩
noncomputable def midH (P : Params) : Heap := ⟨((List.range 76).map (objM P)).toArray, {}⟩
noncomputable def bd : List Stmt := behindTheImports pw
noncomputable def env0 : Env := { scope := pw.main.scope, locals := mainNs, globals := mainNs, cells := [], code := .ref 13, frame := some 14 }
noncomputable def cd0 : Code := .body bd env0
noncomputable def p0 : Pos := ⟨0, 0, 0, 0⟩
noncomputable def stA (P : Params) (os : OsState) : Shared := ((topGo treeTable pw ⟨fun _ _ => 0, P⟩ 11 ((some (.ref 6))) 12 ⟨bootH P, #[], {}, 181, os⟩ (topStub pw)).map (·.1)).getD {}
theorem hopen (w : World) : (fencedOpening treeTable pw w 4366).map (fun s => (s.heap, s.gens, s.drawn, s.toks)) = some (bootH w.params, #[], {}, 181) := by kernel_rfl
theorem hsize (w : World) : ((bootH w.params).isNs mainGlobals && (#[] : Array GenState).size == 0, (bootH w.params).objs.size, (bootH w.params).nsMap mainGlobals "__annotations__") = (true, 11, (some (.ref 6))) := by kernel_rfl
theorem hpre (w : World) (os : OsState) : topGo treeTable pw w 11 ((some (.ref 6))) 12 ⟨bootH w.params, #[], {}, 181, os⟩ (topStub pw) = some (stA w.params os, ⟨denote treeTable cd0, cd0, p0, [topFrame p0]⟩) := by kernel_rfl
set_option tactic.hygienic true in
theorem hblock (w : World) (os : OsState) : segRun treeTable pw w 11 ((some (.ref 6))) 1 1 (stA w.params os) (blockOf bd env0 cd0 p0 [topFrame p0]) = some (.next, stA w.params os, cd0, p0) := by kernel_rfl
set_option tactic.hygienic true in
theorem hone (w : World) (os : OsState) : segRun treeTable pw w 11 ((some (.ref 6))) 1 1048 (stA w.params os) (piecesOf (bd.take 6) env0 cd0 p0 [topFrame p0]) = some (.next, ⟨midH w.params, #[], {}, 271, os⟩, cd0, ⟨10, 0, 11, 8⟩) := by kernel_rfl
set_option tactic.hygienic true in
theorem htwo (w : World) (os : OsState) : segRun treeTable pw w 11 ((some (.ref 6))) 1 1074 ⟨midH w.params, #[], {}, 271, os⟩ (piecesOf (bd.drop 6) env0 cd0 ⟨10, 0, 11, 8⟩ [topFrame p0]) = some (.next, ⟨endH w.params, #[], {}, 511, os⟩, cd0, ⟨178, 0, 193, 67⟩) := by kernel_rfl
set_option tactic.hygienic true in
theorem hend (w : World) (os : OsState) : topRun treeTable pw w 11 ((some (.ref 6))) 2 ⟨endH w.params, #[], {}, 511, os⟩ ⟨doneF .next, cd0, ⟨178, 0, 193, 67⟩, [topFrame p0]⟩ = some ⟨endH w.params, #[], {}, 511, os⟩ := by kernel_rfl
theorem hrun (w : World) (os : OsState) : topRun treeTable pw w 11 ((some (.ref 6))) (12 + (1 + (1048 + (1074 + 2)))) ⟨bootH w.params, #[], {}, 181, os⟩ (topStub pw) = some ⟨endH w.params, #[], {}, 511, os⟩ := by
 refine go_top (hpre w os) (piece_block (hblock w os) ?_)
 have h := piece_app (hone w os) (piece_app (htwo w os) (piece_nil (env := env0) (hend w os)))
 rw [List.append_nil, List.take_append_drop] at h
 exact h
noncomputable abbrev seenX (s : Shared) : Bool := xlAt seenQ [] s && recOk (RowW.records PySem.Challenge.rw_roundsum_k18_texts_refused.row.toRowW) s
theorem hlooks (w : World) : (fun os => ((staticsOk (importedModules pw.main.body) (bootH w.params) (endH w.params) && namesBound pw (endH w.params) && gensDone ⟨endH w.params, #[], {}, 511, os⟩ && laidKept (bootH w.params) (endH w.params)),
  openSeen seenQ [] (importedModules pw.main.body) seenX true ⟨endH w.params, #[], {}, 511, os⟩, hook.obs ⟨endH w.params, #[], {}, 511, os⟩)) = fun _ => (true, openGood seenQ [], hook.val w) := by kernel_rfl
theorem left_law : LeftO PySem.Challenge.rw_roundsum_k18_texts_refused.row.prog seenQ [] seenX hook.obs hook.val 4366 := LeftO.of_pieces hopen hsize hrun rfl hlooks
end KH
namespace K1
open PySem L2
open RS (Pt isShape good)
noncomputable abbrev sNumL : Stmt := top 36
noncomputable abbrev sWritten : Stmt := top 37
noncomputable abbrev sChanged : Stmt := top 38
noncomputable def nv (x : Str) : V := if isN x = true then .int (valI x) else .non
inductive spNumL (vs : List V) (H : Hp) (Q : VK) (u3 : XK) : Prop
 | mk (x : _) (c0 : vs = [.str x]) (c1 : Tx 400 x) (c2 : ∀ H', Same H H' -> Q (nv x) H') : spNumL  vs H Q u3
inductive spWritten (vs : List V) (H : Hp) (Q : VK) (u3 : XK) : Prop
 | mk (x : _) (c0 : vs = [.str x]) (c1 : Tx 362 x) (c2 : (readM x = none -> ∀ H', Same H H' -> Q .non H')) (c3 : ∀ ps, readM x = some ps -> ∀ r H', Same H H' -> H r = none -> Pts H' r ps -> Q (.ref r) H') : spWritten  vs H Q u3
inductive spChanged (vs : List V) (H : Hp) (Q : VK) (u3 : XK) : Prop
 | mk (x : _) (n : _) (c : _) (c0 : vs = [.str x, .int c]) (c1 : Tx n x) (c2 : n <= 400) (c3 : ∀ y H', Same H H' -> Tx (n + 1) y -> Q (.str y) H') : spChanged  vs H Q u3
noncomputable def signs19 : Str := Str.ofString "0123456789, -\n\t+_x."
theorem signs_are : signs19.cps.toList = [48, 49, 50, 51, 52, 53, 54, 55, 56, 57, 44, 32, 45, 10, 9, 43, 95, 120, 46] := by
 unfold signs19
 rw [PyProof.Rows.signs_ofString]
 rfl
theorem sign_at {i : Nat} (h : i < 19) : ∃ c, signs19.cps.toList[i]? = some c /\ c < 128 := by
 have hl : i < signs19.cps.toList.length := by rw [signs_are]; exact h
 refine ⟨_, List.getElem?_eq_getElem hl, ?_⟩
 have : ∀ c ∈ signs19.cps.toList, c < 128 := by rw [signs_are]; decide
 exact this _ (List.getElem_mem _)
theorem zero_is : Str.ofString "0" = ⟨#[48]⟩ := str_ext zero_cps
theorem nv_no {x : Str} (h : isN x = false) : nv x = .non := by
 unfold nv
 rw [h]
 rfl
theorem nv_yes {x : Str} (h : isN x = true) : nv x = .int (valI x) := by
 unfold nv
 rw [h]
 rfl
theorem isN_no {x : Str} (h : okF x = false) : isN x = false := by
 unfold isN
 rw [h]
 rfl
theorem first_dash (x : Str) : (Txt.slice x none (some 1) = Str.ofString "-") ↔ Txt.startswith x dash = true := by
 have e : (Txt.slice x none (some 1)).cps.toList = x.cps.toList.take 1 \/ x.cps.toList = [] := by
  rcases Nat.eq_zero_or_pos x.length with h | h
  ·right
   have := cps_len x
   rw [h] at this
   exact List.length_eq_zero_iff.mp this
  ·exact .inl (slice_to (i := 1) h)
 rcases figs_cases x with ⟨f, h1, h2, _⟩ | ⟨h1, _, h3⟩
 ·refine ⟨fun _ => h2, fun _ => ?_⟩
  rcases e with e | e
  ·refine str_ext ?_
   rw [e, h1, dash_cps]
   rfl
  ·rw [h1] at e
   cases e
 ·refine ⟨fun z => ?_, fun z => by rw [h1] at z; cases z⟩
  exfalso
  rcases e with e | e
  ·rw [z, dash_cps] at e
   cases hx : x.cps.toList with
   | nil => rw [hx] at e; cases e
   | cons c r =>
    rw [hx] at e h3
    have e : [45] = [c] := e
    injection e with e _
    exact h3 (by rw [<- e]; rfl)
  ·have l := Txt.slice_le x none (some 1)
   have lx : x.length = 0 := by rw [<- cps_len, e]; rfl
   have lz : (Str.ofString "-").length = 1 := by rw [<- cps_len, dash_cps]; rfl
   rw [z, lz, lx] at l
   exact absurd l (by decide)
section
variable {P : Program} {w : World} {K : PySem.W.Frag} {mg : Str -> Option Value} {base : Heap}
theorem scNL : FnScope ["word", "figures"] ["word"] (defScope sNumL) := ⟨rfl, rfl, rfl, by decide +kernel, rfl, by decide +kernel, by decide +kernel⟩
theorem ok_lnum {f : Addr} {fd : FuncData} (F : Fun K "_law_number" "_law_number" sNumL f fd) (ml : mg "len" = none) (mi : mg "int" = none) : FnOk P w K mg base CX0 1 f fd ["word"] spNumL := by
 refine F.ok scNL (fun vs H Q E h => ?_) (fun cdv A outer s H vs Q E hr h => ?_)
 ·obtain ⟨x, rfl, _⟩ := h
  rfl
 ·obtain ⟨x, rfl, hx, k⟩ := h
  refine ⟨_, pss_cons (ps_set (i := 1) scNL.nd rfl (Or.inl rfl) (pv 0))
   (pss_cons (ps_if (pt_cmpR op_eq (pe_slice sl_str (pv 0) po_none (po_some pe_int)) pe_str (nomark _)) (pss_one (ps_set (i := 1) scNL.nd rfl (Or.inl rfl) (pe_slice sl_str (pv 0) (po_some pe_int) po_none))) pss_nil)
   (pss_cons (ps_if (PW.pt (pw_or (pt_not (pt_chain op_le op_le pe_int (pe_callB call_len_str rfl ml PySem.boot_len (pa_cons (pv 1) pa_nil)) pe_int)) (pw_or1 (pt_cmpR op_gt (pe_callB call_len_seq rfl ml PySem.boot_len (pa_cons
    (pe_lc (tn := ["sign"]) (cs := []) (g := gName 0) (tt := tTest (tOp rNotInS (tVar 0) (tC (.str figs)))) (te := tVar 0) (Caps.none (by decide +kernel) rfl (by decide +kernel)) rfl
     (pi_str (pv 1))
     (fun C s₀ H₀ fp xe => pg_name (i := 0) nodup1 rfl (Or.inl rfl) (.inr rfl))
     (fun C s₀ H₀ fp xe => pts_one (pt_cmpR op_notInS (pv 0) pe_str rfl))
     (fun C s₀ H₀ fp xe => pv 0)) pa_nil)) pe_int (nomark _))))) (pss_one (ps_ret pe_non)) pss_nil)
   (pss_cons (ps_if (PW.pt (pw_and (pt_cmpR op_eq (pe_ix ix_str (pv 1) pe_int (fun _ _ => rfl)) pe_str (nomark _)) (pw_and1 (pt_cmpR op_ne (pv 0) pe_str (nomark _))))) (pss_one (ps_ret pe_non)) pss_nil)
   (pss_one (ps_ret (pe_callTy call_int_str rfl mi bootInt (pa_cons (pv 0) pa_nil))))))), ?_⟩
  have xl := hx.1
  refine seq_to (fun σ H' => σ = [some (.str x), some (.str x)] /\ H' = H) (fun N hN => ⟨_, rfl, hN _ _ ⟨rfl, rfl⟩⟩) ?_
  rintro σ H' ⟨rfl, rfl⟩
  refine seq_to (fun σ H1 => σ = [some (.str x), some (.str (figsOf x))] /\ H1 = H') (fun N hN => ?_) ?_
  ·refine ⟨_, rfl, _, rfl, _, rfl, Nat.le_trans xl (by decide), rfl, _, rfl, ?_⟩
   refine ite2 (fun c => ?_) (fun c => ?_)
   ·have c : Txt.slice x none (some 1) = Str.ofString "-" := by
     have := of_decide_eq_true c
     injection this
    refine ⟨_, rfl, _, rfl, _, rfl, Nat.le_trans xl (by decide), hN _ _ ⟨?_, rfl⟩⟩
    unfold figsOf
    rw [if_pos ((first_dash x).mp c)]
    rfl
   ·refine hN _ _ ⟨?_, rfl⟩
    unfold figsOf
    rw [if_neg fun z => c (decide_eq_true (congrArg V.str ((first_dash x).mpr z)))]
  rintro σ H' ⟨rfl, rfl⟩
  have ft := figs_tx hx
  have fl := ft.1
  have no : okF x = false -> ∀ H1, Same H' H1 -> Q .non H1 := fun z H1 s1 => by
   have := k H1 s1
   rw [nv_no (isN_no z)] at this
   exact this
  have ed : okF x = (decide (1 <= (figsOf x).length /\ (figsOf x).length <= 7) && (figsOf x).cps.toList.all isFig) := rfl
  have rd := okF_reads (x := x)
  generalize figsOf x = y at ft fl ed rd ⊢
  refine ⟨_, rfl, _, rfl, (by show y.length <= 2 ^ 24; omega), _, _, rfl, rfl, _, rfl, ?_⟩
  refine ite2 (fun c1 => ?_) (fun c1 => ?_)
  ·have c1 := of_decide_eq_true c1
   refine ⟨_, _, rfl, rfl, _, rfl, ?_⟩
   refine ite2 (fun c2 => ?_) (fun c2 => ?_)
   ·refine iteT ?_
    refine no ?_ H' (Same.refl _)
    rw [ed, decide_eq_false]
    ·rfl
    ·intro z
     rw [decide_eq_true (show (y.length : Int) <= 7 by omega)] at c2
     cases c2
   have c2 : y.length <= 7 := Nat.le_of_not_lt fun z => c2 (by rw [decide_eq_false (show ¬ (y.length : Int) <= 7 by omega)]; rfl)
   refine ⟨_, rfl, y, rfl, ft.2.all, fun D nD => ?_⟩
   refine lc_str (z := y) (D := D) (fun j σ H1 => (∃ u, σ = [u]) /\ Same H' H1 /\ H1 D = some (.lst (((y.cps.toList.take j).filter fun c => !isFig c).map fun c => V.str ⟨#[c]⟩))) ⟨⟨none, rfl⟩, same_upd nD, upd_same⟩ ?_ ?_
   ·rintro j c σ H1 hc ⟨⟨u, rfl⟩, sm, hD⟩
    have er := cps_get hc
    refine g_go ?_
    refine ⟨_, rfl, _, _, rfl, rfl, _, rfl, ?_⟩
    rw [fig_all c (ft.2 c (List.mem_of_getElem? er))]
    refine ite2 (fun c3 => ?_) (fun c3 => ?_)
    ·refine ⟨_, rfl, _, hD, size100 ?_, ⟨_, rfl⟩, same_set sm nD, ?_⟩
     ·rw [List.length_map]
      have := List.length_filter_le (fun c => !isFig c) (y.cps.toList.take j)
      rw [List.length_take, cps_len] at this
      omega
     ·rw [upd_same, take_next er, List.filter_append, List.map_append, List.filter_cons_of_pos (p := fun c => !isFig c) c3]
      rfl
    ·refine ⟨⟨_, rfl⟩, sm, ?_⟩
     rw [hD, take_next er, List.filter_append, List.filter_cons_of_neg (p := fun c => !isFig c) c3, List.filter_nil, List.append_nil]
   ·rintro σ H1 ⟨_, sm, hD⟩
    rw [List.take_of_length_le (by rw [cps_len]; exact Nat.le_refl _)] at hD
    refine ⟨D, _, rfl, .inl (SqL.of hD), _, _, rfl, rfl, _, rfl, ?_⟩
    rw [List.length_map]
    have fa : (y.cps.toList.filter fun c => !isFig c).length = 0 ↔ y.cps.toList.all isFig = true := by
     rw [List.length_eq_zero_iff, List.filter_eq_nil_iff, List.all_eq_true]
     refine ⟨fun z c hc => ?_, fun z c hc => ?_⟩
     ·cases hb : isFig c with
      | true => rfl
      | false => exact absurd (by rw [hb]; rfl) (z c hc)
     ·rw [z c hc]
      decide
    refine ite2 (fun c3 => ?_) (fun c3 => ?_)
    ·refine no ?_ H1 sm
     have c3 := of_decide_eq_true c3
     rw [ed]
     cases hb : y.cps.toList.all isFig with
     | false => rw [Bool.and_false]
     | true =>
      have := fa.mpr hb
      omega
    have c3 : y.cps.toList.all isFig = true := fa.mp (Nat.eq_zero_of_not_pos fun z => c3 (decide_eq_true (by omega)))
    have ok : okF x = true := by
     rw [ed, c3, decide_eq_true ⟨by omega, c2⟩]
     rfl
    obtain ⟨r1, r2, _, _, r3⟩ := rd ok
    obtain ⟨c, rest, hy⟩ : ∃ c rest, y.cps.toList = c :: rest := List.exists_cons_of_length_pos (by rw [cps_len]; omega)
    have kk := k H1 sm
    refine ⟨_, rfl, y, 0, c, rfl, rfl, (by show y.length <= 2 ^ 24; omega), atI_nat (j := 0) (by rw [hy]; rfl), rfl, _, rfl, ?_⟩
    have yes : ¬ (y.cps.toList.head? = some 48 /\ x ≠ Str.ofString "0") -> Q (.int (valI x)) H1 := fun z => by
     rw [nv_yes (by unfold isN; rw [ok, Bool.true_and]; exact decide_eq_true (r3.mpr z))] at kk
     exact kk
    refine ite2 (fun c4 => ?_) (fun c4 => ?_)
    ·have c4 : c = 48 := by
      have := of_decide_eq_true c4
      injection this with this
      rw [zero_is] at this
      injection this with this
      injection this with this
      injection this
     refine ⟨_, rfl, rfl, _, rfl, ?_⟩
     refine ite2 (fun c5 => ?_) (fun c5 => ?_)
     ·rw [nv_no] at kk
      ·exact kk
      ·unfold isN
       rw [ok, Bool.true_and]
       refine decide_eq_false fun z => r3.mp z ⟨by rw [hy, c4]; rfl, fun e => ?_⟩
       rw [e] at c5
       rw [decide_eq_true rfl] at c5
       cases c5
     ·refine ⟨_, rfl, x, valI x, rfl, r1, by omega, yes fun z => c5 ?_⟩
      rw [decide_eq_false]
      ·rfl
      ·intro e
       injection e with e
       exact z.2 e
    ·refine iteF ?_
     refine ⟨_, rfl, x, valI x, rfl, r1, by omega, yes fun z => c4 (decide_eq_true ?_)⟩
     have := z.1
     rw [hy] at this
     have : c = 48 := Option.some.inj this
     rw [this, zero_is]
  ·refine ⟨_, rfl, iteT (iteT ?_)⟩
   refine no ?_ H' (Same.refl _)
   rw [ed, decide_eq_false]
   ·rfl
   ·intro z
    exact c1 (decide_eq_true (by omega))
theorem flat_nv (zs : List Str) : (zs.map nv).all flatV = true := by
 rw [List.all_map, List.all_eq_true]
 intro z _
 show flatV (nv z) = true
 cases h : isN z with
 | true => rw [nv_yes h]; rfl
 | false => rw [nv_no h]; rfl
theorem in_nv : ∀ zs : List Str, inV .non (zs.map nv) = !(zs.all isN)
 | [] => rfl
 | z :: zs => by
  have ih := in_nv zs
  unfold inV at ih ⊢
  rw [List.map_cons, List.any_cons, ih, List.all_cons]
  cases h : isN z with
  | true => rw [nv_yes h]; rfl
  | false => rw [nv_no h]; rfl
theorem scWr : FnScope ["text", "found", "word", "parts"] ["text"] (defScope sWritten) := ⟨rfl, rfl, rfl, by decide +kernel, rfl, by decide +kernel, by decide +kernel⟩
theorem ok_written {f f1 f2 : Addr} {fd fd1 fd2 : FuncData} (F : Fun K "_law_written" "_law_written" sWritten f fd)
  (G1 : FnOk P w K mg base CX0 1 f1 fd1 ["word"] spNumL) (k1 : PySem.W.keepIn K (.ref f1) = true) (b1 : Binds K fd1 ["word"] []) (m1 : mg "_law_number" = some (.ref f1))
  (G2 : FnOk P w K mg base CX0 3 f2 fd2 ["corners"] (spPtsBl (2 ^ 60) good)) (k2 : PySem.W.keepIn K (.ref f2) = true) (b2 : Binds K fd2 ["corners"] []) (m2 : mg "_law_good" = some (.ref f2))
  (ml : mg "len" = none) : FnOk P w K mg base CX0 4 f fd ["text"] spWritten := by
 refine F.ok scWr (fun vs H Q E h => ?_) (fun cdv A outer s H vs Q E hr h => ?_)
 ·obtain ⟨x, rfl, _⟩ := h
  rfl
 ·obtain ⟨x, rfl, hx, kN, k⟩ := h
  have hr1 := hr.mono (j := 1) (by decide)
  refine ⟨_, pss_cons (ps_set (i := 1) scWr.nd rfl (Or.inl rfl) (pe_lst pa_nil))
   (pss_cons (ps_for PassesOwn.never rfl (pi_list (pe_bm PySem.F.plainAttrs_str PySem.F.slot_str_split PySem.F.type_str_split mt_split (pv 0) (pa_cons pe_str pa_nil))) (pg_name (i := 2) scWr.nd rfl (Or.inl rfl))
    (pss_cons (ps_lc (j := 3) (tn := ["part"]) (cs := []) (g := gName 0) (tt := tYes) (te := tCall spNumL [] E0 (tCons (tVar 0) tNil)) (Caps.none (by decide +kernel) rfl (by decide +kernel)) rfl
      (pi_list (pe_bm PySem.F.plainAttrs_str PySem.F.slot_str_split PySem.F.type_str_split mt_split (pv 2) (pa_cons pe_str pa_nil)))
      (fun C s₀ H₀ fp xe => pg_name (i := 0) nodup1 rfl (Or.inl rfl) (.inr rfl))
      (fun C s₀ H₀ fp xe => pts_nil)
      (fun C s₀ H₀ fp xe => pe_call G1 hr1 rfl m1 k1 b1 .nil pass0 (pa_cons (pv 0) pa_nil)) scWr.nd rfl rfl rfl)
    (pss_cons (ps_if (PW.pt (pw_or (pt_cmpR op_ne (pe_callB call_len_seq rfl ml PySem.boot_len (pa_cons (pv 3) pa_nil)) pe_int (nomark _)) (pw_or1 (pt_cmpR op_in_seq pe_non (pv 3) rfl)))) (pss_one (ps_ret pe_non)) pss_nil)
    (pss_one (ps_expr (pe_bm PySem.F.plainAttrs_list PySem.F.slot_list_append PySem.F.type_list_append mt_append (pv 1) (pa_cons (pe_tup (pa_cons (pe_ix ix_list (pv 3) pe_int (fun _ _ => rfl)) (pa_cons (pe_ix ix_list (pv 3) pe_int (fun _ _ => rfl)) pa_nil))) pa_nil)))))))
   (pss_cons (ps_if (pt_not (pt_val (pe_call G2 hr rfl m2 k2 b2 .nil pass0 (pa_cons (pv 1) pa_nil)))) (pss_one (ps_ret pe_non)) pss_nil)
   (pss_one (ps_ret (pv 1))))), ?_⟩
  have xl := hx.1
  have wt := words_tx hx
  have wf := words_any hx
  have wl := words_len hx
  have rN := read_no (x := x)
  have rY := read_yes (x := x)
  refine ⟨Nat.zero_le _, fun D nD => ?_⟩
  refine ⟨_, rfl, rfl, x, blank1, rfl, rfl, (by rw [blank_is]; decide), (by show _ <= 2 ^ 24; omega), fun d nd => ?_⟩
  refine ⟨d, rfl, ⟨_, SqL.of upd_same⟩, ?_⟩
  have sD : Same H (upd H D (.lst [])) := same_upd nD
  have pD : Pts (upd (upd H D (.lst [])) d (.lst ((wordsM x).map V.str))) D [] := ⟨[], same_upd nd _ _ upd_same, .nil⟩
  have s2 : Same H (upd (upd H D (.lst [])) d (.lst ((wordsM x).map V.str))) := sD.trans (same_upd nd)
  have hd : upd (upd H D (.lst [])) d (.lst ((wordsM x).map V.str)) d = some (.lst ((wordsM x).map V.str)) := upd_same
  have dD : d ≠ D := fun z => by
   rw [z, upd_same] at nd
   cases nd
  refine for_list (K := K) (a := d) (xs := (wordsM x).map V.str) (fun i σ H' => (∃ u v, σ = [some (.str x), some (.ref D), u, v]) /\ Same H H' /\ H' d = some (.lst ((wordsM x).map V.str)) /\ Pts H' D (((wordsM x).map cornerM).take i) /\ ((wordsM x).take i).all isC = true) ⟨⟨none, none, rfl⟩, s2, hd, pD, rfl⟩
   (fun i σ H' _ ⟨_, _, q, _⟩ => SqL.of q) ?_ ?_
  ·rintro i v σ H' ex ⟨⟨u, v', rfl⟩, sm, hd', pt, hall⟩
   obtain ⟨z, ez, rfl⟩ := str_get ex
   have hz := List.mem_of_getElem? ez
   have tz := wt z hz
   have zl := tz.1
   have hi : i < (wordsM x).length := (List.getElem?_eq_some_iff.mp ez).1
   have er : ((wordsM x).map cornerM)[i]? = some (cornerM z) := by rw [List.getElem?_map, ez]; rfl
   have bad : isC z = false -> readM x = none := fun q => rN (by
    cases hb : (wordsM x).all isC with
    | false => rfl
    | true =>
     have := List.all_eq_true.mp hb z hz
     rw [q] at this
     cases this)
   refine g_go ?_
   refine ⟨_, rfl, rfl, z, comma, rfl, rfl, (by rw [comma_is]; decide), (by show _ <= 2 ^ 24; omega), fun e ne => ?_⟩
   refine ⟨e, rfl, ⟨_, SqL.of upd_same⟩, fun M nM => ?_⟩
   have pt1 := parts_tx (tz.wide (show 362 <= 400 by decide))
   have pf := parts_few tz
   have ec : isC z = (decide ((Txt.split z comma).length = 2) && (Txt.split z comma).all isN) := rfl
   have two := isC_two (x := z)
   generalize Txt.split z comma = zs at pt1 pf ec two nM ⊢
   have se : Same H' (upd H' e (.lst (zs.map V.str))) := same_upd ne
   have he : upd H' e (.lst (zs.map V.str)) e = some (.lst (zs.map V.str)) := upd_same
   generalize upd H' e (.lst (zs.map V.str)) = H1 at se he nM ⊢
   refine lc_list (K := K) (a := e) (D := M) (xs := zs.map V.str) (fun j σ H2 => (∃ u, σ = [u]) /\ Same H1 H2 /\ H2 M = some (.lst ((zs.map nv).take j))) ⟨⟨none, rfl⟩, same_upd nM, upd_same⟩
    (fun j σ H2 _ ⟨_, q, _⟩ => SqL.of (q _ _ he)) ?_ ?_
   ·rintro j v σ H2 ex2 ⟨⟨u, rfl⟩, sm2, hM⟩
    obtain ⟨y, ey, rfl⟩ := str_get ex2
    have er2 : (zs.map nv)[j]? = some (nv y) := by rw [List.getElem?_map, ey]; rfl
    refine g_go ?_
    refine yes_go ?_
    refine ⟨_, rfl, y, rfl, pt1 y (List.mem_of_getElem? ey), fun H3 s3 => ?_⟩
    refine ⟨_, s3 _ _ hM, size100 (by rw [List.length_take, List.length_map]; omega), ⟨_, rfl⟩, same_set (sm2.trans s3) nM, ?_⟩
    rw [upd_same, take_next er2]
   ·rintro σ H2 ⟨_, sm2, hM⟩
    rw [List.length_map, List.take_of_length_le (by rw [List.length_map]; exact Nat.le_refl _)] at hM
    have s12 := se.trans sm2
    have s02 := sm.trans s12
    have pt2 := Pts.same s12 pt
    have hd2 := s12 _ _ hd'
    refine ⟨_, rfl, M, _, rfl, .inl (SqL.of hM), rfl, _, rfl, ?_⟩
    refine ite2 (fun c => ?_) (fun c => ?_)
    ·refine iteT ?_
     refine kN (bad ?_) H2 s02
     rw [ec, decide_eq_false, Bool.false_and]
     intro q
     rw [List.length_map, q] at c
     have c : (!decide (V.int 2 = V.int 2)) = true := c
     rw [decide_eq_true rfl] at c
     cases c
    ·have c : zs.length = 2 := Decidable.byContradiction fun q => c (by
      rw [decide_eq_false]
      ·rfl
      ·intro e
       injection e with e
       rw [List.length_map] at e
       omega)
     refine ⟨_, rfl, M, _, rfl, .inl (SqL.of hM), rfl, flat_nv zs, _, rfl, ?_⟩
     show (if inV .non (zs.map nv) = true then _ else _)
     rw [in_nv]
     cases hb : zs.all isN with
     | false => exact iteT (kN (bad (by rw [ec, hb, Bool.and_false])) H2 s02)
     | true =>
      refine iteF ?_
      have hC : isC z = true := by rw [ec, hb, decide_eq_true c]; rfl
      obtain ⟨a, b, e2, na, nb, ecn, _⟩ := two hC
      subst e2
      have hM : H2 M = some (.lst [.int (valI a), .int (valI b)]) := by
       rw [hM, List.map_cons, List.map_cons, List.map_nil, nv_yes na, nv_yes nb]
      obtain ⟨ds, d1, d2⟩ := id pt2
      refine ⟨_, rfl, .inl ⟨rfl, _, SqL.of d1⟩, _, rfl, M, _, _, _, rfl, rfl, SqL.of hM, rfl, _, rfl, M, _, _, _, rfl, rfl, SqL.of hM, rfl, by show 2 <= sizeLine; decide, fun t nt => ?_⟩
      have st : Same H2 (upd H2 t (.tup [.int (valI a), .int (valI b)])) := same_upd nt
      obtain ⟨ys, y1, y2, y3, y4⟩ := pts_push (r := t) (v := cornerM z) nD (s02.trans st) (Pts.same st pt2) (by rw [ecn]; exact upd_same) (by rw [List.length_take, List.length_map]; exact size100 (by omega))
      rw [st _ _ d1] at y1
      cases y1
      refine ⟨D, _, _, rfl, rfl, st _ _ d1, y2, ⟨_, _, rfl⟩, y3, ?_, ?_, ?_⟩
      ·rw [upd_ne dD]
       exact st _ _ hd2
      ·rw [take_next er]
       exact y4
      ·rw [take_next ez, List.all_append, hall, List.all_cons, hC]
       rfl
  ·rintro σ H' ⟨⟨u, v, rfl⟩, sm, hd', pt, hall⟩
   rw [List.length_map] at pt hall
   rw [List.take_of_length_le (by rw [List.length_map]; exact Nat.le_refl _)] at pt
   rw [List.take_of_length_le (Nat.le_refl _)] at hall
   have wl := wl hall
   have rY := rY hall
   have hC : ∀ z ∈ wordsM x, isC z = true := List.all_eq_true.mp hall
   have pB : ∀ p ∈ (wordsM x).map cornerM, Bd (2 ^ 60) p := fun p hp => by
    obtain ⟨z, hz, rfl⟩ := List.mem_map.mp hp
    obtain ⟨q1, q2⟩ := corner_sm (hC z hz)
    unfold Bd
    omega
   have pl : ((wordsM x).map cornerM).length <= 100 := by rw [List.length_map]; omega
   generalize (wordsM x).map cornerM = ps at rY pt pB pl
   refine ⟨_, rfl, D, ps, rfl, pt, pl, pB, fun H4 s4 => ⟨_, rfl, ?_⟩⟩
   rw [<- RS.shape_good]
   cases hs : isShape ps with
   | false =>
    rw [hs] at rY
    exact iteT (kN rY H4 (sm.trans s4))
   | true =>
    rw [hs] at rY
    exact iteF ⟨_, rfl, k ps rY D H4 (sm.trans s4) nD (Pts.same s4 pt)⟩
theorem ixN_at {n i : Nat} (h : i < n) : ixN n (i : Int) = some i := by
 unfold ixN
 rw [if_pos (by omega), if_pos (by omega)]
 simp
theorem mod_at (c : Int) {n : Nat} (h : 0 < n) : ∃ i : Nat, i < n /\ c % (n : Int) = (i : Int) := by
 have h1 := Int.emod_nonneg c (show (n : Int) ≠ 0 by omega)
 have h2 := Int.emod_lt_of_pos c (show (0 : Int) < n by omega)
 exact ⟨(c % (n : Int)).toNat, by omega, by omega⟩
theorem scCg : FnScope ["text", "cell", "at", "sign", "words", "place", "other", "first"] ["text", "cell"] (defScope sChanged) := ⟨rfl, rfl, rfl, by decide +kernel, rfl, by decide +kernel, by decide +kernel⟩
theorem ok_changed {f : Addr} {fd : FuncData} (F : Fun K "_law_changed" "_law_changed" sChanged f fd) (ml : mg "len" = none) : FnOk P w K mg base CX0 1 f fd ["text", "cell"] spChanged := by
 refine F.ok scCg (fun vs H Q E h => ?_) (fun cdv A outer s H vs Q E hr h => ?_)
 ·obtain ⟨x, n, c, rfl, _⟩ := h
  rfl
 ·obtain ⟨x, n, c, rfl, hx, hn, k⟩ := h
  refine ⟨_, pss_cons (ps_set (i := 2) scCg.nd rfl (Or.inl rfl) (pe_op op_mod (pe_op op_fdiv (pv 1) pe_int) (pe_op op_add (pe_callB call_len_str rfl ml PySem.boot_len (pa_cons (pv 0) pa_nil)) pe_int)))
   (pss_cons (ps_set (i := 3) scCg.nd rfl (Or.inl rfl) (pe_ix ix_str pe_str (pe_op op_mod (pe_op op_fdiv (pv 1) pe_int) pe_int) (fun _ _ => rfl)))
   (pss_cons (ps_set (i := 4) scCg.nd rfl (Or.inl rfl) (pe_bm PySem.F.plainAttrs_str PySem.F.slot_str_split PySem.F.type_str_split mt_split (pv 0) (pa_cons pe_str pa_nil)))
   (pss_cons (ps_set (i := 5) scCg.nd rfl (Or.inl rfl) (pe_op op_mod (pe_op op_fdiv (pv 1) pe_int) (pe_callB call_len_seq rfl ml PySem.boot_len (pa_cons (pv 4) pa_nil))))
   (pss_cons (ps_set (i := 6) scCg.nd rfl (Or.inl rfl) (pe_op op_mod (pe_op op_fdiv (pv 1) pe_int) (pe_callB call_len_seq rfl ml PySem.boot_len (pa_cons (pv 4) pa_nil))))
   (pss_cons (ps_if (pt_cmpR op_lt (pe_op op_mod (pv 1) pe_int) pe_int (nomark _)) (pss_one (ps_ret (pe_op op_add_str (pe_slice sl_str (pv 0) po_none (po_some (pv 2))) (pe_slice sl_str (pv 0) (po_some (pe_op op_add (pv 2) pe_int)) po_none)))) pss_nil)
   (pss_cons (ps_if (pt_cmpR op_lt (pe_op op_mod (pv 1) pe_int) pe_int (nomark _)) (pss_one (ps_ret (pe_op op_add_str (pe_op op_add_str (pe_slice sl_str (pv 0) po_none (po_some (pv 2))) (pv 3)) (pe_slice sl_str (pv 0) (po_some (pv 2)) po_none)))) pss_nil)
   (pss_cons (ps_if (pt_cmpR op_lt (pe_op op_mod (pv 1) pe_int) pe_int (nomark _)) (pss_one (ps_ret (pe_op op_add_str (pe_op op_add_str (pe_slice sl_str (pv 0) po_none (po_some (pv 2))) (pv 3)) (pe_slice sl_str (pv 0) (po_some (pe_op op_add (pv 2) pe_int)) po_none)))) pss_nil)
   (pss_cons (ps_if (pt_cmpR op_eq (pe_op op_mod (pv 1) pe_int) pe_int (nomark _)) (pss_one (ps_ret (pe_bm PySem.F.plainAttrs_str PySem.F.slot_str_join PySem.F.type_str_join mt_join pe_str (pa_cons (pe_op op_cat (pe_slice sl_list (pv 4) (po_some (pv 5)) po_none) (pe_slice sl_list (pv 4) po_none (po_some (pv 5)))) pa_nil)))) pss_nil)
   (pss_cons (ps_set (i := 7) scCg.nd rfl (Or.inl rfl) (pe_ix ix_list (pv 4) (pv 5) (fun _ _ => rfl)))
   (pss_cons (ps_asg (pe_ix ix_list (pv 4) (pv 6) (fun _ _ => rfl)) (pg_sub (pv 4) (pv 5) set_list))
   (pss_cons (ps_asg (pv 7) (pg_sub (pv 4) (pv 6) set_list))
   (pss_one (ps_ret (pe_bm PySem.F.plainAttrs_str PySem.F.slot_str_join PySem.F.type_str_join mt_join pe_str (pa_cons (pv 4) pa_nil))))))))))))))), ?_⟩
  have xl := hx.1
  have le : x.length <= sizeLine := Nat.le_trans xl (Nat.le_trans hn (by decide))
  obtain ⟨i, hi, ei⟩ := mod_at (c / 8) (Nat.succ_pos x.length)
  have ei : c / 8 % ((x.length : Int) + 1) = (i : Int) := ei
  obtain ⟨g, hg, eg⟩ := mod_at (c / 8192) (show 0 < 19 by decide)
  have eg : c / 8192 % 19 = (g : Int) := eg
  obtain ⟨sg, hsg, asg⟩ := sign_at hg
  obtain ⟨fa1, fa2⟩ := hx.to (i := i) (by omega)
  obtain ⟨fb1, fb2⟩ := hx.from i
  obtain ⟨fc1, fc2⟩ := hx.from (i + 1)
  have fc1 : Asc (Txt.slice x (some ((i : Int) + 1)) none) := fc1
  have fc2 : (Txt.slice x (some ((i : Int) + 1)) none).length = x.length - (i + 1) := fc2
  have sl1 : (⟨#[sg]⟩ : Str).length = 1 := rfl
  have sg1 : Asc ⟨#[sg]⟩ := Asc.one asg
  refine ⟨_, rfl, _, _, rfl, rfl, ⟨by decide, by decide⟩, _, rfl, x, rfl, le, _, _, rfl, rfl, _, _, rfl, rfl, (by show (0 : Int) < (x.length : Int) + 1; omega), ?_⟩
  rw [ei]
  refine ⟨_, rfl, _, _, rfl, rfl, ⟨by decide, by decide⟩, _, _, rfl, rfl, (by show (0 : Int) < 19; decide), signs19, _, sg, rfl, rfl, (by rw [<- cps_len, signs_are]; decide), (by rw [eg]; exact atI_nat hsg), ?_⟩
  refine ⟨_, rfl, rfl, x, blank1, rfl, rfl, (by rw [blank_is]; decide), (by show _ <= 2 ^ 24; omega), fun d nd => ?_⟩
  have w0 := List.length_pos_iff.mpr (words_ne x)
  have wf := words_any hx
  show tSeq _ _ _ _ (upd H d (.lst ((wordsM x).map V.str)))
  have ws1 := split_sum x 32
  rw [<- blank_is] at ws1
  have ws1 : ((wordsM x).map (·.length)).sum + (wordsM x).length = x.length + 1 := ws1
  have back : ∀ ws : List Str, (ws.map (·.length)).sum = ((wordsM x).map (·.length)).sum -> ws.length = (wordsM x).length -> (∀ w ∈ ws, w ∈ wordsM x) -> Tx n (Txt.join blank1 ws) := fun ws => words_back hx
  generalize wordsM x = ws at back w0 wf ws1 ⊢
  have el : (ws.map V.str).length = ws.length := List.length_map ..
  have sd : Same H (upd H d (.lst (ws.map V.str))) := same_upd nd
  have hd : upd H d (.lst (ws.map V.str)) d = some (.lst (ws.map V.str)) := upd_same
  generalize upd H d (.lst (ws.map V.str)) = H1 at sd hd ⊢
  obtain ⟨p, hp, ep⟩ := mod_at (c / 8) w0
  obtain ⟨o, ho, eo⟩ := mod_at (c / 512) w0
  have hpos : (0 : Int) < ((ws.map V.str).length : Int) := by omega
  refine ⟨_, rfl, _, _, rfl, rfl, ⟨by decide, by decide⟩, _, rfl, d, _, rfl, .inl (SqL.of hd), _, _, rfl, rfl, hpos, ?_⟩
  refine ⟨_, rfl, _, _, rfl, rfl, ⟨by decide, by decide⟩, _, rfl, d, _, rfl, .inl (SqL.of hd), _, _, rfl, rfl, hpos, ?_⟩
  dsimp only
  rw [el, ep, eo]
  refine ⟨_, rfl, _, _, rfl, rfl, (by show (0 : Int) < 8; decide), _, _, rfl, rfl, _, rfl, ?_⟩
  refine ite2 (fun c1 => ?_) (fun c1 => ?_)
  ·refine ⟨_, rfl, _, rfl, _, rfl, x, rfl, le, _, rfl, _, rfl, _, _, rfl, rfl, _, rfl, x, rfl, le, _, _, rfl, rfl, ?_, k _ H1 sd ⟨?_, fa1.app fc1⟩⟩
   ·show (Txt.slice x none (some (i : Int))).length + (Txt.slice x (some ((i : Int) + 1)) none).length <= 2 ^ 24
    omega
   ·rw [strLen_append]
    omega
  refine ⟨_, rfl, _, _, rfl, rfl, (by show (0 : Int) < 8; decide), _, _, rfl, rfl, _, rfl, ?_⟩
  refine ite2 (fun c2 => ?_) (fun c2 => ?_)
  ·refine ⟨_, rfl, _, rfl, _, rfl, x, rfl, le, _, rfl, _, _, rfl, rfl, ?_, _, rfl, _, rfl, _, rfl, x, rfl, le, _, _, rfl, rfl, ?_, k _ H1 sd ⟨?_, (fa1.app sg1).app fb1⟩⟩
   ·show (Txt.slice x none (some (i : Int))).length + (⟨#[sg]⟩ : Str).length <= 2 ^ 24
    omega
   ·show (Txt.slice x none (some (i : Int)) ++ ⟨#[sg]⟩).length + (Txt.slice x (some (i : Int)) none).length <= 2 ^ 24
    rw [strLen_append]
    omega
   ·rw [strLen_append, strLen_append]
    omega
  refine ⟨_, rfl, _, _, rfl, rfl, (by show (0 : Int) < 8; decide), _, _, rfl, rfl, _, rfl, ?_⟩
  refine ite2 (fun c3 => ?_) (fun c3 => ?_)
  ·refine ⟨_, rfl, _, rfl, _, rfl, x, rfl, le, _, rfl, _, _, rfl, rfl, ?_, _, rfl, _, rfl, _, _, rfl, rfl, _, rfl, x, rfl, le, _, _, rfl, rfl, ?_, k _ H1 sd ⟨?_, (fa1.app sg1).app fc1⟩⟩
   ·show (Txt.slice x none (some (i : Int))).length + (⟨#[sg]⟩ : Str).length <= 2 ^ 24
    omega
   ·show (Txt.slice x none (some (i : Int)) ++ ⟨#[sg]⟩).length + (Txt.slice x (some ((i : Int) + 1)) none).length <= 2 ^ 24
    rw [strLen_append]
    omega
   ·rw [strLen_append, strLen_append]
    omega
  have b1 : blank1.length = 1 := by
   rw [blank_is]
   rfl
  have room : ∀ zs : List Str, (zs.map (·.length)).sum = (ws.map (·.length)).sum -> zs.length = ws.length -> (zs.map (·.length)).sum + zs.length * blank1.length <= 16777216 := fun zs z1 z2 => by
   rw [z1, z2, b1]
   omega
  refine ⟨_, rfl, _, _, rfl, rfl, (by show (0 : Int) < 8; decide), rfl, _, rfl, ?_⟩
  refine ite2 (fun c4 => ?_) (fun c4 => ?_)
  ·refine ⟨rfl, _, rfl, _, rfl, _, rfl, d, _, rfl, SqL.of hd, fun d1 n1 => ?_⟩
   rw [cut_from]
   have s1 : Same H1 (upd H1 d1 (.lst ((ws.map V.str).drop p))) := same_upd n1
   refine ⟨_, rfl, _, rfl, _, rfl, d, _, rfl, SqL.of (s1 _ _ hd), fun d2 n2 => ?_⟩
   rw [cut_to]
   have s2 := s1.trans (same_upd (o := .lst ((ws.map V.str).take p)) n2)
   have e1 : upd (upd H1 d1 (.lst ((ws.map V.str).drop p))) d2 (.lst ((ws.map V.str).take p)) d1 = some (.lst ((ws.map V.str).drop p)) := by rw [upd_ne (ne_of_none upd_same n2), upd_same]
   have em : (ws.map V.str).drop p ++ (ws.map V.str).take p = (ws.drop p ++ ws.take p).map V.str := by rw [List.map_append, List.map_drop, List.map_take]
   have l1 := rot_sum ws p
   have l2 : (ws.drop p ++ ws.take p).length = ws.length := by
    rw [List.length_append, List.length_drop, List.length_take]
    omega
   refine ⟨d1, d2, _, _, rfl, rfl, e1, upd_same, ?_, fun r nr => ?_⟩
   ·rw [List.length_drop, List.length_take, el]
    show _ <= 2 ^ 24
    omega
   rw [em]
   refine ⟨blank1, r, ws.drop p ++ ws.take p, rfl, rfl, SqL.of upd_same, room _ l1 l2, k _ _ (sd.trans (s2.trans (same_upd nr))) ((back _ l1 l2 fun w hw => ?_).wide (Nat.le_succ _))⟩
   rcases List.mem_append.mp hw with q | q
   ·exact List.mem_of_mem_drop q
   ·exact List.mem_of_mem_take q
  ·have ea : ws[p]? = some ws[p] := List.getElem?_eq_getElem hp
   have eb : ws[o]? = some ws[o] := List.getElem?_eq_getElem ho
   refine ⟨_, rfl, _, rfl, d, _, _, _, rfl, rfl, SqL.of hd, atI_nat (str_at ea), ?_⟩
   refine ⟨_, rfl, _, rfl, d, _, _, _, rfl, rfl, SqL.of hd, atI_nat (str_at eb), _, rfl, _, rfl, d, _, _, p, rfl, rfl, hd, ixN_at (by rw [el]; exact hp), ?_⟩
   rw [<- List.map_set]
   refine ⟨_, rfl, _, rfl, _, rfl, d, _, _, o, rfl, rfl, upd_same, ixN_at (by rw [List.length_map, List.length_set]; exact ho), ?_⟩
   rw [<- List.map_set]
   have l1 := swap_sum ea eb
   have l2 : ((ws.set p ws[o]).set o ws[p]).length = ws.length := by rw [List.length_set, List.length_set]
   have s2 : Same H (upd (upd H1 d (.lst ((ws.set p ws[o]).map V.str))) d (.lst (((ws.set p ws[o]).set o ws[p]).map V.str))) := same_set (same_set sd nd) nd
   refine ⟨rfl, _, rfl, blank1, d, (ws.set p ws[o]).set o ws[p], rfl, rfl, SqL.of upd_same, room _ l1 l2, k _ _ s2 ((back _ l1 l2 fun w hw => ?_).wide (Nat.le_succ _))⟩
   rcases List.mem_or_eq_of_mem_set hw with q | q
   ·rcases List.mem_or_eq_of_mem_set q with q | q
    ·exact q
    ·rw [q]
     exact List.getElem_mem _
   ·rw [q]
    exact List.getElem_mem _
end
end K1
namespace K1
open PySem L2
open RS (Pt)
noncomputable abbrev sAsked : Stmt := top 39
inductive spAsk18 (vs : List V) (H : Hp) (Q : VK) (u3 : XK) : Prop
 | mk (x : _) (c0 : vs = [.str x]) (c1 : Tx 362 x) (c2 : (readM x = none -> ∀ H', Same H H' -> Q (.str "note") H')) (c3 : ∀ ps, readM x = some ps -> ∀ r H', Same H H' -> H r = none -> Pts H' r ps -> Q (.ref r) H') : spAsk18  vs H Q u3
section
variable {P : Program} {w : World} {K : PySem.W.Frag} {mg : Str -> Option Value} {base : Heap}
theorem scAs : FnScope ["text", "told", "e"] ["text"] (defScope sAsked) := ⟨rfl, rfl, rfl, by decide +kernel, rfl, by decide +kernel, by decide +kernel⟩
theorem ok_ask18 {cN cR f f1 f2 : Addr} {fd fd1 fd2 : FuncData} (F : Fun K "_law_asked" "_law_asked" sAsked f fd)
  (G1 : FnOk P w K mg base (CXR P w) 4 f1 fd1 ["text"] (spRead cN)) (k1 : PySem.W.keepIn K (.ref f1) = true) (b1 : Binds K fd1 ["text"] []) (m1 : mg "read" = some (.ref f1))
  (G2 : FnOkM P w K mg base 1 f2 fd2 ["e"] (spWhich cN "note")) (k2 : PySem.W.keepIn K (.ref f2) = true) (b2 : Binds K fd2 ["e"] []) (m2 : mg "_law_which" = some (.ref f2))
  (mR : mg "RoundError" = some (.ref cR)) (xR : PySem.W.exmOne K (.ref cN) (.ref cR) = some true) : FnOk P w K mg base CX0 5 f fd ["text"] spAsk18 := by
 refine F.ok scAs (fun vs H Q E h => ?_) (fun cdv A outer s H vs Q E hr h => ?_)
 ·obtain ⟨x, rfl, _⟩ := h
  rfl
 ·obtain ⟨x, rfl, hx, kE, k⟩ := h
  have hr1 := hr.mono (j := 1) (by decide)
  refine ⟨_, pss_cons (ps_set (i := 1) scAs.nd rfl (Or.inl rfl) pe_non)
   (pss_cons (ps_try (i := 2) (RX := fun cls _ H1 => cls = .ref cN /\ Same H H1 /\ readM x = none) scAs.nd rfl rfl rfl rfl rfl mR (fun cls H1 q => by rw [q.1]; exact xR)
    (fun pins => pss_one (ps_set (i := 1) scAs.nd rfl (Or.inl rfl) (pe_call G1 hr rfl m1 k1 b1 .nil passT (pa_cons (pv 0) pa_nil))))
    (fun pins e => pss_one (ps_set (i := 1) scAs.nd rfl (Or.inl rfl) (pe_callM G2 (hr1.marked _) rfl m2 k2 b2 (pa_cons (pv 2) pa_nil)))))
   (pss_one (ps_ret (pv 1)))), ?_⟩
  refine ⟨?_, ?_⟩
  ·refine ⟨_, rfl, x, rfl, hx, fun z H1 s1 => ⟨rfl, s1, z⟩, fun ps z r H1 s1 nr pr => ?_⟩
   exact ⟨_, rfl, k ps z r H1 s1 nr pr⟩
  ·rintro e cls H1 ⟨rfl, s1, z⟩ ne
   refine ⟨_, rfl, e, rfl, upd_same, fun H2 s2 => ?_⟩
   exact ⟨_, rfl, kE z H2 (s1.trans ((same_upd ne).trans s2))⟩
end
end K1
namespace K1
open PySem L2
open RS (Pt isShape cellAt lawShape)
noncomputable abbrev sLaw : Stmt := top 40
inductive spLaw (K : PySem.W.Frag) (vs : List V) (H : Hp) (Q : VK) (u3 : XK) : Prop
 | mk (a : Addr) (ns : List Int) (c0 : vs = [.ref a]) (c1 : SqL K H a (ns.map V.int)) (c2 : ∀ H', Q (.bl true) H') : spLaw K vs H Q u3
noncomputable def w18 (p : Pt) : Str := num p.1 ++ comma ++ num p.2
theorem w18_tx {p : Pt} (h : Sm p) : Tx 17 (w18 p) := by
 have e : comma.length = 1 := by rw [comma_is]; rfl
 have n1 := num_len h.1
 have n2 := num_len h.2
 refine ⟨?_, fun c hc => ?_⟩
 ·unfold w18
  rw [strLen_append, strLen_append]
  omega
 ·unfold w18 at hc
  rw [PyProof.Rows.cps_toList_append, PyProof.Rows.cps_toList_append, comma_is] at hc
  rcases List.mem_append.mp hc with q | q
  ·rcases List.mem_append.mp q with q | q
   ·have := num_free q
    omega
   ·have := List.mem_singleton.mp q
    omega
  ·have := num_free q
   omega
theorem sum_most {m : Nat} : ∀ {ws : List Str}, (∀ w ∈ ws, w.length <= m) -> (ws.map (·.length)).sum <= m * ws.length
 | [], _ => Nat.zero_le _
 | w :: r, h => by
  have a := h w List.mem_cons_self
  have b := sum_most fun x hx => h x (List.mem_cons_of_mem _ hx)
  rw [List.map_cons, List.sum_cons, List.length_cons, Nat.mul_succ]
  omega
theorem text18 {cs : List Pt} (h : ∀ p ∈ cs, Sm p) (hn : cs.length <= 20) : Tx 360 (Txt.join blank1 (cs.map w18)) := by
 have tx : ∀ w ∈ cs.map w18, Tx 17 w := fun w hw => by
  obtain ⟨p, hp, rfl⟩ := List.mem_map.mp hw
  exact w18_tx (h p hp)
 refine ⟨?_, Asc.join (by rw [blank_is]; exact Asc.one (by decide)) fun w hw => (tx w hw).2⟩
 have e : Txt.join blank1 (cs.map w18) = Str.join blank1 (cs.map w18) := StrLaws.glued_eq_join _ _
 rw [e]
 by_cases z : cs.map w18 = []
 ·rw [z, <- cps_len]
  exact Nat.zero_le _
 ·have j := join_len (show blank1.length = 1 by rw [blank_is]; rfl) z
  have s := sum_most fun w hw => (tx w hw).1
  rw [List.length_map] at j s
  omega
noncomputable def rAddS : R2 := fun x y H Q => ∃ i j, x = .str i /\ y = .str j /\ i.length + j.length <= sizeLine /\ Q (.str (i ++ j)) H
theorem op_addS {X : Cx} : OpR X (binaryOp .Add) rAddS := op_add_str
noncomputable def rStrI : List V -> Hp -> VK -> Prop := fun xs H Q => ∃ i, xs = [.int i] /\ i.natAbs.log2 < 1920 /\ Q (.str (toString i)) H
theorem call_strI {X : Cx} : CallR X (.type "str") rStrI := call_str_int
theorem nodupRU : ((["right", "up"] : List Str) ++ ([] : List (Str × Nat)).map (·.1)).Nodup := by decide +kernel
theorem star_const {c : Const} {k : Nat} {p : Pos} {es : List Expr} {env : Env} : starEach (.Constant c k p :: es) env = (false, eval (.Constant c k p) env) :: starEach es env := rfl
noncomputable def isTx (e : Expr) : Bool := match e with
 | .Constant (.str _) _ _ => true
 | _ => false
noncomputable def txOf (e : Expr) : Str := match e with
 | .Constant (.str x) _ _ => x
 | _ => Str.empty
noncomputable def okTx (e : Expr) : Bool := decide ((txOf e).length <= 20) && (txOf e).cps.toList.all fun c => decide (c < 128)
noncomputable def tTexts (es : List Expr) : TA := fun _ H Q => Q (es.map fun e => V.str (txOf e)) H
theorem pa_texts {X : Cx} : ∀ {es : List Expr}, es.all isTx = true -> PA X es (tTexts es)
 | [], _ => pa_nil
 | e :: es, h => by
  rw [List.all_cons, Bool.and_eq_true] at h
  have ih := pa_texts (X := X) h.2
  cases e with
  | Constant c k p =>
   cases c with
   | str x => exact pa_cons pe_str ih star_const
   | _ => exact absurd h.1 (by intro z; cases z)
  | _ => exact absurd h.1 (by intro z; cases z)
theorem set_texts {X : Cx} {i : Nat} {x : Str} {es : List Expr} {pos pos' p2 : Pos} (hN : X.N.Nodup) (hi : X.N[i]? = some x) (hx : Loc X.env.scope x) (h : es.all isTx = true) (hf : X.fn x = true \/ X.env.scope.names.lookup x = some .local) :
  PS X (.Assign [.Name x pos'] (.List es p2) pos) (tAsg (tLst (tTexts es)) (gName i)) := ps_set hN hi hx (pe_lst (pa_texts h)) rfl hf
theorem cat_texts {X : Cx} {i : Nat} {x : Str} {a : Expr} {es : List Expr} {pos pos' p2 p3 : Pos} (hN : X.N.Nodup) (hi : X.N[i]? = some x) (hx : Loc X.env.scope x) (ha : PE X a (tVar i)) (h : es.all isTx = true) (hf : X.fn x = true \/ X.env.scope.names.lookup x = some .local) :
  PS X (.Assign [.Name x pos'] (.BinOp a .Add (.List es p2) p3) pos) (tAsg (tOp rCat (tVar i) (tLst (tTexts es))) (gName i)) := ps_set hN hi hx (pe_op op_cat ha (pe_lst (pa_texts h))) rfl hf
theorem menu_run {K : PySem.W.Frag} {es1 es2 es3 : List Expr} {a c : Addr} {y : Str} {cell : Int} {t : Option V} {H0 H : Hp} {D : Ends} (hl : (es1 ++ es2 ++ es3).length = 21) (ht : (es1 ++ es2 ++ es3).all okTx = true) (sm : Same H0 H)
  (hN : ∀ σ' H', (∃ y t so, σ' = [some (.ref a), some (.ref c), some (.str y), some (.int cell), t, so, none, none] /\ Tx 362 y) /\ Same H0 H' -> D.nx σ' H') :
  tSeq (tAsg (tLst (tTexts es1)) (gName 5)) (tSeq (tAsg (tOp rCat (tVar 5) (tLst (tTexts es2))) (gName 5)) (tSeq (tAsg (tOp rCat (tVar 5) (tLst (tTexts es3))) (gName 5))
   (tAsg (tOp (rIxL K) (tVar 5) (tOp (rI (fun _ j => 0 < j) fun i j => .int (i % j)) (tOp (rI CDiv fun i j => .int (i / j)) (tVar 3) (tC (.int 8))) (tC (.int 21)))) (gName 2)))) D
   [some (.ref a), some (.ref c), some (.str y), some (.int cell), t, none, none, none] H := by
 have l : es1.length + es2.length + es3.length = 21 := by
  rw [List.length_append, List.length_append] at hl
  exact hl
 refine ⟨by rw [List.length_map]; exact Nat.le_of_lt (size100 (by omega)), fun d1 n1 => ?_⟩
 refine ⟨_, rfl, by rw [List.length_map]; exact Nat.le_of_lt (size100 (by omega)), fun d2 n2 => ⟨d1, d2, _, _, rfl, rfl, same_upd n2 _ _ upd_same, upd_same, by rw [List.length_map, List.length_map]; exact Nat.le_of_lt (size100 (by omega)), fun d3 n3 => ?_⟩⟩
 refine ⟨_, rfl, by rw [List.length_map]; exact Nat.le_of_lt (size100 (by omega)), fun d4 n4 => ⟨d3, d4, _, _, rfl, rfl, same_upd n4 _ _ upd_same, upd_same, by rw [List.length_append, List.length_map, List.length_map, List.length_map]; exact Nat.le_of_lt (size100 (by omega)), fun d5 n5 => ?_⟩⟩
 obtain ⟨g, hg, eg⟩ := mod_at (cell / 8) (show 0 < 21 by decide)
 have eg : cell / 8 % 21 = (g : Int) := eg
 have hm : g < (es1 ++ es2 ++ es3).length := by rw [hl]; exact hg
 have em : (es1.map fun e => V.str (txOf e)) ++ (es2.map fun e => V.str (txOf e)) ++ (es3.map fun e => V.str (txOf e)) = (es1 ++ es2 ++ es3).map fun e => V.str (txOf e) := by rw [List.map_append, List.map_append]
 have at_ : ((es1.map fun e => V.str (txOf e)) ++ (es2.map fun e => V.str (txOf e)) ++ (es3.map fun e => V.str (txOf e)))[g]? = some (V.str (txOf (es1 ++ es2 ++ es3)[g])) := by
  rw [em, List.getElem?_map, List.getElem?_eq_getElem hm]
  rfl
 have ok := List.all_eq_true.mp ht _ (List.getElem_mem hm)
 unfold okTx at ok
 rw [Bool.and_eq_true, List.all_eq_true] at ok
 refine ⟨_, rfl, _, rfl, _, _, rfl, rfl, ⟨by decide, by decide⟩, _, _, rfl, rfl, (by show (0 : Int) < 21; decide), d5, _, _, _, rfl, rfl, SqL.of upd_same, (by rw [eg]; exact atI_nat at_), ?_⟩
 refine hN _ _ ⟨⟨txOf (es1 ++ es2 ++ es3)[g], t, some (.ref d5), rfl, Nat.le_trans (of_decide_eq_true ok.1) (by decide), fun k hk => of_decide_eq_true (ok.2 k hk)⟩, ?_⟩
 exact sm.trans ((same_upd n1).trans ((same_upd n2).trans ((same_upd n3).trans ((same_upd n4).trans (same_upd n5)))))
section
variable {P : Program} {w : World} {K : PySem.W.Frag} {mg : Str -> Option Value} {base : Heap}
theorem scLaw : FnScope ["script", "corners", "text", "cell", "turn_v", "some", "due", "found"] ["script"] (defScope sLaw) := ⟨rfl, rfl, rfl, by decide +kernel, rfl, by decide +kernel, by decide +kernel⟩
theorem ok_law {f f1 f2 f3 f4 f5 f6 : Addr} {fd fd1 fd2 fd3 fd4 fd5 fd6 : FuncData} (F : Fun K "law" "law" sLaw f fd)
  (G1 : FnOk P w K mg base CX0 4 f1 fd1 ["script", "at", "most"] (spPoints K lawShape)) (k1 : PySem.W.keepIn K (.ref f1) = true) (b1 : Binds K fd1 ["script", "at", "most"] []) (m1 : mg "_law_shape" = some (.ref f1))
  (G2 : FnOk P w K mg base CX0 1 f2 fd2 ["script", "k"] (spCell K)) (k2 : PySem.W.keepIn K (.ref f2) = true) (b2 : Binds K fd2 ["script", "k"] []) (m2 : mg "_law_cell_at" = some (.ref f2))
  (G3 : FnOk P w K mg base CX0 1 f3 fd3 ["text", "cell"] spChanged) (k3 : PySem.W.keepIn K (.ref f3) = true) (b3 : Binds K fd3 ["text", "cell"] []) (m3 : mg "_law_changed" = some (.ref f3))
  (G4 : FnOk P w K mg base CX0 4 f4 fd4 ["text"] spWritten) (k4 : PySem.W.keepIn K (.ref f4) = true) (b4 : Binds K fd4 ["text"] []) (m4 : mg "_law_written" = some (.ref f4))
  (G5 : FnOk P w K mg base CX0 5 f5 fd5 ["text"] spAsk18) (k5 : PySem.W.keepIn K (.ref f5) = true) (b5 : Binds K fd5 ["text"] []) (m5 : mg "_law_asked" = some (.ref f5))
  (G6 : FnOk P w K mg base CX0 1 f6 fd6 ["found", "due"] spLike) (k6 : PySem.W.keepIn K (.ref f6) = true) (b6 : Binds K fd6 ["found", "due"] []) (m6 : mg "_law_points_like" = some (.ref f6))
  (ms : mg "str" = none) (mr : mg "range" = none) : FnOk P w K mg base CX0 6 f fd ["script"] (spLaw K) := by
 refine F.ok scLaw (fun vs H Q E h => ?_) (fun cdv A outer s H vs Q E hr h => ?_)
 ·obtain ⟨a, ns, rfl, _⟩ := h
  rfl
 ·obtain ⟨a, ns, rfl, hS, k⟩ := h
  have hu := hu_of hr
  have hr1 := hr.mono (j := 1) (by decide)
  have hr4 := hr.mono (j := 4) (by decide)
  refine ⟨_, pss_cons (ps_set (i := 1) scLaw.nd rfl (Or.inl rfl) (pe_call G1 hr4 rfl m1 k1 b1 .nil pass0 (pa_cons (pv 0) (pa_cons pe_int (pa_cons pe_int pa_nil)))))
   (pss_cons (ps_set (i := 2) scLaw.nd rfl (Or.inl rfl) (pe_bm PySem.F.plainAttrs_str PySem.F.slot_str_join PySem.F.type_str_join mt_join pe_str (pa_cons
    (pe_lc (tn := ["right", "up"]) (cs := []) (g := gTup K 2 (gCons (gName 0) (gCons (gName 1) gNil))) (tt := tYes) (te := tOp rAddS (tOp rAddS (tCB rStrI (tCons (tVar 0) tNil)) (tC (.str comma))) (tCB rStrI (tCons (tVar 1) tNil))) (Caps.none (by decide +kernel) rfl (by decide +kernel)) rfl
     (pi_list (pv 1))
     (fun C s₀ H₀ fp xe => pg_tup rfl (pgs_cons (pg_name (i := 0) nodupRU rfl (Or.inl rfl) (.inr rfl)) (pgs_cons (pg_name (i := 1) nodupRU rfl (Or.inl rfl) (.inr rfl)) pgs_nil)))
     (fun C s₀ H₀ fp xe => pts_nil)
     (fun C s₀ H₀ fp xe => pe_op op_addS (pe_op op_addS (pe_callTy call_strI rfl ms bootStr (pa_cons (pv 0) pa_nil)) pe_str) (pe_callTy call_strI rfl ms bootStr (pa_cons (pv 1) pa_nil)))) pa_nil)))
   (pss_cons (ps_set (i := 3) scLaw.nd rfl (Or.inl rfl) (pe_call G2 hr1 rfl m2 k2 b2 .nil pass0 (pa_cons (pv 0) (pa_cons pe_int pa_nil))))
   (pss_cons (ps_for PassesOwn.never rfl (pi_range1 rfl mr (pa_cons (pe_op op_add pe_int (pe_op op_mod (pv 3) pe_int)) pa_nil)) (pg_name (i := 4) scLaw.nd rfl (Or.inl rfl))
    (pss_one (ps_set (i := 2) scLaw.nd rfl (Or.inl rfl) (pe_call G3 hr1 rfl m3 k3 b3 .nil pass0 (pa_cons (pv 2) (pa_cons (pe_op op_mod (pe_call G2 hr1 rfl m2 k2 b2 .nil pass0 (pa_cons (pv 0) (pa_cons (pe_op op_add pe_int (pv 4)) pa_nil))) (pe_op op_pow pe_int pe_int)) pa_nil))))))
   (pss_cons (ps_if (pt_cmpR op_eq (pe_op op_mod (pe_op op_fdiv (pv 3) pe_int) pe_int) pe_int (nomark _))
    (@pss_cons _ _ _ _ _ (@set_texts _ 5 _ _ _ _ _ scLaw.nd rfl (Or.inl rfl) (by kernel_rfl) (.inr rfl))
    (@pss_cons _ _ _ _ _ (@cat_texts _ 5 _ _ _ _ _ _ _ scLaw.nd rfl (Or.inl rfl) (pv 5) (by kernel_rfl) (.inr rfl))
    (@pss_cons _ _ _ _ _ (@cat_texts _ 5 _ _ _ _ _ _ _ scLaw.nd rfl (Or.inl rfl) (pv 5) (by kernel_rfl) (.inr rfl))
    (@pss_one _ _ _ (ps_set (i := 2) scLaw.nd rfl (Or.inl rfl) (pe_ix ix_list (pv 5) (pe_op op_mod (pe_op op_fdiv (pv 3) pe_int) pe_int) (fun _ _ => rfl))))))) pss_nil)
   (pss_cons (ps_set (i := 6) scLaw.nd rfl (Or.inl rfl) (pe_call G4 hr4 rfl m4 k4 b4 .nil pass0 (pa_cons (pv 2) pa_nil)))
   (pss_cons (ps_set (i := 7) scLaw.nd rfl (Or.inl rfl) (pe_call G5 hr rfl m5 k5 b5 .nil pass0 (pa_cons (pv 2) pa_nil)))
   (pss_cons (ps_if (pt_cmpR op_isN (pv 6) pe_non (nomark _)) (pss_one (ps_ret (pe_and (pe_cmpR op_eq (pv 7) pe_str (nomark _)) (pe_one (pe_cmpR op_eq (pe_call G5 hr rfl m5 k5 b5 .nil pass0 (pa_cons (pv 2) pa_nil)) pe_str (nomark _)))))) pss_nil)
   (pss_one (ps_ret (pe_and (pe_call G6 hr1 rfl m6 k6 b6 .nil pass0 (pa_cons (pv 7) (pa_cons (pv 6) pa_nil))) (pe_one (pe_cmpR (op_eqPts hu) (pe_call G5 hr rfl m5 k5 b5 .nil pass0 (pa_cons (pv 2) pa_nil)) (pv 6) (nomark _))))))))))))), ?_⟩
  refine ⟨_, rfl, a, ns, 0, 10, rfl, hS, by decide, by decide, by decide, fun c H1 s1 nc p1 => ?_⟩
  have l0 : (lawShape ns 0 10).length <= 20 := by
   have e1 := RS.hull_len (RS.lawPoints ns 0 10)
   have e2 := (RS.law_len ns 0 10 (by decide)).1
   unfold RS.lawShape
   have e3 : (10 : Int).toNat = 10 := rfl
   omega
  have b0 : ∀ p ∈ lawShape ns 0 10, Bd 2000 p := fun p hp => RS.law_bd ns 0 10 p (RS.mem_hull hp)
  generalize lawShape ns 0 10 = cs at p1 l0 b0
  obtain ⟨as, h1, h2⟩ := id p1
  have hlen : as.length = cs.length := Paired.length h2
  have hSm : ∀ p ∈ cs, Sm p := fun p hp => by
   have := b0 p hp
   unfold Bd at this
   unfold Sm
   omega
  have hSm' := hSm
  have tx0 := text18 hSm l0
  refine ⟨rfl, _, rfl, c, rfl, ⟨_, SqL.of h1⟩, fun D nD => ?_⟩
  refine lc_list (K := K) (a := c) (D := D) (xs := as.map V.ref) (fun i σ H' => (∃ u v, σ = [u, v]) /\ Same H1 H' /\ H' D = some (.lst (((cs.map w18).take i).map V.str))) ⟨⟨none, none, rfl⟩, same_upd nD, upd_same⟩
   (fun i σ H' _ ⟨_, sm, _⟩ => SqL.of (sm _ _ h1)) ?_ ?_
  ·rintro i x σ H' ex ⟨⟨u, v, rfl⟩, sm, hD⟩
   obtain ⟨b, eb, rfl⟩ := map_ref ex
   obtain ⟨p, ep, tp⟩ := paired_get h2 i b eb
   obtain ⟨z1, z2⟩ := hSm p (List.mem_of_getElem? ep)
   have n1 := num_len z1
   have n2 := num_len z2
   have e2 : comma.length = 1 := by rw [comma_is]; rfl
   have er : (cs.map w18)[i]? = some (w18 p) := by rw [List.getElem?_map, ep]; rfl
   refine ⟨b, _, rfl, SqT.of (sm _ _ tp), rfl, _, _, rfl, _, _, rfl, rfl, ?_⟩
   refine yes_go ?_
   refine ⟨_, rfl, p.1, rfl, num_log z1, num p.1, comma, rfl, rfl, ?_, _, rfl, p.2, rfl, num_log z2, num p.1 ++ comma, num p.2, rfl, rfl, ?_, ?_⟩
   ·show (num p.1).length + comma.length <= 2 ^ 24
    omega
   ·show (num p.1 ++ comma).length + (num p.2).length <= 2 ^ 24
    rw [strLen_append]
    omega
   refine ⟨_, hD, size100 (by rw [List.length_map, List.length_take, List.length_map]; omega), ⟨_, _, rfl⟩, same_set sm nD, ?_⟩
   rw [upd_same, take_next er, List.map_append]
   rfl
  rintro σ H2 ⟨_, s2, hD⟩
  rw [List.length_map, hlen, List.take_of_length_le (by rw [List.length_map]; exact Nat.le_refl _)] at hD
  have sl : ((cs.map w18).map (·.length)).sum + (cs.map w18).length * blank1.length <= 16777216 := by
   have e : blank1.length = 1 := by rw [blank_is]; rfl
   have := sum_most (m := 17) (ws := cs.map w18) fun w hw => by
    obtain ⟨p, hp, rfl⟩ := List.mem_map.mp hw
    exact (w18_tx (hSm' p hp)).1
   rw [e]
   rw [List.length_map] at this ⊢
   omega
  refine ⟨blank1, D, cs.map w18, rfl, rfl, SqL.of hD, sl, ?_⟩
  have s02 := s1.trans s2
  clear hD
  generalize Txt.join blank1 (cs.map w18) = t0 at tx0 ⊢
  have hS2 := Same.seq s02 hS
  refine ⟨_, rfl, a, ns, 4, rfl, hS2, by decide, ?_⟩
  generalize cellAt ns 4 = cell
  have c2 := Int.emod_nonneg cell (show (2 : Int) ≠ 0 by decide)
  have c3 := Int.emod_lt_of_pos cell (show (0 : Int) < 2 by decide)
  refine ⟨_, rfl, _, _, rfl, rfl, (by show (0 : Int) < 2; decide), _, _, rfl, rfl, _, rfl, by lia, by lia, ?_⟩
  refine for_range (fun i σ H' => (∃ y t, σ = [some (.ref a), some (.ref c), some (.str y), some (.int cell), t, none, none, none] /\ Tx (360 + i) y) /\ Same H H') ⟨⟨t0, none, rfl, tx0⟩, s02⟩ ?_ ?_
  ·rintro i σ H' hi ⟨⟨y, t, rfl, ty⟩, sm⟩
   rw [Int.zero_add]
   refine g_go ?_
   refine ⟨_, rfl, _, rfl, _, rfl, _, _, rfl, rfl, a, ns, _, rfl, Same.seq sm hS, by omega, ?_⟩
   refine ⟨_, _, rfl, rfl, ⟨by decide, by decide, by decide⟩, _, _, rfl, rfl, (by show (0 : Int) < 10 ^ 9; decide), y, 360 + i, _, rfl, ty, by omega, fun y' H3 s3 ty' => ?_⟩
   exact ⟨⟨y', _, rfl, ty'⟩, sm.trans s3⟩
  rintro σ H3 ⟨⟨y, t, rfl, ty⟩, s3⟩
  have ty : Tx 362 y := ty.wide (by omega)
  dsimp only
  refine seq_to (fun σ H' => (∃ y t so, σ = [some (.ref a), some (.ref c), some (.str y), some (.int cell), t, so, none, none] /\ Tx 362 y) /\ Same H H') (fun N hN => ?_) ?_
  ·refine ⟨_, rfl, _, _, rfl, rfl, ⟨by decide, by decide⟩, _, _, rfl, rfl, (by show (0 : Int) < 4; decide), rfl, _, rfl, ?_⟩
   exact ite2 (fun c4 => menu_run (by kernel_rfl) (by kernel_rfl) s3 hN) (fun c4 => hN _ _ ⟨⟨y, t, none, rfl, ty⟩, s3⟩)
  rintro σ H4 ⟨⟨y, t, so, rfl, ty⟩, s4⟩
  cases hrd : readM y with
  | none =>
   refine ⟨_, rfl, y, rfl, ty, fun _ H5 s5 => ?_, fun ps z => by rw [hrd] at z; cases z⟩
   refine ⟨_, rfl, y, rfl, ty, fun _ H6 s6 => ?_, fun ps z => by rw [hrd] at z; cases z⟩
   refine ⟨_, rfl, rfl, _, rfl, iteT ?_⟩
   refine ⟨_, rfl, rfl, _, rfl, iteT ?_⟩
   refine ⟨_, rfl, y, rfl, ty, fun _ H7 s7 => ?_, fun ps z => by rw [hrd] at z; cases z⟩
   exact ⟨rfl, k H7⟩
  | some ps =>
   refine ⟨_, rfl, y, rfl, ty, (fun z => by rw [hrd] at z; cases z), fun qs z r5 H5 s5 n5 p5 => ?_⟩
   rw [hrd] at z
   cases z
   refine ⟨_, rfl, y, rfl, ty, (fun z => by rw [hrd] at z; cases z), fun qs z r6 H6 s6 n6 p6 => ?_⟩
   rw [hrd] at z
   cases z
   have p5' := Pts.same s6 p5
   refine ⟨_, rfl, rfl, _, rfl, ?_⟩
   rw [decide_eq_false (by intro z; cases z)]
   refine iteF ?_
   refine ⟨_, rfl, _, rfl, r6, r5, _, _, rfl, p6, p5', fun H7 s7 => ⟨_, rfl, ?_⟩⟩
   rw [decide_eq_true rfl]
   refine iteT ?_
   refine ⟨_, rfl, y, rfl, ty, (fun z => by rw [hrd] at z; cases z), fun qs z r8 H8 s8 n8 p8 => ?_⟩
   rw [hrd] at z
   cases z
   refine ⟨_, rfl, r8, r5, _, _, rfl, rfl, p8, Pts.same (s7.trans s8) p5', ?_⟩
   rw [decide_eq_true rfl]
   exact k H8
end
end K1
namespace K1
open PySem L2
noncomputable def Left (K : PySem.W.Frag) (x : Str) (st : Stmt) (f : Addr) : Prop := ∃ fd, Fun K x x st f fd
theorem left_mk {K : PySem.W.Frag} {x : Str} {st : Stmt} {f : Addr} {oc : Value} {od an : Option Addr} {osl : Array (Option Value)} {kV doc pm cdv ct : Value}
  (l : K.lookup f = some ⟨oc, od, .func (PySem.W.fnOf x x (defArgs st) (defBody st) (defScope st) .none kV doc pm an cdv ct), osl⟩) (c : PySem.W.codeIn K cdv x = true) (k : PySem.W.keepIn K (.ref f) = true) : Left K x st f := ⟨_, fun_mk l c k⟩
theorem len3 {l : List Value} (h : l.length = 3) : ∃ a b c, l = [a, b, c] := by
 obtain ⟨a, t, rfl⟩ := List.exists_cons_of_length_pos (Nat.lt_of_lt_of_eq (Nat.succ_pos 2) h.symm)
 obtain ⟨b, c, rfl⟩ := RS.two_of (Nat.succ.inj h)
 exact ⟨a, b, c, rfl⟩
theorem all_mk {l : PySem.W.OpenLaw} {w : World} {K : PySem.W.Frag} {h : Heap} {mg : Str -> Option Value} {fa fAF fTU fFH fGB fRO fIS fNU fIC fCF fRD fCE fST fLC fLA fCH fHU fPO fSH fLK fHF fSI fGO fWI fNL fWR fCG fA8 fLW : Addr} (X : K.In h) (G : h.Ns mainGlobals mg) (hfa : mg "law" = some (.ref fa))
  {oc kV dc pm cd ct : Value} {od an : Option Addr} {sl : Array (Option Value)}
  (aAF : PySem.W.nsIn K mainGlobals "arrow_from" = some (some (.ref fAF)))
  (lAF : Left K "arrow_from" sArrowFrom fAF)
  (aTU : PySem.W.nsIn K mainGlobals "turn" = some (some (.ref fTU)))
  (lTU : Left K "turn" sTurn fTU)
  (aFH : PySem.W.nsIn K mainGlobals "in_first_half" = some (some (.ref fFH)))
  (lFH : Left K "in_first_half" sFirst fFH)
  (aGB : PySem.W.nsIn K mainGlobals "goes_before" = some (some (.ref fGB)))
  (lGB : Left K "goes_before" sBefore fGB)
  (aRO : PySem.W.nsIn K mainGlobals "arrows_round" = some (some (.ref fRO)))
  (lRO : Left K "arrows_round" sRound fRO)
  (aIS : PySem.W.nsIn K mainGlobals "is_shape" = some (some (.ref fIS)))
  (lIS : Left K "is_shape" sIsShape fIS)
  (aNU : PySem.W.nsIn K mainGlobals "is_number" = some (some (.ref fNU)))
  (lNU : Left K "is_number" sIsNum fNU)
  (aIC : PySem.W.nsIn K mainGlobals "is_corner" = some (some (.ref fIC)))
  (lIC : Left K "is_corner" sIsCorner fIC)
  (aCF : PySem.W.nsIn K mainGlobals "corner_of" = some (some (.ref fCF)))
  (lCF : Left K "corner_of" sCornerOf fCF)
  (aRD : PySem.W.nsIn K mainGlobals "read" = some (some (.ref fRD)))
  (lRD : Left K "read" sRead fRD)
  (aCE : PySem.W.nsIn K mainGlobals "_law_cell_at" = some (some (.ref fCE)))
  (lCE : Left K "_law_cell_at" sCell fCE)
  (aST : PySem.W.nsIn K mainGlobals "_law_stir" = some (some (.ref fST)))
  (lST : Left K "_law_stir" sStir fST)
  (aLC : PySem.W.nsIn K mainGlobals "_law_cross" = some (some (.ref fLC)))
  (lLC : Left K "_law_cross" sLCross fLC)
  (aLA : PySem.W.nsIn K mainGlobals "_law_arrow" = some (some (.ref fLA)))
  (lLA : Left K "_law_arrow" sLArrow fLA)
  (aCH : PySem.W.nsIn K mainGlobals "_law_chain" = some (some (.ref fCH)))
  (lCH : Left K "_law_chain" sChain fCH)
  (aHU : PySem.W.nsIn K mainGlobals "_law_hull" = some (some (.ref fHU)))
  (lHU : Left K "_law_hull" sHull fHU)
  (aPO : PySem.W.nsIn K mainGlobals "_law_points" = some (some (.ref fPO)))
  (lPO : Left K "_law_points" sPoints fPO)
  (aSH : PySem.W.nsIn K mainGlobals "_law_shape" = some (some (.ref fSH)))
  (lSH : Left K "_law_shape" sShape fSH)
  (aLK : PySem.W.nsIn K mainGlobals "_law_points_like" = some (some (.ref fLK)))
  (lLK : Left K "_law_points_like" sLike fLK)
  (aHF : PySem.W.nsIn K mainGlobals "_law_half" = some (some (.ref fHF)))
  (lHF : Left K "_law_half" sHalf fHF)
  (aSI : PySem.W.nsIn K mainGlobals "_law_sides" = some (some (.ref fSI)))
  (lSI : Left K "_law_sides" sSides fSI)
  (aGO : PySem.W.nsIn K mainGlobals "_law_good" = some (some (.ref fGO)))
  (lGO : Left K "_law_good" sGood fGO)
  (aWI : PySem.W.nsIn K mainGlobals "_law_which" = some (some (.ref fWI)))
  (lWI : Left K "_law_which" sWhich fWI)
  (aNL : PySem.W.nsIn K mainGlobals "_law_number" = some (some (.ref fNL)))
  (lNL : Left K "_law_number" sNumL fNL)
  (aWR : PySem.W.nsIn K mainGlobals "_law_written" = some (some (.ref fWR)))
  (lWR : Left K "_law_written" sWritten fWR)
  (aCG : PySem.W.nsIn K mainGlobals "_law_changed" = some (some (.ref fCG)))
  (lCG : Left K "_law_changed" sChanged fCG)
  (aA8 : PySem.W.nsIn K mainGlobals "_law_asked" = some (some (.ref fA8)))
  (lA8 : Left K "_law_asked" sAsked fA8)
  (aLW : PySem.W.nsIn K mainGlobals "law" = some (some (.ref fLW)))
  (lLW : K.lookup fLW = some ⟨oc, od, .func (PySem.W.fnOf "law" "law" (defArgs sLaw) (defBody sLaw) (defScope sLaw) .none kV dc pm an cd ct), sl⟩) (cLW : PySem.W.codeIn K cd "law" = true) (kLW : PySem.W.keepIn K (.ref fLW) = true)
  (z_zip : PySem.W.nsIn K mainGlobals "zip" = some none)
  (z_len : PySem.W.nsIn K mainGlobals "len" = some none)
  (z_all : PySem.W.nsIn K mainGlobals "all" = some none)
  (z_sorted : PySem.W.nsIn K mainGlobals "sorted" = some none)
  (z_set : PySem.W.nsIn K mainGlobals "set" = some none)
  (z_list : PySem.W.nsIn K mainGlobals "list" = some none)
  (z_reversed : PySem.W.nsIn K mainGlobals "reversed" = some none)
  (z_range : PySem.W.nsIn K mainGlobals "range" = some none)
  (z_isinstance : PySem.W.nsIn K mainGlobals "isinstance" = some none)
  (z_tuple : PySem.W.nsIn K mainGlobals "tuple" = some none)
  (z_int : PySem.W.nsIn K mainGlobals "int" = some none)
  (z_bool : PySem.W.nsIn K mainGlobals "bool" = some none)
  (z_str : PySem.W.nsIn K mainGlobals "str" = some none)
  (z_ValueError : PySem.W.nsIn K mainGlobals "ValueError" = some none)
  {cR : Addr} (y_R : PySem.W.nsIn K mainGlobals "RoundError" = some (some (.ref cR)))
  {cN : Addr} (y_N : PySem.W.nsIn K mainGlobals "NoNote" = some (some (.ref cN)))
  {cM : Addr} (y_M : PySem.W.nsIn K mainGlobals "NoNumber" = some (some (.ref cM)))
  {cP : Addr} (y_P : PySem.W.nsIn K mainGlobals "NoPoints" = some (some (.ref cP)))
  {cS : Addr} (y_S : PySem.W.nsIn K mainGlobals "NoShape" = some (some (.ref cS)))
  {cT : Addr} (y_T : PySem.W.nsIn K mainGlobals "TooLong" = some (some (.ref cT)))
  (T_N : Told5 K cN cM cP cS cT cN true false false false false) (E_N : PySem.W.exmOne K (.ref cN) (.ref cR) = some true)
  {t_FIGURES : Tok} (z_FIGURES : PySem.W.nsIn K mainGlobals "FIGURES" = some (some (.str figs t_FIGURES)))
  {t_MOST_FIGURES : Tok} (z_MOST_FIGURES : PySem.W.nsIn K mainGlobals "MOST_FIGURES" = some (some (.int 7 t_MOST_FIGURES)))
  : ∃ fd : FuncData, (∀ (s : Shared) (v : Value), BindsTo s fd ⟨[v], []⟩ [("script", v)]) /\ ∀ base : Heap, K.In base -> base.Ns mainGlobals mg -> FnOk l.prog w K mg base CX0 6 fa fd ["script"] (spLaw K) := by
 have e := hfa.symm.trans (PySem.W.mg_of X G aLW)
 cases e
 obtain ⟨dAF, FAF⟩ := lAF
 have bAF := FAF.binds (ps := ["start", "end"]) fun _ _ _ _ _ _ us hl => by obtain ⟨_, _, rfl⟩ := RS.two_of hl; rfl
 have mAF := PySem.W.mg_of X G aAF
 obtain ⟨dTU, FTU⟩ := lTU
 have bTU := FTU.binds (ps := ["one", "other"]) fun _ _ _ _ _ _ us hl => by obtain ⟨_, _, rfl⟩ := RS.two_of hl; rfl
 have mTU := PySem.W.mg_of X G aTU
 obtain ⟨dFH, FFH⟩ := lFH
 have bFH := FFH.binds (ps := ["arrow"]) fun _ _ _ _ _ _ us hl => by obtain ⟨_, rfl⟩ := List.length_eq_one_iff.mp hl; rfl
 have mFH := PySem.W.mg_of X G aFH
 obtain ⟨dGB, FGB⟩ := lGB
 have bGB := FGB.binds (ps := ["one", "other"]) fun _ _ _ _ _ _ us hl => by obtain ⟨_, _, rfl⟩ := RS.two_of hl; rfl
 have mGB := PySem.W.mg_of X G aGB
 obtain ⟨dRO, FRO⟩ := lRO
 have bRO := FRO.binds (ps := ["corners"]) fun _ _ _ _ _ _ us hl => by obtain ⟨_, rfl⟩ := List.length_eq_one_iff.mp hl; rfl
 have mRO := PySem.W.mg_of X G aRO
 obtain ⟨dIS, FIS⟩ := lIS
 have bIS := FIS.binds (ps := ["corners"]) fun _ _ _ _ _ _ us hl => by obtain ⟨_, rfl⟩ := List.length_eq_one_iff.mp hl; rfl
 have mIS := PySem.W.mg_of X G aIS
 obtain ⟨dNU, FNU⟩ := lNU
 have bNU := FNU.binds (ps := ["text"]) fun _ _ _ _ _ _ us hl => by obtain ⟨_, rfl⟩ := List.length_eq_one_iff.mp hl; rfl
 have mNU := PySem.W.mg_of X G aNU
 obtain ⟨dIC, FIC⟩ := lIC
 have bIC := FIC.binds (ps := ["text"]) fun _ _ _ _ _ _ us hl => by obtain ⟨_, rfl⟩ := List.length_eq_one_iff.mp hl; rfl
 have mIC := PySem.W.mg_of X G aIC
 obtain ⟨dCF, FCF⟩ := lCF
 have bCF := FCF.binds (ps := ["text"]) fun _ _ _ _ _ _ us hl => by obtain ⟨_, rfl⟩ := List.length_eq_one_iff.mp hl; rfl
 have mCF := PySem.W.mg_of X G aCF
 obtain ⟨dRD, FRD⟩ := lRD
 have bRD := FRD.binds (ps := ["text"]) fun _ _ _ _ _ _ us hl => by obtain ⟨_, rfl⟩ := List.length_eq_one_iff.mp hl; rfl
 have mRD := PySem.W.mg_of X G aRD
 obtain ⟨dCE, FCE⟩ := lCE
 have bCE := FCE.binds (ps := ["script", "k"]) fun _ _ _ _ _ _ us hl => by obtain ⟨_, _, rfl⟩ := RS.two_of hl; rfl
 have mCE := PySem.W.mg_of X G aCE
 obtain ⟨dST, FST⟩ := lST
 have bST := FST.binds (ps := ["seed"]) fun _ _ _ _ _ _ us hl => by obtain ⟨_, rfl⟩ := List.length_eq_one_iff.mp hl; rfl
 have mST := PySem.W.mg_of X G aST
 obtain ⟨dLC, FLC⟩ := lLC
 have bLC := FLC.binds (ps := ["one", "other"]) fun _ _ _ _ _ _ us hl => by obtain ⟨_, _, rfl⟩ := RS.two_of hl; rfl
 have mLC := PySem.W.mg_of X G aLC
 obtain ⟨dLA, FLA⟩ := lLA
 have bLA := FLA.binds (ps := ["one", "other"]) fun _ _ _ _ _ _ us hl => by obtain ⟨_, _, rfl⟩ := RS.two_of hl; rfl
 have mLA := PySem.W.mg_of X G aLA
 obtain ⟨dCH, FCH⟩ := lCH
 have bCH := FCH.binds (ps := ["points"]) fun _ _ _ _ _ _ us hl => by obtain ⟨_, rfl⟩ := List.length_eq_one_iff.mp hl; rfl
 have mCH := PySem.W.mg_of X G aCH
 obtain ⟨dHU, FHU⟩ := lHU
 have bHU := FHU.binds (ps := ["points"]) fun _ _ _ _ _ _ us hl => by obtain ⟨_, rfl⟩ := List.length_eq_one_iff.mp hl; rfl
 have mHU := PySem.W.mg_of X G aHU
 obtain ⟨dPO, FPO⟩ := lPO
 have bPO := FPO.binds (ps := ["script", "at", "most"]) fun _ _ _ _ _ _ us hl => by obtain ⟨_, _, _, rfl⟩ := len3 hl; rfl
 have mPO := PySem.W.mg_of X G aPO
 obtain ⟨dSH, FSH⟩ := lSH
 have bSH := FSH.binds (ps := ["script", "at", "most"]) fun _ _ _ _ _ _ us hl => by obtain ⟨_, _, _, rfl⟩ := len3 hl; rfl
 have mSH := PySem.W.mg_of X G aSH
 obtain ⟨dLK, FLK⟩ := lLK
 have bLK := FLK.binds (ps := ["found", "due"]) fun _ _ _ _ _ _ us hl => by obtain ⟨_, _, rfl⟩ := RS.two_of hl; rfl
 have mLK := PySem.W.mg_of X G aLK
 obtain ⟨dHF, FHF⟩ := lHF
 have bHF := FHF.binds (ps := ["arrow"]) fun _ _ _ _ _ _ us hl => by obtain ⟨_, rfl⟩ := List.length_eq_one_iff.mp hl; rfl
 have mHF := PySem.W.mg_of X G aHF
 obtain ⟨dSI, FSI⟩ := lSI
 have bSI := FSI.binds (ps := ["corners"]) fun _ _ _ _ _ _ us hl => by obtain ⟨_, rfl⟩ := List.length_eq_one_iff.mp hl; rfl
 have mSI := PySem.W.mg_of X G aSI
 obtain ⟨dGO, FGO⟩ := lGO
 have bGO := FGO.binds (ps := ["corners"]) fun _ _ _ _ _ _ us hl => by obtain ⟨_, rfl⟩ := List.length_eq_one_iff.mp hl; rfl
 have mGO := PySem.W.mg_of X G aGO
 obtain ⟨dWI, FWI⟩ := lWI
 have bWI := FWI.binds (ps := ["e"]) fun _ _ _ _ _ _ us hl => by obtain ⟨_, rfl⟩ := List.length_eq_one_iff.mp hl; rfl
 have mWI := PySem.W.mg_of X G aWI
 obtain ⟨dNL, FNL⟩ := lNL
 have bNL := FNL.binds (ps := ["word"]) fun _ _ _ _ _ _ us hl => by obtain ⟨_, rfl⟩ := List.length_eq_one_iff.mp hl; rfl
 have mNL := PySem.W.mg_of X G aNL
 obtain ⟨dWR, FWR⟩ := lWR
 have bWR := FWR.binds (ps := ["text"]) fun _ _ _ _ _ _ us hl => by obtain ⟨_, rfl⟩ := List.length_eq_one_iff.mp hl; rfl
 have mWR := PySem.W.mg_of X G aWR
 obtain ⟨dCG, FCG⟩ := lCG
 have bCG := FCG.binds (ps := ["text", "cell"]) fun _ _ _ _ _ _ us hl => by obtain ⟨_, _, rfl⟩ := RS.two_of hl; rfl
 have mCG := PySem.W.mg_of X G aCG
 obtain ⟨dA8, FA8⟩ := lA8
 have bA8 := FA8.binds (ps := ["text"]) fun _ _ _ _ _ _ us hl => by obtain ⟨_, rfl⟩ := List.length_eq_one_iff.mp hl; rfl
 have mA8 := PySem.W.mg_of X G aA8
 have FLW := fun_mk (st := sLaw) lLW cLW kLW
 have n_zip := PySem.W.mg_none_of X G z_zip
 have n_len := PySem.W.mg_none_of X G z_len
 have n_all := PySem.W.mg_none_of X G z_all
 have n_sorted := PySem.W.mg_none_of X G z_sorted
 have n_set := PySem.W.mg_none_of X G z_set
 have n_list := PySem.W.mg_none_of X G z_list
 have n_reversed := PySem.W.mg_none_of X G z_reversed
 have n_range := PySem.W.mg_none_of X G z_range
 have n_isinstance := PySem.W.mg_none_of X G z_isinstance
 have n_tuple := PySem.W.mg_none_of X G z_tuple
 have n_int := PySem.W.mg_none_of X G z_int
 have n_bool := PySem.W.mg_none_of X G z_bool
 have n_str := PySem.W.mg_none_of X G z_str
 have n_ValueError := PySem.W.mg_none_of X G z_ValueError
 have m_R := PySem.W.mg_of X G y_R
 have m_N := PySem.W.mg_of X G y_N
 have m_M := PySem.W.mg_of X G y_M
 have m_P := PySem.W.mg_of X G y_P
 have m_S := PySem.W.mg_of X G y_S
 have m_T := PySem.W.mg_of X G y_T
 have C5 : Five mg cN cM cP cS cT := ⟨m_N, m_M, m_P, m_S, m_T⟩
 have n_FIGURES := PySem.W.mg_of X G z_FIGURES
 have n_MOST_FIGURES := PySem.W.mg_of X G z_MOST_FIGURES
 refine ⟨PySem.W.fnOf "law" "law" (defArgs sLaw) (defBody sLaw) (defScope sLaw) .none kV dc pm an cd ct, fun s v => .of_eq rfl, fun base _ _ => ?_⟩
 have gAF := ok_arrow_from (P := l.prog) (w := w) (mg := mg) (base := base) FAF
 have gTU := ok_turn (P := l.prog) (w := w) (mg := mg) (base := base) FTU
 have gRO := ok_round (P := l.prog) (w := w) (base := base) FRO FAF bAF mAF n_zip
 have gGB := ok_before (P := l.prog) (w := w) (base := base) FGB FFH bFH mFH FTU bTU mTU
 have gIS := ok_is_shape FIS gRO FRO.kp bRO mRO gGB FGB.kp bGB mGB n_zip n_len n_all
 have gCE := ok_cell (P := l.prog) (w := w) (base := base) FCE n_len
 have gST := ok_stir (P := l.prog) (w := w) (mg := mg) (base := base) FST
 have gLC := ok_lcross (P := l.prog) (w := w) (mg := mg) (base := base) FLC
 have gLA := ok_larrow (P := l.prog) (w := w) (mg := mg) (base := base) FLA
 have gCH := ok_chain FCH gLC FLC.kp bLC mLC gLA FLA.kp bLA mLA n_len
 have gHU := ok_hull FHU gCH FCH.kp bCH mCH n_len n_sorted n_set n_list n_reversed
 have gPO := ok_points FPO gCE FCE.kp bCE mCE gST FST.kp bST mST n_range
 have gSH := ok_shape FSH gPO FPO.kp bPO mPO gHU FHU.kp bHU mHU
 have gNU := ok_is_num (P := l.prog) (w := w) (base := base) FNU n_len n_all n_str n_int n_FIGURES n_MOST_FIGURES
 have gIC := ok_is_corner FIC gNU FNU.kp bNU mNU n_len n_all
 have gCF := ok_corner_of (P := l.prog) (w := w) (base := base) FCF n_int
 have gRD := ok_read FRD gIC FIC.kp bIC mIC gCF FCF.kp bCF mCF gIS FIS.kp bIS mIS n_all m_N T_N.ex.ex
 have gLK := ok_like (P := l.prog) (w := w) (base := base) FLK n_isinstance n_list n_tuple n_int n_bool n_len n_all
 have gHF := ok_half (P := l.prog) (w := w) (base := base) FHF n_int
 have gSI := ok_sides FSI gLA FLA.kp bLA mLA n_len n_range
 have gGO := ok_good FGO gSI FSI.kp bSI mSI gHF FHF.kp bHF mHF gLC FLC.kp bLC mLC n_len n_range
 have gWI := ok_which (j := 0) (out := "note") (P := l.prog) (w := w) (base := base) FWI C5 T_N rfl rfl (by decide) rfl n_isinstance n_ValueError
 have gNL := ok_lnum (P := l.prog) (w := w) (base := base) FNL n_len n_int
 have gWR := ok_written FWR gNL FNL.kp bNL mNL gGO FGO.kp bGO mGO n_len
 have gCG := ok_changed (P := l.prog) (w := w) (base := base) FCG n_len
 have gA8 := ok_ask18 FA8 gRD FRD.kp bRD mRD gWI FWI.kp bWI mWI m_R E_N
 exact ok_law FLW gSH FSH.kp bSH mSH gCE FCE.kp bCE mCE gCG FCG.kp bCG mCG gWR FWR.kp bWR mWR gA8 FA8.kp bA8 mA8 gLK FLK.kp bLK mLK n_str n_range
theorem walk {l : PySem.W.OpenLaw} {q : Program} {loose : List Str} {XP : (Str -> Option Value) -> Heap -> Prop} {YP : World -> Heap -> Prop} {d : DefRec} {K : Params -> PySem.W.Frag} (hn : l.most = some 63) (hdf : d.params.defaults = [])
  (hY : ∀ (w : World) (h : Heap), YP w h -> (K w.params).In h)
  (F : ∀ (w : World) (mg : Str -> Option Value) (fa : Addr) (h : Heap), (K w.params).In h -> h.Ns mainGlobals mg -> mg d.name = some (.ref fa) ->
   ∃ fd : FuncData, (∀ (s : Shared) (u : Value), BindsTo s fd ⟨[u], []⟩ [("script", u)]) /\ ∀ base : Heap, (K w.params).In base -> base.Ns mainGlobals mg -> FnOk l.prog w (K w.params) mg base CX0 6 fa fd ["script"] (spLaw (K w.params))) :
  PySem.W.WalkO q loose XP YP l.row.toRowW d [] (fun f vs => PySem.call f vs) :=
 L2.walk_of (n := 63) (k := 6) (x := "script") (CX := fun _ => CX0) (sp := fun w => spLaw (K w.params)) hn (by decide) hdf ⟨rfl, by decide, by decide⟩ hY F (fun _ _ a ns _ _ hS => ⟨a, ns, rfl, hS, fun _ => rfl⟩) fun _ _ _ _ _ z => z
end K1
open PySem PySem.W PyProof.Rows
set_option maxRecDepth 100000 in
set_option maxHeartbeats 0 in
theorem PySem.Challenge.cw_roundsum_k18_texts_refused_holds : PySem.Challenge.rw_roundsum_k18_texts_refused.Holds := by
 w_on; o_law
 refine holds_open (q := KH.seenQ) (loose := []) (Xt := KH.seenX) (XP := XL KH.seenQ []) (Yf := (kHook KH.heapK KH.heapAs KH.hookE).obs) (Ya := (kHook KH.heapK KH.heapAs KH.hookE).val) (YP := (kHook KH.heapK KH.heapAs KH.hookE).says) KH.left_law (kHook KH.heapK KH.heapAs KH.hookE).of (kHook KH.heapK KH.heapAs KH.hookE).keeps
  (fun s e => xl_of s (Bool.and_eq_true_iff.mp e).1) XL.keeps (by rfl) (by rfl) (by rfl) (fun s e => recFacts_of (Bool.and_eq_true_iff.mp e).2) (by rfl) (by first | assumption | decide +kernel) (by decide +kernel) ⟨rfl, rfl, rfl, rfl, rfl, by decide +kernel⟩ ?hw ?hc
 case hw => w_witness2
 k_fill
 refine K1.walk (l := PySem.Challenge.rw_roundsum_k18_texts_refused) rfl rfl (fun w h Y => PySem.W.kIn_of Y) ?F
 case F =>
  intro w mg fa h KX G hmg
  refine' K1.all_mk KX G hmg ?aAF (K1.left_mk ?lAF ?cAF ?kAF) ?aTU (K1.left_mk ?lTU ?cTU ?kTU) ?aFH (K1.left_mk ?lFH ?cFH ?kFH) ?aGB (K1.left_mk ?lGB ?cGB ?kGB) ?aRO (K1.left_mk ?lRO ?cRO ?kRO) ?aIS (K1.left_mk ?lIS ?cIS ?kIS) ?aNU (K1.left_mk ?lNU ?cNU ?kNU) ?aIC (K1.left_mk ?lIC ?cIC ?kIC) ?aCF (K1.left_mk ?lCF ?cCF ?kCF) ?aRD (K1.left_mk ?lRD ?cRD ?kRD) ?aCE (K1.left_mk ?lCE ?cCE ?kCE) ?aST (K1.left_mk ?lST ?cST ?kST) ?aLC (K1.left_mk ?lLC ?cLC ?kLC) ?aLA (K1.left_mk ?lLA ?cLA ?kLA) ?aCH (K1.left_mk ?lCH ?cCH ?kCH) ?aHU (K1.left_mk ?lHU ?cHU ?kHU) ?aPO (K1.left_mk ?lPO ?cPO ?kPO) ?aSH (K1.left_mk ?lSH ?cSH ?kSH) ?aLK (K1.left_mk ?lLK ?cLK ?kLK) ?aHF (K1.left_mk ?lHF ?cHF ?kHF) ?aSI (K1.left_mk ?lSI ?cSI ?kSI) ?aGO (K1.left_mk ?lGO ?cGO ?kGO) ?aWI (K1.left_mk ?lWI ?cWI ?kWI) ?aNL (K1.left_mk ?lNL ?cNL ?kNL) ?aWR (K1.left_mk ?lWR ?cWR ?kWR) ?aCG (K1.left_mk ?lCG ?cCG ?kCG) ?aA8 (K1.left_mk ?lA8 ?cA8 ?kA8) ?aLW ?lLW ?cLW ?kLW ?z_zip ?z_len ?z_all ?z_sorted ?z_set ?z_list ?z_reversed ?z_range ?z_isinstance ?z_tuple ?z_int ?z_bool ?z_str ?z_ValueError ?y_R ?y_N ?y_M ?y_P ?y_S ?y_T ⟨⟨?xeN, ?gaN, ?naN, ?clN, ?sbN, ?soN⟩, ?qNN, ?qMN, ?qPN, ?qSN, ?qTN, ?qVN⟩ ?exN ?z_FIGURES ?z_MOST_FIGURES
  (case aAF => k_is); (case lAF => k_is); (case cAF => k_is); (case kAF => k_is)
  (case aTU => k_is); (case lTU => k_is); (case cTU => k_is); (case kTU => k_is)
  (case aFH => k_is); (case lFH => k_is); (case cFH => k_is); (case kFH => k_is)
  (case aGB => k_is); (case lGB => k_is); (case cGB => k_is); (case kGB => k_is)
  (case aRO => k_is); (case lRO => k_is); (case cRO => k_is); (case kRO => k_is)
  (case aIS => k_is); (case lIS => k_is); (case cIS => k_is); (case kIS => k_is)
  (case aNU => k_is); (case lNU => k_is); (case cNU => k_is); (case kNU => k_is)
  (case aIC => k_is); (case lIC => k_is); (case cIC => k_is); (case kIC => k_is)
  (case aCF => k_is); (case lCF => k_is); (case cCF => k_is); (case kCF => k_is)
  (case aRD => k_is); (case lRD => k_is); (case cRD => k_is); (case kRD => k_is)
  (case aCE => k_is); (case lCE => k_is); (case cCE => k_is); (case kCE => k_is)
  (case aST => k_is); (case lST => k_is); (case cST => k_is); (case kST => k_is)
  (case aLC => k_is); (case lLC => k_is); (case cLC => k_is); (case kLC => k_is)
  (case aLA => k_is); (case lLA => k_is); (case cLA => k_is); (case kLA => k_is)
  (case aCH => k_is); (case lCH => k_is); (case cCH => k_is); (case kCH => k_is)
  (case aHU => k_is); (case lHU => k_is); (case cHU => k_is); (case kHU => k_is)
  (case aPO => k_is); (case lPO => k_is); (case cPO => k_is); (case kPO => k_is)
  (case aSH => k_is); (case lSH => k_is); (case cSH => k_is); (case kSH => k_is)
  (case aLK => k_is); (case lLK => k_is); (case cLK => k_is); (case kLK => k_is)
  (case aHF => k_is); (case lHF => k_is); (case cHF => k_is); (case kHF => k_is)
  (case aSI => k_is); (case lSI => k_is); (case cSI => k_is); (case kSI => k_is)
  (case aGO => k_is); (case lGO => k_is); (case cGO => k_is); (case kGO => k_is)
  (case aWI => k_is); (case lWI => k_is); (case cWI => k_is); (case kWI => k_is)
  (case aNL => k_is); (case lNL => k_is); (case cNL => k_is); (case kNL => k_is)
  (case aWR => k_is); (case lWR => k_is); (case cWR => k_is); (case kWR => k_is)
  (case aCG => k_is); (case lCG => k_is); (case cCG => k_is); (case kCG => k_is)
  (case aA8 => k_is); (case lA8 => k_is); (case cA8 => k_is); (case kA8 => k_is)
  (case aLW => k_is); (case lLW => k_is); (case cLW => k_is); (case kLW => k_is)
  (case z_zip => k_is); (case z_len => k_is); (case z_all => k_is); (case z_sorted => k_is); (case z_set => k_is); (case z_list => k_is); (case z_reversed => k_is); (case z_range => k_is); (case z_isinstance => k_is); (case z_tuple => k_is); (case z_int => k_is); (case z_bool => k_is); (case z_str => k_is); (case z_ValueError => k_is); (case z_FIGURES => k_is); (case z_MOST_FIGURES => k_is)
  (case y_R => k_is); (case y_N => k_is); (case y_M => k_is); (case y_P => k_is); (case y_S => k_is); (case y_T => k_is)
  (case xeN => k_exc); (case gaN => k_is); (case naN => k_is); (case clN => k_is); (case sbN => k_is); (case soN => k_is)
  (case qNN => kit_is); (case qMN => kit_is); (case qPN => kit_is); (case qSN => kit_is); (case qTN => kit_is); (case qVN => kit_is); (case exN => kts_exm)
