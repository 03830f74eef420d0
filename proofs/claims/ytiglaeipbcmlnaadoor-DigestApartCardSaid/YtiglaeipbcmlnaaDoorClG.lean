/-
  Texts put together: KeyD, ClashL, ClashW, ClashC, DigA, RefE, RefCl, ClashT.
-/
import Derived.Test.YtiglaeipbcmlnaaDoorCutW
import Derived.DeepKeys4
import Derived.WideKeyArr
import Derived.WideKeyArr2
import Derived.Maps.Keyed
import Derived.Maps.Own
import Derived.Maps.OwnSet
import Derived.Maps.Views
import Derived.DataBytes
import Derived.Test.YtiglaeipbcmlnaaDoorPutG
import Derived.Test.YtiglaeipbcmlnaaDoorHeldW
import Derived.Test.YtiglaeipbcmlnaaDoorBooksG
import Derived.Test.YtiglaeipbcmlnaaDoorNewW
import Derived.Test.YtiglaeipbcmlnaaDoorOfW
import Derived.Deep.LoopGhost
import Derived.WalkKit
import Derived.Deep.Onto
import Derived.Maps.OwnOps
import Derived.Test.YtiglaeipbcmlnaaDoorTabsG
import Derived.Test.YtiglaeipbcmlnaaDoorRefW3
import Derived.StillTailTactics
import Derived.Deep.Cut
import Derived.Test.YtiglaeipbcmlnaaDoorSplitM
import Derived.Test.YtiglaeipbcmlnaaDoorBookW

/-
  A map keyed by digests: what a digest reads as, and that it says the digest.
-/
namespace Go.Proofs.YtiglaeipbcmlnaaDoor.KeyD
open Go.RowKit Mem
set_option linter.unusedVariables false

theorem u8_inj {a b : UInt8} (h : u8 a = u8 b) : a = b := by
  unfold u8 at h
  injection h with _ h
  exact UInt8.toNat_inj.1 (by omega)
theorem map_u8_inj : ∀ {xs ys : List UInt8}, xs.map u8 = ys.map u8 → xs = ys
  | [], [], _ => rfl
  | [], _ :: _, h => by simp at h
  | _ :: _, [], h => by simp at h
  | a :: r, b :: s, h => by
    rw [List.map_cons, List.map_cons] at h
    injection h with h1 h2
    rw [u8_inj h1, map_u8_inj h2]

theorem arr : WideMaps.ArrKey Tryd.prog 23 5 32 := ⟨Tryd.underlying23, by kernel_rfl, by kernel_rfl, by kernel_rfl⟩
theorem law : Maps.Keyed Tryd.prog 23 := Maps.Keyed.of_law arr.law
theorem typesPos : decide (0 < Tryd.prog.types.size) = true := by kernel_rfl
theorem typesSome : ∃ m, Tryd.prog.types.size = m + 1 := by
  have h := of_decide_eq_true typesPos
  exact ⟨Tryd.prog.types.size - 1, by omega⟩
/-- What a digest reads as. -/
def kl (D : List UInt8) : Lit := .string (keyBytes (D.map fun b => .int .u8 (b.toNat : Int)))
theorem keyOf_any (D : List UInt8) (hD : D.length = 32) : keyOf Tryd.prog 23 (.agg (D.map u8).toArray) = some (kl D) := by
  have hkt := arr.keyType typesSome
  obtain ⟨m0, hm0⟩ := typesSome
  have he := Tryd.underlying5
  unfold keyOf
  simp only [arr.hu]
  rw [if_pos (by simp [hkt, Value.formed, arr.hu, arr.size, hD]), hm0]
  unfold Program.keyLits
  simp only [arr.hu, Value.cells]
  rw [if_pos (by rw [arr.size]; simpa using hD)]
  have hm : ((List.range 32).mapM fun i => Tryd.prog.keyLits (m0 + 1) 5 (((D.map u8).drop (i * Tryd.prog.cellsOf 5)).take (Tryd.prog.cellsOf 5))) = some ((List.range 32).map fun i => [Lit.int .u8 ((D.getD i 0).toNat : Int)]) := by
    refine mapM_some_of_forall _ (fun i hi => ?_)
    have hi : i < 32 := by simpa using hi
    rw [arr.one, Nat.mul_one, List.drop_eq_getElem_cons (by simp [hD]; omega), List.take_succ_cons, List.take_zero, List.getElem_map]
    have hb := D[i].toNat_lt
    have h0 : IntKind.u8.min = 0 := rfl
    have h1 : IntKind.u8.max = 255 := rfl
    have wa : (Lit.int .u8 (D[i].toNat : Int)).wf = true := by simp [Lit.wf, h0, h1]; omega
    rw [List.getD_eq_getElem?_getD, List.getElem?_eq_getElem (by omega), Option.getD_some]
    generalize D[i] = b at wa
    simp [Program.keyLits, he, wa, u8]
  have hc : (Value.agg (D.map u8).toArray).cells.toList = D.map u8 := by simp [Value.cells]
  try rw [hc]
  try simp only [Array.toList_toArray, List.toList_toArray]
  rw [hm]
  have hfl : ∀ l : List Nat, ((l.map fun i => [Lit.int .u8 ((D.getD i 0).toNat : Int)])).flatten = l.map fun i => Lit.int .u8 ((D.getD i 0).toNat : Int) := fun l => by induction l with | nil => rfl | cons a r ih => rw [List.map_cons, List.map_cons, List.flatten_cons, ih]; rfl
  rw [Option.map_some, Option.map_some, hfl]
  have e : ((List.range 32).map fun i => Lit.int .u8 ((D.getD i 0).toNat : Int)) = D.map fun b => Lit.int .u8 (b.toNat : Int) := by
    refine List.ext_getElem (by rw [List.length_map, List.length_map, List.length_range, hD]) (fun i h1 h2 => ?_)
    rw [List.getElem_map, List.getElem_map, List.getElem_range, List.getD_eq_getElem?_getD, List.getElem?_eq_getElem (by simpa using h2), Option.getD_some]
  rw [e, kl]
theorem kl_inj {D E : List UInt8} (hD : D.length = 32) (hE : E.length = 32) (h : kl D = kl E) : D = E := by
  have := law.inj (keyOf_any D hD) (h ▸ keyOf_any E hE)
  injection this with this
  exact map_u8_inj (by simpa using congrArg Array.toList this)
theorem kl_ne {D E : List UInt8} (hD : D.length = 32) (hE : E.length = 32) (h : D ≠ E) : kl D ≠ kl E := fun e => h (kl_inj hD hE e)
theorem kl_key (D : List UInt8) (hD : D.length = 32) : WideAt.IsKeyLit (kl D) := law.key (keyOf_any D hD)
theorem underMap : Tryd.prog.underlying 101 = some (.map 23 3) := by kernel_rfl
theorem underInt : Tryd.prog.underlying 3 = some (.int .i64) := by kernel_rfl
theorem zeroInt (w : World) : (zeroValue 3).run Tryd.prog w = .ok (.int .i64 0) w := by kernel_rfl
end Go.Proofs.YtiglaeipbcmlnaaDoor.KeyD

/-
  Which pair digest.Clash tells: over sums σ and texts τ.
-/
namespace Go.Proofs.YtiglaeipbcmlnaaDoor.ClashL
open Go.RowKit Mem KeyD
set_option linter.unusedVariables false

section
variable {H : Type} {σ τ : Nat → List UInt8} {i j : Nat} {D : DataW H}

/-- Of the first i texts none are two unlike ones of one sum. -/
def NoC (σ τ : Nat → List UInt8) (i : Nat) : Prop := ∀ j k, j < i → k < i → σ j = σ k → τ j = τ k
/-- The i-th is the first that meets an unlike one of its sum; the j-th is the first of that sum. -/
def At (σ τ : Nat → List UInt8) (i j : Nat) : Prop := j < i ∧ NoC σ τ i ∧ σ j = σ i ∧ τ j ≠ τ i ∧ ∀ k, k < j → σ k ≠ σ i
theorem NoC.zero : NoC σ τ 0 := fun _ _ h => absurd h (Nat.not_lt_zero _)
theorem NoC.put (h : NoC σ τ i) (hn : ∀ j, j < i → σ j ≠ σ i) : NoC σ τ (i + 1) := by
  intro a b ha hb e
  rcases Nat.lt_succ_iff_lt_or_eq.1 ha with ha | rfl
  · rcases Nat.lt_succ_iff_lt_or_eq.1 hb with hb | rfl
    · exact h a b ha hb e
    · exact absurd e (hn a ha)
  · rcases Nat.lt_succ_iff_lt_or_eq.1 hb with hb | rfl
    · exact absurd e.symm (hn b hb)
    · rfl
theorem NoC.keep (h : NoC σ τ i) (hj : j < i) (hs : σ j = σ i) (ht : τ j = τ i) : NoC σ τ (i + 1) := by
  intro a b ha hb e
  rcases Nat.lt_succ_iff_lt_or_eq.1 ha with ha | rfl
  · rcases Nat.lt_succ_iff_lt_or_eq.1 hb with hb | rfl
    · exact h a b ha hb e
    · exact (h a j ha hj (e.trans hs.symm)).trans ht
  · rcases Nat.lt_succ_iff_lt_or_eq.1 hb with hb | rfl
    · exact ht.symm.trans (h j b hj hb (hs.trans e))
    · rfl
theorem At.not_noc (h : At σ τ i j) {n : Nat} (hi : i < n) : ¬ NoC σ τ n := fun hn => h.2.2.2.1 (hn j i (by have := h.1; omega) hi h.2.2.1)
theorem At.uniq (h : At σ τ i j) {i' j' : Nat} (h' : At σ τ i' j') : i = i' ∧ j = j' := by
  have e : i = i' := by
    rcases Nat.lt_trichotomy i i' with l | e | l
    · exact absurd h'.2.1 (h.not_noc l)
    · exact e
    · exact absurd h.2.1 (h'.not_noc l)
  subst e
  refine ⟨rfl, ?_⟩
  rcases Nat.lt_trichotomy j j' with l | e | l
  · exact absurd h.2.2.1 (h'.2.2.2.2 j l)
  · exact e
  · exact absurd h'.2.2.1 (h.2.2.2.2 j' l)
/-- The document's own choice: the first of that sum that is unlike. -/
theorem at_ref (hj : j < i) (hn : NoC σ τ i) (hs : σ j = σ i) (ht : τ j ≠ τ i) (hk : ∀ k, k < j → ¬ (σ k = σ i ∧ τ k ≠ τ i)) : At σ τ i j := by
  refine ⟨hj, hn, hs, ht, fun k h e => hk k h ⟨e, fun e' => ht ?_⟩⟩
  exact (hn j k hj (by omega) (hs.trans e.symm)).trans e'
theorem NoC.ref (h : NoC σ τ i) (hk : ∀ k, k < i → ¬ (σ k = σ i ∧ τ k ≠ τ i)) : NoC σ τ (i + 1) := by
  intro a b ha hb e
  have hq : ∀ k, k < i → σ k = σ i → τ k = τ i := fun k h1 h2 => Classical.byContradiction fun h3 => hk k h1 ⟨h2, h3⟩
  rcases Nat.lt_succ_iff_lt_or_eq.1 ha with ha | rfl
  · rcases Nat.lt_succ_iff_lt_or_eq.1 hb with hb | rfl
    · exact h a b ha hb e
    · exact hq a ha e
  · rcases Nat.lt_succ_iff_lt_or_eq.1 hb with hb | rfl
    · exact (hq b hb e.symm).symm
    · rfl

/-- The map of the first i sums: the first place of each. -/
def MapOk (σ : Nat → List UInt8) (i : Nat) (D : DataW H) : Prop :=
  Maps.IsMap D ∧ ∀ d : List UInt8, d.length = 32 →
    (∃ j, j < i ∧ σ j = d ∧ (∀ k, k < j → σ k ≠ d) ∧ Maps.has D (kl d) = true ∧ ∀ z, D.atKey (kl d) z = .lit (.int .i64 (j : Int))) ∨ ((∀ j, j < i → σ j ≠ d) ∧ Maps.has D (kl d) = false)
theorem MapOk.zero : MapOk (H := H) σ 0 (.map []) := ⟨Maps.isMap_empty, fun d _ => Or.inr ⟨fun j h => absurd h (Nat.not_lt_zero _), by simp [Maps.has_eq]⟩⟩
theorem MapOk.put (h : MapOk σ i D) (hl : (σ i).length = 32) (hn : ∀ j, j < i → σ j ≠ σ i) : MapOk σ (i + 1) (D.put (kl (σ i)) (.lit (.int .i64 (i : Int)))) := by
  refine ⟨h.1.put _ _, fun d hd => ?_⟩
  by_cases e : d = σ i
  · subst e
    exact Or.inl ⟨i, by omega, rfl, hn, Maps.has_put_same h.1 (kl_key _ hl) _, fun z => Maps.atKey_put_same h.1 (kl_key _ hl) _ z⟩
  · have hne := kl_ne hd hl e
    rcases h.2 d hd with ⟨j, h1, h2, h3, h4, h5⟩ | ⟨h1, h2⟩
    · refine Or.inl ⟨j, by omega, h2, h3, ?_, fun z => ?_⟩
      · rw [Maps.has_put_other hne]; exact h4
      · rw [Maps.atKey_put_other hne]; exact h5 z
    · refine Or.inr ⟨fun j hj => ?_, ?_⟩
      · rcases Nat.lt_succ_iff_lt_or_eq.1 hj with hj | rfl
        · exact h1 j hj
        · exact fun e' => e e'.symm
      · rw [Maps.has_put_other hne]; exact h2
theorem MapOk.keep (h : MapOk σ i D) (hj : j < i) (hs : σ j = σ i) : MapOk σ (i + 1) D := by
  refine ⟨h.1, fun d hd => ?_⟩
  rcases h.2 d hd with ⟨j, h1, h2⟩ | ⟨h1, h2⟩
  · exact Or.inl ⟨j, by omega, h2⟩
  · refine Or.inr ⟨fun k hk => ?_, h2⟩
    rcases Nat.lt_succ_iff_lt_or_eq.1 hk with hk | rfl
    · exact h1 k hk
    · exact fun e => h1 j hj (hs.trans e)
end
end Go.Proofs.YtiglaeipbcmlnaaDoor.ClashL

/-
  bytes.Equal, digest.Clash.
-/
namespace Go.Proofs.YtiglaeipbcmlnaaDoor.ClashW
open Go.RowKit Sha TurnW Mem RowW SpreadW MixW HashM CopyW WriteW WriteN EndW SumH NewW EqW CutW KeyD ClashL
set_option linter.unusedVariables false
set_option linter.unusedSimpArgs false

theorem str_eq (a b : List UInt8) : ((⟨a.toArray⟩ : ByteArray).toList == (⟨b.toArray⟩ : ByteArray).toList) = (a == b) := by
  rw [ByteArray.toList_eq, ByteArray.toList_eq]
theorem equal_any (v v' : Value) (l l' : List UInt8) (w : World) (h : Sl w v l) (h' : Sl w v' l') :
    Calls Tryd.prog 75 #[v, v'] w fun e w' => e = .returned (.bool (l == l')) ∧ Upd (fun _ => False) w w' := by
  obtain ⟨a1, c1, rfl⟩ := RawB.Sl.form h
  obtain ⟨a2, c2, rfl⟩ := RawB.Sl.form h'
  have k1 := HeldW.conv_sl h
  have k2 := HeldW.conv_sl h'
  obtain ⟨x1, hx1⟩ : ∃ x : ByteArray, x = ⟨l.toArray⟩ := ⟨_, rfl⟩
  obtain ⟨x2, hx2⟩ : ∃ x : ByteArray, x = ⟨l'.toArray⟩ := ⟨_, rfl⟩
  have HE : Hid ((x1.toList == x2.toList) = (l == l')) := by rw [hx1, hx2]; exact str_eq l l'
  rw [← hx1] at k1
  rw [← hx2] at k2
  clear hx1 hx2 h h'
  go_enter Tryd.func75, Tryd.ntmps75
  go_wp2
  go_ret
  exact ⟨by rw [← HE.out]; rfl, Upd.refl _ _⟩

def σf (a : Int) (ts : List (List UInt8)) (k : Nat) : List UInt8 := cut (sha (ts.getD k [])) a
def τf (ts : List (List UInt8)) (k : Nat) : List UInt8 := ts.getD k []
theorem σ_len (a : Int) (ts : List (List UInt8)) (k : Nat) : (σf a ts k).length = 32 := cut_len _ _ rfl

/-- No pair, or the pair of the j-th and the i-th text, each a copy. -/
def ClashAt (a : Int) (ts : List (List UInt8)) (w : World) (e : Ending) (w' : World) : Prop :=
  Upd (fun _ => False) w w' ∧
    ((e = .returned (.tuple #[.slice none 0 0, .slice none 0 0, .bool false]) ∧ NoC (σf a ts) (τf ts) ts.length) ∨
      ∃ i j p q, i < ts.length ∧ At (σf a ts) (τf ts) i j ∧ e = .returned (.tuple #[p, q, .bool true]) ∧
        w'.ownsRow w.heap.size 5 1 p (τf ts j).length ((τf ts j).map u8) ∧ w'.ownsRow w.heap.size 5 1 q (τf ts i).length ((τf ts i).map u8) ∧ ∀ k, own p k → ¬ own q k)

theorem om_upd {H : Type} {P : Program} {t : TypeId} {R : Value → Option (DataW H × List MemPlace)} {S : Nat → Prop} {w w' : World} {b n : Nat} {D : DataW H} (h : w.ownsMap P t R b n D) (hu : Upd S w w') (hb : ¬ S b) : w'.ownsMap P t R b n D := by
  have hl := h.lt
  obtain ⟨es, clock, h1, h2⟩ := h
  exact ⟨es, clock, by rw [hu.block b hl hb]; exact h1, h2⟩

theorem step5 {w2 w3 w4 w5 : World} {o : Obj} (h3 : Upd (fun _ => False) w2 w3) (h4 : Upd (fun _ => False) w3 w4) (h5 : Upd (fun k => k = w4.heap.size) (w4.alloc o) w5) : Upd (fun _ => False) w2 w5 :=
  ((h3.trans (h4.mono (fun _ _ h => h.elim))).alloc o).trans (h5.mono (fun k _ e => .inr (by have := h3.size; have := h4.size; omega)))

def LCl (w : World) (a : Int) (ts : List (List UInt8)) (mb : Nat) (g : Nat) (i : Value) (wr : World) : Prop :=
  ∃ k : Nat, k + g = ts.length ∧ i = .int .i64 k ∧ NoC (σf a ts) (τf ts) k ∧ Upd (fun _ => False) w wr ∧
    ∃ D : DataW Unit, wr.ownsMap Tryd.prog 23 (plainElem Tryd.prog 3) mb k D ∧ MapOk (σf a ts) k D

set_option maxHeartbeats 4000000 in
set_option maxRecDepth 100000 in
theorem clash_any (a : Int) (ao : Option Addr) (cap : Nat) (ts : List (List UInt8)) (O : Nat → Prop) (w : World) (hs : OfW.SlL w (.slice ao ts.length cap) ts O) (hO : ∀ k, O k → k < w.heap.size) (hn : ts.length ≤ 70368744177660)
    (hk : Kw w) (hg : 0 < w.heap.size) (hlen : ∀ i, i < ts.length → (ts.getD i []).length ≤ 140737488355328) :
    Calls Tryd.prog 46 #[.int .i64 a, .slice ao ts.length cap] w (ClashAt a ts w) := by
  have hmm := @run_makeMap Tryd.prog
  have Hs : Hid (OfW.SlL w (.slice ao ts.length cap) ts O) := hs
  have HO := Lib.hid hO
  have Hn := Lib.hid hn
  have Hk := Lib.hid hk
  have Hg := Lib.hid hg
  have Hlen := Lib.hid hlen
  have hz := zeroD
  have hsz := hs
  obtain ⟨N, hN⟩ : ∃ x, x = ts.length := ⟨_, rfl⟩
  rw [← hN]
  have HN := Lib.hid hN
  clear hs hO hn hk hg hlen hsz hN
  go_enter Tryd.func46, Tryd.ntmps46
  go_wp2
  go_loopg [8, 9, 10, 11, 12, 16] N (fun g i t d j m x wr => LCl w a ts w.heap.size g x wr)
  case atStart =>
    refine ⟨0, by have := HN.out; omega, rfl, NoC.zero, (Upd.refl _ _).alloc _, .map [], ?_, MapOk.zero⟩
    exact World.ownsMap_made _ _ _ _
  case round =>
    obtain ⟨k, hkg, rfl, hno, hu, D, hown, hok⟩ := hrel
    obtain ⟨g0, rfl⟩ : ∃ x : Nat, x = gk := ⟨_, rfl⟩
    obtain ⟨w2, rfl⟩ : ∃ x : World, x = wr := ⟨_, rfl⟩
    have HNo := Lib.hid hno
    have HU := Lib.hid hu
    have HOwn := Lib.hid hown
    have HOk := Lib.hid hok
    have Hkg := Lib.hid hkg
    clear hno hu hown hok hkg
    by_cases hlt : k < N
    · have hlI : (k : Int) < (N : Int) := by omega
      have hlt' : k < ts.length := by rw [← HN.out]; exact hlt
      obtain ⟨g1, rfl⟩ : ∃ g1, g0 = g1 + 1 := ⟨g0 - 1, by have := Hkg.out; omega⟩
      have Hs2 : Hid (OfW.SlL w2 (.slice ao ts.length cap) ts O) := Hs.out.upd HU.out (fun _ _ => id)
      obtain ⟨ao', cap', pv, he, h3, ho', h4⟩ := Hs2.out
      cases he
      obtain ⟨⟨g, off, sp⟩, rfl⟩ : ∃ ad, ao = some ad := by
        cases ao with
        | some ad => exact ⟨ad, rfl⟩
        | none => have := h3 rfl; omega
      obtain ⟨hsp, h4⟩ := h4 _ rfl
      obtain rfl : sp = none := hsp
      have hadd : ∀ i : Nat, (⟨g, off, none⟩ : Addr).add i = ⟨g, off + i, none⟩ := fun i => by unfold Addr.add; split <;> simp_all
      have hOg : O g := ho' g (by simp [own, Value.ownBlock])
      have HC : Hid (∀ i, i < ts.length → ∃ ai ci, w2.cell? ⟨g, off + i, none⟩ = some (.slice ai (τf ts i).length ci) ∧ Sl w2 (.slice ai (τf ts i).length ci) (τf ts i) ∧ ∀ k, own (.slice ai (τf ts i).length ci) k → O k) := fun i hi => by
        obtain ⟨hc, hsl, hp⟩ := h4 i hi
        rw [hadd] at hc
        obtain ⟨a1, c1, hv⟩ := RawB.Sl.form hsl
        exact ⟨a1, c1, by rw [hc, hv]; rfl, by rw [← show pv i = .slice a1 (τf ts i).length c1 from hv]; exact hsl, fun k h => hp k (by rw [show pv i = .slice a1 (τf ts i).length c1 from hv]; exact h)⟩
      obtain ⟨ak, ck, hck, hslk, hpk⟩ := HC.out k hlt'
      have HOg := Lib.hid hOg
      clear h3 ho' h4 hadd hOg
      obtain ⟨t, ht⟩ : ∃ t, t = τf ts k := ⟨_, rfl⟩
      rw [← ht] at hck hslk hpk
      have Ht := Lib.hid ht
      have Hslk := Lib.hid hslk
      have Hpk := Lib.hid hpk
      have Htl : Hid (t.length ≤ 140737488355328) := by show _ ≤ _; rw [ht]; exact Hlen.out k hlt'
      clear ht hslk hpk
      obtain ⟨nt, hnt⟩ : ∃ x, x = t.length := ⟨_, rfl⟩
      rw [← hnt] at hck Hslk Hpk
      have Hnt := Lib.hid hnt
      clear hnt
      obtain ⟨d, hd⟩ : ∃ d, d = cut (sha t) a := ⟨_, rfl⟩
      have hd32 : d.length = 32 := by rw [hd]; exact cut_len _ _ rfl
      have Hdσ : Hid (d = σf a ts k) := by show _ = _; rw [hd, Ht.out]; rfl
      obtain ⟨Y, hY⟩ : ∃ Y, Y = (d.map Mem.u8).toArray := ⟨_, rfl⟩
      have HY1 : Hid (Y.all (·.oneCell') = true) := by show _ = _; rw [hY]; simpa using one_of d
      have HYs : Hid ((Tryd.prog.info? 23).map (·.size) = some Y.size) := by show _ = _; rw [size32, hY]; simp [hd32]
      have HYl : Hid (AD.size = Y.size) := by show _ = _; rw [hY]; simp [hd32, AD]
      obtain ⟨KL, hKL⟩ : ∃ KL, KL = kl d := ⟨_, rfl⟩
      have HKey : Hid (keyOf Tryd.prog 23 (.agg Y) = some KL) := by show _ = _; rw [hY, hKL]; exact keyOf_any d hd32
      have HKL := Lib.hid hKL
      have HY := Lib.hid hY
      have Hd := Lib.hid hd
      have Hd32 := Lib.hid hd32
      clear hY hKL hd hd32
      have HSm := Lib.hid (sum_text (.slice ak nt ck) t w2 Hslk.out (Hk.out.upd HU.out id) (by have := Hg.out; have := HU.out.size; omega) (fun k h => by have := HO.out k (Hpk.out k h); have := HU.out.size; omega) (by have := Htl.out; omega))
      have Hkm : Hid (k < maxLen) := by show _ < _; have := Hn.out; unfold maxLen; omega
      have hkb : (k : Int) < 70368744177661 := by have := Hn.out; omega
      have Hkw : Hid ((Lit.int .i64 (k : Int)).wf = true) := by
        have h0 : IntKind.i64.min = -9223372036854775808 := rfl
        have h1 : IntKind.i64.max = 9223372036854775807 := rfl
        have := Hn.out
        show _ = _
        simp [Lit.wf, h0, h1]; omega
      rcases HOk.out.2 d Hd32.out with ⟨j, hj1, hj2, hj3, hj4, hj5⟩ | ⟨hm1, hm2⟩
      · have HHas : Hid (Maps.has D KL = true) := by show _ = _; rw [HKL.out]; exact hj4
        have HAt : Hid (∀ z, D.atKey KL z = .lit (.int .i64 (j : Int))) := by intro z; rw [HKL.out]; exact hj5 z
        have hjn : j < ts.length := by omega
        obtain ⟨aj, cj, hcj, hslj, hpj⟩ := HC.out j hjn
        have hjI : (j : Int) < (N : Int) := by omega
        obtain ⟨tj, htj⟩ : ∃ x, x = τf ts j := ⟨_, rfl⟩
        rw [← htj] at hcj hslj
        have Htjl : Hid (tj.length ≤ 140737488355328) := by show _ ≤ _; rw [htj]; exact Hlen.out j hjn
        obtain ⟨nj, hnj⟩ : ∃ x, x = tj.length := ⟨_, rfl⟩
        rw [← hnj] at hcj hslj
        have Hslj := Lib.hid hslj
        have Htj := Lib.hid htj
        have HJ : Hid (j < k ∧ σf a ts j = σf a ts k ∧ ∀ i, i < j → σf a ts i ≠ σf a ts k) := ⟨hj1, hj2.trans Hdσ.out, fun i h => by rw [← Hdσ.out]; exact hj3 i h⟩
        clear hj1 hj2 hj3 hj4 hj5 hjn hslj hpj htj hnj
        by_cases heq : tj = t
        · have HB : Hid ((tj == t) = true) := by show _ = _; rw [heq]; simp
          have Heq := Lib.hid heq
          clear heq
          go_wp2_with (first
        | (go_at_call 12; refine HSm.out.mono ?_; rintro e w3 ⟨rfl, hu3⟩; have HU3 := Lib.hid hu3; clear hu3)
        | (go_at_call 57; refine (cut_any (sha t) rfl a _).mono ?_; rw [← Hd.out, ← HY.out]; rintro e w4 ⟨rfl, hu4⟩; have HU4 := Lib.hid hu4; have HR4 := Lib.hid (heap_alloc_new w4 (.cells AD 23)); clear hu4)
        | ((with_reducible refine wpList_store_new (o := ⟨none, .store 23 (.tmp 10) (.tmp 24), _, _, _, _⟩) ?_ _ (.tmp 10) (.tmp 24) ?_ w4.heap.size Y ?_ ?_ 23 AD HR4.out HYs.out HYl.out HY1.out ?_); rfl; rfl; rfl; rfl; intro w5 Hg5 Hu5; have HU25 := Lib.hid (step5 HU3.out HU4.out Hu5.out); have HOwn5 := Lib.hid (om_upd HOwn.out HU25.out (fun h => h)); have hcj5 := HU25.out.cell hcj (fun h => h); have Hsj5 := Lib.hid (Hslj.out.upd HU25.out (fun _ _ h => h)); have Hsk5 := Lib.hid (Hslk.out.upd HU25.out (fun _ _ h => h)))
        | ((with_reducible refine wpList_load_row (o := ⟨some 27, _, _, _, _, _⟩) ?_ _ (.tmp 10) ?_ w4.heap.size ?_ 23 Y (0, 0) _ Hg5.out Tryd.underlying23 ?_ HYs.out ?_); rfl; rfl; rfl; rfl)
        | (at_lookup; refine wpList_lookup_own_ok_int _ rfl _ _ 101 rfl 23 3 .i64 law underMap underInt (zeroInt _) w.heap.size k D rfl HOwn5.out _ _ rfl HKey.out ?_; intro c hat hwc; rw [HHas.out]; rw [HAt.out] at hat; obtain rfl : (j : Int) = c := (by injection hat with hat; injection hat); clear hat hwc)
        | (go_at_call 75; refine (equal_any (.slice aj nj cj) (.slice ak nt ck) tj t w5 Hsj5.out Hsk5.out).mono ?_; rw [HB.out]; rintro e w6 ⟨rfl, hu6⟩; have HU6 := Lib.hid hu6;  clear hu6))
          go_roundg g1
          case rel =>
            refine ⟨k + 1, by have := Hkg.out; omega, by go_num, HNo.out.keep HJ.out.1 HJ.out.2.1 (by rw [← Htj.out, ← Ht.out]; exact Heq.out), ?_, D, ?_, HOk.out.keep HJ.out.1 HJ.out.2.1⟩
            · exact (HU.out.trans (HU25.out.mono (fun _ _ h => h.elim))).trans (HU6.out.mono (fun _ _ h => h.elim))
            · exact (om_upd HOwn5.out HU6.out (fun h => h)).mono (by omega)
          case measure => omega
        · have HB : Hid ((tj == t) = false) := by show _ = _; simpa using heq
          have Hne := Lib.hid heq
          clear heq
          go_wp2_with (first
        | (go_at_call 12; refine HSm.out.mono ?_; rintro e w3 ⟨rfl, hu3⟩; have HU3 := Lib.hid hu3; clear hu3)
        | (go_at_call 57; refine (cut_any (sha t) rfl a _).mono ?_; rw [← Hd.out, ← HY.out]; rintro e w4 ⟨rfl, hu4⟩; have HU4 := Lib.hid hu4; have HR4 := Lib.hid (heap_alloc_new w4 (.cells AD 23)); clear hu4)
        | ((with_reducible refine wpList_store_new (o := ⟨none, .store 23 (.tmp 10) (.tmp 24), _, _, _, _⟩) ?_ _ (.tmp 10) (.tmp 24) ?_ w4.heap.size Y ?_ ?_ 23 AD HR4.out HYs.out HYl.out HY1.out ?_); rfl; rfl; rfl; rfl; intro w5 Hg5 Hu5; have HU25 := Lib.hid (step5 HU3.out HU4.out Hu5.out); have HOwn5 := Lib.hid (om_upd HOwn.out HU25.out (fun h => h)); have hcj5 := HU25.out.cell hcj (fun h => h); have Hsj5 := Lib.hid (Hslj.out.upd HU25.out (fun _ _ h => h)); have Hsk5 := Lib.hid (Hslk.out.upd HU25.out (fun _ _ h => h)))
        | ((with_reducible refine wpList_load_row (o := ⟨some 27, _, _, _, _, _⟩) ?_ _ (.tmp 10) ?_ w4.heap.size ?_ 23 Y (0, 0) _ Hg5.out Tryd.underlying23 ?_ HYs.out ?_); rfl; rfl; rfl; rfl)
        | (at_lookup; refine wpList_lookup_own_ok_int _ rfl _ _ 101 rfl 23 3 .i64 law underMap underInt (zeroInt _) w.heap.size k D rfl HOwn5.out _ _ rfl HKey.out ?_; intro c hat hwc; rw [HHas.out]; rw [HAt.out] at hat; obtain rfl : (j : Int) = c := (by injection hat with hat; injection hat); clear hat hwc)
        | (go_at_call 75; refine (equal_any (.slice aj nj cj) (.slice ak nt ck) tj t w5 Hsj5.out Hsk5.out).mono ?_; rw [HB.out]; rintro e w6 ⟨rfl, hu6⟩; have HU6 := Lib.hid hu6; have hcj6 := hu6.cell hcj5 (fun h => h); have Hsj6 := Lib.hid (Hsj5.out.upd hu6 (fun _ _ h => h)); have Hsk6 := Lib.hid (Hsk5.out.upd hu6 (fun _ _ h => h)); clear hu6)
        | (go_at_call 76; refine (WriterW.clone_any (.slice aj nj cj) tj w6 Hsj6.out Htjl.out).mono ?_; rintro e w7 ⟨v7, rfl, hown7, hu7⟩; have HO7 := Lib.hid hown7; have HU7 := Lib.hid hu7; have Hsk7 := Lib.hid (Hsk6.out.upd hu7 (fun _ _ h => h)); clear hown7 hu7)
        | (go_at_call 76; refine (WriterW.clone_any (.slice ak nt ck) t w7 Hsk7.out Htl.out).mono ?_; rintro e w8 ⟨v8, rfl, hown8, hu8⟩; have HO8 := Lib.hid hown8; have HU8 := Lib.hid hu8; clear hown8 hu8))
          have HU28 := Lib.hid (((((HU.out.trans (HU25.out.mono (fun _ _ h => h.elim))).trans (HU6.out.mono (fun _ _ h => h.elim))).trans (HU7.out.mono (fun _ _ h => h.elim))).trans (HU8.out.mono (fun _ _ h => h.elim))))
          have h6 : w.heap.size ≤ w6.heap.size := Nat.le_trans HU.out.size (Nat.le_trans HU25.out.size HU6.out.size)
          have h7 : w.heap.size ≤ w7.heap.size := Nat.le_trans h6 HU7.out.size
          go_ret3
          refine ⟨HU28.out, .inr ⟨k, j, v7, v8, hlt', ⟨HJ.out.1, HNo.out, HJ.out.2.1, ?_, HJ.out.2.2⟩, rfl, ?_, ?_, ?_⟩⟩
          · rw [← Htj.out, ← Ht.out]; exact Hne.out
          · rw [← Htj.out]; exact World.ownsRow.mono (IntsW.own_upd HO7.out HU8.out (fun _ _ h => h)) h6
          · rw [← Ht.out]; exact World.ownsRow.mono HO8.out h7
          · intro x hx hy
            have h1 := (HO7.out.lt x hx).2
            have h2 := (HO8.out.lt x hy).1
            omega
      · have HHas : Hid (Maps.has D KL = false) := by show _ = _; rw [HKL.out]; exact hm2
        have HM1 : Hid (∀ i, i < k → σf a ts i ≠ σf a ts k) := fun i h => by rw [← Hdσ.out]; exact hm1 i h
        clear hm1 hm2
        go_wp2_with (first
        | (go_at_call 12; refine HSm.out.mono ?_; rintro e w3 ⟨rfl, hu3⟩; have HU3 := Lib.hid hu3; clear hu3)
        | (go_at_call 57; refine (cut_any (sha t) rfl a _).mono ?_; rw [← Hd.out, ← HY.out]; rintro e w4 ⟨rfl, hu4⟩; have HU4 := Lib.hid hu4; have HR4 := Lib.hid (heap_alloc_new w4 (.cells AD 23)); clear hu4)
        | ((with_reducible refine wpList_store_new (o := ⟨none, .store 23 (.tmp 10) (.tmp 24), _, _, _, _⟩) ?_ _ (.tmp 10) (.tmp 24) ?_ w4.heap.size Y ?_ ?_ 23 AD HR4.out HYs.out HYl.out HY1.out ?_); rfl; rfl; rfl; rfl; intro w5 Hg5 Hu5; have HU25 := Lib.hid (step5 HU3.out HU4.out Hu5.out); have HOwn5 := Lib.hid (om_upd HOwn.out HU25.out (fun h => h)))
        | ((with_reducible refine wpList_load_row (o := ⟨some 27, _, _, _, _, _⟩) ?_ _ (.tmp 10) ?_ w4.heap.size ?_ 23 Y (0, 0) _ Hg5.out Tryd.underlying23 ?_ HYs.out ?_); rfl; rfl; rfl; rfl)
        | (at_lookup; refine wpList_lookup_own_ok_int _ rfl _ _ 101 rfl 23 3 .i64 law underMap underInt (zeroInt _) w.heap.size k D rfl HOwn5.out _ _ rfl HKey.out ?_; intro c hat hwc; rw [HHas.out]; clear hat hwc)
        | ((with_reducible refine wpList_load_row (o := ⟨some 34, _, _, _, _, _⟩) ?_ _ (.tmp 10) ?_ w4.heap.size ?_ 23 Y (0, 0) _ Hg5.out Tryd.underlying23 ?_ HYs.out ?_); rfl; rfl; rfl; rfl)
        | (at_mapUpdate; refine wpList_mapUpdate_own _ rfl _ _ _ 101 rfl 23 3 law underMap _ w.heap.size k D rfl HOwn5.out Hkm.out _ _ _ rfl rfl HKey.out _ [] (plainElem_int underInt Hkw.out) ?_; intro w6 hown6 hgrow6; have HOwn6 := Lib.hid hown6; have HG6 := Lib.hid hgrow6; clear hown6 hgrow6))
        go_roundg g1
        case rel =>
          refine ⟨k + 1, by have := Hkg.out; omega, by go_num, HNo.out.put HM1.out, ?_, _, HOwn6.out, ?_⟩
          · exact (HU.out.trans (HU25.out.mono (fun _ _ h => h.elim))).trans ((Upd.grown HG6.out (S := fun k => k = w.heap.size) (fun k hk => by injection hk with hk; exact hk.symm)).mono (fun j hj e => .inr (by omega)))
          · have h := HOk.out.put (σ_len a ts k) HM1.out
            rw [← Hdσ.out, ← HKL.out] at h
            exact h
        case measure => omega
    · have HNe : Hid (NoC (σf a ts) (τf ts) ts.length) := by
        have : k = ts.length := by have := HN.out; have := Hkg.out; omega
        show NoC _ _ _
        rw [← this]; exact HNo.out
      go_wp2
      go_ret3
      exact ⟨HU.out, .inl ⟨rfl, HNe.out⟩⟩
end Go.Proofs.YtiglaeipbcmlnaaDoor.ClashW

/-
  The two closed questions of the law on Clash.
-/
namespace Go.Proofs.YtiglaeipbcmlnaaDoor.ClashC
open Go.RowKit Sha Mem CutW ClashL ClashW
set_option linter.unusedVariables false

def T1 : List (List UInt8) := [[97], [98], [97]]
def T2 : List (List UInt8) := [[63], [97], [161]]
theorem s01 : (σf 32 T1 0 == σf 32 T1 1) = false := by kernel_rfl
theorem s12 : (σf 32 T1 1 == σf 32 T1 2) = false := by kernel_rfl
theorem r01 : (σf 1 T2 0 == σf 1 T2 1) = false := by kernel_rfl
theorem r02 : (σf 1 T2 0 == σf 1 T2 2) = true := by kernel_rfl
theorem noc1 : NoC (σf 32 T1) (τf T1) 3 := by
  have a1 : σf 32 T1 0 ≠ σf 32 T1 1 := by have := s01; simpa using this
  have a2 : σf 32 T1 1 ≠ σf 32 T1 2 := by have := s12; simpa using this
  generalize σf 32 T1 = s at *
  intro j k hj hk e
  have hj' : j = 0 ∨ j = 1 ∨ j = 2 := by omega
  have hk' : k = 0 ∨ k = 1 ∨ k = 2 := by omega
  rcases hj' with rfl | rfl | rfl <;> rcases hk' with rfl | rfl | rfl <;>
    first
      | rfl
      | exact absurd e a1
      | exact absurd e.symm a1
      | exact absurd e a2
      | exact absurd e.symm a2
theorem at2 : At (σf 1 T2) (τf T2) 2 0 := by
  have a1 : σf 1 T2 0 ≠ σf 1 T2 1 := by have := r01; simpa using this
  have a2 : σf 1 T2 0 = σf 1 T2 2 := by have := r02; simpa using this
  generalize σf 1 T2 = s at *
  refine ⟨by omega, fun j k hj hk e => ?_, a2, by simp [τf, T2], fun k hk => absurd hk (Nat.not_lt_zero _)⟩
  have hj' : j = 0 ∨ j = 1 := by omega
  have hk' : k = 0 ∨ k = 1 := by omega
  rcases hj' with rfl | rfl <;> rcases hk' with rfl | rfl <;>
    first
      | rfl
      | exact absurd e a1
      | exact absurd e.symm a1
end Go.Proofs.YtiglaeipbcmlnaaDoor.ClashC

/-
  Append of one digest to a row of digests, nil or not.
-/
namespace Go.Proofs.YtiglaeipbcmlnaaDoor.DigA
open Go.RowKit Sha Mem RowW CopyW EqW CutW TabZ
set_option linter.unusedVariables false

theorem run_append_digN (w : World) (ty : TypeId) (v : Value) (n : Nat) (xs news : List Value) (hown : w.ownsRow 0 23 32 v n xs) (gn c : Nat)
    (hgn : w.heap[gn]? = some (.cells news.toArray 23 (0, 0))) (hnl : news.length = 32) (h1 : ∀ u ∈ news, u.oneCell' = true) (hn : n + 1 ≤ 4000000000) :
    ∃ ao' cap' w', (Builtin.append_ #[97, 97] ty #[v, .slice (some ⟨gn, 0, none⟩) 1 c]).run Tryd.prog w = .ok (.slice ao' (n + 1) cap') w' ∧
      w'.ownsRow 0 23 32 (.slice ao' (n + 1) cap') (n + 1) (xs ++ news) ∧ Upd (fun k => own v k) w w' ∧ (∀ k, own (.slice ao' (n + 1) cap') k → own v k ∨ w.heap.size ≤ k) := by
  have hxl := hown.1
  rcases id hown.2 with ⟨rfl, h0⟩ | ⟨g', cap', cur, rfl, hb0, hb, hc1, hc2, hc3, hc4⟩
  · subst h0
    have hx0 : xs = [] := List.eq_nil_of_length_eq_zero (by omega)
    subst hx0
    obtain ⟨i0, hi, hz0, hz1, hz2⟩ := info_parts infoDz
    have hnews : ∀ j x, news[j]? = some x → w.cell? ((⟨gn, 0, none⟩ : Addr).add j) = some x := fun j x hx => by
      rw [add_none, cell_of_row _ _ _ _ _ _ hgn, Nat.zero_add, List.getElem?_toArray]; exact hx
    have hr := run_append_nil (P := Tryd.prog) w 97 ty 23 i0 (.agg A32) Tryd.underlying97 hi hz0 ⟨gn, 0, none⟩ 1 c news (by rw [hz1, hnl]) hnews (by omega) (by omega) (by rw [hz2]; omega)
    have hge := grownCap_ge w 1 0 23
    have hcm : grownCap w 1 0 23 ≤ maxLen := grownCap_le_maxLen w 1 0 23 (by unfold maxLen; omega)
    have hsA : A32.size = 32 := by simp [A32]
    refine ⟨_, _, _, hr, ⟨by simp [hnl], .inr ⟨w.heap.size, _, _, rfl, Nat.zero_le _, heap_alloc_new w.drew _, hge, hcm, ?_, ?_⟩⟩, ?_, fun k hk => .inr ?_⟩
    · simp only [Array.size_append, List.size_toArray, size_zeroCells, Value.cells, hsA, hnl]
      omega
    · rw [List.nil_append, Array.toList_append, List.take_append_of_le_length (by simp [hnl]), List.take_of_length_le (by simp [hnl])]
    · exact ((Upd.refl _ w).drew).alloc _
    · have := WriteW.own_at hk
      omega
  · obtain ⟨ao', cap'', w', h1', h2', h3', h4', _⟩ := run_append_dig w ty g' n cap' xs news hown gn c hgn hnl h1 hn
    refine ⟨ao', cap'', w', h1', h2', h3'.mono (fun k _ e => by subst e; simp [own, Value.ownBlock]), fun k hk => ?_⟩
    rcases h4' k hk with e | e
    · exact .inl (by subst e; simp [own, Value.ownBlock])
    · exact .inr e
theorem wpList_append_digN (w : World) {ops : Array Oper} {rest : List Oper} {o : Oper} {a : Act} {Q : Exit → Act → World → Prop} (hgd : o.guard = none) (sl x : Operand)
    (ho : o.op = .call { callee := .builtin .append, args := #[sl, x], argTypes := #[97, 97] })
    (v : Value) (n : Nat) (xs news : List Value) (hs : a.eval sl = v) (hown : w.ownsRow 0 23 32 v n xs) (gn c : Nat) (hx : a.eval x = .slice (some ⟨gn, 0, none⟩) 1 c)
    (hgn : w.heap[gn]? = some (.cells news.toArray 23 (0, 0))) (hnl : news.length = 32) (h1 : ∀ u ∈ news, u.oneCell' = true) (hn : n + 1 ≤ 4000000000) (m : Nat) (hm : m = n + 1)
    (hK : ∀ ao' cap' w', Hid (w'.ownsRow 0 23 32 (.slice ao' m cap') m (xs ++ news)) → Hid (Upd (fun k => own v k) w w') → Hid (∀ k, own (.slice ao' m cap') k → own v k ∨ w.heap.size ≤ k) →
      wpList Tryd.prog ops Q rest (a.put o.dst (.slice ao' m cap')) w') : wpList Tryd.prog ops Q (o :: rest) a w := by
  subst hm
  refine wpList_plain hgd fun K hK' => ?_
  obtain ⟨ao', cap', w', hrun, r1, r2, r3⟩ := run_append_digN w o.type v n xs news hown gn c hgn hnl h1 hn
  unfold Oper.wp
  simp [execOp, ho, resolve, invoke, builtin, hs, hx, hrun, Result.andThen]
  exact hK' _ _ (hK ao' cap' w' r1 r2 r3)
end Go.Proofs.YtiglaeipbcmlnaaDoor.DigA

/-
  docketref2.Sum of a text that may be empty wherever its slice points.
-/
namespace Go.Proofs.YtiglaeipbcmlnaaDoor.RefE
open Go.RowKit Sha Mem RowW CopyW BookW EqW SumH NewW HashM RefM RefW1 RefW3 HeldW
set_option linter.unusedVariables false
set_option linter.unusedSimpArgs false

set_option maxHeartbeats 1000000 in
theorem byteAt_el (ao : Option Addr) (n cap : Nat) (l : List UInt8) (p : Nat) (w : World) (hs : l ≠ [] → Sl w (.slice ao n cap) l) (hn : n = l.length) (hr : n ≤ 140737488355328) (hp : p < (n + 72) / 64 * 64) :
    Calls Tryd.prog 62 #[.slice ao n cap, .int .i64 (p : Int), .int .i64 (((n + 72) / 64 * 64 : Nat) : Int)] w fun e w' => e = .returned (u8 ((pad l).getD p 0)) ∧ w' = w := by
  rcases Nat.lt_trichotomy p n with h | h | h
  · have e := pad_lt (l := l) (i := p) (by omega)
    obtain ⟨_, _, he, _, _, h3, h4⟩ := hs (by intro e0; rw [e0] at hn; simp at hn; omega)
    cases he
    obtain ⟨⟨pa, oa, sa⟩, rfl⟩ : ∃ ad, ao = some ad := by
      cases ao with
      | some ad => exact ⟨ad, rfl⟩
      | none => have := h3 rfl; omega
    obtain ⟨hsa, hca⟩ := h4 _ rfl
    obtain rfl : sa = none := hsa
    have c0 := hca p (by omega)
    rw [add_none, ← e] at c0
    obtain ⟨x, hx⟩ : ∃ x, x = (pad l).getD p 0 := ⟨_, rfl⟩
    rw [← hx] at c0 ⊢
    generalize hN : (((l.length + 72) / 64 * 64 : Nat) : Int) = N
    have hI : (p : Int) < (l.length : Int) := by omega
    unfold u8 at c0 ⊢
    clear e hx hca h3 h4 hN
    go_enter Tryd.func62, Tryd.ntmps62
    go_wp2
    go_ret
    exact ⟨rfl, rfl⟩
  · subst h
    have e : (pad l).getD p 0 = 128 := by rw [hn]; exact pad_eq l
    rw [e]
    generalize hN : (((p + 72) / 64 * 64 : Nat) : Int) = N
    clear hs hn e hN hp
    go_enter Tryd.func62, Tryd.ntmps62
    go_wp2
    go_ret
    exact ⟨rfl, rfl⟩
  · have hI : ¬ (p : Int) < (n : Int) := by omega
    have hE : ((p : Int) == (n : Int)) = false := by simp; omega
    have hpb : (p : Int) ≤ 140737488355400 := by omega
    rcases Nat.lt_or_ge p ((n + 72) / 64 * 64 - 8) with h8 | h8
    · have e : (pad l).getD p 0 = 0 := pad_mid (by omega) (by rw [← hn]; exact h8)
      rw [e]
      obtain ⟨N, hN⟩ : ∃ N : Int, N = (((n + 72) / 64 * 64 : Nat) : Int) := ⟨_, rfl⟩
      have hl8 : (p : Int) < N - 8 := by omega
      have hNb : N ≤ 140737488355500 := by omega
      rw [← hN]
      clear hs hn e hN hp h8
      go_enter Tryd.func62, Tryd.ntmps62
      go_wp2
      go_ret
      exact ⟨rfl, rfl⟩
    · have e := pad_end (l := l) (i := p) (by omega) (by rw [← hn]; exact h8) (by rw [← hn]; exact hp)
      rw [e, EndW.u8_ofNat, ← hn]
      obtain ⟨k, hk⟩ : ∃ k, k = (n + 72) / 64 * 64 - 1 - p := ⟨_, rfl⟩
      rw [← hk]
      obtain ⟨N, hN⟩ : ∃ N : Int, N = (((n + 72) / 64 * 64 : Nat) : Int) := ⟨_, rfl⟩
      have hl8 : N - 8 ≤ (p : Int) := by omega
      have hNb : N ≤ 140737488355500 := by omega
      have hNp : (p : Int) < N := by omega
      have hk7 : (k : Int) ≤ 7 := by omega
      have hk' : N - 1 - (p : Int) = (k : Int) := by omega
      rw [← hN]
      clear hs hn e hN hp h8 hk
      go_enter Tryd.func62, Tryd.ntmps62
      go_wp2
      go_ret
      refine ⟨congrArg (fun v => Ending.returned (.int .u8 v)) ?_, rfl⟩
      first | rfl | (simp; done) | trace_state
theorem byteAt_atel (ao : Option Addr) (n cap : Nat) (l : List UInt8) (N p : Nat) (hN : N = (n + 72) / 64 * 64) (x : UInt8) (hx : x = (pad l).getD p 0) (w : World) (hs : l ≠ [] → Sl w (.slice ao n cap) l) (hn : n = l.length) (hr : n ≤ 140737488355328) (hp : p < N) :
    Calls Tryd.prog 62 #[.slice ao n cap, .int .i64 (p : Int), .int .i64 (N : Int)] w fun e w' => e = .returned (.int .u8 (x.toNat : Int)) ∧ w' = w := by
  subst hN hx
  exact byteAt_el ao n cap l p w hs hn hr hp
set_option maxHeartbeats 16000000 in
set_option maxRecDepth 100000 in
theorem refsum_el (ao : Option Addr) (n cap : Nat) (l : List UInt8) (w : World) (hs : l ≠ [] → Sl w (.slice ao n cap) l) (hnl : n = l.length) (hr : n ≤ 140737488355000) :
    Calls Tryd.prog 18 #[.slice ao n cap] w fun e w' => e = .returned (.agg ((sha l).map u8).toArray) ∧ Upd (fun _ => False) w w' := by
  obtain ⟨Y, hY⟩ : ∃ Y, Y = ((sha l).map u8).toArray := ⟨_, rfl⟩
  have hl32 : (sha l).length = 32 := rfl
  have HY1 : Hid (Y.all (·.oneCell') = true) := by show _ = _; rw [hY]; simpa using one_of (sha l)
  have HYs : Hid ((Tryd.prog.info? 23).map (·.size) = some Y.size) := by show _ = _; rw [size32, hY]; rfl
  have HYl : Hid (AD.size = Y.size) := by show _ = _; rw [hY]; rfl
  have HKs : Hid ((Tryd.prog.info? 84).map (·.size) = some AK.size) := by show _ = _; rw [size72]; rfl
  have HKl : Hid (A72.size = AK.size) := by show _ = _; rfl
  have HK1 : Hid (AK.all (·.oneCell') = true) := one72
  have HY := Lib.hid hY
  have Hn := Lib.hid hnl
  have Hs := Lib.hid hs
  have hz := zeroD
  have hz72 := zero72
  have hz8 := zero8
  have hz16 := zero16
  obtain ⟨ak, hak⟩ : ∃ a, a = AK := ⟨_, rfl⟩
  have Hak := Lib.hid hak
  clear hY hs hl32 hnl
  obtain ⟨N, hN⟩ : ∃ N : Nat, (n + 72) / 64 * 64 = N := ⟨_, rfl⟩
  have hNi : ((n : Int) + 72) / 64 * 64 = (N : Int) := by omega
  have hNb : (N : Int) ≤ 140737488355400 := by omega
  have HN : Hid (N = (n + 72) / 64 * 64) := hN.symm
  clear hN
  go_enter Tryd.func18, Tryd.ntmps18
  go_wp2_with fail
  refine (numbers_any _).mono ?_
  rintro e w1 ⟨rfl, hu⟩
  rw [← hak] at HKs HKl HK1 ⊢
  have hr0 : w.heap.size < w1.heap.size := by have := hu.size; simp at this; omega
  have HR1 : Hid (w1.heap[w.heap.size]? = some (.cells AD 23 (0, 0))) := (hu.block _ (by simp) id).trans (heap_alloc_new _ _)
  have HU1 : Hid (Upd (fun _ => False) w w1) := ((Upd.refl _ w).alloc _).trans (hu.mono (fun _ _ h => h.elim))
  clear hu hak
  go_wp2_with ((with_reducible refine wpList_store_new (o := ⟨none, .store 84 (.tmp 3) (.tmp 25), _, _, _, _⟩) ?_ _ (.tmp 3) (.tmp 25) ?_ w1.heap.size ak ?_ ?_ 84 A72 (heap_alloc_new _ _) HKs.out HKl.out HK1.out ?_); rfl; rfl; rfl; rfl; intro w2 Hg2 Hu2)
  clear hNi hz72
  obtain ⟨SB, hSB⟩ : ∃ SB, SB = w2.heap.size := ⟨_, rfl⟩
  obtain ⟨wS, hwS⟩ : ∃ wS, wS = w2.alloc (.cells A8 86) := ⟨_, rfl⟩
  have hkb : w1.heap.size < SB := by rw [hSB]; exact lt_of_block Hg2.out
  have hgs : SB < wS.heap.size := by rw [hwS, hSB]; simp
  have HKS : Hid (Row wS w1.heap.size 84 (KN.map W)) := by
    show Row _ _ _ _
    have h := Hg2.out
    rw [Hak.out] at h
    rw [hwS]
    exact (Below.heap_alloc _ _ _ (by omega)).trans h
  have HRS : Hid (wS.heap[w.heap.size]? = some (.cells AD 23 (0, 0))) := by
    show _ = _
    rw [hwS, Below.heap_alloc _ _ _ (by omega), Hu2.out.block _ (by simp; omega) (by omega), Below.heap_alloc _ _ _ (by omega)]
    exact HR1.out
  have HUS : Hid (Upd (fun _ => False) w wS) := by
    show Upd _ _ _
    rw [hwS]
    exact ((HU1.out.alloc _).trans (Hu2.out.mono (fun k _ e => .inr (by omega)))).alloc _
  have HS1 : Hid (L1 SB wS (.int .i64 0) wS) := ⟨0, by omega, rfl, by rw [isub_zero, hwS, hSB]; exact Row.new _ _ _, Upd.refl _ _⟩
  rw [← hSB, ← hwS]
  clear hwS hSB Hg2 Hu2 HR1 HU1 HK1 HKl HKs Hak
  go_loopw [6] (fun i wr => L1 SB wS i wr) (fun i _ => (8 - intOf i).toNat)
  case atStart => exact HS1.out
  case round =>
    clear HS1
    obtain ⟨j, hj, rfl, hrow, hu⟩ := hrel
    have HR := Lib.hid hrow
    have HU := Lib.hid hu
    clear hrow hu
    by_cases hlt : j < 8
    · have hltI : (j : Int) < 8 := by omega
      obtain ⟨x, hx⟩ : ∃ x, x = (ws init).getD j 0 := ⟨_, rfl⟩
      have c0 : wr.cell? ⟨w1.heap.size, 64 + j, none⟩ = some (.int .u32 (U x)) := by
        rw [hx]; exact wcell (HKS.out.upd HU.out (by omega)) (KN_s j hlt)
      have e0 : ((64 : Int) + (j : Int)).toNat = 64 + j := by omega
      have c1 : wr.cell? ⟨SB, j, none⟩ = some (W ((isub j).getD j 0)) := by
        have hl : j < (isub j).length := by simp [isub, ws]; omega
        rw [HR.out.cell, List.getElem?_map, List.getD_eq_getElem?_getD, List.getElem?_eq_getElem hl]
        rfl
      have f1 := HR.out.frozen j
      have HX := Lib.hid hx
      clear hx
      go_wp2
      go_roundw
      case rel =>
        refine ⟨j + 1, by omega, by go_num, ?_, HU.out.put _ _ (.inl rfl) _⟩
        rw [← isub_set j hlt, List.map_set, ← HX.out]
        exact HR.out.set j _
      case measure => simp [intOf]; omega
    · obtain rfl : j = 8 := by omega
      rw [show ((8 : Nat) : Int) = 8 from rfl]
      clear hj hlt
      have HS2 : Hid (L2 SB N l wS (.int .i64 0) wr) := ⟨0, by omega, rfl, by have h := HR.out; rwa [isub_all] at h, HU.out⟩
      clear HR HU
      go_wp2
      go_loopw [7] (fun i wr => L2 SB N l wS i wr) (fun i _ => (N - (intOf i).toNat))
      case atStart => exact HS2.out
      case round =>
        clear HS2
        obtain ⟨m, hm, rfl, hrow, hu⟩ := hrel
        have HR := Lib.hid hrow
        have HU := Lib.hid hu
        clear hrow hu
        by_cases hlt : 64 * m < N
        · have hltI : ((64 * m : Nat) : Int) < (N : Int) := by omega
          have h64 : 64 * m + 64 ≤ N := by have := HN.out; omega
          obtain ⟨p, hp⟩ : ∃ p, p = 64 * m := ⟨_, rfl⟩
          rw [← hp] at hltI ⊢
          have HP := Lib.hid hp
          obtain ⟨M, hM⟩ : ∃ M, M = blk (pad l) m := ⟨_, rfl⟩
          have HM := Lib.hid hM
          clear hp hM hm hlt
          obtain ⟨wo, hwo⟩ : ∃ wo, wo = wr := ⟨_, rfl⟩
          subst hwo
          obtain ⟨WB, hWB⟩ : ∃ WB, WB = wo.heap.size := ⟨_, rfl⟩
          obtain ⟨w3, hw3⟩ : ∃ w3, w3 = wo.alloc (.cells A16 87) := ⟨_, rfl⟩
          have hwb : SB < WB := by rw [hWB]; exact HR.out.lt
          have hks : w1.heap.size < w3.heap.size := by rw [hw3]; have := HR.out.lt; simp; omega
          have HR3 : Hid (Row w3 SB 86 ((ws (blocks init m (pad l))).map W)) := by
            show Row _ _ _ _
            rw [hw3]; exact HR.out.alloc _
          have HU3 : Hid (Upd (fun k => k = SB) wS w3) := by
            show Upd _ _ _
            rw [hw3]; exact HU.out.alloc _
          have hws3 : wS.heap.size ≤ WB := by rw [hWB]; exact HU.out.size
          have HS3 : Hid (L3 WB M w3 (.int .i64 0) w3) := ⟨0, by omega, rfl, by rw [wlist_zero, hw3, hWB]; exact Row.new _ _ _, Upd.refl _ _⟩
          have hsw3 : WB < w3.heap.size := by rw [hw3, hWB]; simp
          go_wp2
          rw [← hWB, ← hw3]
          clear hw3 hWB HR HU hz hz8 hz16
          go_loopw [9] (fun i wr => L3 WB M w3 i wr) (fun i _ => (64 - intOf i).toNat)
          case atStart => exact HS3.out
          case round =>
            clear HS3
            obtain ⟨i, hi, rfl, hrow, hu⟩ := hrel
            have HR := Lib.hid hrow
            have HU := Lib.hid hu
            clear hrow hu
            by_cases hlt : i < 64
            · have hltI : (i : Int) < 64 := by omega
              obtain ⟨q, hq⟩ : ∃ q, q = i / 4 := ⟨_, rfl⟩
              have hq16 : q < 16 := by omega
              have hq16I : (q : Int) < 16 := by omega
              have e1 : (i : Int) / 4 = (q : Int) := by omega
              have e2 : (i : Int).tdiv 4 = (q : Int) := by rw [Int.tdiv_eq_ediv_of_nonneg (by omega)]; exact e1
              have e3 : IntKind.i64.wrap (q : Int) = (q : Int) := IntWalk.i64_in _ (by omega)
              obtain ⟨r, hr'⟩ : ∃ r, r = p + i := ⟨_, rfl⟩
              have e4 : (p : Int) + (i : Int) = (r : Int) := by omega
              have e5 : IntKind.i64.wrap (r : Int) = (r : Int) := IntWalk.i64_in _ (by have := HP.out; omega)
              obtain ⟨c, hc⟩ : ∃ c, c = M.getD i 0 := ⟨_, rfl⟩
              have hc' : c = (pad l).getD r 0 := by rw [hc, HM.out, blk_at _ _ _ hlt, hr', HP.out]
              have HB := Lib.hid (fun w' (h : Upd (fun k => k = WB) w3 w') => byteAt_atel ao n cap l N r HN.out c hc' w'
                (fun hne => (Hs.out hne).upd ((HUS.out.trans (HU3.out.mono (fun k _ e => .inr (by omega)))).trans (h.mono (fun k _ e => .inr (by omega)))) (fun _ _ => id)) Hn.out (by omega) (by have := HP.out; omega))
              obtain ⟨x, hx⟩ : ∃ x, x = wsub M i q := ⟨_, rfl⟩
              have c0 : wr.cell? ⟨WB, q, none⟩ = some (.int .u32 (U x)) := by rw [hx]; exact wcell HR.out (wlist_get M i q hq16)
              have f0 := HR.out.frozen q
              have HX := Lib.hid hx
              have HQ := Lib.hid hq
              have HC := Lib.hid hc
              clear hx hq hc hc' hr'
              go_wp2
              go_still_tail 16, (by kernel_rfl)
              repeat (first | still_step | still_call (HB.out _ HU.out.drew))
              refine wpStill_nil ?_
              change wpList _ _ _ _ _ wr.drew
              go_wp2
              go_roundw
              case rel =>
                refine ⟨i + 1, by omega, by go_num, ?_, (HU.out.put _ _ (.inl rfl) _).drew⟩
                rw [← wlist_set M i hlt, List.map_set, ← HQ.out, ← HX.out, ← HC.out]
                exact (HR.out.set q _).drew
              case measure => simp [intOf]; omega
            · obtain rfl : i = 64 := by omega
              rw [show ((64 : Nat) : Int) = 64 from rfl]
              clear hi hlt
              obtain ⟨st, hst⟩ : ∃ st, st = blocks init m (pad l) := ⟨_, rfl⟩
              obtain ⟨ls, hls⟩ : ∃ ls, ls = ((ws st).map W).toArray := ⟨_, rfl⟩
              have I8 : Hid ((Tryd.prog.info? 86).map (·.size) = some ls.size) := by show _ = _; rw [size8, hls]; rfl
              have O8 : Hid (ls.all (·.oneCell') = true) := by show _ = _; rw [hls]; exact one_w _
              have Z8 : Hid (A8.size = ls.size) := by show _ = _; rw [hls]; rfl
              obtain ⟨wi, hwi⟩ : ∃ wi, wi = wr := ⟨_, rfl⟩
              subst hwi
              obtain ⟨RB, hRB⟩ : ∃ RB, RB = wi.heap.size := ⟨_, rfl⟩
              have hS' : Row wi SB 86 ((ws st).map W) := by rw [hst]; exact HR3.out.upd HU.out (by omega)
              have HGS : Hid (wi.heap[SB]? = some (.cells ls 86 (0, 0))) := by show _ = _; rw [hls]; exact hS'
              have HST := Lib.hid hst
              have HLS := Lib.hid hls
              clear hst hls hS'
              have hrb : WB < RB := by rw [hRB]; exact HR.out.lt
              have hz8 := zero8
              have HNEW : Hid ((wi.alloc (.cells A8 86)).heap[RB]? = some (.cells A8 86 (0, 0))) := by show _ = _; rw [hRB]; exact heap_alloc_new _ _
              have HRBe := Lib.hid hRB
              clear hRB
              go_wp2_with (first
                | ((with_reducible refine wpList_load_row (o := ⟨some 66, _, _, _, _, _⟩) ?_ _ (.tmp 5) ?_ SB ?_ 86 ls (0, 0) _ HGS.out Tryd.underlying86 ?_ I8.out ?_); rfl; rfl; rfl; rfl)
                | ((with_reducible refine wpList_store_new (o := ⟨none, .store 86 (.tmp 10) (.tmp 66), _, _, _, _⟩) ?_ _ (.tmp 10) (.tmp 66) ?_ RB ls ?_ ?_ 86 A8 HNEW.out I8.out Z8.out O8.out ?_); rfl; rfl; (rw [HRBe.out]; rfl); rfl; intro w4 Hg4 Hu4))
              rw [← HRBe.out]
              clear hz8
              have HW4 : Hid (Row w4 WB 87 ((ring16 M 0).map W)) := by
                have h := HR.out
                rw [wlist_end] at h
                exact (h.alloc _).upd Hu4.out (by omega)
              have HS4 : Hid (Row w4 SB 86 ((ws st).map W)) := by
                have h := HGS.out
                rw [HLS.out] at h
                exact (Row.alloc h _).upd Hu4.out (by omega)
              have HRB4 : Hid (Row w4 RB 86 ((ring8 (rounds M st 0) 0).map W)) := by
                have h := Hg4.out
                rw [HLS.out] at h
                exact h
              have HU4 : Hid (Upd (fun k => k = SB) wS w4) := by
                have e := HRBe.out
                exact ((HU3.out.trans (HU.out.mono (fun k _ e => .inr (by omega)))).alloc _).trans (Hu4.out.mono (fun k _ e => .inr (by have := HU.out.size; omega)))
              have HK4 : Hid (Row w4 w1.heap.size 84 (KN.map W)) := HKS.out.upd HU4.out (by omega)
              have HL4 : Hid (L4 RB WB M st w4 (.int .i64 0) w4) := ⟨0, by omega, rfl, HRB4.out, HW4.out, Upd.refl _ _⟩
              clear HR HU HR3 HU3 HGS I8 O8 Z8 HNEW Hg4 Hu4 HRB4 HW4 HLS
              go_wp2
              go_loopw [11] (fun i wr => L4 RB WB M st w4 i wr) (fun i _ => (64 - intOf i).toNat)
              case atStart => exact HL4.out
              case round =>
                clear HL4
                obtain ⟨t, ht, rfl, hrow, hrow2, hu⟩ := hrel
                have HRr0 := Lib.hid hrow
                have HWr := Lib.hid hrow2
                have HUr := Lib.hid hu
                clear hrow hrow2 hu
                have nwr : RB ≠ WB := by omega
                have nk : ¬ (w1.heap.size = RB ∨ w1.heap.size = WB) := by omega
                by_cases hlt : t < 64
                · have hltI : (t : Int) < 64 := by omega

                  by_cases h16 : 16 ≤ t
                  · have h16I : (16 : Int) ≤ (t : Int) := Int.ofNat_le.2 h16
                    obtain ⟨pw, hpw, pwlt, pwltI, pwe1, pwe2, pwe3, pwe4⟩ := place16 t hlt
                    obtain ⟨w1p, hw1p, w1plt, w1pltI, w1pe1, w1pe2, w1pe3, w1pe4⟩ := placew t 1 hlt (by decide) 1 (by decide)
                    obtain ⟨w9p, hw9p, w9plt, w9pltI, w9pe1, w9pe2, w9pe3, w9pe4⟩ := placew t 9 hlt (by decide) 9 (by decide)
                    obtain ⟨w14p, hw14p, w14plt, w14pltI, w14pe1, w14pe2, w14pe3, w14pe4⟩ := placew t 14 hlt (by decide) 14 (by decide)
                    obtain ⟨y0, hy0⟩ : ∃ x, x = RefM.S M (t - 16) := ⟨_, rfl⟩
                    obtain ⟨y1, hy1⟩ : ∃ x, x = RefM.S M (t - 15) := ⟨_, rfl⟩
                    obtain ⟨y2, hy2⟩ : ∃ x, x = RefM.S M (t - 7) := ⟨_, rfl⟩
                    obtain ⟨y3, hy3⟩ : ∃ x, x = RefM.S M (t - 2) := ⟨_, rfl⟩
                    have b0 : wr.cell? ⟨WB, pw, none⟩ = some (.int .u32 (U y0)) := by rw [hy0, hpw.out]; exact wcell HWr.out (ringB M t h16 hlt).1
                    have b1 : wr.cell? ⟨WB, w1p, none⟩ = some (.int .u32 (U y1)) := by rw [hy1, hw1p.out]; exact wcell HWr.out (ringB M t h16 hlt).2.1
                    have b2 : wr.cell? ⟨WB, w9p, none⟩ = some (.int .u32 (U y2)) := by rw [hy2, hw9p.out]; exact wcell HWr.out (ringB M t h16 hlt).2.2.1
                    have b3 : wr.cell? ⟨WB, w14p, none⟩ = some (.int .u32 (U y3)) := by rw [hy3, hw14p.out]; exact wcell HWr.out (ringB M t h16 hlt).2.2.2
                    have fw := HWr.out.frozen pw
                    have HYY : Hid (y0 = RefM.S M (t - 16) ∧ y1 = RefM.S M (t - 15) ∧ y2 = RefM.S M (t - 7) ∧ y3 = RefM.S M (t - 2)) := ⟨hy0, hy1, hy2, hy3⟩
                    clear hy0 hy1 hy2 hy3
                    go_wp2_with (go_at_call 63; refine (right_w _ _ (by decide) (by decide) _).mono ?_; rintro e w' ⟨rfl, rfl⟩)
                    go_still_tail 17, (by kernel_rfl)
                    repeat still_step
                    (try refine wpStill_nil ?_)
                    change wpList _ _ _ _ _ wr.drew
                    go_upto_region 26 with (fail)
                    obtain ⟨wq, hwq⟩ : ∃ wq, wq = (wr.setCell ⟨WB, pw, none⟩ (.int .u32 (U (y0 + (rotr y1 7 ^^^ rotr y1 18 ^^^ sr y1 3) + y2 + (rotr y3 17 ^^^ rotr y3 19 ^^^ sr y3 10))))).drew := ⟨_, rfl⟩
                    rw [← hwq]
                    have hS : RefM.S M t = y0 + (rotr y1 7 ^^^ rotr y1 18 ^^^ sr y1 3) + y2 + (rotr y3 17 ^^^ rotr y3 19 ^^^ sr y3 10) := by
                      rw [S_next M t h16 hlt, ← HYY.out.1, ← HYY.out.2.1, ← HYY.out.2.2.1, ← HYY.out.2.2.2]; rfl
                    have HRq : Hid (Row wq RB 86 ((ring8 (rounds M st t) t).map W)) := by
                      show Row _ _ _ _
                      rw [hwq]; exact (HRr0.out.far nwr _).drew
                    have HWq : Hid (Row wq WB 87 ((ring16 M (t + 1)).map W)) := by
                      show Row _ _ _ _
                      rw [hwq, ← ring16_set M t h16 hlt, List.map_set, hS, ← hpw.out]; exact (HWr.out.set pw _).drew
                    have HUq : Hid (Upd (fun k => k = RB ∨ k = WB) w4 wq) := by
                      show Upd _ _ _
                      rw [hwq]; exact (HUr.out.put _ _ (.inl (.inr rfl)) _).drew
                    clear hwq hS b0 b1 b2 b3 fw HRr0 HWr HUr HYY
                    clear pwe1 pwe2 pwe3 pwe4 w1pe1 w1pe2 w1pe3 w1pe4 w9pe1 w9pe2 w9pe3 w9pe4 w14pe1 w14pe2 w14pe3 w14pe4
                    obtain ⟨rs, hrs⟩ : ∃ rs, rs = rounds M st t := ⟨_, rfl⟩
                    have HRS' := Lib.hid hrs
                    have hR := HRq.out
                    rw [← hrs] at hR
                    have HRr := Lib.hid hR
                    clear hrs
                    obtain ⟨xa, hxa⟩ : ∃ x, x = rs.a := ⟨_, rfl⟩
                    have Hxa := Lib.hid hxa
                    clear hxa
                    obtain ⟨xb, hxb⟩ : ∃ x, x = rs.b := ⟨_, rfl⟩
                    have Hxb := Lib.hid hxb
                    clear hxb
                    obtain ⟨xc, hxc⟩ : ∃ x, x = rs.c := ⟨_, rfl⟩
                    have Hxc := Lib.hid hxc
                    clear hxc
                    obtain ⟨xd, hxd⟩ : ∃ x, x = rs.d := ⟨_, rfl⟩
                    have Hxd := Lib.hid hxd
                    clear hxd
                    obtain ⟨xe, hxe⟩ : ∃ x, x = rs.e := ⟨_, rfl⟩
                    have Hxe := Lib.hid hxe
                    clear hxe
                    obtain ⟨xf, hxf⟩ : ∃ x, x = rs.f := ⟨_, rfl⟩
                    have Hxf := Lib.hid hxf
                    clear hxf
                    obtain ⟨xg, hxg⟩ : ∃ x, x = rs.g := ⟨_, rfl⟩
                    have Hxg := Lib.hid hxg
                    clear hxg
                    obtain ⟨xh, hxh⟩ : ∃ x, x = rs.h := ⟨_, rfl⟩
                    have Hxh := Lib.hid hxh
                    clear hxh
                    obtain ⟨kk, hkk⟩ : ∃ x, x = K.getD t 0 := ⟨_, rfl⟩
                    obtain ⟨ww, hww⟩ : ∃ x, x = RefM.S M t := ⟨_, rfl⟩
                    have Hkk := Lib.hid hkk
                    have Hww := Lib.hid hww
                    clear hkk hww hR
                    obtain ⟨pa, hpa, palt, paltI, pae1, pae2, pae3, pae4⟩ := place8 t 0 hlt (by decide) 64 (by decide)
                    have cpa : wq.cell? ⟨RB, pa, none⟩ = some (.int .u32 (U xa)) := by rw [Hxa.out, hpa.out]; exact wcell HRr.out (ring8_at rs t 0 (Nat.le_of_lt hlt) (by decide))
                    go_upto_region 27 with (fail)
                    clear cpa pae1 pae2 pae3 pae4
                    obtain ⟨pe, hpe, pelt, peltI, pee1, pee2, pee3, pee4⟩ := place8 t 4 hlt (by decide) 68 (by decide)
                    have cpe : wq.cell? ⟨RB, pe, none⟩ = some (.int .u32 (U xe)) := by rw [Hxe.out, hpe.out]; exact wcell HRr.out (ring8_at rs t 4 (Nat.le_of_lt hlt) (by decide))
                    go_upto_region 28 with (fail)
                    clear cpe pee1 pee2 pee3 pee4
                    obtain ⟨pf, hpf, pflt, pfltI, pfe1, pfe2, pfe3, pfe4⟩ := place8 t 5 hlt (by decide) 69 (by decide)
                    have cpf : wq.cell? ⟨RB, pf, none⟩ = some (.int .u32 (U xf)) := by rw [Hxf.out, hpf.out]; exact wcell HRr.out (ring8_at rs t 5 (Nat.le_of_lt hlt) (by decide))
                    go_upto_region 29 with (fail)
                    clear cpf pfe1 pfe2 pfe3 pfe4
                    obtain ⟨pg, hpg, pglt, pgltI, pge1, pge2, pge3, pge4⟩ := place8 t 6 hlt (by decide) 70 (by decide)
                    have cpg : wq.cell? ⟨RB, pg, none⟩ = some (.int .u32 (U xg)) := by rw [Hxg.out, hpg.out]; exact wcell HRr.out (ring8_at rs t 6 (Nat.le_of_lt hlt) (by decide))
                    go_upto_region 30 with (fail)
                    clear cpg pge1 pge2 pge3 pge4
                    obtain ⟨ph, hph, phlt, phltI, phe1, phe2, phe3, phe4⟩ := place8 t 7 hlt (by decide) 71 (by decide)
                    go_upto_region 31 with (fail)
                    clear phe1 phe2 phe3 phe4
                    have cph : wq.cell? ⟨RB, ph, none⟩ = some (.int .u32 (U xh)) := by rw [Hxh.out, hph.out]; exact wcell HRr.out (ring8_at rs t 7 (Nat.le_of_lt hlt) (by decide))
                    obtain ⟨pw, hpw, pwlt, pwltI, pwe1, pwe2, pwe3, pwe4⟩ := place16 t hlt
                    have ck : wq.cell? ⟨w1.heap.size, t, none⟩ = some (.int .u32 (U kk)) := by
                      rw [Hkk.out]
                      exact wcell (HK4.out.upd HUq.out nk) (KN_k t hlt)
                    have cw : wq.cell? ⟨WB, pw, none⟩ = some (.int .u32 (U ww)) := by
                      rw [Hww.out, hpw.out]
                      exact wcell HWq.out (ringw M t hlt)
                    go_quiet ((go_at_call 63; exact Calls.quiet_of_same (right_int _ _ (by decide) (by decide) _)))
                    clear pwe1 pwe2 pwe3 pwe4 ck cw cph
                    obtain ⟨pb, hpb, pblt, pbltI, pbe1, pbe2, pbe3, pbe4⟩ := place8 t 1 hlt (by decide) 65 (by decide)
                    have cpb : (wq.drewN nq).cell? ⟨RB, pb, none⟩ = some (.int .u32 (U xb)) := by rw [Hxb.out, hpb.out]; exact wcell HRr.out (ring8_at rs t 1 (Nat.le_of_lt hlt) (by decide))
                    go_upto_region 33 with (fail)
                    clear cpb pbe1 pbe2 pbe3 pbe4
                    obtain ⟨pc, hpc, pclt, pcltI, pce1, pce2, pce3, pce4⟩ := place8 t 2 hlt (by decide) 66 (by decide)
                    have cpc : (wq.drewN nq).cell? ⟨RB, pc, none⟩ = some (.int .u32 (U xc)) := by rw [Hxc.out, hpc.out]; exact wcell HRr.out (ring8_at rs t 2 (Nat.le_of_lt hlt) (by decide))
                    go_upto_region 34 with (fail)
                    clear cpc pce1 pce2 pce3 pce4
                    obtain ⟨pd, hpd, pdlt, pdltI, pde1, pde2, pde3, pde4⟩ := place8 t 3 hlt (by decide) 67 (by decide)
                    have cpd : (wq.drewN nq).cell? ⟨RB, pd, none⟩ = some (.int .u32 (U xd)) := by rw [Hxd.out, hpd.out]; exact wcell HRr.out (ring8_at rs t 3 (Nat.le_of_lt hlt) (by decide))
                    have fd := HRr.out.frozen pd
                    go_upto_region 35 with (fail)
                    clear cpd pde1 pde2 pde3 pde4
                    obtain ⟨wz, hwz⟩ : ∃ wz, wz = (wq.drewN nq).setCell ⟨RB, pd, none⟩ (.int .u32 (U (xd + (xh + (rotr xe 6 ^^^ rotr xe 11 ^^^ rotr xe 25) + (xg ^^^ xe &&& (xf ^^^ xg)) + kk + ww)))) := ⟨_, rfl⟩
                    rw [← hwz]
                    have HX : Hid (xh + (rotr xe 6 ^^^ rotr xe 11 ^^^ rotr xe 25) + (xg ^^^ xe &&& (xf ^^^ xg)) + kk + ww = tx rs kk ww) := by
                      show _ = _
                      rw [Hxe.out, Hxf.out, Hxg.out, Hxh.out]
                      exact tx_eq rs kk ww
                    have HRz : Hid (Row wz RB 86 (((ring8 rs t).map W).set pd (W (xd + (xh + (rotr xe 6 ^^^ rotr xe 11 ^^^ rotr xe 25) + (xg ^^^ xe &&& (xf ^^^ xg)) + kk + ww))))) := by
                      show Row _ _ _ _
                      rw [hwz]; exact (HRr.out.drewN nq).set pd _
                    have ch : wz.cell? ⟨RB, ph, none⟩ = some (.int .u32 (U xh)) := by
                      have hne : pd ≠ ph := fun e => ndh_aux t hlt (by rw [← hpd.out, ← hph.out]; exact e)
                      rw [HRz.out.cell, List.getElem?_set_ne hne, List.getElem?_map, hph.out, ring8_at rs t 7 (Nat.le_of_lt hlt) (by decide), Hxh.out]
                      rfl
                    have fh := HRz.out.frozen ph
                    have HWz : Hid (Row wz WB 87 ((ring16 M (t + 1)).map W)) := by
                      show Row _ _ _ _
                      rw [hwz]; exact (HWq.out.drewN nq).far (fun e => nwr e.symm) _
                    have HUz : Hid (Upd (fun k => k = RB ∨ k = WB) w4 wz) := by
                      show Upd _ _ _
                      rw [hwz]; exact (RowW.Upd.drewN HUq.out nq).put _ _ (.inl (.inl rfl)) _
                    obtain ⟨X, hX⟩ : ∃ X, X = xh + (rotr xe 6 ^^^ rotr xe 11 ^^^ rotr xe 25) + (xg ^^^ xe &&& (xf ^^^ xg)) + kk + ww := ⟨_, rfl⟩
                    have HX2 : Hid (X = tx rs kk ww) := by show _ = _; rw [hX]; exact HX.out
                    rw [← hX] at HRz ⊢
                    clear hwz fd hX HX HRr HWq HUq HRq
                    go_wp2_with (go_at_call 63; refine (right_w _ _ (by decide) (by decide) _).mono ?_; rintro e w' ⟨rfl, rfl⟩)
                    go_roundw
                    case rel =>
                      refine ⟨t + 1, hlt, by go_num, ?_, HWz.out.far (fun e => nwr e.symm) _, HUz.out.put _ _ (.inl (.inl rfl)) _⟩
                      have e := rounds_step M st t kk ww Hkk.out Hww.out
                      have e1 : (67 - t) % 8 = pd := hpd.out.symm
                      have e2 : (71 - t) % 8 = ph := hph.out.symm
                      have e3 : X + (rotr xa 2 ^^^ rotr xa 13 ^^^ rotr xa 22) + (xa &&& xb ||| xc &&& (xa ||| xb)) = tx rs kk ww + ty rs := by
                        rw [HX2.out, UInt32.add_assoc, Hxa.out, Hxb.out, Hxc.out, ty_eq]
                      have h := HRz.out.set ph (.int .u32 (U (X + (rotr xa 2 ^^^ rotr xa 13 ^^^ rotr xa 22) + (xa &&& xb ||| xc &&& (xa ||| xb)))))
                      rw [e, ← HRS'.out, ← ring8_step rs t (tx rs kk ww) (ty rs) hlt, List.map_set, List.map_set, e1, e2, ← e3, ← HX2.out, ← Hxd.out]
                      exact h
                    case measure => simp [intOf]; omega
                  · have h16I : (t : Int) < 16 := Int.ofNat_lt.2 (Nat.lt_of_not_le h16)
                    obtain ⟨wq, hwq⟩ : ∃ wq, wq = wr := ⟨_, rfl⟩
                    subst hwq
                    have HRq := HRr0
                    have HUq := HUr
                    have HWq : Hid (Row wq WB 87 ((ring16 M (t + 1)).map W)) := by
                      show Row _ _ _ _
                      rw [ring16_small M t (Nat.lt_of_not_le h16)]; exact HWr.out
                    clear HRr0 HWr HUr
                    obtain ⟨rs, hrs⟩ : ∃ rs, rs = rounds M st t := ⟨_, rfl⟩
                    have HRS' := Lib.hid hrs
                    have hR := HRq.out
                    rw [← hrs] at hR
                    have HRr := Lib.hid hR
                    clear hrs
                    obtain ⟨xa, hxa⟩ : ∃ x, x = rs.a := ⟨_, rfl⟩
                    have Hxa := Lib.hid hxa
                    clear hxa
                    obtain ⟨xb, hxb⟩ : ∃ x, x = rs.b := ⟨_, rfl⟩
                    have Hxb := Lib.hid hxb
                    clear hxb
                    obtain ⟨xc, hxc⟩ : ∃ x, x = rs.c := ⟨_, rfl⟩
                    have Hxc := Lib.hid hxc
                    clear hxc
                    obtain ⟨xd, hxd⟩ : ∃ x, x = rs.d := ⟨_, rfl⟩
                    have Hxd := Lib.hid hxd
                    clear hxd
                    obtain ⟨xe, hxe⟩ : ∃ x, x = rs.e := ⟨_, rfl⟩
                    have Hxe := Lib.hid hxe
                    clear hxe
                    obtain ⟨xf, hxf⟩ : ∃ x, x = rs.f := ⟨_, rfl⟩
                    have Hxf := Lib.hid hxf
                    clear hxf
                    obtain ⟨xg, hxg⟩ : ∃ x, x = rs.g := ⟨_, rfl⟩
                    have Hxg := Lib.hid hxg
                    clear hxg
                    obtain ⟨xh, hxh⟩ : ∃ x, x = rs.h := ⟨_, rfl⟩
                    have Hxh := Lib.hid hxh
                    clear hxh
                    obtain ⟨kk, hkk⟩ : ∃ x, x = K.getD t 0 := ⟨_, rfl⟩
                    obtain ⟨ww, hww⟩ : ∃ x, x = RefM.S M t := ⟨_, rfl⟩
                    have Hkk := Lib.hid hkk
                    have Hww := Lib.hid hww
                    clear hkk hww hR
                    obtain ⟨pa, hpa, palt, paltI, pae1, pae2, pae3, pae4⟩ := place8 t 0 hlt (by decide) 64 (by decide)
                    have cpa : wq.cell? ⟨RB, pa, none⟩ = some (.int .u32 (U xa)) := by rw [Hxa.out, hpa.out]; exact wcell HRr.out (ring8_at rs t 0 (Nat.le_of_lt hlt) (by decide))
                    go_upto_region 27 with (fail)
                    clear cpa pae1 pae2 pae3 pae4
                    obtain ⟨pe, hpe, pelt, peltI, pee1, pee2, pee3, pee4⟩ := place8 t 4 hlt (by decide) 68 (by decide)
                    have cpe : wq.cell? ⟨RB, pe, none⟩ = some (.int .u32 (U xe)) := by rw [Hxe.out, hpe.out]; exact wcell HRr.out (ring8_at rs t 4 (Nat.le_of_lt hlt) (by decide))
                    go_upto_region 28 with (fail)
                    clear cpe pee1 pee2 pee3 pee4
                    obtain ⟨pf, hpf, pflt, pfltI, pfe1, pfe2, pfe3, pfe4⟩ := place8 t 5 hlt (by decide) 69 (by decide)
                    have cpf : wq.cell? ⟨RB, pf, none⟩ = some (.int .u32 (U xf)) := by rw [Hxf.out, hpf.out]; exact wcell HRr.out (ring8_at rs t 5 (Nat.le_of_lt hlt) (by decide))
                    go_upto_region 29 with (fail)
                    clear cpf pfe1 pfe2 pfe3 pfe4
                    obtain ⟨pg, hpg, pglt, pgltI, pge1, pge2, pge3, pge4⟩ := place8 t 6 hlt (by decide) 70 (by decide)
                    have cpg : wq.cell? ⟨RB, pg, none⟩ = some (.int .u32 (U xg)) := by rw [Hxg.out, hpg.out]; exact wcell HRr.out (ring8_at rs t 6 (Nat.le_of_lt hlt) (by decide))
                    go_upto_region 30 with (fail)
                    clear cpg pge1 pge2 pge3 pge4
                    obtain ⟨ph, hph, phlt, phltI, phe1, phe2, phe3, phe4⟩ := place8 t 7 hlt (by decide) 71 (by decide)
                    go_upto_region 31 with (fail)
                    clear phe1 phe2 phe3 phe4
                    have cph : wq.cell? ⟨RB, ph, none⟩ = some (.int .u32 (U xh)) := by rw [Hxh.out, hph.out]; exact wcell HRr.out (ring8_at rs t 7 (Nat.le_of_lt hlt) (by decide))
                    obtain ⟨pw, hpw, pwlt, pwltI, pwe1, pwe2, pwe3, pwe4⟩ := place16 t hlt
                    have ck : wq.cell? ⟨w1.heap.size, t, none⟩ = some (.int .u32 (U kk)) := by
                      rw [Hkk.out]
                      exact wcell (HK4.out.upd HUq.out nk) (KN_k t hlt)
                    have cw : wq.cell? ⟨WB, pw, none⟩ = some (.int .u32 (U ww)) := by
                      rw [Hww.out, hpw.out]
                      exact wcell HWq.out (ringw M t hlt)
                    go_quiet ((go_at_call 63; exact Calls.quiet_of_same (right_int _ _ (by decide) (by decide) _)))
                    clear pwe1 pwe2 pwe3 pwe4 ck cw cph
                    obtain ⟨pb, hpb, pblt, pbltI, pbe1, pbe2, pbe3, pbe4⟩ := place8 t 1 hlt (by decide) 65 (by decide)
                    have cpb : (wq.drewN nq).cell? ⟨RB, pb, none⟩ = some (.int .u32 (U xb)) := by rw [Hxb.out, hpb.out]; exact wcell HRr.out (ring8_at rs t 1 (Nat.le_of_lt hlt) (by decide))
                    go_upto_region 33 with (fail)
                    clear cpb pbe1 pbe2 pbe3 pbe4
                    obtain ⟨pc, hpc, pclt, pcltI, pce1, pce2, pce3, pce4⟩ := place8 t 2 hlt (by decide) 66 (by decide)
                    have cpc : (wq.drewN nq).cell? ⟨RB, pc, none⟩ = some (.int .u32 (U xc)) := by rw [Hxc.out, hpc.out]; exact wcell HRr.out (ring8_at rs t 2 (Nat.le_of_lt hlt) (by decide))
                    go_upto_region 34 with (fail)
                    clear cpc pce1 pce2 pce3 pce4
                    obtain ⟨pd, hpd, pdlt, pdltI, pde1, pde2, pde3, pde4⟩ := place8 t 3 hlt (by decide) 67 (by decide)
                    have cpd : (wq.drewN nq).cell? ⟨RB, pd, none⟩ = some (.int .u32 (U xd)) := by rw [Hxd.out, hpd.out]; exact wcell HRr.out (ring8_at rs t 3 (Nat.le_of_lt hlt) (by decide))
                    have fd := HRr.out.frozen pd
                    go_upto_region 35 with (fail)
                    clear cpd pde1 pde2 pde3 pde4
                    obtain ⟨wz, hwz⟩ : ∃ wz, wz = (wq.drewN nq).setCell ⟨RB, pd, none⟩ (.int .u32 (U (xd + (xh + (rotr xe 6 ^^^ rotr xe 11 ^^^ rotr xe 25) + (xg ^^^ xe &&& (xf ^^^ xg)) + kk + ww)))) := ⟨_, rfl⟩
                    rw [← hwz]
                    have HX : Hid (xh + (rotr xe 6 ^^^ rotr xe 11 ^^^ rotr xe 25) + (xg ^^^ xe &&& (xf ^^^ xg)) + kk + ww = tx rs kk ww) := by
                      show _ = _
                      rw [Hxe.out, Hxf.out, Hxg.out, Hxh.out]
                      exact tx_eq rs kk ww
                    have HRz : Hid (Row wz RB 86 (((ring8 rs t).map W).set pd (W (xd + (xh + (rotr xe 6 ^^^ rotr xe 11 ^^^ rotr xe 25) + (xg ^^^ xe &&& (xf ^^^ xg)) + kk + ww))))) := by
                      show Row _ _ _ _
                      rw [hwz]; exact (HRr.out.drewN nq).set pd _
                    have ch : wz.cell? ⟨RB, ph, none⟩ = some (.int .u32 (U xh)) := by
                      have hne : pd ≠ ph := fun e => ndh_aux t hlt (by rw [← hpd.out, ← hph.out]; exact e)
                      rw [HRz.out.cell, List.getElem?_set_ne hne, List.getElem?_map, hph.out, ring8_at rs t 7 (Nat.le_of_lt hlt) (by decide), Hxh.out]
                      rfl
                    have fh := HRz.out.frozen ph
                    have HWz : Hid (Row wz WB 87 ((ring16 M (t + 1)).map W)) := by
                      show Row _ _ _ _
                      rw [hwz]; exact (HWq.out.drewN nq).far (fun e => nwr e.symm) _
                    have HUz : Hid (Upd (fun k => k = RB ∨ k = WB) w4 wz) := by
                      show Upd _ _ _
                      rw [hwz]; exact (RowW.Upd.drewN HUq.out nq).put _ _ (.inl (.inl rfl)) _
                    obtain ⟨X, hX⟩ : ∃ X, X = xh + (rotr xe 6 ^^^ rotr xe 11 ^^^ rotr xe 25) + (xg ^^^ xe &&& (xf ^^^ xg)) + kk + ww := ⟨_, rfl⟩
                    have HX2 : Hid (X = tx rs kk ww) := by show _ = _; rw [hX]; exact HX.out
                    rw [← hX] at HRz ⊢
                    clear hwz fd hX HX HRr HWq HUq HRq
                    go_wp2_with (go_at_call 63; refine (right_w _ _ (by decide) (by decide) _).mono ?_; rintro e w' ⟨rfl, rfl⟩)
                    go_roundw
                    case rel =>
                      refine ⟨t + 1, hlt, by go_num, ?_, HWz.out.far (fun e => nwr e.symm) _, HUz.out.put _ _ (.inl (.inl rfl)) _⟩
                      have e := rounds_step M st t kk ww Hkk.out Hww.out
                      have e1 : (67 - t) % 8 = pd := hpd.out.symm
                      have e2 : (71 - t) % 8 = ph := hph.out.symm
                      have e3 : X + (rotr xa 2 ^^^ rotr xa 13 ^^^ rotr xa 22) + (xa &&& xb ||| xc &&& (xa ||| xb)) = tx rs kk ww + ty rs := by
                        rw [HX2.out, UInt32.add_assoc, Hxa.out, Hxb.out, Hxc.out, ty_eq]
                      have h := HRz.out.set ph (.int .u32 (U (X + (rotr xa 2 ^^^ rotr xa 13 ^^^ rotr xa 22) + (xa &&& xb ||| xc &&& (xa ||| xb)))))
                      rw [e, ← HRS'.out, ← ring8_step rs t (tx rs kk ww) (ty rs) hlt, List.map_set, List.map_set, e1, e2, ← e3, ← HX2.out, ← Hxd.out]
                      exact h
                    case measure => simp [intOf]; omega
                · obtain rfl : t = 64 := by omega
                  rw [show ((64 : Nat) : Int) = 64 from rfl]
                  clear ht hlt
                  obtain ⟨rr, hrr⟩ : ∃ rr, rr = rounds M st 64 := ⟨_, rfl⟩
                  have HRR := Lib.hid hrr
                  obtain ⟨w5, hw5⟩ : ∃ w5, w5 = wr := ⟨_, rfl⟩
                  subst hw5
                  have HR5 : Hid (Row w5 RB 86 ((ws rr).map W)) := by
                    have h := HRr0.out
                    rw [ring8_end, ← hrr] at h
                    exact h
                  have hsrw : ¬ (SB = RB ∨ SB = WB) := by omega
                  have HS5 : Hid (L5 SB st rr w5 (.int .i64 0) w5) := ⟨0, by omega, rfl, by rw [ssub_zero]; exact HS4.out.upd HUr.out hsrw, Upd.refl _ _⟩
                  have HU5 : Hid (Upd (fun k => k = SB) wS w5) := HU4.out.trans (HUr.out.mono (fun k _ e => .inr (by omega)))
                  clear hrr HRr0 HWr HUr
                  go_wp2
                  go_loopw [22] (fun i wr => L5 SB st rr w5 i wr) (fun i _ => (8 - intOf i).toNat)
                  case atStart => exact HS5.out
                  case round =>
                    clear HS5
                    obtain ⟨j, hj, rfl, hrow, hu⟩ := hrel
                    have HR := Lib.hid hrow
                    have HU := Lib.hid hu
                    clear hrow hu
                    by_cases hlt : j < 8
                    · have hltI : (j : Int) < 8 := by omega
                      obtain ⟨x, hx⟩ : ∃ x, x = (ws st).getD j 0 := ⟨_, rfl⟩
                      obtain ⟨y, hy⟩ : ∃ y, y = (ws rr).getD j 0 := ⟨_, rfl⟩
                      have c0 : wr.cell? ⟨SB, j, none⟩ = some (.int .u32 (U x)) := by rw [hx]; exact wcell HR.out (ssub_at st rr j hlt)
                      have c1 : wr.cell? ⟨RB, j, none⟩ = some (.int .u32 (U y)) := by
                        rw [hy]
                        refine wcell (HR5.out.upd HU.out (by omega)) ?_
                        rw [List.getD_eq_getElem?_getD, List.getElem?_eq_getElem (show j < (ws rr).length from hlt)]
                        rfl
                      have f0 := HR.out.frozen j
                      have Hx := Lib.hid hx
                      have Hy := Lib.hid hy
                      clear hx hy
                      go_wp2
                      go_still_tail 9, (by kernel_rfl)
                      repeat still_step
                      (try refine wpStill_nil ?_)
                      change wpList _ _ _ _ _ wr.drew
                      go_wp2
                      go_roundw
                      case rel =>
                        refine ⟨j + 1, by omega, by go_num, ?_, (HU.out.put _ _ (.inl rfl) _).drew⟩
                        rw [← ssub_set st rr j hlt, List.map_set, ← Hx.out, ← Hy.out]
                        exact (HR.out.set j _).drew
                      case measure => simp [intOf]; omega
                    · obtain rfl : j = 8 := by omega
                      rw [show ((8 : Nat) : Int) = 8 from rfl]
                      clear hj hlt
                      have HF : Hid (Row wr SB 86 ((ws (blocks init (m + 1) (pad l))).map W)) := by
                        show Row _ _ _ _
                        have hpl : 64 * (m + 1) ≤ (pad l).length := by rw [pad_len, ← Hn.out, ← HN.out]; have := HP.out; omega
                        have h := HR.out
                        rw [ssub_end, HRR.out] at h
                        rw [blocks_step _ _ hpl, ← HM.out, ← HST.out]
                        exact h
                      have HUf : Hid (Upd (fun k => k = SB) wS wr) := HU5.out.trans (HU.out.mono (fun k _ e => .inl e))
                      clear HR HU
                      go_wp2
                      go_roundw
                      case rel => exact ⟨m + 1, by have := HP.out; omega, congrArg (Value.int .i64) (by have := HP.out; omega), HF.out, HUf.out⟩
                      case measure => simp [intOf]; omega
        · have hmN : 64 * m = N := by omega
          obtain ⟨st, hst⟩ : ∃ st, st = blocks init m (pad l) := ⟨_, rfl⟩
          have HO : Hid (sha l = out st) := by
            show _ = _
            have e : (pad l).length / 64 = m := by rw [pad_len, ← Hn.out, ← HN.out, ← hmN]; omega
            rw [hst, ← e]; rfl
          have HRs : Hid (Row wr SB 86 ((ws st).map W)) := by show Row _ _ _ _; rw [hst]; exact HR.out
          clear hst
          obtain ⟨wo, hwo⟩ : ∃ wo, wo = wr := ⟨_, rfl⟩
          subst hwo
          obtain ⟨DB, hDB⟩ : ∃ DB, DB = wo.heap.size := ⟨_, rfl⟩
          obtain ⟨w6, hw6⟩ : ∃ w6, w6 = wo.alloc (.cells AD 23) := ⟨_, rfl⟩
          have hsd : SB < DB := by rw [hDB]; exact HR.out.lt
          have hws6 : wS.heap.size ≤ DB := by rw [hDB]; exact HU.out.size
          have HS6 : Hid (Row w6 SB 86 ((ws st).map W)) := by show Row _ _ _ _; rw [hw6]; exact HRs.out.alloc _
          have HU6 : Hid (Upd (fun k => k = SB) wS w6) := by show Upd _ _ _; rw [hw6]; exact HU.out.alloc _
          have HL6 : Hid (L6 DB st w6 (.int .i64 0) w6) := ⟨0, by omega, rfl, by rw [hw6, hDB]; exact Row.new _ _ _, Upd.refl _ _⟩
          obtain ⟨p, hp⟩ : ∃ p, p = 64 * m := ⟨_, rfl⟩
          have hpI : ¬ (p : Int) < (N : Int) := by omega
          rw [← hp]
          clear hp hmN
          go_wp2
          rw [← hDB, ← hw6]
          clear hDB hw6 HR HU HRs hz hz8 hz16
          go_loopw [24] (fun i wr => L6 DB st w6 i wr) (fun i _ => (32 - intOf i).toNat)
          case atStart => exact HL6.out
          case round =>
            clear HL6
            obtain ⟨i, hi, rfl, hrow, hu⟩ := hrel
            have HR := Lib.hid hrow
            have HU := Lib.hid hu
            clear hrow hu
            by_cases hlt : i < 32
            · have hltI : (i : Int) < 32 := by omega
              obtain ⟨a, ha⟩ : ∃ a, a = i / 4 := ⟨_, rfl⟩
              have haI : (a : Int) < 8 := by omega
              have han : a < 8 := by omega
              have e1 : (i : Int) / 4 = (a : Int) := by omega
              have e2 : (i : Int).tdiv 4 = (a : Int) := by rw [Int.tdiv_eq_ediv_of_nonneg (by omega)]; exact e1
              obtain ⟨x, hx⟩ : ∃ x, x = (ws st).getD a 0 := ⟨_, rfl⟩
              have c0 : wr.cell? ⟨SB, a, none⟩ = some (.int .u32 (U x)) := by
                rw [hx]
                refine wcell (HS6.out.upd HU.out (by omega)) ?_
                rw [List.getD_eq_getElem?_getD, List.getElem?_eq_getElem (show a < (ws st).length from han)]
                rfl
              have c1 : wr.cell? ⟨DB, i, none⟩ = some (Mem.u8 ((osb st i).getD i 0)) := by
                have hl : i < (osb st i).length := by simp [osb, out_len]; omega
                rw [HR.out.cell, List.getElem?_map, List.getD_eq_getElem?_getD, List.getElem?_eq_getElem hl]
                rfl
              have f1 := HR.out.frozen i
              have Hx := Lib.hid hx
              have Ha : Hid (a = i / 4) := ha
              clear hx ha
              by_cases hb0 : i % 4 = 0
              · have e3 : (i : Int) % 4 = 0 := by omega
                have e4 : (i : Int).tmod 4 = 0 := by rw [Int.tmod_eq_emod_of_nonneg (by omega)]; exact e3
                have Hb : Hid (i = 4 * a + 0) := by show _ = _; have := Ha.out; omega
                clear hb0
                go_wp2
                go_roundw
                case rel =>
                  rw [v_bx]
                  refine ⟨i + 1, by omega, by go_num, ?_, HU.out.put _ _ (.inl rfl) _⟩
                  rw [← osb_set st i hlt, List.map_set]
                  have e5 : (out st).getD i 0 = bx x 24 := by rw [Hb.out, out_at st a 0 han (by decide), ← Hx.out]; first | rfl | (simp [b0]; done)
                  rw [e5]
                  exact HR.out.set i _
                case measure => simp [intOf]; omega
              by_cases hb1 : i % 4 = 1
              · have e3 : (i : Int) % 4 = 1 := by omega
                have e4 : (i : Int).tmod 4 = 1 := by rw [Int.tmod_eq_emod_of_nonneg (by omega)]; exact e3
                have Hb : Hid (i = 4 * a + 1) := by show _ = _; have := Ha.out; omega
                clear hb1
                go_wp2
                go_roundw
                case rel =>
                  rw [v_bx]
                  refine ⟨i + 1, by omega, by go_num, ?_, HU.out.put _ _ (.inl rfl) _⟩
                  rw [← osb_set st i hlt, List.map_set]
                  have e5 : (out st).getD i 0 = bx x 16 := by rw [Hb.out, out_at st a 1 han (by decide), ← Hx.out]; first | rfl | (simp [b0]; done)
                  rw [e5]
                  exact HR.out.set i _
                case measure => simp [intOf]; omega
              by_cases hb2 : i % 4 = 2
              · have e3 : (i : Int) % 4 = 2 := by omega
                have e4 : (i : Int).tmod 4 = 2 := by rw [Int.tmod_eq_emod_of_nonneg (by omega)]; exact e3
                have Hb : Hid (i = 4 * a + 2) := by show _ = _; have := Ha.out; omega
                clear hb2
                go_wp2
                go_roundw
                case rel =>
                  rw [v_bx]
                  refine ⟨i + 1, by omega, by go_num, ?_, HU.out.put _ _ (.inl rfl) _⟩
                  rw [← osb_set st i hlt, List.map_set]
                  have e5 : (out st).getD i 0 = bx x 8 := by rw [Hb.out, out_at st a 2 han (by decide), ← Hx.out]; first | rfl | (simp [b0]; done)
                  rw [e5]
                  exact HR.out.set i _
                case measure => simp [intOf]; omega
              by_cases hb3 : i % 4 = 3
              · have e3 : (i : Int) % 4 = 3 := by omega
                have e4 : (i : Int).tmod 4 = 3 := by rw [Int.tmod_eq_emod_of_nonneg (by omega)]; exact e3
                have Hb : Hid (i = 4 * a + 3) := by show _ = _; have := Ha.out; omega
                clear hb3
                go_wp2
                go_roundw
                case rel =>
                  rw [v_b0]
                  refine ⟨i + 1, by omega, by go_num, ?_, HU.out.put _ _ (.inl rfl) _⟩
                  rw [← osb_set st i hlt, List.map_set]
                  have e5 : (out st).getD i 0 = b0 x := by rw [Hb.out, out_at st a 3 han (by decide), ← Hx.out]; first | rfl | (simp [b0]; done)
                  rw [e5]
                  exact HR.out.set i _
                case measure => simp [intOf]; omega
              exact absurd (Nat.mod_lt i (by decide : 0 < 4)) (by omega)
            · obtain rfl : i = 32 := by omega
              rw [show ((32 : Nat) : Int) = 32 from rfl]
              have HG : Hid (wr.heap[DB]? = some (.cells Y 23 (0, 0))) := by
                have h := HR.out
                show _ = _
                rw [HY.out, HO.out]
                unfold osb at h
                rw [Nat.sub_self, List.replicate_zero, List.append_nil, List.take_of_length_le (by rw [out_len]; omega)] at h
                exact h
              have HG0 : Hid (wr.heap[w.heap.size]? = some (.cells AD 23 (0, 0))) := by
                show _ = _
                rw [HU.out.block _ (by have := HU6.out.size; omega) (by omega), HU6.out.block _ (by omega) (by omega)]
                exact HRS.out
              have HUf : Hid (Upd (fun _ => False) w wr) := (HUS.out.trans (HU6.out.mono (fun k _ e => .inr (by omega)))).trans (HU.out.mono (fun k _ e => .inr (by omega)))
              clear HR HU hlt hi
              go_wp2_with (first
                | ((with_reducible refine wpList_load_row (o := ⟨some 241, _, _, _, _, _⟩) ?_ _ (.tmp 23) ?_ DB ?_ 23 Y (0, 0) _ HG.out Tryd.underlying23 ?_ HYs.out ?_); rfl; rfl; rfl; rfl)
                | ((with_reducible refine wpList_store_new (o := ⟨none, .store 23 (.tmp 2) (.tmp 241), _, _, _, _⟩) ?_ _ (.tmp 2) (.tmp 241) ?_ w.heap.size Y ?_ ?_ 23 AD HG0.out HYs.out HYl.out HY1.out ?_); rfl; rfl; rfl; rfl; intro w7 Hg7 Hu7))
              refine bodyPost_ret (results_cell_row rfl _ _ w.heap.size 23 Y (0, 0) _ rfl Hg7.out Tryd.underlying23 rfl HYs.out) rfl ?_
              exact ⟨by rw [← HY.out], HUf.out.trans (Hu7.out.mono (fun k hk e => .inr (by omega)))⟩

end Go.Proofs.YtiglaeipbcmlnaaDoor.RefE

/-
  docketref2.Clash.
-/
namespace Go.Proofs.YtiglaeipbcmlnaaDoor.RefCl
open Go.RowKit Sha TurnW Mem RowW CopyW SumH NewW EqW BookW SplitL SplitM CutW RefW3 RefE ClashL ClashW DigA TabZ
set_option linter.unusedVariables false
set_option linter.unusedSimpArgs false

/-- No pair, or the j-th and the i-th text as they are. -/
def RClashAt (a : Int) (ts : List (List UInt8)) (O : Nat → Prop) (w : World) (e : Ending) (w' : World) : Prop :=
  Upd (fun _ => False) w w' ∧
    ((e = .returned (.tuple #[.slice none 0 0, .slice none 0 0, .bool false]) ∧ NoC (σf a ts) (τf ts) ts.length) ∨
      ∃ i j p q, i < ts.length ∧ At (σf a ts) (τf ts) i j ∧ e = .returned (.tuple #[p, q, .bool true]) ∧ El w' p (τf ts j) ∧ El w' q (τf ts i) ∧
        (τf ts j ≠ [] → ∀ k, own p k → O k) ∧ (τf ts i ≠ [] → ∀ k, own q k → O k))

/-- the sums of the first k texts, one behind the other -/
def sums (a : Int) (ts : List (List UInt8)) (k : Nat) : List UInt8 := ((List.range k).map (σf a ts)).flatten
theorem sums_succ (a : Int) (ts : List (List UInt8)) (k : Nat) : sums a ts (k + 1) = sums a ts k ++ σf a ts k := by simp [sums, List.range_succ]
theorem sums_len (a : Int) (ts : List (List UInt8)) : ∀ k, (sums a ts k).length = k * 32
  | 0 => by simp [sums]
  | k + 1 => by rw [sums_succ, List.length_append, sums_len a ts k, σ_len]; omega
theorem sums_at (a : Int) (ts : List (List UInt8)) : ∀ h k j, k < h → j < 32 → (sums a ts h)[k * 32 + j]? = (σf a ts k)[j]?
  | 0, k, j, hk, _ => by omega
  | h + 1, k, j, hk, hj => by
    rw [sums_succ]
    rcases Nat.lt_succ_iff_lt_or_eq.1 hk with h1 | rfl
    · rw [List.getElem?_append_left (by rw [sums_len]; omega)]; exact sums_at a ts h k j h1 hj
    · rw [List.getElem?_append_right (by rw [sums_len]; omega), sums_len]
      congr 1
      omega
theorem range_sums {w : World} {g n cap : Nat} {a : Int} {ts : List (List UInt8)} (h : w.ownsRow 0 23 32 (.slice (some ⟨g, 0, none⟩) n cap) n ((sums a ts n).map u8)) (k : Nat) (hk : k < n) : w.rangeAt g (k * 32) ((σf a ts k).map u8) := by
  intro j v hv
  have hj : j < 32 := by have := (List.getElem?_eq_some_iff.1 hv).1; simpa [σ_len] using this
  have hc := h.cells (g := g) rfl (k * 32 + j) v (by rw [List.getElem?_map, sums_at a ts n k j hk hj, ← List.getElem?_map]; exact hv)
  rw [add_none, Nat.zero_add] at hc
  exact hc

theorem conv_el {w : World} {ao : Option Addr} {n cap : Nat} {l : List UInt8} (h : El w (.slice ao n cap) l) :
    (convert 25 9 (.slice ao n cap)).run Tryd.prog w = .ok (.string ⟨l.toArray⟩) w := by
  obtain ⟨ao', cap', he, h1, h2, h3, h4⟩ := h
  by_cases hl : l = []
  · subst hl
    clear h1 h2 h3 h4
    cases he
    cases ao with
    | none => exact run_convert_bytes_nil w 25 5 Tryd.underlying25 Tryd.underlying5 _ _ _ Tryd.underlying9
    | some a =>
      have hl := run_loadCells_list (P := Tryd.prog) w a [] (by simp)
      rw [run_convert_bytes_string w 25 9 5 _ _ _ Tryd.underlying25 Tryd.underlying5 Tryd.underlying9]
      exact run_bytesToString w a 0 cap [] hl
  · exact HeldW.conv_sl (h4 hl)
theorem bne_str (a b : List UInt8) : ((⟨a.toArray⟩ : ByteArray).toList == (⟨b.toArray⟩ : ByteArray).toList) = (a == b) := str_eq a b

def LRo (w : World) (a : Int) (ts : List (List UInt8)) (g : Nat) (s i : Value) (wr : World) : Prop :=
  ∃ k : Nat, k + g = ts.length ∧ i = .int .i64 k ∧ NoC (σf a ts) (τf ts) k ∧ Upd (fun _ => False) w wr ∧
    wr.ownsRow 0 23 32 s k ((sums a ts k).map u8) ∧ ∀ x, own s x → w.heap.size ≤ x

set_option maxHeartbeats 4000000 in
set_option maxRecDepth 100000 in
theorem rclash_any (a : Int) (ha : -9223372036854775808 ≤ a ∧ a ≤ 9223372036854775807) (ao : Option Addr) (n cap : Nat) (ts : List (List UInt8)) (O : Nat → Prop) (w : World) (hs : SlE w (.slice ao n cap) ts O) (hO : ∀ k, O k → k < w.heap.size) (hn : n ≤ 4000000)
    (hlen : ∀ i, i < ts.length → (ts.getD i []).length ≤ 140737488355000) :
    Calls Tryd.prog 47 #[.int .i64 a, .slice ao n cap] w (RClashAt a ts O w) := by
  have hnl : n = ts.length := by obtain ⟨_, _, _, h, _⟩ := hs; injection h
  have Hs : Hid (SlE w (.slice ao n cap) ts O) := hs
  have HO := Lib.hid hO
  have Hn := Lib.hid hn
  have Ha := Lib.hid ha
  have Hlen := Lib.hid hlen
  have HN := Lib.hid hnl
  clear hs hO hn ha hlen hnl
  go_enter Tryd.func47, Tryd.ntmps47
  go_wp2
  go_loopg [7, 8, 9] n (fun g s i j wr => LRo w a ts g s i wr)
  case atStart => exact ⟨0, by have := HN.out; omega, rfl, NoC.zero, Upd.refl _ _, by simpa [sums] using World.ownsRow_nil w 0 23 32, fun x hx => by simp [own, Value.ownBlock] at hx⟩
  case round =>
    obtain ⟨k, hkg, rfl, hno, hu, hown, hwo⟩ := hrel
    obtain ⟨g0, rfl⟩ : ∃ x : Nat, x = gk := ⟨_, rfl⟩
    obtain ⟨w2, rfl⟩ : ∃ x : World, x = wr := ⟨_, rfl⟩
    have HNo := Lib.hid hno
    have HU := Lib.hid hu
    have HOwn := Lib.hid hown
    have HWo := Lib.hid hwo
    have Hkg := Lib.hid hkg
    clear hno hu hown hkg hwo
    by_cases hlt : k < n
    · have hlI : (k : Int) < (n : Int) := by omega
      have hlt' : k < ts.length := by rw [← HN.out]; exact hlt
      obtain ⟨g1, rfl⟩ : ∃ g1, g0 = g1 + 1 := ⟨g0 - 1, by have := Hkg.out; omega⟩
      have hkb : (k : Int) < 4000001 := by have := Hn.out; omega
      have Hs2 : Hid (SlE w2 (.slice ao n cap) ts O) := Hs.out.upd HU.out (fun _ _ => id)
      obtain ⟨ao', cap', pv, he, h3, h4⟩ := Hs2.out
      injection he with e1 e2 e3
      subst e1 e3
      clear e2
      obtain ⟨⟨g, off, sp⟩, rfl⟩ : ∃ ad, ao = some ad := by
        cases ao with
        | some ad => exact ⟨ad, rfl⟩
        | none => have := h3 rfl; omega
      obtain ⟨hsp, hOg, h4⟩ := h4 _ rfl
      obtain rfl : sp = none := hsp
      have hadd : ∀ i : Nat, (⟨g, off, none⟩ : Addr).add i = ⟨g, off + i, none⟩ := fun i => by unfold Addr.add; split <;> simp_all
      have HC : Hid (∀ i, i < ts.length → ∃ ai ci, w2.cell? ⟨g, off + i, none⟩ = some (.slice ai (τf ts i).length ci) ∧ El w2 (.slice ai (τf ts i).length ci) (τf ts i) ∧ (τf ts i ≠ [] → ∀ k, own (.slice ai (τf ts i).length ci) k → O k)) := fun i hi => by
        obtain ⟨hc, hsl, hp⟩ := h4 i hi
        rw [hadd] at hc
        obtain ⟨a1, c1, hv, r1, r2, r3, r4⟩ := id hsl
        have hv' : pv i = .slice a1 (τf ts i).length c1 := hv
        exact ⟨a1, c1, by rw [hc, hv'], by rw [← hv']; exact hsl, fun hne k h => hp hne k (by rw [hv']; exact h)⟩
      obtain ⟨ak, ck, hck, hslk, hpk⟩ := HC.out k hlt'
      have HOg : Hid (O g) := hOg (by omega)
      clear h3 h4 hadd hOg
      obtain ⟨t, ht⟩ : ∃ t, t = τf ts k := ⟨_, rfl⟩
      rw [← ht] at hck hslk hpk
      have Ht := Lib.hid ht
      have Hpk := Lib.hid hpk
      have Htl : Hid (t.length ≤ 140737488355000) := by show _ ≤ _; rw [ht]; exact Hlen.out k hlt'
      have HSl : Hid (t ≠ [] → Sl w2 (.slice ak t.length ck) t) := by
        obtain ⟨_, _, he, _, _, _, h⟩ := id hslk
        exact h
      have Hslk := Lib.hid hslk
      clear ht hslk hpk
      have HSm := Lib.hid (refsum_el ak t.length ck t w2 HSl.out rfl Htl.out)
      obtain ⟨nt, hnt⟩ : ∃ x, x = t.length := ⟨_, rfl⟩
      rw [← hnt] at hck Hslk Hpk HSm
      have Hnt := Lib.hid hnt
      clear hnt
      obtain ⟨d, hd⟩ : ∃ d, d = cut (sha t) a := ⟨_, rfl⟩
      have hd32 : d.length = 32 := by rw [hd]; exact cut_len _ _ rfl
      have Hdσ : Hid (d = σf a ts k) := by show _ = _; rw [hd, Ht.out]; rfl
      obtain ⟨Y, hY⟩ : ∃ Y, Y = (d.map Mem.u8).toArray := ⟨_, rfl⟩
      have hXs : Y.size = 32 := by rw [hY]; simp [hd32]
      have HY := Lib.hid hY
      have Hd := Lib.hid hd
      have Hd32 := Lib.hid hd32
      clear hY hd hd32
      go_wp2_with (first
        | (go_at_call 18; refine HSm.out.mono ?_; rintro e w3 ⟨rfl, hu3⟩; have HU3 := Lib.hid hu3; clear hu3))
      refine (CutW.refcut_any (sha t) rfl a Ha.out _).mono ?_
      rw [← Hd.out, ← HY.out]
      rintro e w4 ⟨rfl, hu4⟩
      have HU4 := Lib.hid hu4
      clear hu4
      have HU24 : Hid (Upd (fun _ => False) w2 (w4.alloc (.cells Y 23))) := (HU3.out.trans (HU4.out.mono (fun _ _ h => h.elim))).alloc _
      have HOwn4 : Hid ((w4.alloc (.cells Y 23)).ownsRow 0 23 32 u7 k ((sums a ts k).map Mem.u8)) := IntsW.own_upd HOwn.out HU24.out (fun _ _ h => h)
      obtain ⟨yl, hyl⟩ : ∃ yl, yl = d.map Mem.u8 := ⟨_, rfl⟩
      have HN4 : Hid ((w4.alloc (.cells Y 23)).heap[w4.heap.size]? = some (.cells yl.toArray 23 (0, 0))) := by
        show _ = _
        rw [hyl, ← HY.out]; exact heap_alloc_new _ _
      have HYll : Hid (yl.length = 32) := by show _ = _; rw [hyl]; simpa using Hd32.out
      have HYl1 : Hid (∀ u ∈ yl, u.oneCell' = true) := by
        intro u hu
        rw [hyl] at hu
        exact one_of _ u hu
      have Hyl := Lib.hid hyl
      clear hyl
      have hkn : k + 1 ≤ 4000000000 := by omega
      go_wp2_with (at_builtin; rw [built32 Y hXs]; refine wpList_append_digN _ rfl (.tmp 16) (.tmp 24) rfl u7 k ((sums a ts k).map Mem.u8) yl rfl HOwn4.out w4.heap.size 1 rfl HN4.out HYll.out HYl1.out hkn (k + 1) rfl ?_; intro s5 c5 w5 HO5 HU5 HP5)
      have HR5 : Hid (w5.ownsRow 0 23 32 (.slice s5 (k + 1) c5) (k + 1) ((sums a ts (k + 1)).map Mem.u8)) := by
        have h := HO5.out
        rw [Hyl.out, Hdσ.out, ← List.map_append, ← sums_succ] at h
        exact h
      have HWo5 : Hid (∀ x, own (.slice s5 (k + 1) c5) x → w.heap.size ≤ x) := fun x hx => by
        rcases HP5.out x hx with e | e
        · exact HWo.out x e
        · exact Nat.le_trans HU.out.size (Nat.le_trans HU24.out.size e)
      have HU05 : Hid (Upd (fun _ => False) w w5) := (HU.out.trans (HU24.out.mono (fun _ _ h => h.elim))).trans (HU5.out.mono (fun x _ e => .inr (HWo.out x e)))
      obtain ⟨g5, rfl⟩ : ∃ g5, s5 = some ⟨g5, 0, none⟩ := by
        rcases HR5.out.2 with ⟨_, h⟩ | ⟨g', cap', cur, he, _⟩
        · omega
        · injection he with e1; exact ⟨_, e1⟩
      have hkI : (k : Int) < (k : Int) + 1 := by omega
      clear HO5 HU5 HP5 HN4 HOwn4 HU24 HSm hck HU3 HU4 HC hkn
      go_loopg [9] k (fun g j wx => ∃ c : Nat, c + g = k ∧ j = .int .i64 c ∧ (∀ x, x < c → ¬ (σf a ts x = σf a ts k ∧ τf ts x ≠ τf ts k)) ∧ Upd (fun _ => False) w5 wx)
      case atStart => exact ⟨0, by omega, rfl, fun x h => absurd h (Nat.not_lt_zero _), Upd.refl _ _⟩
      case round =>
        obtain ⟨c, hcg, rfl, hall, hux⟩ := hrel
        obtain ⟨g6, rfl⟩ : ∃ x : Nat, x = gk := ⟨_, rfl⟩
        obtain ⟨w6, rfl⟩ : ∃ x : World, x = wr := ⟨_, rfl⟩
        have HAll := Lib.hid hall
        have HU6 := Lib.hid hux
        have Hcg := Lib.hid hcg
        clear hall hux hcg
        have HU06 : Hid (Upd (fun _ => False) w w6) := HU05.out.trans (HU6.out.mono (fun _ _ h => h.elim))
        have HR6 : Hid (w6.ownsRow 0 23 32 (.slice (some ⟨g5, 0, none⟩) (k + 1) c5) (k + 1) ((sums a ts (k + 1)).map Mem.u8)) := IntsW.own_upd HR5.out HU6.out (fun _ _ h => h)
        by_cases hck : c < k
        · have hckI : (c : Int) < (k : Int) := by omega
          have hck1 : (c : Int) < (k : Int) + 1 := by omega
          have hcn : c < ts.length := by omega
          have hcnI : (c : Int) < (n : Int) := by omega
          obtain ⟨ao6, cap6, pv, he, _, h4⟩ := id (Hs.out.upd HU06.out (fun _ _ => id))
          injection he with e1 e2 e3
          subst e1 e3
          clear e2
          obtain ⟨_, hOg, h4⟩ := h4 _ rfl
          have hadd : ∀ i : Nat, (⟨g, off, none⟩ : Addr).add i = ⟨g, off + i, none⟩ := fun i => by unfold Addr.add; split <;> simp_all
          obtain ⟨hcj, hslj, hpj⟩ := h4 c hcn
          obtain ⟨hck6, hslk6, hpk6⟩ := h4 k hlt'
          rw [hadd] at hcj hck6
          have hdc : (σf a ts c).length = 32 := σ_len _ _ _
          have hdk : (σf a ts k).length = 32 := σ_len _ _ _
          obtain ⟨Zc, hZc⟩ : ∃ Z, Z = (σf a ts c).map Mem.u8 := ⟨_, rfl⟩
          obtain ⟨Zk, hZk⟩ : ∃ Z, Z = (σf a ts k).map Mem.u8 := ⟨_, rfl⟩
          have HZcs : Hid ((Tryd.prog.info? 23).map (·.size) = some Zc.length) := by show _ = _; rw [size32, hZc]; simp [hdc]
          have HZks : Hid ((Tryd.prog.info? 23).map (·.size) = some Zk.length) := by show _ = _; rw [size32, hZk]; simp [hdk]
          have HRc : Hid (∀ w', Upd (fun _ => False) w6 w' → w'.rangeAt g5 (c * 32) Zc) := fun w' h => by
            rw [hZc]; exact range_sums (IntsW.own_upd HR6.out h (fun _ _ h => h)) c (by omega)
          have HRk : Hid (∀ w', Upd (fun _ => False) w6 w' → w'.rangeAt g5 (k * 32) Zk) := fun w' h => by
            rw [hZk]; exact range_sums (IntsW.own_upd HR6.out h (fun _ _ h => h)) k (by omega)
          have HEqv : Hid (∀ w', (Op.equalIn 10000 23 (.agg Zc.toArray) (.agg Zk.toArray)).run Tryd.prog w' = .ok (σf a ts c == σf a ts k) w') := fun w' => by
            rw [hZc, hZk]; exact run_eq_digest _ _ hdc hdk w'
          clear hZc hZk hdc hdk
          by_cases hsum : σf a ts c = σf a ts k
          · have HEq : Hid (∀ w', (Op.equalIn 10000 23 (.agg Zc.toArray) (.agg Zk.toArray)).run Tryd.prog w' = .ok true w') := fun w' => by
              rw [HEqv.out w', hsum]; simp
            have Hsum := Lib.hid hsum
            obtain ⟨aj, cj, hvj, _, _, _, _⟩ := id hslj
            obtain ⟨ai, ci, hvk, _, _, _, _⟩ := id hslk6
            rw [hvj] at hcj hslj hpj
            rw [hvk] at hck6 hslk6 hpk6
            obtain ⟨tj, htj⟩ : ∃ x, x = τf ts c := ⟨_, rfl⟩
            have htj' : ts.getD c [] = tj := htj.symm
            have htk' : ts.getD k [] = t := by rw [Ht.out]; rfl
            rw [htj'] at hcj hslj hpj
            rw [htk'] at hck6 hslk6 hpk6
            obtain ⟨nj, hnj⟩ : ∃ x, x = tj.length := ⟨_, rfl⟩
            rw [← hnj] at hcj hslj hpj
            rw [← Hnt.out] at hck6 hslk6 hpk6
            have HCj : Hid (∀ w', Upd (fun _ => False) w6 w' → w'.cell? ⟨g, off + c, none⟩ = some (.slice aj nj cj)) := fun w' h => h.cell hcj (fun h => h)
            have HCk : Hid (∀ w', Upd (fun _ => False) w6 w' → w'.cell? ⟨g, off + k, none⟩ = some (.slice ai nt ci)) := fun w' h => h.cell hck6 (fun h => h)
            obtain ⟨x1, hx1⟩ : ∃ x : ByteArray, x = ⟨tj.toArray⟩ := ⟨_, rfl⟩
            obtain ⟨x2, hx2⟩ : ∃ x : ByteArray, x = ⟨t.toArray⟩ := ⟨_, rfl⟩
            have HV1 : Hid (∀ w', Upd (fun _ => False) w6 w' → (convert 25 9 (.slice aj nj cj)).run Tryd.prog w' = .ok (.string x1) w') := fun w' h => by rw [hx1]; exact conv_el (hslj.upd h (fun _ _ _ h => h))
            have HV2 : Hid (∀ w', Upd (fun _ => False) w6 w' → (convert 25 9 (.slice ai nt ci)).run Tryd.prog w' = .ok (.string x2) w') := fun w' h => by rw [hx2]; exact conv_el (hslk6.upd h (fun _ _ _ h => h))
            obtain ⟨bb, hbb⟩ : ∃ bb, bb = !(x1.toList == x2.toList) := ⟨_, rfl⟩
            have HBB : Hid ((!(x1.toList == x2.toList)) = bb) := hbb.symm
            have HBv : Hid (bb = !(tj == t)) := by show _ = _; rw [hbb, hx1, hx2, str_eq]
            have Hslj := Lib.hid hslj
            have Hslk6 := Lib.hid hslk6
            have Hpj := Lib.hid hpj
            have Hpk6 := Lib.hid hpk6
            have Htj := Lib.hid htj
            clear hsum hcj hck6 hslj hslk6 hpj hpk6 h4 HEqv hadd hOg hvj hvk htj htj' htk' hnj hx1 hx2 hbb
            go_wp2_with fail
            -- REGION9B
            have HS0 : Hid (Upd (fun _ => False) w6 w6.drew) := (Upd.refl _ w6).drew
            refine wp_region_held_drew (S := fun w => Upd (fun _ => False) w6 w) (by kernel_rfl) HS0.out (fun _ => ?_)
            refine wpAnyH_take (i := 0) (oi := ⟨some 31, _, _, _, _, _⟩) (v := .slice (some ⟨g5, 0, none⟩) (k + 1) c5) rfl (by kernel_rfl) (by kernel_rfl) (by kernel_rfl) (fun _ _ _ h => h) (Or.inl ⟨by rfl, fun w hS => by go_simp⟩) HS0.out ?_
            try simp only [Act.put, List.setIfInBounds_toArray, List.set_cons_zero, List.set_cons_succ]
            refine wpAnyH_take (i := 1) (oi := ⟨some 32, _, _, _, _, _⟩) (v := .int .i64 (c : Int)) rfl (by kernel_rfl) (by kernel_rfl) (by kernel_rfl) (fun _ _ _ h => h) (Or.inl ⟨by rfl, fun w hS => by go_simp⟩) HS0.out ?_
            try simp only [Act.put, List.setIfInBounds_toArray, List.set_cons_zero, List.set_cons_succ]
            refine wpAnyH_take (i := 2) (oi := ⟨some 33, _, _, _, _, _⟩) (v := .pointer (some ⟨g5, c * 32, none⟩)) rfl (by kernel_rfl) (by kernel_rfl) (by kernel_rfl) (fun _ _ _ h => h) (Or.inl ⟨by rfl, fun w hS => by go_simp⟩) HS0.out ?_
            try simp only [Act.put, List.setIfInBounds_toArray, List.set_cons_zero, List.set_cons_succ]
            refine wpAnyH_take (i := 3) (oi := ⟨some 34, _, _, _, _, _⟩) (v := .agg Zc.toArray) rfl (by kernel_rfl) (by kernel_rfl) (by kernel_rfl) (fun _ _ _ h => h) (yieldsIf_load_mid (by rfl) _ _ rfl g5 (c * 32) rfl Zc _ (fun w h => (HRc.out w h)) Tryd.underlying23 rfl HZcs.out) HS0.out ?_
            try simp only [Act.put, List.setIfInBounds_toArray, List.set_cons_zero, List.set_cons_succ]
            refine wpAnyH_take (i := 4) (oi := ⟨some 35, _, _, _, _, _⟩) (v := .slice (some ⟨g5, 0, none⟩) (k + 1) c5) rfl (by kernel_rfl) (by kernel_rfl) (by kernel_rfl) (fun _ _ _ h => h) (Or.inl ⟨by rfl, fun w hS => by go_simp⟩) HS0.out ?_
            try simp only [Act.put, List.setIfInBounds_toArray, List.set_cons_zero, List.set_cons_succ]
            refine wpAnyH_take (i := 5) (oi := ⟨some 36, _, _, _, _, _⟩) (v := .int .i64 (k : Int)) rfl (by kernel_rfl) (by kernel_rfl) (by kernel_rfl) (fun _ _ _ h => h) (Or.inl ⟨by rfl, fun w hS => by go_simp⟩) HS0.out ?_
            try simp only [Act.put, List.setIfInBounds_toArray, List.set_cons_zero, List.set_cons_succ]
            refine wpAnyH_take (i := 6) (oi := ⟨some 37, _, _, _, _, _⟩) (v := .pointer (some ⟨g5, k * 32, none⟩)) rfl (by kernel_rfl) (by kernel_rfl) (by kernel_rfl) (fun _ _ _ h => h) (Or.inl ⟨by rfl, fun w hS => by go_simp⟩) HS0.out ?_
            try simp only [Act.put, List.setIfInBounds_toArray, List.set_cons_zero, List.set_cons_succ]
            refine wpAnyH_take (i := 7) (oi := ⟨some 38, _, _, _, _, _⟩) (v := .agg Zk.toArray) rfl (by kernel_rfl) (by kernel_rfl) (by kernel_rfl) (fun _ _ _ h => h) (yieldsIf_load_mid (by rfl) _ _ rfl g5 (k * 32) rfl Zk _ (fun w h => (HRk.out w h)) Tryd.underlying23 rfl HZks.out) HS0.out ?_
            try simp only [Act.put, List.setIfInBounds_toArray, List.set_cons_zero, List.set_cons_succ]
            refine wpAnyH_take (i := 8) (oi := ⟨some 39, _, _, _, _, _⟩) (v := .bool true) rfl (by kernel_rfl) (by kernel_rfl) (by kernel_rfl) (fun _ _ _ h => h) (Or.inl ⟨by rfl, fun w hS => by have h := HEq.out w; go_simp⟩) HS0.out ?_
            try simp only [Act.put, List.setIfInBounds_toArray, List.set_cons_zero, List.set_cons_succ]
            refine wpAnyH_take (i := 9) (oi := ⟨some 40, _, _, _, _, _⟩) (v := .bool true) rfl (by kernel_rfl) (by kernel_rfl) (by kernel_rfl) (fun _ _ _ h => h) (Or.inl ⟨by rfl, fun w hS => by go_simp⟩) HS0.out ?_
            try simp only [Act.put, List.setIfInBounds_toArray, List.set_cons_zero, List.set_cons_succ]
            refine wpAnyH_take (i := 10) (oi := ⟨some 41, _, _, _, _, _⟩) (v := .slice (some ⟨g, off, none⟩) n cap) rfl (by kernel_rfl) (by kernel_rfl) (by kernel_rfl) (fun _ _ _ h => h) (Or.inl ⟨by rfl, fun w hS => by go_simp⟩) HS0.out ?_
            try simp only [Act.put, List.setIfInBounds_toArray, List.set_cons_zero, List.set_cons_succ]
            refine wpAnyH_take (i := 11) (oi := ⟨some 42, _, _, _, _, _⟩) (v := .int .i64 (c : Int)) rfl (by kernel_rfl) (by kernel_rfl) (by kernel_rfl) (fun _ _ _ h => h) (Or.inl ⟨by rfl, fun w hS => by go_simp⟩) HS0.out ?_
            try simp only [Act.put, List.setIfInBounds_toArray, List.set_cons_zero, List.set_cons_succ]
            refine wpAnyH_take (i := 12) (oi := ⟨some 43, _, _, _, _, _⟩) (v := .pointer (some ⟨g, off + c, none⟩)) rfl (by kernel_rfl) (by kernel_rfl) (by kernel_rfl) (fun _ _ _ h => h) (Or.inl ⟨by rfl, fun w hS => by go_simp⟩) HS0.out ?_
            try simp only [Act.put, List.setIfInBounds_toArray, List.set_cons_zero, List.set_cons_succ]
            refine wpAnyH_take (i := 13) (oi := ⟨some 44, _, _, _, _, _⟩) (v := .slice aj nj cj) rfl (by kernel_rfl) (by kernel_rfl) (by kernel_rfl) (fun _ _ _ h => h) (Or.inl ⟨by rfl, fun w hS => by have h := HCj.out w hS; go_simp⟩) HS0.out ?_
            try simp only [Act.put, List.setIfInBounds_toArray, List.set_cons_zero, List.set_cons_succ]
            refine wpAnyH_take (i := 14) (oi := ⟨some 45, _, _, _, _, _⟩) (v := .string x1) rfl (by kernel_rfl) (by kernel_rfl) (by kernel_rfl) (fun _ _ _ h => h) (Or.inl ⟨by rfl, fun w hS => by have h := HV1.out w hS; go_simp⟩) HS0.out ?_
            try simp only [Act.put, List.setIfInBounds_toArray, List.set_cons_zero, List.set_cons_succ]
            refine wpAnyH_take (i := 15) (oi := ⟨some 46, _, _, _, _, _⟩) (v := .slice (some ⟨g, off, none⟩) n cap) rfl (by kernel_rfl) (by kernel_rfl) (by kernel_rfl) (fun _ _ _ h => h) (Or.inl ⟨by rfl, fun w hS => by go_simp⟩) HS0.out ?_
            try simp only [Act.put, List.setIfInBounds_toArray, List.set_cons_zero, List.set_cons_succ]
            refine wpAnyH_take (i := 16) (oi := ⟨some 47, _, _, _, _, _⟩) (v := .int .i64 (k : Int)) rfl (by kernel_rfl) (by kernel_rfl) (by kernel_rfl) (fun _ _ _ h => h) (Or.inl ⟨by rfl, fun w hS => by go_simp⟩) HS0.out ?_
            try simp only [Act.put, List.setIfInBounds_toArray, List.set_cons_zero, List.set_cons_succ]
            refine wpAnyH_take (i := 17) (oi := ⟨some 48, _, _, _, _, _⟩) (v := .pointer (some ⟨g, off + k, none⟩)) rfl (by kernel_rfl) (by kernel_rfl) (by kernel_rfl) (fun _ _ _ h => h) (Or.inl ⟨by rfl, fun w hS => by go_simp⟩) HS0.out ?_
            try simp only [Act.put, List.setIfInBounds_toArray, List.set_cons_zero, List.set_cons_succ]
            refine wpAnyH_take (i := 18) (oi := ⟨some 49, _, _, _, _, _⟩) (v := .slice ai nt ci) rfl (by kernel_rfl) (by kernel_rfl) (by kernel_rfl) (fun _ _ _ h => h) (Or.inl ⟨by rfl, fun w hS => by have h := HCk.out w hS; go_simp⟩) HS0.out ?_
            try simp only [Act.put, List.setIfInBounds_toArray, List.set_cons_zero, List.set_cons_succ]
            refine wpAnyH_take (i := 19) (oi := ⟨some 50, _, _, _, _, _⟩) (v := .string x2) rfl (by kernel_rfl) (by kernel_rfl) (by kernel_rfl) (fun _ _ _ h => h) (Or.inl ⟨by rfl, fun w hS => by have h := HV2.out w hS; go_simp⟩) HS0.out ?_
            try simp only [Act.put, List.setIfInBounds_toArray, List.set_cons_zero, List.set_cons_succ]
            refine wpAnyH_take (i := 20) (oi := ⟨some 51, _, _, _, _, _⟩) (v := .bool bb) rfl (by kernel_rfl) (by kernel_rfl) (by kernel_rfl) (fun _ _ _ h => h) (Or.inl ⟨by rfl, fun w hS => by have h := HBB.out; go_simp⟩) HS0.out ?_
            try simp only [Act.put, List.setIfInBounds_toArray, List.set_cons_zero, List.set_cons_succ]
            refine wpAnyH_take (i := 21) (oi := ⟨some 52, _, _, _, _, _⟩) (v := .bool bb) rfl (by kernel_rfl) (by kernel_rfl) (by kernel_rfl) (fun _ _ _ h => h) (Or.inl ⟨by rfl, fun w hS => by go_simp⟩) HS0.out ?_
            try simp only [Act.put, List.setIfInBounds_toArray, List.set_cons_zero, List.set_cons_succ]
            refine wpAnyH_done (by kernel_rfl) ?_ _
            -- END REGION9B
            cases bb with
            | false =>
              have hq : tj = t := by have := HBv.out; simpa using this.symm
              go_wp2
              obtain ⟨g7, rfl⟩ : ∃ g7, g6 = g7 + 1 := ⟨g6 - 1, by have := Hcg.out; omega⟩
              go_roundg g7
              case rel =>
                refine ⟨c + 1, by have := Hcg.out; omega, by go_num, fun x hx => ?_, HU6.out.drew⟩
                rcases Nat.lt_succ_iff_lt_or_eq.1 hx with h | rfl
                · exact HAll.out x h
                · exact fun h => h.2 (by rw [← Htj.out, ← Ht.out]; exact hq)
              case measure => omega
            | true =>
              have hq : tj ≠ t := by have := HBv.out; intro e; rw [e] at this; simp at this
              have Hq := Lib.hid hq
              clear hq
              go_wp2_with fail
              -- REGION10
              have HS1 : Hid (Upd (fun _ => False) w6 w6.drew.drew) := HS0.out.drew
              clear HS0
              have HS0 := HS1
              refine wp_region_held_drew (S := fun w => Upd (fun _ => False) w6 w) (by kernel_rfl) HS0.out (fun _ => ?_)
              refine wpAnyH_take (i := 0) (oi := ⟨some 53, _, _, _, _, _⟩) (v := .slice (some ⟨g, off, none⟩) n cap) rfl (by kernel_rfl) (by kernel_rfl) (by kernel_rfl) (fun _ _ _ h => h) (Or.inl ⟨by rfl, fun w hS => by go_simp⟩) HS0.out ?_
              try simp only [Act.put, List.setIfInBounds_toArray, List.set_cons_zero, List.set_cons_succ]
              refine wpAnyH_take (i := 1) (oi := ⟨some 54, _, _, _, _, _⟩) (v := .int .i64 (c : Int)) rfl (by kernel_rfl) (by kernel_rfl) (by kernel_rfl) (fun _ _ _ h => h) (Or.inl ⟨by rfl, fun w hS => by go_simp⟩) HS0.out ?_
              try simp only [Act.put, List.setIfInBounds_toArray, List.set_cons_zero, List.set_cons_succ]
              refine wpAnyH_take (i := 2) (oi := ⟨some 55, _, _, _, _, _⟩) (v := .pointer (some ⟨g, off + c, none⟩)) rfl (by kernel_rfl) (by kernel_rfl) (by kernel_rfl) (fun _ _ _ h => h) (Or.inl ⟨by rfl, fun w hS => by go_simp⟩) HS0.out ?_
              try simp only [Act.put, List.setIfInBounds_toArray, List.set_cons_zero, List.set_cons_succ]
              refine wpAnyH_take (i := 3) (oi := ⟨some 56, _, _, _, _, _⟩) (v := .slice aj nj cj) rfl (by kernel_rfl) (by kernel_rfl) (by kernel_rfl) (fun _ _ _ h => h) (Or.inl ⟨by rfl, fun w hS => by have h := HCj.out w hS; go_simp⟩) HS0.out ?_
              try simp only [Act.put, List.setIfInBounds_toArray, List.set_cons_zero, List.set_cons_succ]
              refine wpAnyH_take (i := 4) (oi := ⟨some 57, _, _, _, _, _⟩) (v := .slice (some ⟨g, off, none⟩) n cap) rfl (by kernel_rfl) (by kernel_rfl) (by kernel_rfl) (fun _ _ _ h => h) (Or.inl ⟨by rfl, fun w hS => by go_simp⟩) HS0.out ?_
              try simp only [Act.put, List.setIfInBounds_toArray, List.set_cons_zero, List.set_cons_succ]
              refine wpAnyH_take (i := 5) (oi := ⟨some 58, _, _, _, _, _⟩) (v := .int .i64 (k : Int)) rfl (by kernel_rfl) (by kernel_rfl) (by kernel_rfl) (fun _ _ _ h => h) (Or.inl ⟨by rfl, fun w hS => by go_simp⟩) HS0.out ?_
              try simp only [Act.put, List.setIfInBounds_toArray, List.set_cons_zero, List.set_cons_succ]
              refine wpAnyH_take (i := 6) (oi := ⟨some 59, _, _, _, _, _⟩) (v := .pointer (some ⟨g, off + k, none⟩)) rfl (by kernel_rfl) (by kernel_rfl) (by kernel_rfl) (fun _ _ _ h => h) (Or.inl ⟨by rfl, fun w hS => by go_simp⟩) HS0.out ?_
              try simp only [Act.put, List.setIfInBounds_toArray, List.set_cons_zero, List.set_cons_succ]
              refine wpAnyH_take (i := 7) (oi := ⟨some 60, _, _, _, _, _⟩) (v := .slice ai nt ci) rfl (by kernel_rfl) (by kernel_rfl) (by kernel_rfl) (fun _ _ _ h => h) (Or.inl ⟨by rfl, fun w hS => by have h := HCk.out w hS; go_simp⟩) HS0.out ?_
              try simp only [Act.put, List.setIfInBounds_toArray, List.set_cons_zero, List.set_cons_succ]
              refine wpAnyH_take (i := 8) (oi := ⟨some 4, _, _, _, _, _⟩) (v := .slice aj nj cj) rfl (by kernel_rfl) (by kernel_rfl) (by kernel_rfl) (fun _ _ _ h => h) (Or.inl ⟨by rfl, fun w hS => by go_simp⟩) HS0.out ?_
              try simp only [Act.put, List.setIfInBounds_toArray, List.set_cons_zero, List.set_cons_succ]
              refine wpAnyH_take (i := 9) (oi := ⟨some 5, _, _, _, _, _⟩) (v := .slice ai nt ci) rfl (by kernel_rfl) (by kernel_rfl) (by kernel_rfl) (fun _ _ _ h => h) (Or.inl ⟨by rfl, fun w hS => by go_simp⟩) HS0.out ?_
              try simp only [Act.put, List.setIfInBounds_toArray, List.set_cons_zero, List.set_cons_succ]
              refine wpAnyH_take (i := 10) (oi := ⟨some 6, _, _, _, _, _⟩) (v := .bool true) rfl (by kernel_rfl) (by kernel_rfl) (by kernel_rfl) (fun _ _ _ h => h) (Or.inl ⟨by rfl, fun w hS => by go_simp⟩) HS0.out ?_
              try simp only [Act.put, List.setIfInBounds_toArray, List.set_cons_zero, List.set_cons_succ]
              refine wpAnyH_done (by kernel_rfl) ?_ _
              -- END REGION10
              go_wp2
              go_ret3
              have HU67 : Hid (Upd (fun _ => False) w6 w6.drew.drew) := HS0.out
              refine ⟨HU06.out.trans (HU67.out.mono (fun _ _ h => h.elim)), .inr ⟨k, c, _, _, hlt', ?_, rfl, ?_, ?_, ?_, ?_⟩⟩
              · refine at_ref hck HNo.out Hsum.out ?_ HAll.out
                rw [← Htj.out, ← Ht.out]; exact Hq.out
              · rw [← Htj.out]; exact Hslj.out.upd HU67.out (fun _ _ _ h => h)
              · rw [← Ht.out]; exact Hslk6.out.upd HU67.out (fun _ _ _ h => h)
              · rw [← Htj.out]; exact Hpj.out
              · rw [← Ht.out]; exact Hpk6.out
          · have HEq : Hid (∀ w', (Op.equalIn 10000 23 (.agg Zc.toArray) (.agg Zk.toArray)).run Tryd.prog w' = .ok false w') := fun w' => by
              rw [HEqv.out w']; simp [hsum]
            have Hsum := Lib.hid hsum
            clear hsum hcj hck6 hslj hslk6 hpj hpk6 h4 HEqv hadd hOg
            go_wp2_with fail
            -- REGION9A
            have HS0 : Hid (Upd (fun _ => False) w6 w6.drew) := (Upd.refl _ w6).drew
            refine wp_region_held_drew (S := fun w => Upd (fun _ => False) w6 w) (by kernel_rfl) HS0.out (fun _ => ?_)
            refine wpAnyH_take (i := 0) (oi := ⟨some 31, _, _, _, _, _⟩) (v := .slice (some ⟨g5, 0, none⟩) (k + 1) c5) rfl (by kernel_rfl) (by kernel_rfl) (by kernel_rfl) (fun _ _ _ h => h) (Or.inl ⟨by rfl, fun w hS => by go_simp⟩) HS0.out ?_
            try simp only [Act.put, List.setIfInBounds_toArray, List.set_cons_zero, List.set_cons_succ]
            refine wpAnyH_take (i := 1) (oi := ⟨some 32, _, _, _, _, _⟩) (v := .int .i64 (c : Int)) rfl (by kernel_rfl) (by kernel_rfl) (by kernel_rfl) (fun _ _ _ h => h) (Or.inl ⟨by rfl, fun w hS => by go_simp⟩) HS0.out ?_
            try simp only [Act.put, List.setIfInBounds_toArray, List.set_cons_zero, List.set_cons_succ]
            refine wpAnyH_take (i := 2) (oi := ⟨some 33, _, _, _, _, _⟩) (v := .pointer (some ⟨g5, c * 32, none⟩)) rfl (by kernel_rfl) (by kernel_rfl) (by kernel_rfl) (fun _ _ _ h => h) (Or.inl ⟨by rfl, fun w hS => by go_simp⟩) HS0.out ?_
            try simp only [Act.put, List.setIfInBounds_toArray, List.set_cons_zero, List.set_cons_succ]
            refine wpAnyH_take (i := 3) (oi := ⟨some 34, _, _, _, _, _⟩) (v := .agg Zc.toArray) rfl (by kernel_rfl) (by kernel_rfl) (by kernel_rfl) (fun _ _ _ h => h) (yieldsIf_load_mid (by rfl) _ _ rfl g5 (c * 32) rfl Zc _ (fun w h => (HRc.out w h)) Tryd.underlying23 rfl HZcs.out) HS0.out ?_
            try simp only [Act.put, List.setIfInBounds_toArray, List.set_cons_zero, List.set_cons_succ]
            refine wpAnyH_take (i := 4) (oi := ⟨some 35, _, _, _, _, _⟩) (v := .slice (some ⟨g5, 0, none⟩) (k + 1) c5) rfl (by kernel_rfl) (by kernel_rfl) (by kernel_rfl) (fun _ _ _ h => h) (Or.inl ⟨by rfl, fun w hS => by go_simp⟩) HS0.out ?_
            try simp only [Act.put, List.setIfInBounds_toArray, List.set_cons_zero, List.set_cons_succ]
            refine wpAnyH_take (i := 5) (oi := ⟨some 36, _, _, _, _, _⟩) (v := .int .i64 (k : Int)) rfl (by kernel_rfl) (by kernel_rfl) (by kernel_rfl) (fun _ _ _ h => h) (Or.inl ⟨by rfl, fun w hS => by go_simp⟩) HS0.out ?_
            try simp only [Act.put, List.setIfInBounds_toArray, List.set_cons_zero, List.set_cons_succ]
            refine wpAnyH_take (i := 6) (oi := ⟨some 37, _, _, _, _, _⟩) (v := .pointer (some ⟨g5, k * 32, none⟩)) rfl (by kernel_rfl) (by kernel_rfl) (by kernel_rfl) (fun _ _ _ h => h) (Or.inl ⟨by rfl, fun w hS => by go_simp⟩) HS0.out ?_
            try simp only [Act.put, List.setIfInBounds_toArray, List.set_cons_zero, List.set_cons_succ]
            refine wpAnyH_take (i := 7) (oi := ⟨some 38, _, _, _, _, _⟩) (v := .agg Zk.toArray) rfl (by kernel_rfl) (by kernel_rfl) (by kernel_rfl) (fun _ _ _ h => h) (yieldsIf_load_mid (by rfl) _ _ rfl g5 (k * 32) rfl Zk _ (fun w h => (HRk.out w h)) Tryd.underlying23 rfl HZks.out) HS0.out ?_
            try simp only [Act.put, List.setIfInBounds_toArray, List.set_cons_zero, List.set_cons_succ]
            refine wpAnyH_take (i := 8) (oi := ⟨some 39, _, _, _, _, _⟩) (v := .bool false) rfl (by kernel_rfl) (by kernel_rfl) (by kernel_rfl) (fun _ _ _ h => h) (Or.inl ⟨by rfl, fun w hS => by have h := HEq.out w; go_simp⟩) HS0.out ?_
            try simp only [Act.put, List.setIfInBounds_toArray, List.set_cons_zero, List.set_cons_succ]
            refine wpAnyH_take (i := 9) (oi := ⟨some 40, _, _, _, _, _⟩) (v := .bool false) rfl (by kernel_rfl) (by kernel_rfl) (by kernel_rfl) (fun _ _ _ h => h) (Or.inl ⟨by rfl, fun w hS => by go_simp⟩) HS0.out ?_
            try simp only [Act.put, List.setIfInBounds_toArray, List.set_cons_zero, List.set_cons_succ]
            refine wpAnyH_take (i := 10) (oi := ⟨some 41, _, _, _, _, _⟩) (v := undef) rfl (by kernel_rfl) (by kernel_rfl) (by kernel_rfl) (fun _ _ _ h => h) (Or.inr ⟨by rfl, rfl⟩) HS0.out ?_
            try simp only [Act.put, List.setIfInBounds_toArray, List.set_cons_zero, List.set_cons_succ]
            refine wpAnyH_take (i := 11) (oi := ⟨some 42, _, _, _, _, _⟩) (v := undef) rfl (by kernel_rfl) (by kernel_rfl) (by kernel_rfl) (fun _ _ _ h => h) (Or.inr ⟨by rfl, rfl⟩) HS0.out ?_
            try simp only [Act.put, List.setIfInBounds_toArray, List.set_cons_zero, List.set_cons_succ]
            refine wpAnyH_take (i := 12) (oi := ⟨some 43, _, _, _, _, _⟩) (v := undef) rfl (by kernel_rfl) (by kernel_rfl) (by kernel_rfl) (fun _ _ _ h => h) (Or.inr ⟨by rfl, rfl⟩) HS0.out ?_
            try simp only [Act.put, List.setIfInBounds_toArray, List.set_cons_zero, List.set_cons_succ]
            refine wpAnyH_take (i := 13) (oi := ⟨some 44, _, _, _, _, _⟩) (v := undef) rfl (by kernel_rfl) (by kernel_rfl) (by kernel_rfl) (fun _ _ _ h => h) (Or.inr ⟨by rfl, rfl⟩) HS0.out ?_
            try simp only [Act.put, List.setIfInBounds_toArray, List.set_cons_zero, List.set_cons_succ]
            refine wpAnyH_take (i := 14) (oi := ⟨some 45, _, _, _, _, _⟩) (v := undef) rfl (by kernel_rfl) (by kernel_rfl) (by kernel_rfl) (fun _ _ _ h => h) (Or.inr ⟨by rfl, rfl⟩) HS0.out ?_
            try simp only [Act.put, List.setIfInBounds_toArray, List.set_cons_zero, List.set_cons_succ]
            refine wpAnyH_take (i := 15) (oi := ⟨some 46, _, _, _, _, _⟩) (v := undef) rfl (by kernel_rfl) (by kernel_rfl) (by kernel_rfl) (fun _ _ _ h => h) (Or.inr ⟨by rfl, rfl⟩) HS0.out ?_
            try simp only [Act.put, List.setIfInBounds_toArray, List.set_cons_zero, List.set_cons_succ]
            refine wpAnyH_take (i := 16) (oi := ⟨some 47, _, _, _, _, _⟩) (v := undef) rfl (by kernel_rfl) (by kernel_rfl) (by kernel_rfl) (fun _ _ _ h => h) (Or.inr ⟨by rfl, rfl⟩) HS0.out ?_
            try simp only [Act.put, List.setIfInBounds_toArray, List.set_cons_zero, List.set_cons_succ]
            refine wpAnyH_take (i := 17) (oi := ⟨some 48, _, _, _, _, _⟩) (v := undef) rfl (by kernel_rfl) (by kernel_rfl) (by kernel_rfl) (fun _ _ _ h => h) (Or.inr ⟨by rfl, rfl⟩) HS0.out ?_
            try simp only [Act.put, List.setIfInBounds_toArray, List.set_cons_zero, List.set_cons_succ]
            refine wpAnyH_take (i := 18) (oi := ⟨some 49, _, _, _, _, _⟩) (v := undef) rfl (by kernel_rfl) (by kernel_rfl) (by kernel_rfl) (fun _ _ _ h => h) (Or.inr ⟨by rfl, rfl⟩) HS0.out ?_
            try simp only [Act.put, List.setIfInBounds_toArray, List.set_cons_zero, List.set_cons_succ]
            refine wpAnyH_take (i := 19) (oi := ⟨some 50, _, _, _, _, _⟩) (v := undef) rfl (by kernel_rfl) (by kernel_rfl) (by kernel_rfl) (fun _ _ _ h => h) (Or.inr ⟨by rfl, rfl⟩) HS0.out ?_
            try simp only [Act.put, List.setIfInBounds_toArray, List.set_cons_zero, List.set_cons_succ]
            refine wpAnyH_take (i := 20) (oi := ⟨some 51, _, _, _, _, _⟩) (v := undef) rfl (by kernel_rfl) (by kernel_rfl) (by kernel_rfl) (fun _ _ _ h => h) (Or.inr ⟨by rfl, rfl⟩) HS0.out ?_
            try simp only [Act.put, List.setIfInBounds_toArray, List.set_cons_zero, List.set_cons_succ]
            refine wpAnyH_take (i := 21) (oi := ⟨some 52, _, _, _, _, _⟩) (v := .bool false) rfl (by kernel_rfl) (by kernel_rfl) (by kernel_rfl) (fun _ _ _ h => h) (Or.inl ⟨by rfl, fun w hS => by go_simp⟩) HS0.out ?_
            try simp only [Act.put, List.setIfInBounds_toArray, List.set_cons_zero, List.set_cons_succ]
            refine wpAnyH_done (by kernel_rfl) ?_ _
            -- END REGION9A
            go_wp2
            obtain ⟨g7, rfl⟩ : ∃ g7, g6 = g7 + 1 := ⟨g6 - 1, by have := Hcg.out; omega⟩
            go_roundg g7
            case rel =>
              refine ⟨c + 1, by have := Hcg.out; omega, by go_num, fun x hx => ?_, HU6.out.drew⟩
              rcases Nat.lt_succ_iff_lt_or_eq.1 hx with h | rfl
              · exact HAll.out x h
              · exact fun h => Hsum.out h.1
            case measure => omega
        · obtain rfl : c = k := by have := Hcg.out; omega
          have HAllk := HAll
          have hnI : ¬ ((c : Int) < (c : Int)) := by omega
          go_wp2
          go_roundg g1
          case rel =>
            exact ⟨c + 1, by have := Hkg.out; omega, by go_num, HNo.out.ref HAllk.out, HU06.out, HR6.out, HWo5.out⟩
          case measure => omega
    · have HNe : Hid (NoC (σf a ts) (τf ts) ts.length) := by
        have : k = ts.length := by have := HN.out; have := Hkg.out; omega
        show NoC _ _ _
        rw [← this]; exact HNo.out
      go_wp2
      go_ret3
      exact ⟨HU.out, .inl ⟨rfl, HNe.out⟩⟩
end Go.Proofs.YtiglaeipbcmlnaaDoor.RefCl

/-
  What both Clashes tell, in one form.
-/
namespace Go.Proofs.YtiglaeipbcmlnaaDoor.ClashT
open Go.RowKit Sha Mem RowW CopyW BookW SplitL SplitM CutW ClashL ClashW RefCl
set_option linter.unusedVariables false

def Told (a : Int) (ts : List (List UInt8)) (ok : Bool) (X Y : List UInt8) : Prop :=
  (ok = false ∧ X = [] ∧ Y = [] ∧ NoC (σf a ts) (τf ts) ts.length) ∨ (ok = true ∧ ∃ i j, i < ts.length ∧ At (σf a ts) (τf ts) i j ∧ X = τf ts j ∧ Y = τf ts i)
theorem Told.uniq {a : Int} {ts : List (List UInt8)} {ok ok' : Bool} {X Y X' Y' : List UInt8} (h : Told a ts ok X Y) (h' : Told a ts ok' X' Y') : ok = ok' ∧ X = X' ∧ Y = Y' := by
  rcases h with ⟨rfl, rfl, rfl, hn⟩ | ⟨rfl, i, j, hi, hat, rfl, rfl⟩
  · rcases h' with ⟨rfl, rfl, rfl, _⟩ | ⟨rfl, i, j, hi, hat, rfl, rfl⟩
    · exact ⟨rfl, rfl, rfl⟩
    · exact absurd hn (hat.not_noc hi)
  · rcases h' with ⟨rfl, rfl, rfl, hn⟩ | ⟨rfl, i', j', hi', hat', rfl, rfl⟩
    · exact absurd hn (hat.not_noc hi)
    · obtain ⟨rfl, rfl⟩ := hat.uniq hat'
      exact ⟨rfl, rfl, rfl⟩
theorem el_nil (w : World) : El w (.slice none 0 0) [] := ⟨none, 0, rfl, Nat.le_refl _, Nat.zero_le _, fun _ => rfl, fun h => absurd rfl h⟩
theorem told_ref {a : Int} {ts : List (List UInt8)} {O : Nat → Prop} {w w' : World} {e : Ending} (h : RClashAt a ts O w e w') :
    ∃ ok p q X Y, e = .returned (.tuple #[p, q, .bool ok]) ∧ Told a ts ok X Y ∧ El w' p X ∧ El w' q Y ∧ (X ≠ [] → ∀ k, own p k → O k) ∧ (Y ≠ [] → ∀ k, own q k → O k) ∧ Upd (fun _ => False) w w' := by
  obtain ⟨hu, ⟨rfl, hn⟩ | ⟨i, j, p, q, hi, hat, rfl, h1, h2, h3, h4⟩⟩ := h
  · exact ⟨false, _, _, [], [], rfl, .inl ⟨rfl, rfl, rfl, hn⟩, el_nil _, el_nil _, fun h => absurd rfl h, fun h => absurd rfl h, hu⟩
  · exact ⟨true, p, q, _, _, rfl, .inr ⟨rfl, i, j, hi, hat, rfl, rfl⟩, h1, h2, h3, h4, hu⟩
theorem told {a : Int} {ts : List (List UInt8)} {w w' : World} {e : Ending} (h : ClashAt a ts w e w') :
    ∃ ok p q X Y, e = .returned (.tuple #[p, q, .bool ok]) ∧ Told a ts ok X Y ∧ w'.ownsRow w.heap.size 5 1 p X.length (X.map u8) ∧ w'.ownsRow w.heap.size 5 1 q Y.length (Y.map u8) ∧ (∀ k, own p k → ¬ own q k) ∧ Upd (fun _ => False) w w' := by
  obtain ⟨hu, ⟨rfl, hn⟩ | ⟨i, j, p, q, hi, hat, rfl, h1, h2, h3⟩⟩ := h
  · exact ⟨false, _, _, [], [], rfl, .inl ⟨rfl, rfl, rfl, hn⟩, World.ownsRow_nil _ _ _ _, World.ownsRow_nil _ _ _ _, fun k hk => by simp [own, Value.ownBlock] at hk, hu⟩
  · exact ⟨true, p, q, _, _, rfl, .inr ⟨rfl, i, j, hi, hat, rfl, rfl⟩, h1, h2, h3, hu⟩
end Go.Proofs.YtiglaeipbcmlnaaDoor.ClashT
