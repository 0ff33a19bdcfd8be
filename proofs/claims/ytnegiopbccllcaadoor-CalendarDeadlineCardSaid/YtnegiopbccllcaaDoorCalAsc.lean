/- What Ascending of the made inputs returns: some list of numbers. Condition: the list's cells are known. -/
import Derived.Test.YtnegiopbccllcaaDoorCalMade
import Derived.Test.YtnegiopbccllcaaDoorCut
import Derived.Deep.RegionLaw
import Derived.Deep.RegionHeld3
import Derived.Deep.DeepCutAuto
import Derived.Deep.CutBlock
import Derived.Laws.OwnMore
namespace Go.Proofs.YtnegiopbccllcaaDoor
open Go.RowKit

/-- The words of a list of numbers. -/
def cellsI (L : List Int) : List Value := L.map (Value.int .i64)
/-- A list of numbers, as Go holds it. -/
structure RowI (w : World) (u : Value) (L : List Int) : Prop where
  at_ : ListAt w .i64 u L.length (litI L)
theorem RowI.keep {w w1 : World} {u : Value} {L : List Int} (h : RowI w u L) (hb : Below w.heap.size w w1) : RowI w1 u L := by
  refine ⟨?_⟩
  rcases h.at_ with h | ⟨a, cap, h1, h2, h3, h4⟩
  · exact .inl h
  · exact .inr ⟨a, cap, h1, h2, h3, fun i hi => ⟨(hb.cell (World.block_lt_of_cell? w _ (h4 i hi).1)).trans (h4 i hi).1, (h4 i hi).2⟩⟩
theorem RowI.of_row {w : World} {base : Nat} {u : Value} {L : List Int} (h : w.ownsRow base 3 1 u L.length (cellsI L)) (hwf : ∀ x ∈ L, (Lit.int .i64 x).wf = true) : RowI w u L := by
  refine ⟨?_⟩
  obtain ⟨_, ⟨h1, h2⟩ | ⟨b, cap, cur, h1, h2, h3, h4, h5, h6, h7⟩⟩ := h
  · exact .inl ⟨h1, h2⟩
  · refine .inr ⟨_, cap, h1, h4, h5, fun i hi => ?_⟩
    have hcur : cur[i]? = some (.int .i64 (litI L i)) := by
      have e := congrArg (·[i]?) h7
      simp only [Nat.mul_one] at e
      rw [List.getElem?_take_of_lt hi] at e
      unfold cellsI at e
      rw [List.getElem?_map, List.getElem?_eq_getElem hi] at e
      unfold litI
      rw [List.getD, List.getElem?_eq_getElem hi]
      simpa using e
    refine ⟨?_, ?_⟩
    · rw [Addr.add_lit]
      simp [World.cell?, h3, hcur]
    · unfold litI
      rw [List.getD, List.getElem?_eq_getElem hi]
      exact hwf _ (List.getElem_mem hi)
theorem RowI.wf {w : World} {u : Value} {L : List Int} (h : RowI w u L) : ∀ x ∈ L, (Lit.int .i64 x).wf = true := by
  intro x hx
  obtain ⟨i, hi, rfl⟩ := List.mem_iff_getElem.1 hx
  rcases h.at_ with ⟨_, h0⟩ | ⟨a, cap, _, _, _, h4⟩
  · omega
  · have := (h4 i hi).2
    unfold litI at this
    rw [List.getD, List.getElem?_eq_getElem hi] at this
    simpa using this
/-- One number put in. -/
def putIn (L : List Int) (k : Nat) (x : Int) : List Int := L.take k ++ [x] ++ L.drop k
theorem putIn_length (L : List Int) (k : Nat) (x : Int) (hk : k ≤ L.length) : (putIn L k x).length = L.length + 1 := by
  unfold putIn
  simp
  omega
theorem putIn_row {w : World} {base : Nat} {u : Value} {L : List Int} {k : Nat} {x : Int} (hk : k ≤ L.length) (h : w.ownsRow base 3 1 u (0 + k + 1 + (L.length - k)) ((([] ++ cellsI (L.take k)) ++ cellsI [x]) ++ cellsI (L.drop k))) (hL : ∀ y ∈ L, (Lit.int .i64 y).wf = true) (hx : (Lit.int .i64 x).wf = true) : RowI w u (putIn L k x) := by
  refine RowI.of_row (base := base) ?_ (fun y hy => ?_)
  · have e1 : (putIn L k x).length = 0 + k + 1 + (L.length - k) := by rw [putIn_length L k x hk]; omega
    have e2 : cellsI (putIn L k x) = (([] ++ cellsI (L.take k)) ++ cellsI [x]) ++ cellsI (L.drop k) := by
      unfold putIn cellsI
      simp
    rw [e1, e2]
    exact h
  · unfold putIn at hy
    rw [List.mem_append, List.mem_append, List.mem_singleton] at hy
    rcases hy with (hy | hy) | hy
    · exact hL _ (List.mem_of_mem_take hy)
    · rw [hy]; exact hx
    · exact hL _ (List.mem_of_mem_drop hy)
/-- The cells of a part of a list. -/
theorem part_cells {w : World} {a : Addr} {L : List Int} (h : ∀ i, i < L.length → w.cell? (a.add i) = some (.int .i64 (litI L i))) (k m : Nat) (hk : k + m ≤ L.length) :
    ∀ j u, (cellsI ((L.drop k).take m))[j]? = some u → w.cell? ((a.add k).add j) = some u := by
  intro j u hu
  unfold cellsI at hu
  rw [List.getElem?_map, List.getElem?_take] at hu
  by_cases hj : j < m
  · rw [if_pos hj, List.getElem?_drop] at hu
    rw [Addr.add_add, h (k + j) (by omega)]
    unfold litI
    rw [List.getD]
    rw [List.getElem?_eq_getElem (show k + j < L.length by omega)] at hu ⊢
    simpa using hu
  · rw [if_neg hj] at hu
    simp at hu

/-- append onto a row of the call's own, whatever is appended, as one step of a region that draws. -/
theorem step_append_any {P : Program} {ops : Array Oper} {o : Oper} {a : Act} {w : World} {K : Act → World → Prop} {Q : Exit → Act → World → Prop} {E : Prop}
    (hg : o.guard = none) (s x : Operand) (t : TypeId) (hop : o.op = Op.call { callee := Callee.builtin Builtin.append, args := #[s, x], argTypes := #[t, t] })
    (base : Nat) (e : TypeId) (i : TypeInfo) (z : Value) (h1 : P.underlying t = some (.slice e)) (h2 : P.info? e = some i) (h3 : i.zero = some z) (h4 : i.size = 1) (h5 : i.bytes = 8) (h6 : z.cells.size = 1)
    (v : Value) (n : Nat) (xs : List Value) (hs : a.eval s = v) (hown : w.ownsRow base e 1 v n xs) (hbase : base ≤ w.heap.size)
    (ao : Option Addr) (m c : Nat) (news : List Value) (hx : a.eval x = .slice ao m c) (hn : news.length = m) (hnone : ao = none → m = 0 ∧ c = 0)
    (hc : ∀ ad, ao = some ad → ∀ j u, news[j]? = some u → w.cell? (ad.add j) = some u) (h1c : ∀ u ∈ news, u.oneCell' = true) (b1 : n + m ≤ 100000)
    (hK : ∀ v' w', w'.ownsRow base e 1 v' (n + m) (xs ++ news) → w.grownBy w' v.ownBlock → K (a.put o.dst v') w') :
    if Region.wanted o (yielded ops a.tmps) = true then Oper.wp P o a w K Q else E := by
  have hw : Region.wanted o (yielded ops a.tmps) = true := by simp [Region.wanted, hg]
  rw [if_pos hw]
  cases ao with
  | some ad =>
    obtain ⟨v', w', hrun, r1, r2, _⟩ := run_append_own (P := P) w base t o.type e i z 1 8 h1 h2 h3 h4 h5 h6 (by omega) v n xs hown ad m c news (by omega) (hc ad rfl) h1c (by unfold maxLen; omega) (by omega) hbase
    unfold Oper.wp
    simp [execOp, hop, resolve, invoke, builtin, hs, hx, hrun, Result.andThen]
    exact hK v' w' r1 r2
  | none =>
    obtain ⟨rfl, rfl⟩ := hnone rfl
    obtain rfl : news = [] := List.eq_nil_of_length_eq_zero hn
    have hrun := run_append_owned_none (P := P) (w := w) base t o.type e i 1 h1 h2 v n xs hown
    unfold Oper.wp
    simp [execOp, hop, resolve, invoke, builtin, hs, hx, hrun, Result.andThen]
    exact hK v w (by simpa using hown) ⟨rfl, rfl, rfl, Nat.le_refl _, fun _ _ _ => rfl⟩

/-- What the region keeps: all that lay there, and the number to be put in. -/
structure Kept (W0 : World) (a : Addr) (x : Int) (w : World) : Prop where
  cell : w.cell? a = some (.int .i64 x)
  below : Below W0.heap.size W0 w
theorem Kept.alloc {W0 : World} {a : Addr} {x : Int} {w : World} (h : Kept W0 a x w) (o : Obj) : Kept W0 a x (w.alloc o) :=
  ⟨((Below.refl w.heap.size w).alloc (Nat.le_refl _) o |>.cell (World.block_lt_of_cell? w _ h.cell)).trans h.cell, h.below.alloc h.below.size o⟩
theorem Kept.drew {W0 : World} {a : Addr} {x : Int} {w : World} (h : Kept W0 a x w) : Kept W0 a x w.drew := ⟨h.cell, h.below.drew⟩
theorem Kept.grown {W0 : World} {a : Addr} {x : Int} {w w1 : World} {row : Option Nat} (h : Kept W0 a x w) (ha : a.block < W0.heap.size) (hg : w.grownBy w1 row) (hr : ∀ k, row = some k → W0.heap.size ≤ k) : Kept W0 a x w1 :=
  ⟨hg.cell h.cell (fun e => by have := hr _ e.symm; omega), h.below.grown hg h.below.size hr⟩
theorem one_news {w : World} {b : Nat} {x : Int} (h : w.cell? ⟨b, 0, none⟩ = some (.int .i64 x)) : ∀ ad, some (⟨b, 0, none⟩ : Addr) = some ad → ∀ j u, (cellsI [x])[j]? = some u → w.cell? (ad.add j) = some u := by
  intro ad e j u hu
  obtain rfl := Option.some.inj e
  cases j with
  | zero =>
    simp [cellsI] at hu
    subst hu
    rw [Addr.add_lit]
    exact h
  | succ j => simp [cellsI] at hu
theorem cellsI_one (L : List Int) : ∀ u ∈ cellsI L, u.oneCell' = true := by
  intro u hu
  unfold cellsI at hu
  rw [List.mem_map] at hu
  obtain ⟨y, _, rfl⟩ := hu
  rfl

set_option maxRecDepth 100000 in
set_option maxHeartbeats 1600000 in
theorem ascending_any (v : Value) (n : Nat) (f : Nat → Int) (w : World) (h : ListAt w .i64 v n f) (hn : n ≤ 300) :
    Calls Tryd.prog 41 #[v] w fun e w' => ∃ (u : Value) (L : List Int), e = .returned u ∧ L.length ≤ n ∧ RowI w' u L ∧ Below w.heap.size w w' := by
  rcases h with ⟨rfl, rfl⟩ | ⟨a, cap, rfl, h1, h2, h3⟩
  · go_enter Tryd.func41, Tryd.ntmps41
    go_wp2_with fail
    go_loop [3, 4] (fun vu vi => vu = .slice none 0 0 ∧ vi = .int .i64 0) (fun _ _ => 0)
    case atStart => exact ⟨rfl, rfl⟩
    case round =>
      obtain ⟨rfl, rfl⟩ := hrel
      go_wp2_with fail
      go_ret
      exact ⟨_, rfl, ⟨.inl ⟨rfl, rfl⟩⟩, Below.refl _ _⟩
  · have HC := Lib.hid h3
    clear h3
    go_enter Tryd.func41, Tryd.ntmps41
    go_wp2_with fail
    go_loopw [3, 4] (fun vu vi wx => ∃ (i : Nat) (u : Value) (L : List Int), vi = .int .i64 i ∧ vu = u ∧ i ≤ n ∧ L.length ≤ i ∧ Hid (RowI wx u L) ∧ Hid (Below w.heap.size w wx)) (fun _ vi _ => n - (intOf vi).toNat)
    case atStart => exact ⟨0, _, [], by go_num, rfl, by omega, Nat.le_refl _, Lib.hid ⟨.inl ⟨rfl, rfl⟩⟩, Lib.hid (Below.refl _ _)⟩
    case round =>
      obtain ⟨i, u, L, rfl, rfl, hi, hL, hR, hB⟩ := hrel
      generalize wr = V0 at *
      by_cases hlt : i < n
      · have hxw := Lib.hid (HC.out i hlt).2
        obtain ⟨x, hfx⟩ : ∃ x, x = f i := ⟨_, rfl⟩
        rw [← hfx] at hxw
        have HWF := Lib.hid hR.out.wf
        obtain ⟨hnil | ⟨b, c2', hu, r1, r2, r3⟩⟩ := hR.out
        · obtain ⟨hu, hl0⟩ := hnil
          subst hu
          clear hR
          have HX := Lib.hid (fun (W : World) (hW : Below w.heap.size w W) => (hW.cell (World.block_lt_of_cell? w _ (HC.out i hlt).1)).trans (HC.out i hlt).1)
          rw [← hfx] at HX
          clear hfx
          have hB0 := hB.out.size
          go_wp2_with fail
          go_loopw [5] (fun vk wx => ∃ k : Nat, vk = .int .i64 k ∧ k ≤ L.length ∧ Hid (Below V0.heap.size V0 wx)) (fun vk _ => (intOf vk).toNat)
          case atStart => exact ⟨0, rfl, Nat.zero_le _, Lib.hid (Below.refl _ _)⟩
          case round =>
            obtain ⟨kk, rfl, hk, hW⟩ := hrel
            obtain rfl : kk = 0 := by omega
            have g1 : decide ((0 : Int) < 0) = false := decide_eq_false (by omega)
            have NX := Lib.hid (fun p => below_drewN hW.out p)
            clear hW
            go_wp2_with fail
            go_quiet (fail)
            go_wp2_with fail
            go_quiet (fail)
            go_upto_region 9 with fail
            generalize hW2 : (wr.drewN _).drewN nq = W2
            have HW2 : Below V0.heap.size V0 W2 := hW2 ▸ below_drewN (NX.out _) nq
            clear hW2 g1
            have hBW := hB.out.trans (HW2.mono hB0)
            have hload : W2.cell? (a.add i) = some (.int .i64 x) := HX.out W2 hBW
            have hab : (a.add i).block < W2.heap.size := World.block_lt_of_cell? W2 _ hload
            have hK := Lib.hid (show Kept W2 (a.add i) x W2 from ⟨hload, Below.refl _ _⟩)
            have HTK := Lib.hid (show ∀ W, Kept W2 (a.add i) x W → ∀ ad, (none : Option Addr) = some ad → ∀ p u, (cellsI (L.take 0))[p]? = some u → W.cell? (ad.add p) = some u from fun W hk ad e => by cases e)
            have HDK := Lib.hid (show ∀ W, Kept W2 (a.add i) x W → ∀ ad, (none : Option Addr) = some ad → ∀ p u, (cellsI (L.drop 0))[p]? = some u → W.cell? (ad.add p) = some u from fun W hk ad e => by cases e)
            have hlt1 : (cellsI (L.take (0))).length = 0 := by unfold cellsI; rw [List.length_map, List.length_take]; omega
            have hlt2 : (cellsI (L.drop (0))).length = L.length - (0) := by unfold cellsI; rw [List.length_map, List.length_drop]
            have M1 := Lib.hid (show (W2.alloc (.cells #[] 3)).ownsRow W2.heap.size 3 1 (.slice (some ⟨W2.heap.size, 0, none⟩) 0 0) 0 [] from World.ownsRow_made W2 #[] 0 (Nat.le_refl _) (Nat.zero_le _) rfl)
            have M3 := Lib.hid (show ((W2.alloc (.cells #[.int .i64 x] 3)).alloc (.cells #[] 3)).ownsRow W2.heap.size 3 1 (.slice (some ⟨W2.heap.size + 1, 0, none⟩) 0 0) 0 [] from by
              have hs : (W2.alloc (.cells #[.int .i64 x] 3)).heap.size = W2.heap.size + 1 := by
                show (W2.heap.push _).size = _
                rw [Array.size_push]
              rw [← hs]
              exact World.ownsRow_made _ #[] 0 (by rw [hs]; omega) (Nat.zero_le _) rfl)
            have M2 := Lib.hid (show ((W2.alloc (.cells #[] 3)).alloc (.cells #[.int .i64 x] 3)).ownsRow W2.heap.size 3 1 (.slice (some ⟨W2.heap.size, 0, none⟩) 0 0) 0 [] from M1.out.alloc _)
            have HX2 := Lib.hid (show ((W2.alloc (.cells #[] 3)).alloc (.cells #[.int .i64 x] 3)).cell? ⟨W2.heap.size + 1, 0, none⟩ = some (.int .i64 x) from by
              have hs : (W2.alloc (.cells #[] 3)).heap.size = W2.heap.size + 1 := by simp
              rw [← hs]
              simp)
            have HX3 := Lib.hid (show ((W2.alloc (.cells #[.int .i64 x] 3)).alloc (.cells #[] 3)).cell? ⟨W2.heap.size, 0, none⟩ = some (.int .i64 x) from by
              have hs : (W2.alloc (.cells #[.int .i64 x] 3)).heap.size = W2.heap.size + 1 := by simp
              refine (((Below.refl (W2.alloc (.cells #[.int .i64 x] 3)).heap.size _).alloc (Nat.le_refl _) _).cell (by rw [hs]; show W2.heap.size < _; omega)).trans ?_
              simp)
            have hB2 := Lib.hid hBW
            obtain ⟨i0, hi0, hz0, hz1, hz2⟩ := info_parts info_int
            have hcI := cellsI_one
            clear hBW hB HW2 NX HX
            have s1 : (0 : Int) ≤ (0 : Int) := by omega
            have s5 : (0 : Int).toNat = 0 := by omega
            go_region_held3 (fun w' => w'.cell? (a.add i) = some (.int .i64 x) ∧ Kept W2 (a.add i) x w')
              (refine ⟨Kept.cell (W0 := W2) ?_, ?_⟩ <;> repeat (first | exact hK.out | assumption | refine Kept.alloc ?_ _ | refine Kept.drew ?_))
              (first
                | (refine step_append_any rfl (.tmp 44) (.tmp 47) 38 rfl W2.heap.size 3 i0 (.int .i64 0) Tryd.underlying38 hi0 hz0 hz1 hz2 rfl (.slice (some ⟨W2.heap.size, 0, none⟩) 0 0) 0 [] rfl M1.out (by simp; try omega) none 0 0 (cellsI (L.take 0)) rfl (by omega) (fun _ => ⟨rfl, rfl⟩) (HTK.out _ (by repeat (first | exact hK.out | assumption | refine Kept.alloc ?_ _ | refine Kept.drew ?_))) (hcI _) (by omega) ?_; intro v1 w1 own1 grow1; have hk1 : Kept W2 (a.add i) x w1 := Kept.grown (by repeat (first | exact hK.out | assumption | refine Kept.alloc ?_ _ | refine Kept.drew ?_)) hab grow1 (by intro q hq; simp [Value.ownBlock] at hq; omega))
                | (refine step_append_any rfl (.tmp 44) (.tmp 47) 38 rfl W2.heap.size 3 i0 (.int .i64 0) Tryd.underlying38 hi0 hz0 hz1 hz2 rfl (.slice (some ⟨W2.heap.size, 0, none⟩) 0 0) 0 [] rfl M2.out (by simp; try omega) none 0 0 (cellsI (L.take 0)) rfl (by omega) (fun _ => ⟨rfl, rfl⟩) (HTK.out _ (by repeat (first | exact hK.out | assumption | refine Kept.alloc ?_ _ | refine Kept.drew ?_))) (hcI _) (by omega) ?_; intro v1 w1 own1 grow1; have hk1 : Kept W2 (a.add i) x w1 := Kept.grown (by repeat (first | exact hK.out | assumption | refine Kept.alloc ?_ _ | refine Kept.drew ?_)) hab grow1 (by intro q hq; simp [Value.ownBlock] at hq; omega); have X1 : w1.cell? ⟨W2.heap.size + 1, 0, none⟩ = some (.int .i64 x) := grow1.cell (HX2.out) (by simp [Value.ownBlock]))
                | (refine step_append_any rfl (.tmp 44) (.tmp 47) 38 rfl W2.heap.size 3 i0 (.int .i64 0) Tryd.underlying38 hi0 hz0 hz1 hz2 rfl (.slice (some ⟨W2.heap.size + 1, 0, none⟩) 0 0) 0 [] rfl M3.out (by simp; try omega) none 0 0 (cellsI (L.take 0)) rfl (by omega) (fun _ => ⟨rfl, rfl⟩) (HTK.out _ (by repeat (first | exact hK.out | assumption | refine Kept.alloc ?_ _ | refine Kept.drew ?_))) (hcI _) (by omega) ?_; intro v1 w1 own1 grow1; have hk1 : Kept W2 (a.add i) x w1 := Kept.grown (by repeat (first | exact hK.out | assumption | refine Kept.alloc ?_ _ | refine Kept.drew ?_)) hab grow1 (by intro q hq; simp [Value.ownBlock] at hq; omega); have X1 : w1.cell? ⟨W2.heap.size, 0, none⟩ = some (.int .i64 x) := grow1.cell (HX3.out) (by simp [Value.ownBlock]))
                | (refine step_append_any rfl (.tmp 48) (.tmp 53) 38 rfl W2.heap.size 3 i0 (.int .i64 0) Tryd.underlying38 hi0 hz0 hz1 hz2 rfl v1 (0 + 0) ([] ++ cellsI (L.take 0)) rfl (own1.alloc _) (Kept.below (Kept.alloc hk1 _)).size (some ⟨w1.heap.size, 0, none⟩) 1 1 (cellsI [x]) rfl rfl (fun h => by cases h) (one_news (by simp)) (hcI _) (by omega) ?_; intro v2 w2 own2 grow2; have hk2 : Kept W2 (a.add i) x w2 := Kept.grown (Kept.alloc hk1 _) hab grow2 (fun q hq => (own1.lt q hq).1))
                | (refine step_append_any rfl (.tmp 48) (.tmp 53) 38 rfl W2.heap.size 3 i0 (.int .i64 0) Tryd.underlying38 hi0 hz0 hz1 hz2 rfl v1 (0 + 0) ([] ++ cellsI (L.take 0)) rfl own1 (Kept.below hk1).size (some ⟨W2.heap.size + 1, 0, none⟩) 1 1 (cellsI [x]) rfl rfl (fun h => by cases h) (one_news X1) (hcI _) (by omega) ?_; intro v2 w2 own2 grow2; have hk2 : Kept W2 (a.add i) x w2 := Kept.grown hk1 hab grow2 (fun q hq => (own1.lt q hq).1))
                | (refine step_append_any rfl (.tmp 48) (.tmp 53) 38 rfl W2.heap.size 3 i0 (.int .i64 0) Tryd.underlying38 hi0 hz0 hz1 hz2 rfl v1 (0 + 0) ([] ++ cellsI (L.take 0)) rfl own1 (Kept.below hk1).size (some ⟨W2.heap.size, 0, none⟩) 1 1 (cellsI [x]) rfl rfl (fun h => by cases h) (one_news X1) (hcI _) (by omega) ?_; intro v2 w2 own2 grow2; have hk2 : Kept W2 (a.add i) x w2 := Kept.grown hk1 hab grow2 (fun q hq => (own1.lt q hq).1))
                | (refine step_append_any rfl (.tmp 54) (.tmp 57) 38 rfl W2.heap.size 3 i0 (.int .i64 0) Tryd.underlying38 hi0 hz0 hz1 hz2 rfl v2 (0 + 0 + 1) (([] ++ cellsI (L.take 0)) ++ cellsI [x]) rfl own2 hk2.below.size none 0 0 (cellsI (L.drop 0)) rfl (by omega) (fun _ => ⟨rfl, rfl⟩) (HDK.out _ hk2) (hcI _) (by omega) ?_; intro v3 w3 own3 grow3; have hk3 : Kept W2 (a.add i) x w3 := Kept.grown hk2 hab grow3 (fun q hq => (own2.lt q hq).1)))
            all_goals
              have HR3 := Lib.hid (putIn_row (Nat.zero_le _) (by rw [show 0 + 0 + 1 + (L.length - 0) = 0 + 0 + 1 + 0 by omega]; exact own3) HWF.out hxw.out)
              have HB3 := Lib.hid (hB2.out.trans (hk3.below.mono hB2.out.size))
              have hl3 := putIn_length L 0 x (Nat.zero_le _)
              clear own1 own2 own3 grow1 grow2 grow3 hk1 hk2 hk3 HTK HDK M1 M2 M3 hlt1 hlt2 HX2 HX3
              go_wp2_with fail
              go_roundw
              case rel => exact ⟨i + 1, _, putIn L 0 x, by go_num, rfl, by omega, by omega, HR3, HB3⟩
              case measure => simp [intOf]; omega
        · subst hu
          have HL := Lib.hid r3
          clear r3 hR
          have hm1 : L.length ≤ 300 := by omega
          have hc2 : c2' ≤ 9223372036854775807 := by unfold maxLen at r2; omega
          have HX := Lib.hid (fun (W : World) (hW : Below w.heap.size w W) => (hW.cell (World.block_lt_of_cell? w _ (HC.out i hlt).1)).trans (HC.out i hlt).1)
          rw [← hfx] at HX
          clear hfx
          have HO := Lib.hid (fun (W : World) (hW : Below V0.heap.size V0 W) (k : Nat) (hk : k < L.length) => (hW.cell (World.block_lt_of_cell? V0 _ (HL.out k hk).1)).trans (HL.out k hk).1)
          have hB0 := hB.out.size
          go_wp2_with fail
          go_loopw [5] (fun vk wx => ∃ k : Nat, vk = .int .i64 k ∧ k ≤ L.length ∧ Hid (Below V0.heap.size V0 wx)) (fun vk _ => (intOf vk).toNat)
          case atStart => exact ⟨L.length, rfl, Nat.le_refl _, Lib.hid (Below.refl _ _)⟩
          case round =>
            obtain ⟨k, rfl, hk, hW⟩ := hrel
            have hx := fun p => HX.out _ (hB.out.trans ((below_drewN hW.out p).mono hB0))
            by_cases hk0 : 0 < k
            · obtain ⟨j, rfl⟩ : ∃ j, k = j + 1 := ⟨k - 1, by omega⟩
              have hy := fun p => HO.out _ (below_drewN hW.out p) j (by omega)
              have z1 : ((j + 1 : Nat) : Int) = (j : Int) + 1 := by omega
              have g1 : decide ((0 : Int) < (j : Int) + 1) = true := decide_eq_true (by omega)
              have b3 : (j : Int) < (L.length : Int) := by omega
              have t2 : ((j : Int)).toNat = j := by omega
              have w2 : IntKind.i64.wrap (j : Int) = (j : Int) := by rw [IntKind.wrap_i64]; omega
              by_cases hgt : x < litI L j
              · have c1 : decide (x < litI L j) = true := decide_eq_true hgt
                have NW := Lib.hid (fun p => below_drewN hW.out p)
                clear hW hgt
                generalize litI L j = y at *
                go_wp2_with fail
                go_quiet (fail)
                go_wp2_with fail
                go_roundw
                case rel => exact ⟨j, by go_num, by omega, Lib.hid (NW.out _)⟩
                case measure => simp [intOf]
              · have c1 : decide (x < litI L j) = false := decide_eq_false hgt
                by_cases heq : litI L j = x
                · have c2 : (litI L j == x) = true := by rw [beq_iff_eq]; exact heq
                  have NW := Lib.hid (fun p => hB.out.trans ((below_drewN hW.out p).mono hB0))
                  have NR := Lib.hid (fun p => RowI.keep ⟨.inr ⟨b, c2', rfl, r1, r2, HL.out⟩⟩ (below_drewN hW.out p))
                  clear hW hgt heq
                  generalize litI L j = y at *
                  go_wp2_with fail
                  go_quiet (fail)
                  go_wp2_with fail
                  go_quiet (fail)
                  go_wp2_with fail
                  go_roundw
                  case rel => exact ⟨i + 1, _, L, by go_num, rfl, by omega, by omega, Lib.hid (NR.out _), Lib.hid (NW.out _)⟩
                  case measure => simp [intOf]; omega
                · have c2 : (litI L j == x) = false := by rw [beq_eq_false_iff_ne]; exact heq
                  have NW := Lib.hid (fun p => hB.out.trans ((below_drewN hW.out p).mono hB0))
                  have NX := Lib.hid (fun p => below_drewN hW.out p)
                  clear hW hgt heq
                  generalize litI L j = y at *
                  go_wp2_with fail
                  go_quiet (fail)
                  go_wp2_with fail
                  go_quiet (fail)
                  go_upto_region 9 with fail
                  generalize j + 1 = k at *
                  generalize hW2 : (wr.drewN _).drewN nq = W2
                  have HW2 : Below V0.heap.size V0 W2 := hW2 ▸ below_drewN (NX.out _) nq
                  clear hW2 hx hy z1 g1 b3 t2 w2 c1 c2 hk0
                  have hBW := hB.out.trans (HW2.mono hB0)
                  have hload : W2.cell? (a.add i) = some (.int .i64 x) := HX.out W2 hBW
                  have hab : (a.add i).block < W2.heap.size := World.block_lt_of_cell? W2 _ hload
                  have hK := Lib.hid (show Kept W2 (a.add i) x W2 from ⟨hload, Below.refl _ _⟩)
                  have hpart := fun (W : World) (hb : Below W2.heap.size W2 W) (q m : Nat) (hq : q + m ≤ L.length) => part_cells (L := L) (a := b) (fun q hq => HO.out W (HW2.trans (hb.mono HW2.size)) q hq) q m hq
                  have HTK := Lib.hid (show ∀ W, Kept W2 (a.add i) x W → ∀ ad, some b = some ad → ∀ p u, (cellsI (L.take (k)))[p]? = some u → W.cell? (ad.add p) = some u from fun W hk ad e p u hu => by
                    obtain rfl := Option.some.inj e
                    have := hpart W hk.below 0 (k) (by omega) p u (by rw [List.drop_zero]; exact hu)
                    rw [Addr.add_zero'] at this
                    exact this)
                  have HDK := Lib.hid (show ∀ W, Kept W2 (a.add i) x W → ∀ ad, (if c2' = k then some b else some (b.add (k))) = some ad → ∀ p u, (cellsI (L.drop (k)))[p]? = some u → W.cell? (ad.add p) = some u from fun W hk ad e p u hu => by
                    by_cases hc : c2' = k
                    · rw [List.drop_eq_nil_of_le (by omega)] at hu
                      simp [cellsI] at hu
                    · rw [if_neg hc] at e
                      obtain rfl := Option.some.inj e
                      refine hpart W hk.below (k) (L.length - (k)) (by omega) p u ?_
                      rw [List.take_of_length_le (by simp)]
                      exact hu)
                  have hlt1 : (cellsI (L.take (k))).length = k := by unfold cellsI; rw [List.length_map, List.length_take]; omega
                  have hlt2 : (cellsI (L.drop (k))).length = L.length - (k) := by unfold cellsI; rw [List.length_map, List.length_drop]
                  have M1 := Lib.hid (show (W2.alloc (.cells #[] 3)).ownsRow W2.heap.size 3 1 (.slice (some ⟨W2.heap.size, 0, none⟩) 0 0) 0 [] from World.ownsRow_made W2 #[] 0 (Nat.le_refl _) (Nat.zero_le _) rfl)
                  have M3 := Lib.hid (show ((W2.alloc (.cells #[.int .i64 x] 3)).alloc (.cells #[] 3)).ownsRow W2.heap.size 3 1 (.slice (some ⟨W2.heap.size + 1, 0, none⟩) 0 0) 0 [] from by
                    have hs : (W2.alloc (.cells #[.int .i64 x] 3)).heap.size = W2.heap.size + 1 := by
                      show (W2.heap.push _).size = _
                      rw [Array.size_push]
                    rw [← hs]
                    exact World.ownsRow_made _ #[] 0 (by rw [hs]; omega) (Nat.zero_le _) rfl)
                  have M2 := Lib.hid (show ((W2.alloc (.cells #[] 3)).alloc (.cells #[.int .i64 x] 3)).ownsRow W2.heap.size 3 1 (.slice (some ⟨W2.heap.size, 0, none⟩) 0 0) 0 [] from M1.out.alloc _)
                  have HX2 := Lib.hid (show ((W2.alloc (.cells #[] 3)).alloc (.cells #[.int .i64 x] 3)).cell? ⟨W2.heap.size + 1, 0, none⟩ = some (.int .i64 x) from by
                    have hs : (W2.alloc (.cells #[] 3)).heap.size = W2.heap.size + 1 := by simp
                    rw [← hs]
                    simp)
                  have HX3 := Lib.hid (show ((W2.alloc (.cells #[.int .i64 x] 3)).alloc (.cells #[] 3)).cell? ⟨W2.heap.size, 0, none⟩ = some (.int .i64 x) from by
                    have hs : (W2.alloc (.cells #[.int .i64 x] 3)).heap.size = W2.heap.size + 1 := by simp
                    refine (((Below.refl (W2.alloc (.cells #[.int .i64 x] 3)).heap.size _).alloc (Nat.le_refl _) _).cell (by rw [hs]; show W2.heap.size < _; omega)).trans ?_
                    simp)
                  have hB2 := Lib.hid hBW
                  obtain ⟨i0, hi0, hz0, hz1, hz2⟩ := info_parts info_int
                  have hcI := cellsI_one
                  clear hBW hB HW2 NW NX HL HO HX hpart
                  have s1 : (0 : Int) ≤ (k : Int) := by omega
                  have s2 : (k : Int) ≤ (c2' : Int) := by omega
                  have s3 : (k : Int) ≤ (L.length : Int) := by omega
                  have s4 : (L.length : Int) ≤ (c2' : Int) := by omega
                  have s5 : (k : Int).toNat = k := by omega
                  go_region_held3 (fun w' => w'.cell? (a.add i) = some (.int .i64 x) ∧ Kept W2 (a.add i) x w')
                    (refine ⟨Kept.cell (W0 := W2) ?_, ?_⟩ <;> repeat (first | exact hK.out | assumption | refine Kept.alloc ?_ _ | refine Kept.drew ?_))
                    (first
                      | (refine step_append_any rfl (.tmp 44) (.tmp 47) 38 rfl W2.heap.size 3 i0 (.int .i64 0) Tryd.underlying38 hi0 hz0 hz1 hz2 rfl (.slice (some ⟨W2.heap.size, 0, none⟩) 0 0) 0 [] rfl M1.out (by simp; try omega) (some b) k c2' (cellsI (L.take k)) rfl hlt1 (fun h => by cases h) (HTK.out _ (by repeat (first | exact hK.out | assumption | refine Kept.alloc ?_ _ | refine Kept.drew ?_))) (hcI _) (by omega) ?_; intro v1 w1 own1 grow1; have hk1 : Kept W2 (a.add i) x w1 := Kept.grown (by repeat (first | exact hK.out | assumption | refine Kept.alloc ?_ _ | refine Kept.drew ?_)) hab grow1 (by intro q hq; simp [Value.ownBlock] at hq; omega))
                      | (refine step_append_any rfl (.tmp 44) (.tmp 47) 38 rfl W2.heap.size 3 i0 (.int .i64 0) Tryd.underlying38 hi0 hz0 hz1 hz2 rfl (.slice (some ⟨W2.heap.size, 0, none⟩) 0 0) 0 [] rfl M2.out (by simp; try omega) (some b) k c2' (cellsI (L.take k)) rfl hlt1 (fun h => by cases h) (HTK.out _ (by repeat (first | exact hK.out | assumption | refine Kept.alloc ?_ _ | refine Kept.drew ?_))) (hcI _) (by omega) ?_; intro v1 w1 own1 grow1; have hk1 : Kept W2 (a.add i) x w1 := Kept.grown (by repeat (first | exact hK.out | assumption | refine Kept.alloc ?_ _ | refine Kept.drew ?_)) hab grow1 (by intro q hq; simp [Value.ownBlock] at hq; omega); have X1 : w1.cell? ⟨W2.heap.size + 1, 0, none⟩ = some (.int .i64 x) := grow1.cell (HX2.out) (by simp [Value.ownBlock]))
                      | (refine step_append_any rfl (.tmp 44) (.tmp 47) 38 rfl W2.heap.size 3 i0 (.int .i64 0) Tryd.underlying38 hi0 hz0 hz1 hz2 rfl (.slice (some ⟨W2.heap.size + 1, 0, none⟩) 0 0) 0 [] rfl M3.out (by simp; try omega) (some b) k c2' (cellsI (L.take k)) rfl hlt1 (fun h => by cases h) (HTK.out _ (by repeat (first | exact hK.out | assumption | refine Kept.alloc ?_ _ | refine Kept.drew ?_))) (hcI _) (by omega) ?_; intro v1 w1 own1 grow1; have hk1 : Kept W2 (a.add i) x w1 := Kept.grown (by repeat (first | exact hK.out | assumption | refine Kept.alloc ?_ _ | refine Kept.drew ?_)) hab grow1 (by intro q hq; simp [Value.ownBlock] at hq; omega); have X1 : w1.cell? ⟨W2.heap.size, 0, none⟩ = some (.int .i64 x) := grow1.cell (HX3.out) (by simp [Value.ownBlock]))
                      | (refine step_append_any rfl (.tmp 48) (.tmp 53) 38 rfl W2.heap.size 3 i0 (.int .i64 0) Tryd.underlying38 hi0 hz0 hz1 hz2 rfl v1 (0 + k) ([] ++ cellsI (L.take k)) rfl (own1.alloc _) (Kept.below (Kept.alloc hk1 _)).size (some ⟨w1.heap.size, 0, none⟩) 1 1 (cellsI [x]) rfl rfl (fun h => by cases h) (one_news (by simp)) (hcI _) (by omega) ?_; intro v2 w2 own2 grow2; have hk2 : Kept W2 (a.add i) x w2 := Kept.grown (Kept.alloc hk1 _) hab grow2 (fun q hq => (own1.lt q hq).1))
                      | (refine step_append_any rfl (.tmp 48) (.tmp 53) 38 rfl W2.heap.size 3 i0 (.int .i64 0) Tryd.underlying38 hi0 hz0 hz1 hz2 rfl v1 (0 + k) ([] ++ cellsI (L.take k)) rfl own1 (Kept.below hk1).size (some ⟨W2.heap.size + 1, 0, none⟩) 1 1 (cellsI [x]) rfl rfl (fun h => by cases h) (one_news X1) (hcI _) (by omega) ?_; intro v2 w2 own2 grow2; have hk2 : Kept W2 (a.add i) x w2 := Kept.grown hk1 hab grow2 (fun q hq => (own1.lt q hq).1))
                      | (refine step_append_any rfl (.tmp 48) (.tmp 53) 38 rfl W2.heap.size 3 i0 (.int .i64 0) Tryd.underlying38 hi0 hz0 hz1 hz2 rfl v1 (0 + k) ([] ++ cellsI (L.take k)) rfl own1 (Kept.below hk1).size (some ⟨W2.heap.size, 0, none⟩) 1 1 (cellsI [x]) rfl rfl (fun h => by cases h) (one_news X1) (hcI _) (by omega) ?_; intro v2 w2 own2 grow2; have hk2 : Kept W2 (a.add i) x w2 := Kept.grown hk1 hab grow2 (fun q hq => (own1.lt q hq).1))
                      | (refine step_append_any rfl (.tmp 54) (.tmp 57) 38 rfl W2.heap.size 3 i0 (.int .i64 0) Tryd.underlying38 hi0 hz0 hz1 hz2 rfl v2 (0 + k + 1) (([] ++ cellsI (L.take k)) ++ cellsI [x]) rfl own2 hk2.below.size (if c2' = k then some b else some (b.add k)) (L.length - k) (c2' - k) (cellsI (L.drop k)) rfl hlt2 (by intro h; split at h <;> cases h) (HDK.out _ hk2) (hcI _) (by omega) ?_; intro v3 w3 own3 grow3; have hk3 : Kept W2 (a.add i) x w3 := Kept.grown hk2 hab grow3 (fun q hq => (own2.lt q hq).1)))
                  all_goals
                    have HR3 := Lib.hid (putIn_row hk own3 HWF.out hxw.out)
                    have HB3 := Lib.hid (hB2.out.trans (hk3.below.mono hB2.out.size))
                    have hl3 := putIn_length L k x hk
                    clear own1 own2 own3 grow1 grow2 grow3 hk1 hk2 hk3 HTK HDK M1 M2 M3 hlt1 hlt2 HX2 HX3
                    go_wp2_with fail
                    go_roundw
                    case rel => exact ⟨i + 1, _, putIn L k x, by go_num, rfl, by omega, by omega, HR3, HB3⟩
                    case measure => simp [intOf]; omega
            · have g1 : decide (0 < k) = false := decide_eq_false (by omega)
              have NX := Lib.hid (fun p => below_drewN hW.out p)
              have NW := Lib.hid True.intro
              clear hW hx
              go_wp2_with fail
              go_quiet (fail)
              go_wp2_with fail
              go_quiet (fail)
              go_upto_region 9 with fail
              generalize hW2 : (wr.drewN _).drewN nq = W2
              have HW2 : Below V0.heap.size V0 W2 := hW2 ▸ below_drewN (NX.out _) nq
              clear hW2 g1
              have hBW := hB.out.trans (HW2.mono hB0)
              have hload : W2.cell? (a.add i) = some (.int .i64 x) := HX.out W2 hBW
              have hab : (a.add i).block < W2.heap.size := World.block_lt_of_cell? W2 _ hload
              have hK := Lib.hid (show Kept W2 (a.add i) x W2 from ⟨hload, Below.refl _ _⟩)
              have hpart := fun (W : World) (hb : Below W2.heap.size W2 W) (q m : Nat) (hq : q + m ≤ L.length) => part_cells (L := L) (a := b) (fun q hq => HO.out W (HW2.trans (hb.mono HW2.size)) q hq) q m hq
              have HTK := Lib.hid (show ∀ W, Kept W2 (a.add i) x W → ∀ ad, some b = some ad → ∀ p u, (cellsI (L.take (k)))[p]? = some u → W.cell? (ad.add p) = some u from fun W hk ad e p u hu => by
                obtain rfl := Option.some.inj e
                have := hpart W hk.below 0 (k) (by omega) p u (by rw [List.drop_zero]; exact hu)
                rw [Addr.add_zero'] at this
                exact this)
              have HDK := Lib.hid (show ∀ W, Kept W2 (a.add i) x W → ∀ ad, (if c2' = k then some b else some (b.add (k))) = some ad → ∀ p u, (cellsI (L.drop (k)))[p]? = some u → W.cell? (ad.add p) = some u from fun W hk ad e p u hu => by
                by_cases hc : c2' = k
                · rw [List.drop_eq_nil_of_le (by omega)] at hu
                  simp [cellsI] at hu
                · rw [if_neg hc] at e
                  obtain rfl := Option.some.inj e
                  refine hpart W hk.below (k) (L.length - (k)) (by omega) p u ?_
                  rw [List.take_of_length_le (by simp)]
                  exact hu)
              have hlt1 : (cellsI (L.take (k))).length = k := by unfold cellsI; rw [List.length_map, List.length_take]; omega
              have hlt2 : (cellsI (L.drop (k))).length = L.length - (k) := by unfold cellsI; rw [List.length_map, List.length_drop]
              have M1 := Lib.hid (show (W2.alloc (.cells #[] 3)).ownsRow W2.heap.size 3 1 (.slice (some ⟨W2.heap.size, 0, none⟩) 0 0) 0 [] from World.ownsRow_made W2 #[] 0 (Nat.le_refl _) (Nat.zero_le _) rfl)
              have M3 := Lib.hid (show ((W2.alloc (.cells #[.int .i64 x] 3)).alloc (.cells #[] 3)).ownsRow W2.heap.size 3 1 (.slice (some ⟨W2.heap.size + 1, 0, none⟩) 0 0) 0 [] from by
                have hs : (W2.alloc (.cells #[.int .i64 x] 3)).heap.size = W2.heap.size + 1 := by
                  show (W2.heap.push _).size = _
                  rw [Array.size_push]
                rw [← hs]
                exact World.ownsRow_made _ #[] 0 (by rw [hs]; omega) (Nat.zero_le _) rfl)
              have M2 := Lib.hid (show ((W2.alloc (.cells #[] 3)).alloc (.cells #[.int .i64 x] 3)).ownsRow W2.heap.size 3 1 (.slice (some ⟨W2.heap.size, 0, none⟩) 0 0) 0 [] from M1.out.alloc _)
              have HX2 := Lib.hid (show ((W2.alloc (.cells #[] 3)).alloc (.cells #[.int .i64 x] 3)).cell? ⟨W2.heap.size + 1, 0, none⟩ = some (.int .i64 x) from by
                have hs : (W2.alloc (.cells #[] 3)).heap.size = W2.heap.size + 1 := by simp
                rw [← hs]
                simp)
              have HX3 := Lib.hid (show ((W2.alloc (.cells #[.int .i64 x] 3)).alloc (.cells #[] 3)).cell? ⟨W2.heap.size, 0, none⟩ = some (.int .i64 x) from by
                have hs : (W2.alloc (.cells #[.int .i64 x] 3)).heap.size = W2.heap.size + 1 := by simp
                refine (((Below.refl (W2.alloc (.cells #[.int .i64 x] 3)).heap.size _).alloc (Nat.le_refl _) _).cell (by rw [hs]; show W2.heap.size < _; omega)).trans ?_
                simp)
              have hB2 := Lib.hid hBW
              obtain ⟨i0, hi0, hz0, hz1, hz2⟩ := info_parts info_int
              have hcI := cellsI_one
              clear hBW hB HW2 NW NX HL HO HX hpart
              have s1 : (0 : Int) ≤ (k : Int) := by omega
              have s2 : (k : Int) ≤ (c2' : Int) := by omega
              have s3 : (k : Int) ≤ (L.length : Int) := by omega
              have s4 : (L.length : Int) ≤ (c2' : Int) := by omega
              have s5 : (k : Int).toNat = k := by omega
              go_region_held3 (fun w' => w'.cell? (a.add i) = some (.int .i64 x) ∧ Kept W2 (a.add i) x w')
                (refine ⟨Kept.cell (W0 := W2) ?_, ?_⟩ <;> repeat (first | exact hK.out | assumption | refine Kept.alloc ?_ _ | refine Kept.drew ?_))
                (first
                  | (refine step_append_any rfl (.tmp 44) (.tmp 47) 38 rfl W2.heap.size 3 i0 (.int .i64 0) Tryd.underlying38 hi0 hz0 hz1 hz2 rfl (.slice (some ⟨W2.heap.size, 0, none⟩) 0 0) 0 [] rfl M1.out (by simp; try omega) (some b) k c2' (cellsI (L.take k)) rfl hlt1 (fun h => by cases h) (HTK.out _ (by repeat (first | exact hK.out | assumption | refine Kept.alloc ?_ _ | refine Kept.drew ?_))) (hcI _) (by omega) ?_; intro v1 w1 own1 grow1; have hk1 : Kept W2 (a.add i) x w1 := Kept.grown (by repeat (first | exact hK.out | assumption | refine Kept.alloc ?_ _ | refine Kept.drew ?_)) hab grow1 (by intro q hq; simp [Value.ownBlock] at hq; omega))
                  | (refine step_append_any rfl (.tmp 44) (.tmp 47) 38 rfl W2.heap.size 3 i0 (.int .i64 0) Tryd.underlying38 hi0 hz0 hz1 hz2 rfl (.slice (some ⟨W2.heap.size, 0, none⟩) 0 0) 0 [] rfl M2.out (by simp; try omega) (some b) k c2' (cellsI (L.take k)) rfl hlt1 (fun h => by cases h) (HTK.out _ (by repeat (first | exact hK.out | assumption | refine Kept.alloc ?_ _ | refine Kept.drew ?_))) (hcI _) (by omega) ?_; intro v1 w1 own1 grow1; have hk1 : Kept W2 (a.add i) x w1 := Kept.grown (by repeat (first | exact hK.out | assumption | refine Kept.alloc ?_ _ | refine Kept.drew ?_)) hab grow1 (by intro q hq; simp [Value.ownBlock] at hq; omega); have X1 : w1.cell? ⟨W2.heap.size + 1, 0, none⟩ = some (.int .i64 x) := grow1.cell (HX2.out) (by simp [Value.ownBlock]))
                  | (refine step_append_any rfl (.tmp 44) (.tmp 47) 38 rfl W2.heap.size 3 i0 (.int .i64 0) Tryd.underlying38 hi0 hz0 hz1 hz2 rfl (.slice (some ⟨W2.heap.size + 1, 0, none⟩) 0 0) 0 [] rfl M3.out (by simp; try omega) (some b) k c2' (cellsI (L.take k)) rfl hlt1 (fun h => by cases h) (HTK.out _ (by repeat (first | exact hK.out | assumption | refine Kept.alloc ?_ _ | refine Kept.drew ?_))) (hcI _) (by omega) ?_; intro v1 w1 own1 grow1; have hk1 : Kept W2 (a.add i) x w1 := Kept.grown (by repeat (first | exact hK.out | assumption | refine Kept.alloc ?_ _ | refine Kept.drew ?_)) hab grow1 (by intro q hq; simp [Value.ownBlock] at hq; omega); have X1 : w1.cell? ⟨W2.heap.size, 0, none⟩ = some (.int .i64 x) := grow1.cell (HX3.out) (by simp [Value.ownBlock]))
                  | (refine step_append_any rfl (.tmp 48) (.tmp 53) 38 rfl W2.heap.size 3 i0 (.int .i64 0) Tryd.underlying38 hi0 hz0 hz1 hz2 rfl v1 (0 + k) ([] ++ cellsI (L.take k)) rfl (own1.alloc _) (Kept.below (Kept.alloc hk1 _)).size (some ⟨w1.heap.size, 0, none⟩) 1 1 (cellsI [x]) rfl rfl (fun h => by cases h) (one_news (by simp)) (hcI _) (by omega) ?_; intro v2 w2 own2 grow2; have hk2 : Kept W2 (a.add i) x w2 := Kept.grown (Kept.alloc hk1 _) hab grow2 (fun q hq => (own1.lt q hq).1))
                  | (refine step_append_any rfl (.tmp 48) (.tmp 53) 38 rfl W2.heap.size 3 i0 (.int .i64 0) Tryd.underlying38 hi0 hz0 hz1 hz2 rfl v1 (0 + k) ([] ++ cellsI (L.take k)) rfl own1 (Kept.below hk1).size (some ⟨W2.heap.size + 1, 0, none⟩) 1 1 (cellsI [x]) rfl rfl (fun h => by cases h) (one_news X1) (hcI _) (by omega) ?_; intro v2 w2 own2 grow2; have hk2 : Kept W2 (a.add i) x w2 := Kept.grown hk1 hab grow2 (fun q hq => (own1.lt q hq).1))
                  | (refine step_append_any rfl (.tmp 48) (.tmp 53) 38 rfl W2.heap.size 3 i0 (.int .i64 0) Tryd.underlying38 hi0 hz0 hz1 hz2 rfl v1 (0 + k) ([] ++ cellsI (L.take k)) rfl own1 (Kept.below hk1).size (some ⟨W2.heap.size, 0, none⟩) 1 1 (cellsI [x]) rfl rfl (fun h => by cases h) (one_news X1) (hcI _) (by omega) ?_; intro v2 w2 own2 grow2; have hk2 : Kept W2 (a.add i) x w2 := Kept.grown hk1 hab grow2 (fun q hq => (own1.lt q hq).1))
                  | (refine step_append_any rfl (.tmp 54) (.tmp 57) 38 rfl W2.heap.size 3 i0 (.int .i64 0) Tryd.underlying38 hi0 hz0 hz1 hz2 rfl v2 (0 + k + 1) (([] ++ cellsI (L.take k)) ++ cellsI [x]) rfl own2 hk2.below.size (if c2' = k then some b else some (b.add k)) (L.length - k) (c2' - k) (cellsI (L.drop k)) rfl hlt2 (by intro h; split at h <;> cases h) (HDK.out _ hk2) (hcI _) (by omega) ?_; intro v3 w3 own3 grow3; have hk3 : Kept W2 (a.add i) x w3 := Kept.grown hk2 hab grow3 (fun q hq => (own2.lt q hq).1)))
              all_goals
                have HR3 := Lib.hid (putIn_row hk own3 HWF.out hxw.out)
                have HB3 := Lib.hid (hB2.out.trans (hk3.below.mono hB2.out.size))
                have hl3 := putIn_length L k x hk
                clear own1 own2 own3 grow1 grow2 grow3 hk1 hk2 hk3 HTK HDK M1 M2 M3 hlt1 hlt2 HX2 HX3
                go_wp2_with fail
                go_roundw
                case rel => exact ⟨i + 1, _, putIn L k x, by go_num, rfl, by omega, by omega, HR3, HB3⟩
                case measure => simp [intOf]; omega
      · obtain rfl : i = n := by omega
        have hd : decide ((i : Int) < (i : Int)) = false := decide_eq_false (by omega)
        go_wp2_with fail
        go_ret
        exact ⟨_, L, rfl, hL, hR.out, hB.out⟩
end Go.Proofs.YtnegiopbccllcaaDoor
