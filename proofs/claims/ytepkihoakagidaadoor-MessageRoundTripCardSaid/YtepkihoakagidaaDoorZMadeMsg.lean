/- What Message of the made inputs returns: a valid message. Condition: the list's cells are known, and it is not too long. -/
import Derived.Test.YtepkihoakagidaaDoorG4
import Derived.Deep.DeepCutAuto
import Derived.Deep.RegionHeld3
namespace Go.Proofs.YtepkihoakagidaaDoor
open Go.RowKit

/-- The cells of no message in a block. -/
structure NoAt (w : World) (B : Nat) : Prop where
  n0 : w.cell? ⟨B, 0, none⟩ = some (.int .i64 0)
  n1 : w.cell? ⟨B, 1, none⟩ = some (.int .i64 0)
  n2 : w.cell? ⟨B, 2, none⟩ = some (.int .i64 0)
  n3 : w.cell? ⟨B, 3, none⟩ = some (.int .i64 0)
  n4 : w.cell? ⟨B, 4, none⟩ = some (.int .i64 0)
  n5 : w.cell? ⟨B, 5, none⟩ = some (.int .i64 0)
  n6 : w.cell? ⟨B, 6, none⟩ = some (.int .i64 0)
  n7 : w.cell? ⟨B, 7, none⟩ = some (.string ⟨#[]⟩)
  n8 : w.cell? ⟨B, 8, none⟩ = some (.string ⟨#[]⟩)
  n9 : w.cell? ⟨B, 9, none⟩ = some (.int .i64 0)
  n10 : w.cell? ⟨B, 10, none⟩ = some (.int .i64 0)
  n11 : w.cell? ⟨B, 11, none⟩ = some (.slice none 0 0)
  n12 : w.cell? ⟨B, 12, none⟩ = some (.string ⟨#[]⟩)
theorem NoAt.of {w : World} {B : Nat} {t : TypeId} {fz : Nat × Nat} (h : w.heap[B]? = some (.cells noCells t fz)) : NoAt w B := by
  constructor <;> (unfold World.cell?; rw [h]; rfl)
theorem NoAt.free {w : World} {B : Nat} {t : TypeId} (h : w.heap[B]? = some (.cells noCells t (0, 0))) (j : Nat) : w.frozen? ⟨B, j, none⟩ = false := by
  simp [World.frozen?, h]
theorem cat_text (a b : List UInt8) : (⟨a.toArray⟩ : ByteArray) ++ ⟨b.toArray⟩ = ⟨(a ++ b).toArray⟩ := by
  apply ByteArray.ext
  simp
theorem int_news (W : World) (x : Int) (t : TypeId) : ∀ j u, ([Value.int .i64 x] : List Value)[j]? = some u → (W.alloc (.cells #[.int .i64 x] t)).cell? ((⟨W.heap.size, 0, none⟩ : Addr).add j) = some u := by
  intro j u hj
  match j with
  | 0 =>
    simp at hj
    rw [← hj, Addr.add_lit]
    simp [go_sem]
  | j + 1 => simp at hj
theorem set_box {w : World} {B : Nat} {cs : Array Value} {t : TypeId} {fz : Nat × Nat} (h : w.heap[B]? = some (.cells cs t fz)) (j : Nat) (v : Value) : (w.setCell ⟨B, j, none⟩ v).heap[B]? = some (.cells (cs.setIfInBounds j v) t fz) := by
  rw [setCell_eq_setRow w B j _ _ _ v h]
  exact setRow_heap w B _ _ _ _ h
/-- A message is stored whole into a block. -/
theorem msg_stored {w : World} {B : Nat} {t : TypeId} (M : Msg) (vl : Value) (h : w.heap[B]? = some (.cells noCells t (0, 0))) :
    ∃ W9, W9 = (((((((((((((w.setCell ⟨B, 0, none⟩ (.int .i64 M.kind)).setCell ⟨B, 1, none⟩ (.int .i64 M.frm)).setCell ⟨B, 2, none⟩ (.int .i64 M.to_)).setCell ⟨B, 3, none⟩ (.int .i64 M.num)).setCell ⟨B, 4, none⟩ (.int .i64 M.day)).setCell ⟨B, 5, none⟩ (.int .i64 M.lot)).setCell ⟨B, 6, none⟩ (.int .i64 M.other)).setCell ⟨B, 7, none⟩ (.string ⟨M.code.toArray⟩)).setCell ⟨B, 8, none⟩ (.string ⟨M.ctry.toArray⟩)).setCell ⟨B, 9, none⟩ (.int .i64 M.qty)).setCell ⟨B, 10, none⟩ (.int .i64 M.amt)).setCell ⟨B, 11, none⟩ vl).setCell ⟨B, 12, none⟩ (.string ⟨M.text.toArray⟩)) ∧ W9.heap[B]? = some (.cells (msgCells M vl) t (0, 0)) ∧ (∀ b, b ≠ B → W9.heap[b]? = w.heap[b]?) ∧ (∀ n, n ≤ B → Below n w W9) := by
  refine ⟨_, rfl, ?_, fun b hb => ?_, fun n hn => ?_⟩
  · have e := set_box (set_box (set_box (set_box (set_box (set_box (set_box (set_box (set_box (set_box (set_box (set_box (set_box h 0 (.int .i64 M.kind)) 1 (.int .i64 M.frm)) 2 (.int .i64 M.to_)) 3 (.int .i64 M.num)) 4 (.int .i64 M.day)) 5 (.int .i64 M.lot)) 6 (.int .i64 M.other)) 7 (.string ⟨M.code.toArray⟩)) 8 (.string ⟨M.ctry.toArray⟩)) 9 (.int .i64 M.qty)) 10 (.int .i64 M.amt)) 11 vl) 12 (.string ⟨M.text.toArray⟩)
    unfold noCells at e
    simp only [List.setIfInBounds_toArray, List.set_cons_zero, List.set_cons_succ] at e
    exact e
  · have hk : ∀ (w : World) (j : Nat) (v : Value), (w.setCell ⟨B, j, none⟩ v).heap[b]? = w.heap[b]? := fun w j v => heap_setCell_other w ⟨B, j, none⟩ b v hb
    rw [hk, hk, hk, hk, hk, hk, hk, hk, hk, hk, hk, hk, hk]
  · exact ((((((((((((((Below.refl n w).setCell hn _).setCell hn _).setCell hn _).setCell hn _).setCell hn _).setCell hn _).setCell hn _).setCell hn _).setCell hn _).setCell hn _).setCell hn _).setCell hn _).setCell hn _)
theorem listAt_later {w w1 : World} {v : Value} {n : Nat} {f : Nat → Int} (h : ListAt w .i64 v n f) (hb : Below w.heap.size w w1) : ListAt w1 .i64 v n f := by
  rcases h with h | ⟨a, cap, h1, h2, h3, h4⟩
  · exact .inl h
  · exact .inr ⟨a, cap, h1, h2, h3, fun i hi => ⟨(hb.cell (World.block_lt_of_cell? w _ (h4 i hi).1)).trans (h4 i hi).1, (h4 i hi).2⟩⟩
set_option maxRecDepth 100000 in
set_option maxHeartbeats 6400000 in
theorem madeMessage_new (v : Value) (n : Nat) (f : Nat → Int) (w : World) (h : ListAt w .i64 v n f) :
    Calls Tryd.prog 13 #[v] w fun e w' => ∃ (M : Msg) (vl : Value), e = .returned (msgV M vl) ∧ msgE M = 0 ∧ NumsIn (fun b => w.heap.size ≤ b ∧ b < w'.heap.size) w' vl M.list ∧ Below w.heap.size w w' := by
  have hb0 : Below w.heap.size w (w.alloc (.cells noCells 24)) := (Below.refl _ _).alloc (Nat.le_refl _) _
  have hres : (w.alloc (.cells noCells 24)).heap[w.heap.size]? = some (.cells noCells 24 (0, 0)) := by
    show (w.heap.push _)[w.heap.size]? = some _
    simp
  have hCut := cut_any 60 v n f _ (listAt_later h hb0)
  have hz0 : (w.alloc (.cells noCells 24)).heap.size = w.heap.size + 1 := by simp
  have HB0 := Lib.hid hb0
  have Hres := Lib.hid hres
  unfold noCells at hCut hz0 HB0 Hres
  clear h hb0 hres
  go_enter Tryd.func13, Tryd.ntmps13
  go_wp2_with fail
  generalize w.alloc (.cells #[.int .i64 0, .int .i64 0, .int .i64 0, .int .i64 0, .int .i64 0, .int .i64 0, .int .i64 0, .string ⟨#[]⟩, .string ⟨#[]⟩, .int .i64 0, .int .i64 0, .slice none 0 0, .string ⟨#[]⟩] 24) = W at *
  refine hCut.mono ?_
  rintro e w1 ⟨u, rfl, hu, rfl⟩
  have hform : ∃ b cap, u = .slice b (min n 60) cap := by
    rcases hu with ⟨h, h0⟩ | ⟨a, cap, h, _⟩
    · exact ⟨none, 0, by rw [h, h0]⟩
    · exact ⟨some a, cap, h⟩
  obtain ⟨b, cap, rfl⟩ := hform
  have H0 := Lib.hid (source_from (v := .slice b (min n 60) cap) (Below.refl W.heap.size W) (show min n 60 ≤ 1000000 by omega) hu)
  have HN := Lib.hid (fun (k : Int) (h1 : 0 < k) (h2 : k ≤ 4000000000000) (SB : Nat) (w1 : World) (h : SourceAt W w1 SB) => next_wide k h1 h2 SB W w1 h)
  have HCd := Lib.hid (fun (k : Nat) (h1 : 1 ≤ k) (h2 : k ≤ 4) (SB : Nat) (w1 : World) (h : SourceAt W w1 SB) => madeCode_any k h1 h2 SB W w1 h)
  have HCy := Lib.hid (fun (SB : Nat) (w1 : World) (h : SourceAt W w1 SB) => madeCountry_any SB W w1 h)
  have HTx := Lib.hid (fun (SB : Nat) (w1 : World) (h : SourceAt W w1 SB) => madeText_any SB W w1 h)
  have hr1 : ((W.alloc (.cells #[.slice b (min n 60) cap, .int .i64 0] 66)).heap[w.heap.size]? = some (.cells noCells 24 (0, 0))) :=
    (((Below.refl W.heap.size W).alloc (Nat.le_refl _) _).block _ (by omega)).trans Hres.out
  have Hz := Lib.hid hz0
  clear hu hCut Hres hz0
  go_wp2_with fail
  generalize W.alloc (.cells #[.slice b (min n 60) cap, .int .i64 0] 66) = W1 at *
  obtain ⟨SB, hSB⟩ : ∃ SB, W.heap.size = SB := ⟨_, rfl⟩
  rw [hSB] at H0 ⊢
  have hlt : w.heap.size < SB := by have := Hz.out; omega
  clear hSB
  refine (HN.out 60 (by omega) (by omega) _ _ H0.out).mono ?_
  rintro e wa1 ⟨r1, rfl, r10, r11, hs1, hn1⟩
  have hq1 := (hn1.heap (b := w.heap.size) (by omega)).trans hr1
  have HS1 := Lib.hid hs1
  clear hs1 hn1 hr1 H0
  have hw1 : wrap64 (1 + r1) = 1 + r1 := by unfold wrap64; omega
  go_wp2_with fail
  refine (HN.out 1000 (by omega) (by omega) _ _ HS1.out).mono ?_
  rintro e wa2 ⟨r2, rfl, r20, r21, hs2, hn2⟩
  have hq2 := (hn2.heap (b := w.heap.size) (by omega)).trans hq1
  have HS2 := Lib.hid hs2
  clear hs2 hn2 hq1 HS1
  go_wp2_with fail
  refine (HN.out 1000 (by omega) (by omega) _ _ HS2.out).mono ?_
  rintro e wa3 ⟨r3, rfl, r30, r31, hs3, hn3⟩
  have hq3 := (hn3.heap (b := w.heap.size) (by omega)).trans hq2
  have HS3 := Lib.hid hs3
  clear hs3 hn3 hq2 HS2
  go_wp2_with fail
  refine (HN.out 1000000001 (by omega) (by omega) _ _ HS3.out).mono ?_
  rintro e wa4 ⟨r4, rfl, r40, r41, hs4, hn4⟩
  have hq4 := (hn4.heap (b := w.heap.size) (by omega)).trans hq3
  have HS4 := Lib.hid hs4
  clear hs4 hn4 hq3 HS3
  go_wp2_with fail
  refine (HN.out 36525 (by omega) (by omega) _ _ HS4.out).mono ?_
  rintro e wa5 ⟨r5, rfl, r50, r51, hs5, hn5⟩
  have hq5 := (hn5.heap (b := w.heap.size) (by omega)).trans hq4
  have HS5 := Lib.hid hs5
  clear hs5 hn5 hq4 HS4
  have HM := Lib.hid (MkAt.start (M := ⟨1 + r1, r2, r3, r4, r5, 0, 0, [], [], 0, 0, [], []⟩) HS5.out hq5 hlt rfl (ok_first r10 r11 r20 r21 r30 r31 r40 r41 r50 r51))
  unfold msgCells strV at HM
  clear HS5 hq5 r10 r11 r20 r21 r30 r31 r40 r41 r50 r51
  go_upto_region 3 with fail
  generalize wa5.heap.size = B at *
  generalize wa5.alloc (.cells #[.int .i64 (1 + r1), .int .i64 r2, .int .i64 r3, .int .i64 r4, .int .i64 r5, .int .i64 0, .int .i64 0, .string ⟨#[]⟩, .string ⟨#[]⟩, .int .i64 0, .int .i64 0, .slice none 0 0, .string ⟨#[]⟩] 24) = W2 at *
  obtain ⟨M, hM0⟩ : ∃ M : Msg, M = ⟨1 + r1, r2, r3, r4, r5, 0, 0, [], [], 0, 0, [], []⟩ := ⟨_, rfl⟩
  have HL := Lib.hid (show M.list = [] from by rw [hM0])
  rw [← hM0] at HM
  clear hM0
  -- Lot and Other
  go_wp2_with fail
  refine (HN.out 3 (by omega) (by omega) _ _ HM.out.src).mono ?_
  rintro e wb ⟨q, rfl, q0, q1, hs, hn⟩
  have HM1 := Lib.hid (HM.out.since hs (Since.next hn))
  clear hs hn HM
  go_upto_if 25 with fail
  go_cut [5] (fun _ wx => ∃ (M : Msg) (vl : Value), Hid (M.list = []) ∧ Hid (MkAt W wx w.heap.size SB B M vl))
  case first =>
    by_cases hq : 0 < q
    · go_wp2_with fail
      refine (HN.out 1000000001 (by omega) (by omega) _ _ HM1.out.src).mono ?_
      rintro e wc1 ⟨x, rfl, x0, x1, hs, hn⟩
      have HM2 := Lib.hid (HM1.out.since hs (Since.next hn))
      clear hs hn HM1
      go_wp2_with fail
      refine (HN.out 2 (by omega) (by omega) _ _ HM2.out.src).mono ?_
      rintro e wd ⟨y, rfl, y0, y1, hs, hn⟩
      have HM3 := Lib.hid (HM2.out.since hs (Since.next hn))
      clear hs hn HM2
      have HM4 := Lib.hid (HM3.out.put 5 (.int .i64 x) (M1 := { M with lot := x }) rfl rfl (ok_lot1 HM3.out.ok x0 x1))
      have HM5 := Lib.hid (HM4.out.put 6 (.int .i64 y) (M1 := { M with lot := x, other := y }) rfl rfl (ok_other HM4.out.ok y0 y1))
      have c5 := HM3.out.cells.c5
      have f5 := HM3.out.free 5
      have c6 := HM4.out.cells.c6
      have f6 := HM4.out.free 6
      clear HM3 HM4
      go_wp2_with fail
      go_meet
      case rel => exact (by refine ⟨_, _, ?_, HM5⟩; exact HL)
    · go_wp2_with fail
      go_meet
      case rel => exact ⟨_, _, HL, HM1⟩
  case rest =>
    clear HM1 HL q0 q1
    obtain ⟨M, vl, HL, HM⟩ := hcut
    -- Code and Quantity
    go_wp2_with fail
    refine (HN.out 3 (by omega) (by omega) _ _ HM.out.src).mono ?_
    rintro e wb ⟨q, rfl, q0, q1, hs, hn⟩
    have HM1 := Lib.hid (HM.out.since hs (Since.next hn))
    clear hs hn HM
    go_upto_if 34 with fail
    go_cut [5] (fun _ wx => ∃ (M : Msg) (vl : Value), Hid (M.list = []) ∧ Hid (MkAt W wx w.heap.size SB B M vl))
    case first =>
      by_cases hq : 0 < q
      · go_wp2_with fail
        refine (HN.out 5 (by omega) (by omega) _ _ HM1.out.src).mono ?_
        rintro e wc1 ⟨x, rfl, x0, x1, hs, hn⟩
        have HM2 := Lib.hid (HM1.out.since hs (Since.next hn))
        obtain ⟨k, rfl⟩ : ∃ k : Nat, x = k := ⟨x.toNat, by omega⟩
        clear hs hn HM1 x0 hq q0 q1
        go_upto_if 38 with fail
        go_cut [5] (fun _ wx => ∃ (M : Msg) (vl : Value), Hid (M.list = []) ∧ Hid (MkAt W wx w.heap.size SB B M vl))
        case first =>
          by_cases hk : k = 0
          · subst hk
            go_wp2_with fail
            go_meet
            case rel => exact ⟨_, _, HL, HM2⟩
          · have hC := HCd.out k (by omega) (by omega) _ _ HM2.out.src
            rw [show ((2 * k : Nat) : Int) = 2 * (k : Int) by omega] at hC
            have HC := Lib.hid hC
            have hw2 : wrap64 (2 * (k : Int)) = 2 * (k : Int) := by unfold wrap64; omega
            have hkp : 0 < k := by omega
            clear hC hk
            go_wp2_with fail
            refine HC.out.mono ?_
            rintro e wd ⟨l, rfl, hl, hlc, hs, hn⟩
            have HM3 := Lib.hid (HM2.out.since hs hn)
            clear hs hn HM2 HC hl
            have HM4 := Lib.hid (HM3.out.put 7 (strV l) (M1 := { M with code := l }) rfl rfl (ok_code HM3.out.ok hlc))
            have c7 := HM3.out.cells.c7
            have f7 := HM3.out.free 7
            clear HM3 hlc
            unfold strV at HM4 ⊢
            go_wp2_with fail
            go_meet
            case rel => exact (by refine ⟨_, _, ?_, HM4⟩; exact HL)
        case rest =>
          clear HM2 HL
          obtain ⟨M, vl, HL, HM2⟩ := hcut
          go_wp2_with fail
          refine (HN.out 1000000001 (by omega) (by omega) _ _ HM2.out.src).mono ?_
          rintro e wd ⟨y, rfl, y0, y1, hs, hn⟩
          have HM3 := Lib.hid (HM2.out.since hs (Since.next hn))
          have HM4 := Lib.hid (HM3.out.put 9 (.int .i64 y) (M1 := { M with qty := y }) rfl rfl (ok_qty HM3.out.ok y0 y1))
          have c9 := HM3.out.cells.c9
          have f9 := HM3.out.free 9
          clear hs hn HM2 HM3
          go_wp2_with fail
          go_meet
          case rel => exact (by refine ⟨_, _, ?_, HM4⟩; exact HL)
      · go_wp2_with fail
        go_meet
        case rel => exact ⟨_, _, HL, HM1⟩
    case rest =>
      clear HM1 HL q0 q1
      obtain ⟨M, vl, HL, HM⟩ := hcut
      -- Country and Amount
      go_wp2_with fail
      refine (HN.out 3 (by omega) (by omega) _ _ HM.out.src).mono ?_
      rintro e wb ⟨q, rfl, q0, q1, hs, hn⟩
      have HM1 := Lib.hid (HM.out.since hs (Since.next hn))
      clear hs hn HM
      go_upto_if 49 with fail
      go_cut [5] (fun _ wx => ∃ (M : Msg) (vl : Value), Hid (M.list = []) ∧ Hid (MkAt W wx w.heap.size SB B M vl))
      case first =>
        by_cases hq : 0 < q
        · go_wp2_with fail
          refine (HCy.out _ _ HM1.out.src).mono ?_
          rintro e wc1 ⟨l, rfl, hlc, hs, hn⟩
          have HM2 := Lib.hid (HM1.out.since hs hn)
          have HM3 := Lib.hid (HM2.out.put 8 (strV l) (M1 := { M with ctry := l }) rfl rfl (ok_ctry HM2.out.ok hlc))
          have c8 := HM2.out.cells.c8
          have f8 := HM2.out.free 8
          clear hs hn HM1 HM2 hlc
          unfold strV at HM3 ⊢
          go_wp2_with fail
          refine (HN.out 2000000000001 (by omega) (by omega) _ _ HM3.out.src).mono ?_
          rintro e wd ⟨y, rfl, y0, y1, hs, hn⟩
          have HM4 := Lib.hid (HM3.out.since hs (Since.next hn))
          have HM5 := Lib.hid (HM4.out.put 10 (.int .i64 (y - 1000000000000)) (M1 := { M with ctry := l, amt := y - 1000000000000 }) rfl rfl (ok_amt HM4.out.ok (by omega) (by omega)))
          have hw2 : wrap64 (y - 1000000000000) = y - 1000000000000 := by unfold wrap64; omega
          have c10 := HM4.out.cells.c10
          have f10 := HM4.out.free 10
          clear hs hn HM3 HM4 y0 y1 hq q0 q1
          go_wp2_with fail
          go_meet
          case rel => exact (by refine ⟨_, _, ?_, HM5⟩; exact HL)
        · go_wp2_with fail
          go_meet
          case rel => exact ⟨_, _, HL, HM1⟩
      case rest =>
        clear HM1 HL q0 q1
        obtain ⟨M, vl, HL, HM⟩ := hcut
        -- List
        go_wp2_with fail
        refine (HN.out 6 (by omega) (by omega) _ _ HM.out.src).mono ?_
        rintro e wb ⟨q, rfl, q0, q1, hs, hn⟩
        have HM1 := Lib.hid (HM.out.since hs (Since.next hn))
        obtain ⟨jj, rfl⟩ : ∃ k : Nat, q = k := ⟨q.toNat, by omega⟩
        clear hs hn HM
        go_wp2_with fail
        go_loopw [6] (fun vi wx => ∃ (j : Nat) (M : Msg) (vl : Value) (k : Nat), vi = .int .i64 j ∧ j ≤ 5 ∧ k + j ≤ 5 ∧ Hid (M.list.length = k) ∧ Hid (MkAt W wx w.heap.size SB B M vl)) (fun vi _ => (intOf vi).toNat)
        case atStart => exact ⟨jj, _, _, 0, by go_num, by omega, by omega, Lib.hid (by rw [HL.out]; rfl), HM1⟩
        case round =>
          clear HL HM1 q0 q1
          obtain ⟨j, M, vl, k, rfl, hj5, hkj, HK, HM⟩ := hrel
          cases j with
          | zero =>
            have e0 : ((0 : Nat) : Int) = 0 := rfl
            rw [e0]
            clear e0
            go_wp2_with fail
            -- Text
            refine (HN.out 3 (by omega) (by omega) _ _ HM.out.src).mono ?_
            rintro e wb ⟨q, rfl, q0, q1, hs, hn⟩
            have HM1 := Lib.hid (HM.out.since hs (Since.next hn))
            clear hs hn HM
            go_upto_if 73 with fail
            go_cut [5] (fun _ wx => ∃ (M : Msg) (vl : Value), Hid (MkAt W wx w.heap.size SB B M vl))
            case first =>
              by_cases hq : 0 < q
              · go_wp2_with fail
                refine (HTx.out _ _ HM1.out.src).mono ?_
                rintro e wc1 ⟨l1, rfl, hl1, hs, hn⟩
                have HM2 := Lib.hid (HM1.out.since hs hn)
                clear hs hn HM1
                go_wp2_with fail
                refine (HTx.out _ _ HM2.out.src).mono ?_
                rintro e wd ⟨l2, rfl, hl2, hs, hn⟩
                have HM3 := Lib.hid (HM2.out.since hs hn)
                have HM4 := Lib.hid (HM3.out.put 12 (.string ⟨(l1 ++ l2).toArray⟩) (M1 := { M with text := l1 ++ l2 }) rfl rfl (ok_text HM3.out.ok (by rw [List.length_append]; omega)))
                have hcat := cat_text l1 l2
                have c12 := HM3.out.cells.c12
                have f12 := HM3.out.free 12
                have hsum : l1.length + l2.length ≤ 9223372036854775807 := by omega
                clear hs hn HM2 HM3 hl1 hl2
                unfold strV
                go_wp2_with fail
                go_meet
                case rel => exact ⟨_, _, HM4⟩
              · go_wp2_with fail
                go_meet
                case rel => exact ⟨_, _, HM1⟩
            case rest =>
              clear HM1 HK
              obtain ⟨M, vl, HM⟩ := hcut
              obtain ⟨c0, c1, c2, c3, c4, c5, c6, c7, c8, c9, c10, c11, c12⟩ := HM.out.cells
              obtain ⟨vo, vc, rfl⟩ := row_form HM.out.row
              obtain ⟨n0, n1, n2, n3, n4, n5, n6, n7, n8, n9, n10, n11, n12⟩ := NoAt.of HM.out.res
              have fr := fun j => NoAt.free HM.out.res j
              clear q0 q1 hlt hw1
              go_wp2_with fail
              obtain ⟨W9, hW9, hbox, hk, hbw⟩ := msg_stored M (.slice vo M.list.length vc) HM.out.res
              unfold strV at *
              rw [← hW9]
              obtain ⟨d0, d1, d2, d3, d4, d5, d6, d7, d8, d9, d10, d11, d12⟩ := MsgAt.of hbox
              have hlt2 := HM.out.lt
              have hltB := HM.out.ltB
              have hfin : NumsIn (fun b => w.heap.size ≤ b ∧ b < W9.heap.size) W9 (.slice vo M.list.length vc) M.list := (CellsIn.own HM.out.row).keep fun b hb => ⟨⟨by have := hb.1; have := HM.out.lt; have := HM.out.ltB; omega, Nat.lt_of_lt_of_le hb.2.1 (hbw 0 (Nat.zero_le _)).size⟩, hk b (by have := hb.1; omega)⟩
              have hbel : Below w.heap.size w W9 := (HB0.out.trans (HM.out.src.below.mono HB0.out.size)).trans (hbw _ (Nat.le_refl _))
              clear hW9 hbox hk hbw c0 c1 c2 c3 c4 c5 c6 c7 c8 c9 c10 c11 c12 n0 n1 n2 n3 n4 n5 n6 n7 n8 n9 n10 n11 n12 fr
              have hok := HM.out.ok
              simp [bodyPost, results, Tryd.results13, go_sem, d0, d1, d2, d3, d4, d5, d6, d7, d8, d9, d10, d11, d12]
              exact ⟨M, _, rfl, hok, hfin, hbel⟩
          | succ j =>
            have e0 : ((j + 1 : Nat) : Int) = (j : Int) + 1 := by omega
            rw [e0]
            clear e0
            have d0 : (0 : Int) < (j : Int) + 1 := by omega
            have hw1 : wrap64 ((j : Int) + 1 - 1) = (j : Int) := by unfold wrap64; omega
            obtain ⟨vo, vc, rfl⟩ := row_form HM.out.row
            obtain ⟨i2, hk, hx0, hx1, hx2⟩ := info_parts info_int
            rw [HK.out] at HM
            go_upto_region 16 with fail
            refine wp_region_noPanic ?_
            refine wp_region_held_drew (S := fun _ => True) (by kernel_rfl) trivial (fun hHeld => ?_)
            clear hHeld
            have HM1 := Lib.hid (HM.out.since (w1 := wr.drew) (HM.out.src.drewN 1) ((Since.refl SB wr).drewN 1))
            have c11 := HM1.out.cells.c11
            clear HM
            refine wpAnyH_take (i := 0) (v := ?_) rfl (by kernel_rfl) (by kernel_rfl) (by kernel_rfl) (fun _ _ _ h => h) (Or.inl ⟨by rfl, ?_⟩) trivial ?_
            rotate_left
            · intro wS hSw
              go_simp <;> with_reducible rfl
            try simp only [Act.put, List.getElem_toArray, List.getElem_cons_zero, List.setIfInBounds_toArray, List.set_cons_zero, List.set_cons_succ]
            refine wpAnyH_take (i := 2) (v := ?_) rfl (by kernel_rfl) (by kernel_rfl) (by kernel_rfl) (fun _ _ _ h => h) (Or.inl ⟨by rfl, ?_⟩) trivial ?_
            rotate_left
            · intro wS hSw
              go_simp <;> with_reducible rfl
            try simp only [Act.put, List.getElem_toArray, List.getElem_cons_succ, List.getElem_cons_zero, List.setIfInBounds_toArray, List.set_cons_zero, List.set_cons_succ]
            refine wpAnyH_ready (rs := [1, 3]) (by kernel_rfl) (by simp) ?_
            refine AllReadyH.cons rfl (fun K hK => ?_) (AllReadyH.cons rfl (fun K hK => ?_) AllReadyH.nil)
            · go_simp
              refine hK.out _ _ trivial (fun hHeld => ?_)
              clear hK K hHeld
              try simp only [Act.put, List.getElem_toArray, List.getElem_cons_succ, List.getElem_cons_zero, List.setIfInBounds_toArray, List.set_cons_zero, List.set_cons_succ]
              refine wpAnyH_ready (rs := [3]) (by kernel_rfl) (by simp) ?_
              refine AllReadyH.cons rfl (fun K hK => ?_) AllReadyH.nil
              go_simp
              refine (HN.out 2000000000001 (by omega) (by omega) _ _ HM1.out.src).mono ?_
              rintro e wA ⟨q, rfl, q0, q1, hs, hn⟩
              have HM2 := Lib.hid (HM1.out.since hs (Since.next hn))
              have hw2 : wrap64 (q - 1000000000000) = q - 1000000000000 := by unfold wrap64; omega
              have hw3 : IntKind.i64.wrap (q - 1000000000000) = q - 1000000000000 := by rw [IntKind.wrap_i64]; omega
              clear hs hn HM1 c11
              have c11 := HM2.out.cells.c11
              try go_wp2_with fail
              refine hK.out _ _ trivial (fun hHeld => ?_)
              clear hK K hHeld
              try simp only [Act.put, List.getElem_toArray, List.getElem_cons_succ, List.getElem_cons_zero, List.setIfInBounds_toArray, List.set_cons_zero, List.set_cons_succ]
              refine wpAnyH_take (i := 4) (v := ?_) rfl (by kernel_rfl) (by kernel_rfl) (by kernel_rfl) (fun _ _ _ h => h) (Or.inl ⟨by rfl, ?_⟩) trivial ?_
              rotate_left
              · intro wS hSw
                go_simp <;> with_reducible rfl
              try simp only [Act.put, List.getElem_toArray, List.getElem_cons_succ, List.getElem_cons_zero, List.setIfInBounds_toArray, List.set_cons_zero, List.set_cons_succ]
              refine wpAnyH_ready (rs := [5]) (by kernel_rfl) (by simp) ?_
              refine AllReadyH.cons rfl (fun K hK => ?_) AllReadyH.nil
              go_simp
              have HM3 := Lib.hid (HM2.out.since (HM2.out.src.alloc (.cells #[.int .i64 (q - 1000000000000)] 3)) ((Since.refl SB wA).alloc (.cells #[.int .i64 (q - 1000000000000)] 3)))
              clear HM2 c11
              have c11 := HM3.out.cells.c11
              refine hK.out _ _ trivial (fun hHeld => ?_)
              clear hK K hHeld
              try simp only [Act.put, List.getElem_toArray, List.getElem_cons_succ, List.getElem_cons_zero, List.setIfInBounds_toArray, List.set_cons_zero, List.set_cons_succ]
              refine wpAnyH_ready (rs := [6]) (by kernel_rfl) (by simp) ?_
              refine AllReadyH.cons rfl (fun K hK => ?_) AllReadyH.nil
              have hnn := int_news wA (q - 1000000000000) 3
              refine step_append_own rfl (.tmp 64) (.tmp 68) 22 rfl (B + 1) 3 i2 _ 1 8 Tryd.underlying22 hk hx0 hx1 hx2 rfl (by decide) _ _ _ rfl (by have h := HM3.out.row; rw [HK.out] at h; exact h) (by have := HM3.out.size; omega) (some ⟨wA.heap.size, 0, none⟩) 1 1 [.int .i64 (q - 1000000000000)] rfl rfl (fun h => by cases h) (fun ad had => by cases had; exact hnn) (by intro u hu; simp at hu; rw [hu]; rfl) (by unfold maxLen; omega) (by omega) ?_
              intro v1 w6 own1 grow1
              obtain ⟨z1, z2⟩ := HM3.out.mid grow1
              have HP := Lib.hid (HM3.out.push (a := q - 1000000000000) (by rw [HK.out]; exact own1) grow1 (ok_push HM3.out.ok (by have := HK.out; omega) (by omega) (by omega)))
              obtain ⟨so, sc, rfl⟩ := row_form own1
              clear own1 grow1 hnn HM3 c11
              refine hK.out _ _ trivial (fun hHeld => ?_)
              clear hK K hHeld
              try simp only [Act.put, List.getElem_toArray, List.getElem_cons_succ, List.getElem_cons_zero, List.setIfInBounds_toArray, List.set_cons_zero, List.set_cons_succ]
              refine wpAnyH_take (i := 7) (v := ?_) rfl (by kernel_rfl) (by kernel_rfl) (by kernel_rfl) (fun _ _ _ h => h) (Or.inl ⟨by rfl, ?_⟩) trivial ?_
              rotate_left
              · intro wS hSw
                go_simp <;> with_reducible rfl
              try simp only [Act.put, List.getElem_toArray, List.getElem_cons_succ, List.getElem_cons_zero, List.setIfInBounds_toArray, List.set_cons_zero, List.set_cons_succ]
              refine wpAnyH_ready (rs := [8]) (by kernel_rfl) (by simp) ?_
              refine AllReadyH.cons rfl (fun K hK => ?_) AllReadyH.nil
              go_simp
              refine hK.out _ _ trivial (fun hHeld => ?_)
              clear hK K hHeld
              try simp only [Act.put, List.getElem_toArray, List.getElem_cons_succ, List.getElem_cons_zero, List.setIfInBounds_toArray, List.set_cons_zero, List.set_cons_succ]
              refine wpAnyH_done (by kernel_rfl) ?_ _
              refine NoPanic.normal ?_
              have hlen2 := Lib.hid (show ({ M with list := M.list ++ [q - 1000000000000] } : Msg).list.length = k + 1 from by show (M.list ++ [_]).length = _; rw [List.length_append, HK.out]; rfl)
              go_wp2_with fail
              go_roundw
              case rel => exact ⟨j, _, _, k + 1, by go_num, by omega, by omega, hlen2, HP⟩
              case measure => simp [intOf]
            · go_simp
              refine (HN.out 2000000000001 (by omega) (by omega) _ _ HM1.out.src).mono ?_
              rintro e wA ⟨q, rfl, q0, q1, hs, hn⟩
              have HM2 := Lib.hid (HM1.out.since hs (Since.next hn))
              have hw2 : wrap64 (q - 1000000000000) = q - 1000000000000 := by unfold wrap64; omega
              have hw3 : IntKind.i64.wrap (q - 1000000000000) = q - 1000000000000 := by rw [IntKind.wrap_i64]; omega
              clear hs hn HM1 c11
              have c11 := HM2.out.cells.c11
              try go_wp2_with fail
              refine hK.out _ _ trivial (fun hHeld => ?_)
              clear hK K hHeld
              try simp only [Act.put, List.getElem_toArray, List.getElem_cons_succ, List.getElem_cons_zero, List.setIfInBounds_toArray, List.set_cons_zero, List.set_cons_succ]
              refine wpAnyH_take (i := 4) (v := ?_) rfl (by kernel_rfl) (by kernel_rfl) (by kernel_rfl) (fun _ _ _ h => h) (Or.inl ⟨by rfl, ?_⟩) trivial ?_
              rotate_left
              · intro wS hSw
                go_simp <;> with_reducible rfl
              try simp only [Act.put, List.getElem_toArray, List.getElem_cons_succ, List.getElem_cons_zero, List.setIfInBounds_toArray, List.set_cons_zero, List.set_cons_succ]
              refine wpAnyH_ready (rs := [1, 5]) (by kernel_rfl) (by simp) ?_
              refine AllReadyH.cons rfl (fun K hK => ?_) (AllReadyH.cons rfl (fun K hK => ?_) AllReadyH.nil)
              · go_simp
                refine hK.out _ _ trivial (fun hHeld => ?_)
                clear hK K hHeld
                try simp only [Act.put, List.getElem_toArray, List.getElem_cons_succ, List.getElem_cons_zero, List.setIfInBounds_toArray, List.set_cons_zero, List.set_cons_succ]
                refine wpAnyH_ready (rs := [5]) (by kernel_rfl) (by simp) ?_
                refine AllReadyH.cons rfl (fun K hK => ?_) AllReadyH.nil
                go_simp
                have HM3 := Lib.hid (HM2.out.since (HM2.out.src.alloc (.cells #[.int .i64 (q - 1000000000000)] 3)) ((Since.refl SB wA).alloc (.cells #[.int .i64 (q - 1000000000000)] 3)))
                clear HM2 c11
                have c11 := HM3.out.cells.c11
                refine hK.out _ _ trivial (fun hHeld => ?_)
                clear hK K hHeld
                try simp only [Act.put, List.getElem_toArray, List.getElem_cons_succ, List.getElem_cons_zero, List.setIfInBounds_toArray, List.set_cons_zero, List.set_cons_succ]
                refine wpAnyH_ready (rs := [6]) (by kernel_rfl) (by simp) ?_
                refine AllReadyH.cons rfl (fun K hK => ?_) AllReadyH.nil
                have hnn := int_news wA (q - 1000000000000) 3
                refine step_append_own rfl (.tmp 64) (.tmp 68) 22 rfl (B + 1) 3 i2 _ 1 8 Tryd.underlying22 hk hx0 hx1 hx2 rfl (by decide) _ _ _ rfl (by have h := HM3.out.row; rw [HK.out] at h; exact h) (by have := HM3.out.size; omega) (some ⟨wA.heap.size, 0, none⟩) 1 1 [.int .i64 (q - 1000000000000)] rfl rfl (fun h => by cases h) (fun ad had => by cases had; exact hnn) (by intro u hu; simp at hu; rw [hu]; rfl) (by unfold maxLen; omega) (by omega) ?_
                intro v1 w6 own1 grow1
                obtain ⟨z1, z2⟩ := HM3.out.mid grow1
                have HP := Lib.hid (HM3.out.push (a := q - 1000000000000) (by rw [HK.out]; exact own1) grow1 (ok_push HM3.out.ok (by have := HK.out; omega) (by omega) (by omega)))
                obtain ⟨so, sc, rfl⟩ := row_form own1
                clear own1 grow1 hnn HM3 c11
                refine hK.out _ _ trivial (fun hHeld => ?_)
                clear hK K hHeld
                try simp only [Act.put, List.getElem_toArray, List.getElem_cons_succ, List.getElem_cons_zero, List.setIfInBounds_toArray, List.set_cons_zero, List.set_cons_succ]
                refine wpAnyH_take (i := 7) (v := ?_) rfl (by kernel_rfl) (by kernel_rfl) (by kernel_rfl) (fun _ _ _ h => h) (Or.inl ⟨by rfl, ?_⟩) trivial ?_
                rotate_left
                · intro wS hSw
                  go_simp <;> with_reducible rfl
                try simp only [Act.put, List.getElem_toArray, List.getElem_cons_succ, List.getElem_cons_zero, List.setIfInBounds_toArray, List.set_cons_zero, List.set_cons_succ]
                refine wpAnyH_ready (rs := [8]) (by kernel_rfl) (by simp) ?_
                refine AllReadyH.cons rfl (fun K hK => ?_) AllReadyH.nil
                go_simp
                refine hK.out _ _ trivial (fun hHeld => ?_)
                clear hK K hHeld
                try simp only [Act.put, List.getElem_toArray, List.getElem_cons_succ, List.getElem_cons_zero, List.setIfInBounds_toArray, List.set_cons_zero, List.set_cons_succ]
                refine wpAnyH_done (by kernel_rfl) ?_ _
                refine NoPanic.normal ?_
                have hlen2 := Lib.hid (show ({ M with list := M.list ++ [q - 1000000000000] } : Msg).list.length = k + 1 from by show (M.list ++ [_]).length = _; rw [List.length_append, HK.out]; rfl)
                go_wp2_with fail
                go_roundw
                case rel => exact ⟨j, _, _, k + 1, by go_num, by omega, by omega, hlen2, HP⟩
                case measure => simp [intOf]
              · go_simp
                have HM3 := Lib.hid (HM2.out.since (HM2.out.src.alloc (.cells #[.int .i64 (q - 1000000000000)] 3)) ((Since.refl SB wA).alloc (.cells #[.int .i64 (q - 1000000000000)] 3)))
                clear HM2 c11
                have c11 := HM3.out.cells.c11
                refine hK.out _ _ trivial (fun hHeld => ?_)
                clear hK K hHeld
                try simp only [Act.put, List.getElem_toArray, List.getElem_cons_succ, List.getElem_cons_zero, List.setIfInBounds_toArray, List.set_cons_zero, List.set_cons_succ]
                refine wpAnyH_ready (rs := [1]) (by kernel_rfl) (by simp) ?_
                refine AllReadyH.cons rfl (fun K hK => ?_) AllReadyH.nil
                go_simp
                refine hK.out _ _ trivial (fun hHeld => ?_)
                clear hK K hHeld
                try simp only [Act.put, List.getElem_toArray, List.getElem_cons_succ, List.getElem_cons_zero, List.setIfInBounds_toArray, List.set_cons_zero, List.set_cons_succ]
                refine wpAnyH_ready (rs := [6]) (by kernel_rfl) (by simp) ?_
                refine AllReadyH.cons rfl (fun K hK => ?_) AllReadyH.nil
                have hnn := int_news wA (q - 1000000000000) 3
                refine step_append_own rfl (.tmp 64) (.tmp 68) 22 rfl (B + 1) 3 i2 _ 1 8 Tryd.underlying22 hk hx0 hx1 hx2 rfl (by decide) _ _ _ rfl (by have h := HM3.out.row; rw [HK.out] at h; exact h) (by have := HM3.out.size; omega) (some ⟨wA.heap.size, 0, none⟩) 1 1 [.int .i64 (q - 1000000000000)] rfl rfl (fun h => by cases h) (fun ad had => by cases had; exact hnn) (by intro u hu; simp at hu; rw [hu]; rfl) (by unfold maxLen; omega) (by omega) ?_
                intro v1 w6 own1 grow1
                obtain ⟨z1, z2⟩ := HM3.out.mid grow1
                have HP := Lib.hid (HM3.out.push (a := q - 1000000000000) (by rw [HK.out]; exact own1) grow1 (ok_push HM3.out.ok (by have := HK.out; omega) (by omega) (by omega)))
                obtain ⟨so, sc, rfl⟩ := row_form own1
                clear own1 grow1 hnn HM3 c11
                refine hK.out _ _ trivial (fun hHeld => ?_)
                clear hK K hHeld
                try simp only [Act.put, List.getElem_toArray, List.getElem_cons_succ, List.getElem_cons_zero, List.setIfInBounds_toArray, List.set_cons_zero, List.set_cons_succ]
                refine wpAnyH_take (i := 7) (v := ?_) rfl (by kernel_rfl) (by kernel_rfl) (by kernel_rfl) (fun _ _ _ h => h) (Or.inl ⟨by rfl, ?_⟩) trivial ?_
                rotate_left
                · intro wS hSw
                  go_simp <;> with_reducible rfl
                try simp only [Act.put, List.getElem_toArray, List.getElem_cons_succ, List.getElem_cons_zero, List.setIfInBounds_toArray, List.set_cons_zero, List.set_cons_succ]
                refine wpAnyH_ready (rs := [8]) (by kernel_rfl) (by simp) ?_
                refine AllReadyH.cons rfl (fun K hK => ?_) AllReadyH.nil
                go_simp
                refine hK.out _ _ trivial (fun hHeld => ?_)
                clear hK K hHeld
                try simp only [Act.put, List.getElem_toArray, List.getElem_cons_succ, List.getElem_cons_zero, List.setIfInBounds_toArray, List.set_cons_zero, List.set_cons_succ]
                refine wpAnyH_done (by kernel_rfl) ?_ _
                refine NoPanic.normal ?_
                have hlen2 := Lib.hid (show ({ M with list := M.list ++ [q - 1000000000000] } : Msg).list.length = k + 1 from by show (M.list ++ [_]).length = _; rw [List.length_append, HK.out]; rfl)
                go_wp2_with fail
                go_roundw
                case rel => exact ⟨j, _, _, k + 1, by go_num, by omega, by omega, hlen2, HP⟩
                case measure => simp [intOf]
theorem madeMessage_any (v : Value) (n : Nat) (f : Nat → Int) (w : World) (h : ListAt w .i64 v n f) :
    Calls Tryd.prog 13 #[v] w fun e w' => ∃ (M : Msg) (vl : Value), e = .returned (msgV M vl) ∧ msgE M = 0 ∧ NumsIn (Has_ w') w' vl M.list ∧ Below w.heap.size w w' := by
  refine (madeMessage_new v n f w h).mono ?_
  rintro e w' ⟨M, vl, h1, h2, h3, h4⟩
  exact ⟨M, vl, h1, h2, h3.keep fun b hb => ⟨hb.2, rfl⟩, h4⟩
end Go.Proofs.YtepkihoakagidaaDoor
