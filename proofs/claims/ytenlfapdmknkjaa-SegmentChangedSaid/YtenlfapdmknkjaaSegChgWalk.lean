/- The walk through SegmentChanged. Condition: the lists' and the bytes' cells are known. -/
import Derived.Test.YtenlfapdmknkjaaSegChg
import Derived.Test.YtenlfapdmknkjaaSegMade2
import Derived.Test.YtenlfapdmknkjaaWithin
import Derived.Deep.DeepCutAuto
namespace Go.Proofs.Ytenlfapdmknkjaa
open Go.RowKit

/-- The bytes while they are changed. -/
structure ChgAt (w wx : World) (u : Value) (m : Nat) : Prop where
  below : Below w.heap.size w wx
  row : ∃ l : List UInt8, l.length = m ∧ ByteRow wx w.heap.size 5 u l

set_option maxRecDepth 100000 in
set_option maxHeartbeats 6400000 in
theorem segmentChanged_walk (v : Value) (n : Nat) (f : Nat → Int) (va : Value) (na : Nat) (fa : Nat → Int) (vb : Value) (B : List UInt8) (cut : Int) (w : World) (h : ListAt w .i64 v n f) (ha : ListAt w .i64 va na fa) (hB : BytesIn (Has_ w) w vb B) :
    Calls Try.prog 7 #[v, va, vb, .int .i64 cut] w fun e w' => e = .returned (.bool true) ∧ Below w.heap.size w w' := by
  have HR := Lib.hid (fun v L w h hn => refEncode_any v L w h hn)
  have HD := Lib.hid (fun v b w h hb => segDecode_any v b w h hb)
  have HDr := Lib.hid (fun v b w h hb => refDecode_any v b w h hb)
  have HS := Lib.hid (fun v1 v2 L w h1 h2 => refSame_any v1 v2 L w h1 h2)
  have HA := Lib.hid (fun w => awake6_any w)
  have HW := Lib.hid (fun x n w h1 h2 => madeWithin_any x n h1 h2 w)
  have HM := Lib.hid (madeSegments_any v n f w h)
  obtain ⟨bo, bc, rfl, hbl, hbc⟩ := hB.slice
  have hBl : B.length ≤ maxLen := Nat.le_trans hbl hbc
  obtain ⟨ao, ac, rfl, hal, hac⟩ : ∃ ao ac, va = .slice ao na ac ∧ na ≤ maxLen ∧ ∀ i, i < na → ∃ a, ao = some a ∧ w.cell? (a.add i) = some (.int .i64 (fa i)) := by
    rcases ha with ⟨h1, h2⟩ | ⟨a, cap, h1, h2, h3, h4⟩
    · exact ⟨none, 0, by rw [h1, h2], by omega, fun i hi => by omega⟩
    · exact ⟨some a, cap, h1, Nat.le_trans h2 h3, fun i hi => ⟨a, rfl, (h4 i hi).1⟩⟩
  have hBC := Lib.hid (fun i (hi : i < B.length) => show ∃ a, bo = some a ∧ w.cell? (a.add i) = some (byteV (B[i]'hi)) from by
    obtain ⟨_, ⟨h1, h2⟩ | ⟨a, cap2, h2, _, _, _, h5⟩⟩ := hB
    · omega
    · injection h2 with e1
      exact ⟨a, e1, h5 i _ (by rw [List.getElem?_map, List.getElem?_eq_getElem hi]; rfl)⟩)
  have hAC := Lib.hid hac
  clear h ha hB hac
  go_enter Try.func7, Try.ntmps7
  go_wp2_with fail
  refine HM.out.mono ?_
  rintro e w1 ⟨vs, L, rfl, hL12, hval, hV, hb1⟩
  obtain ⟨e1, _⟩ := encode_dec hval
  have hsm := flat_small hval (by omega)
  generalize L.flatMap encS = fl at *
  go_wp2_with fail
  have HR1 := HR.out _ L _ hV (by omega)
  rw [e1] at HR1
  refine HR1.mono ?_
  rintro e w2 ⟨u, rfl, hu, hb2⟩
  have HC := Lib.hid (⟨below_next hb1 hb2, fl, rfl, hu.base hb1.size⟩ : ChgAt w w2 u fl.length)
  obtain ⟨uo, uc, rfl, hmuc, _⟩ := hu.bytes.slice
  clear HM HR HR1 hV hu hb1 hb2 e1 hval
  dsimp only at *
  generalize fl.length = m at *
  go_wp2_with fail
  go_loopw [11] (fun vi wx => ∃ i : Nat, vi = .int .i64 i ∧ i ≤ 3 ∧ Hid (ChgAt w wx (.slice uo m uc) m)) (fun vi _ => 3 - (intOf vi).toNat)
  case atStart => exact ⟨0, by go_num, by omega, HC⟩
  case round =>
    clear HC
    obtain ⟨i, rfl, hi, HC⟩ := hrel
    by_cases hin : i < na ∧ i < B.length ∧ i < 3 ∧ 0 < m
    · obtain ⟨t1, t2, t3, t4⟩ := hin
      have d1 : decide ((i : Int) < (na : Int)) = true := decide_eq_true (by omega)
      have d2 : decide ((i : Int) < (B.length : Int)) = true := decide_eq_true (by omega)
      have d3 : decide ((i : Int) < 3) = true := decide_eq_true (by omega)
      have d4 : decide ((0 : Int) < (m : Int)) = true := decide_eq_true (by omega)
      obtain ⟨l, hl, hrow⟩ := HC.out.row
      obtain ⟨g, gc, hg, hgb, hput⟩ := hrow.put (by omega)
      injection hg with hg1 hg2 hg3
      subst hg1 hg3
      obtain ⟨aa, rfl, ca⟩ := hAC.out i t1
      obtain ⟨ba, rfl, cb⟩ := hBC.out i t2
      have ca0 := ca
      have cb0 := cb
      have ca := cellAt HC.out.below ca
      have cb := cellAt HC.out.below cb
      have hk1 := Int.emod_nonneg (fa i) (show (m : Int) ≠ 0 by omega)
      have hk2 := Int.emod_lt_of_pos (fa i) (show 0 < (m : Int) by omega)
      have hW := Lib.hid (fun w => HW.out (fa i) (m : Int) w (by omega) (by omega))
      obtain ⟨k, hk⟩ : ∃ k : Nat, fa i % (m : Int) = k := ⟨(fa i % (m : Int)).toNat, by omega⟩
      rw [hk] at hk1 hk2 hW
      obtain ⟨⟨y, cg⟩, cf, hnew⟩ := hput k (by omega)
      have j1 : (i : Int) < (na : Int) := by omega
      have j2 : (0 : Int) ≤ (i : Int) := by omega
      have j3 : (i : Int) < (B.length : Int) := by omega
      have j4 : (k : Int) < (m : Int) := by omega
      have j5 : (0 : Int) ≤ (k : Int) := by omega
      have HN := Lib.hid (⟨HC.out.below.setCell (p := ⟨g, k, none⟩) hgb _, _, by rw [List.length_set]; exact hl, hnew (B[i]'t2)⟩ : ChgAt w (wr.setCell ⟨g, k, none⟩ (byteV (B[i]'t2))) (.slice (some ⟨g, 0, none⟩) m uc) m)
      clear hk hput hnew hrow hl hg2
      unfold byteV at cb HN
      generalize fa i = x at *
      have hpa : (aa.add i).block ≠ g := fun e => by
        have h1 := World.block_lt_of_cell? w _ ca0
        have h2 := e ▸ h1
        omega
      have hpb : (ba.add i).block ≠ g := fun e => by
        have h1 := World.block_lt_of_cell? w _ cb0
        have h2 := e ▸ h1
        omega
      clear ca0 cb0
      generalize hp1 : aa.add i = pa at *
      generalize hp2 : ba.add i = pb at *
      have hAf := Lib.hid (⟨(World.cell?_setCell_other wr _ _ _ (fun e => hpa (by rw [← e]))).trans ca, (World.cell?_setCell_other wr _ _ _ (fun e => hpb (by rw [← e]))).trans cb⟩ : (wr.setCell ⟨g, k, none⟩ (.int .u8 ((B[i]'t2).toNat : Int))).cell? pa = some (.int .i64 x) ∧ (wr.setCell ⟨g, k, none⟩ (.int .u8 ((B[i]'t2).toNat : Int))).cell? pb = some (.int .u8 ((B[i]'t2).toNat : Int)))
      clear hpa hpb
      go_wp2_with fail
      go_region_held3 (fun w' => w'.cell? pa = some (.int .i64 x) ∧ w'.cell? pb = some (.int .u8 ((B[i]'t2).toNat : Int)))
        (first
          | exact ⟨ca, cb⟩
          | exact hAf.out)
        (first
          | (go_at_call 15; refine (hW.out _).mono ?_; rintro e w' ⟨rfl, rfl⟩))
      all_goals
        have HN2 := Lib.hid (⟨HN.out.below.drew, HN.out.row⟩ : ChgAt w (wr.setCell ⟨g, k, none⟩ (.int .u8 ((B[i]'t2).toNat : Int))).drew (.slice (some ⟨g, 0, none⟩) m uc) m)
        clear HN hAf HC
        generalize (wr.setCell ⟨g, k, none⟩ (.int .u8 ((B[i]'t2).toNat : Int))).drew = w5 at *
        go_wp2_with fail
        go_roundw
        case rel => exact ⟨i + 1, by go_num, by omega, HN2⟩
        case measure => simp [intOf]; omega
    · clear hAC hBC
      obtain ⟨l, hl, hrow⟩ := HC.out.row
      have hw1 : IntKind.i64.wrap ((m : Int) + 1) = (m : Int) + 1 := by rw [IntKind.wrap_i64]; omega
      have hl9 : l.length ≤ 1000000000 := by omega
      have HB := Lib.hid hrow.bytes
      clear hrow
      go_wp2_with fail
      all_goals first
        | exact absurd (show i < na ∧ i < B.length ∧ i < 3 ∧ 0 < m from by omega) hin
        | (refine (HW.out _ ((m : Int) + 1) _ (by omega) (by omega)).mono ?_
           rintro e w6 ⟨rfl, rfl⟩
           have hk1 := Int.emod_nonneg (cut / 2) (show ((m : Int) + 1) ≠ 0 by omega)
           have hk2 := Int.emod_lt_of_pos (cut / 2) (show 0 < ((m : Int) + 1) by omega)
           obtain ⟨k, hk⟩ : ∃ k : Nat, cut / 2 % ((m : Int) + 1) = k := ⟨(cut / 2 % ((m : Int) + 1)).toNat, by omega⟩
           rw [hk] at hk1 hk2 ⊢
           have j1 : (0 : Int) ≤ (k : Int) := by omega
           have j2 : (k : Int) ≤ (m : Int) := by omega
           have j3 : (k : Int) ≤ (uc : Int) := by omega
           have HBf := Lib.hid (HB.out.firsts (n := k) (by omega))
           have hBf : (l.take k).length ≤ 1000000000 := by rw [List.length_take]; omega
           generalize l.take k = Bf at *
           clear hk hk1 hk2 HB hl hl9
           go_wp2_with fail
           have HD1 := Lib.hid (fun v w h => HD.out v Bf w h hBf)
           have HDr1 := Lib.hid (fun v w h => HDr.out v Bf w h hBf)
           generalize decodeF Bf = R at *
           obtain ⟨L2, n2, E2⟩ := R
           dsimp only at *
           refine (HD1.out _ _ HBf.out).mono ?_
           rintro e w7 ⟨x1, rfl, hx1, hb⟩
           have HB7 := Lib.hid (HBf.out.later hb)
           have hL7 := Lib.hid (below_next HC.out.below hb)
           have hX7 := Lib.hid hx1
           clear HBf hx1 hb HC HD HD1
           go_wp2_with fail
           refine (HDr1.out _ _ HB7.out).mono ?_
           rintro e w8 ⟨x2, rfl, hx2, hb⟩
           have hX8 := Lib.hid (hX7.out.later hb)
           have hY8 := Lib.hid hx2
           have hL8 := Lib.hid (below_next hL7.out hb)
           clear HB7 hx2 hb hL7 hX7 HDr HDr1
           go_wp2_with fail
           refine (HS.out _ _ L2 _ hX8.out hY8.out).mono ?_
           rintro e w9 ⟨rfl, hm⟩
           have hL9 := Lib.hid (below_next hL8.out (same_below hm))
           clear hX8 hY8 hL8 hm HS
           go_wp2_with fail
           refine (HA.out _).mono ?_
           rintro e wa ⟨rfl, hb⟩
           go_wp2_with fail
           go_ret
           exact ⟨rfl, below_next hL9.out hb⟩)
        | (have HBf := HB
           have hBf := hl9
           generalize l = Bf at *
           clear HB hl
           have HD1 := Lib.hid (fun v w h => HD.out v Bf w h hBf)
           have HDr1 := Lib.hid (fun v w h => HDr.out v Bf w h hBf)
           generalize decodeF Bf = R at *
           obtain ⟨L2, n2, E2⟩ := R
           dsimp only at *
           refine (HD1.out _ _ HBf.out).mono ?_
           rintro e w7 ⟨x1, rfl, hx1, hb⟩
           have HB7 := Lib.hid (HBf.out.later hb)
           have hL7 := Lib.hid (below_next HC.out.below hb)
           have hX7 := Lib.hid hx1
           clear HBf hx1 hb HC HD HD1
           go_wp2_with fail
           refine (HDr1.out _ _ HB7.out).mono ?_
           rintro e w8 ⟨x2, rfl, hx2, hb⟩
           have hX8 := Lib.hid (hX7.out.later hb)
           have hY8 := Lib.hid hx2
           have hL8 := Lib.hid (below_next hL7.out hb)
           clear HB7 hx2 hb hL7 hX7 HDr HDr1
           go_wp2_with fail
           refine (HS.out _ _ L2 _ hX8.out hY8.out).mono ?_
           rintro e w9 ⟨rfl, hm⟩
           have hL9 := Lib.hid (below_next hL8.out (same_below hm))
           clear hX8 hY8 hL8 hm HS
           go_wp2_with fail
           refine (HA.out _).mono ?_
           rintro e wa ⟨rfl, hb⟩
           go_wp2_with fail
           go_ret
           exact ⟨rfl, below_next hL9.out hb⟩)
end Go.Proofs.Ytenlfapdmknkjaa
