/-
  THE WALK OF THE LAW FilterModes.
-/
import Derived.Test.YtddgdhaioomnnaaFilterKit
import Derived.Test.YtddgdhaioomnnaaHeapA
namespace Go.Proofs.Ytddgdhaioomnnaa.Filter
open Go.ChangeShapes Go.WideShapes Go.ChangeAt Go.RowKit Mem
open Heap (Write)
open Sleep

def rA (n : Int) (A : Option Addr) (a : Nat) (c : Nat) (W : List Write) : RawS := ⟨n, 1, 0, A, a, c, W, none, 0, 0, []⟩
def rO (n : Int) (A : Option Addr) (a : Nat) (c : Nat) (W : List Write) : RawS := ⟨n, 2, 0, A, a, c, W, none, 0, 0, []⟩
def metB (W w : List Write) : Bool := w.any (fun x => W.any (fun y => x.cell == y.cell))
theorem lim_r {x : RawS} (h : x.n ≤ 24) (h2 : x.m = 0) : Lim [x] := Lim.one ⟨by omega, by omega⟩
set_option maxRecDepth 100000 in
set_option maxHeartbeats 16000000 in
theorem modes_walk (A D E : Option Addr) (n c m d p f : Nat) (W : List Write) (h : List Heap.Cell) (x : List Write) (who : Int) (w : World) (mn : n ≤ 9223372036854775807) (mm : m ≤ 9223372036854775807) (mp : p ≤ 9223372036854775807) (hr : Rd w 2 A n (Heap.ws W)) (hh : Rd w 2 D m (Heap.cs h)) (hx : Rd w 2 E p (Heap.ws x)) (h0 : 0 ≤ who) (h1 : who ≤ 255) :
    Calls Try.prog 5 #[.slice A n c, .slice D m d, .slice E p f, .int .u8 who] w (RetB w true) := by
  have RW := Lib.hid hr
  have HH := Lib.hid hh
  have RX := Lib.hid hx
  have HWL : Hid (W.length = n) := Lib.hid (by have := hr.1; rw [Heap.ws_len] at this; omega)
  have HXL : Hid (x.length = p) := Lib.hid (by have := hx.1; rw [Heap.ws_len] at this; omega)
  have bb := Lib.hid (Below.refl w.heap.size w)
  clear hr hh hx
  by_cases h_n : 24 < n
  · go_enter Try.func5, Try.ntmps5
    go_wp2_with fail
    refine (awake_any _).mono ?_
    rintro e wz ⟨rfl, bz⟩
    go_wp2
    go_ret
    exact ⟨rfl, bl_trans bb.out bz⟩
  have l_n : n ≤ 24 := by omega
  have d_n : decide ((24 : Int) < (n : Int)) = false := by simp; omega
  clear h_n
  by_cases h_m : 64 < m
  · go_enter Try.func5, Try.ntmps5
    go_wp2_with fail
    refine (awake_any _).mono ?_
    rintro e wz ⟨rfl, bz⟩
    go_wp2
    go_ret
    exact ⟨rfl, bl_trans bb.out bz⟩
  have l_m : m ≤ 64 := by omega
  have d_m : decide ((64 : Int) < (m : Int)) = false := by simp; omega
  clear h_m
  by_cases h_p : 40 < p
  · go_enter Try.func5, Try.ntmps5
    go_wp2_with fail
    refine (awake_any _).mono ?_
    rintro e wz ⟨rfl, bz⟩
    go_wp2
    go_ret
    exact ⟨rfl, bl_trans bb.out bz⟩
  have l_p : p ≤ 40 := by omega
  have d_p : decide ((40 : Int) < (p : Int)) = false := by simp; omega
  clear h_p
  obtain ⟨w1, hw1⟩ : ∃ w1, w1 = w.alloc (.cells #[.int .i64 (1 + who % 8), .int .i64 1, .int .i64 0, .slice A n c, .slice none 0 0] 36) := ⟨_, rfl⟩
  obtain ⟨w2, hw2⟩ : ∃ w2, w2 = w1.alloc (.cells #[.int .i64 (1 + who % 8), .int .i64 2, .int .i64 0, .slice A n c, .slice none 0 0] 36) := ⟨_, rfl⟩
  have b_ : Below w.heap.size w w2 := by rw [hw2, hw1]; exact bl_alloc (bl_alloc (Below.refl _ _) _) _
  have SA : Hid (Sls w2 (some ⟨w.heap.size, 0, none⟩) 1 [rA (1 + who % 8) A n c W]) := Lib.hid ⟨by rw [hw2, hw1]; exact (Rd.built w 5 1 (ss [rA (1 + who % 8) A n c W]) _ rfl).alloc _, Inners.one ⟨RW.out.below b_, Rd.none_⟩⟩
  have SO : Hid (Sls w2 (some ⟨w.heap.size + 1, 0, none⟩) 1 [rO (1 + who % 8) A n c W]) := Lib.hid ⟨by rw [hw2]; exact Rd.builtAt w1 5 1 (ss [rO (1 + who % 8) A n c W]) _ rfl (by rw [hw1, World.size_alloc]), Inners.one ⟨RW.out.below b_, Rd.none_⟩⟩
  have MA : Hid (Lim [rA (1 + who % 8) A n c W]) := Lib.hid (lim_r l_n rfl)
  have MO : Hid (Lim [rO (1 + who % 8) A n c W]) := Lib.hid (lim_r l_n rfl)
  replace RW := Lib.hid (RW.out.below b_)
  replace HH := Lib.hid (HH.out.below b_)
  replace RX := Lib.hid (RX.out.below b_)
  replace bb := Lib.hid (bl_trans bb.out b_)
  clear b_
  obtain ⟨ra, hra⟩ : ∃ r, wokenS (cc [rA (1 + who % 8) A n c W]) h (x.map Write.cell) = r := ⟨_, rfl⟩
  obtain ⟨rb, hrb⟩ : ∃ r, wokenS (cc [rO (1 + who % 8) A n c W]) h (x.map Write.cell) = r := ⟨_, rfl⟩
  have hle : rb.length ≤ ra.length ∧ ra.length ≤ 1 := by rw [← hra, ← hrb]; exact modes_le (1 + who % 8) W h _
  have HME : Hid (metB W x = false → ra.length = 0) := Lib.hid (fun hm => by rw [← hra, show wokenS (cc [rA (1 + who % 8) A n c W]) h (x.map Write.cell) = [] from modes_met (1 + who % 8) W h x hm]; rfl)
  have HRA := Lib.hid hra
  have HRB := Lib.hid hrb
  clear hra hrb
  obtain ⟨qa, hqa⟩ : ∃ q, ra.length = q := ⟨_, rfl⟩
  obtain ⟨qb, hqb⟩ : ∃ q, rb.length = q := ⟨_, rfl⟩
  rw [hqa, hqb] at hle
  rw [hqa] at HME
  have HQA := Lib.hid hqa
  have HQB := Lib.hid hqb
  clear hqa hqb
  have da : decide (qb > qa) = false := by simp; omega
  have da2 : decide (qa < qb) = false := by simp; omega
  have db : decide ((1 : Int) < (qa : Int)) = false := by simp; omega
  go_enter Try.func5, Try.ntmps5
  go_wp2_with fail
  rw [← hw1, ← hw2]
  clear hw1 hw2
  generalize who % 8 = zz at *
  have C_ := Lib.hid (woken_c [rA (1 + zz) A n c W] h x (some ⟨w.heap.size, 0, none⟩) D E 1 1 m d p f w2 ra qa SA.out (by decide) MA.out HH.out (by omega) RX.out (by omega) HRA.out HQA.out)
  refine C_.out.mono ?_
  rintro e w3 ⟨va, rfl, oa⟩
  replace RW := Lib.hid (RW.out.below oa.2)
  replace HH := Lib.hid (HH.out.below oa.2)
  replace RX := Lib.hid (RX.out.below oa.2)
  replace SA := Lib.hid (SA.out.below oa.2)
  replace SO := Lib.hid (SO.out.below oa.2)
  replace bb := Lib.hid (bl_trans bb.out oa.2)
  obtain ⟨Ba, fa, rfl, -⟩ := oa.form
  clear oa
  clear C_
  have C_ := Lib.hid (woken_c [rO (1 + zz) A n c W] h x (some ⟨w.heap.size + 1, 0, none⟩) D E 1 1 m d p f w3 rb qb SO.out (by decide) MO.out HH.out (by omega) RX.out (by omega) HRB.out HQB.out)
  go_wp2_with fail
  refine C_.out.mono ?_
  rintro e w4 ⟨vb, rfl, ob⟩
  replace RW := Lib.hid (RW.out.below ob.2)
  replace HH := Lib.hid (HH.out.below ob.2)
  replace RX := Lib.hid (RX.out.below ob.2)
  replace SA := Lib.hid (SA.out.below ob.2)
  replace SO := Lib.hid (SO.out.below ob.2)
  replace bb := Lib.hid (bl_trans bb.out ob.2)
  obtain ⟨Bb, fb, rfl, -⟩ := ob.form
  clear ob
  clear C_
  go_wp2
  go_loopw [14, 67] (fun v i wr => ∃ (j : Nat) (met : Bool), j ≤ p ∧ v = .bool met ∧ i = .int .i64 j ∧ Hid (Below w4.heap.size w4 wr) ∧ Hid ((x.take j).any (fun a => W.any (fun b => a.cell == b.cell)) = met)) (fun _ i _ => p - (intOf i).toNat)
  case atStart => exact ⟨0, false, Nat.zero_le _, rfl, rfl, Lib.hid (Below.refl _ _), Lib.hid rfl⟩
  case round =>
    obtain ⟨j, met, hj, rfl, rfl, HB, HMET⟩ := hrel
    generalize wr = w5 at *
    by_cases hlt : j < p
    · obtain ⟨b1, off, ⟨cl, vl⟩, rfl, hy, c0, c1⟩ := Heap.at_write (RX.out.below HB.out) j hlt
      have HS := Lib.hid (take_any x (fun a => W.any (fun b => a.cell == b.cell)) j _ hy)
      clear hy
      have KB := Lib.hid (Blk.new w5 32 #[.int .i64 cl, .int .i64 vl])
      have HB6 := Lib.hid (bl_alloc HB.out (.cells #[.int .i64 cl, .int .i64 vl] 32))
      go_wp2_with fail
      clear c0 c1
      generalize w5.alloc (.cells #[.int .i64 cl, .int .i64 vl] 32) = w6 at *
      go_loopw [14, 73] (fun v i wr => ∃ (k : Nat) (mt : Bool), k ≤ n ∧ v = .bool mt ∧ i = .int .i64 k ∧ Hid (Below w6.heap.size w6 wr) ∧ Hid ((met || (W.take k).any (fun b => cl == b.cell)) = mt)) (fun _ i _ => n - (intOf i).toNat)
      case atStart => exact ⟨0, met, Nat.zero_le _, rfl, rfl, Lib.hid (Below.refl _ _), Lib.hid (by simp)⟩
      case round =>
        obtain ⟨k, mt, hk, rfl, rfl, HC, HMT⟩ := hrel
        generalize wr = w7 at *
        have HB7 := Lib.hid (bl_trans HB6.out HC.out)
        by_cases hlk : k < n
        · obtain ⟨b2, off2, ⟨cy, vy⟩, rfl, hz, d0, d1⟩ := Heap.at_write (RW.out.below HB7.out) k hlk
          have HT := Lib.hid (take_any W (fun b => cl == b.cell) k _ hz)
          clear hz
          have q0 := (KB.out.below HC.out).cell 0 _ rfl
          have q0' := ((KB.out.below HC.out).alloc (.cells #[.int .i64 cy, .int .i64 vy] 32)).cell 0 _ rfl
          have HC8 := Lib.hid (bl_alloc HC.out (.cells #[.int .i64 cy, .int .i64 vy] 32))
          cases mt
          · obtain ⟨e, he⟩ : ∃ e, (cl == cy) = e := ⟨_, rfl⟩
            have HN : Hid ((met || (W.take (k + 1)).any (fun b => cl == b.cell)) = e) := Lib.hid (by rw [HT.out, ← Bool.or_assoc, HMT.out, ← he]; rfl)
            go_wp2
            go_roundw
            case rel => exact ⟨k + 1, e, by omega, by first | rfl | simp [he], by go_num, HC8, HN⟩
            case measure => simp [intOf]; omega
          · have HN : Hid ((met || (W.take (k + 1)).any (fun b => cl == b.cell)) = true) := Lib.hid (by rw [HT.out, ← Bool.or_assoc, HMT.out]; rfl)
            go_wp2
            go_roundw
            case rel => exact ⟨k + 1, true, by omega, rfl, by go_num, HC8, HN⟩
            case measure => simp [intOf]; omega
        · have HN : Hid ((x.take (j + 1)).any (fun a => W.any (fun b => a.cell == b.cell)) = mt) := Lib.hid (by have h5 := HMT.out; rw [List.take_of_length_le (by rw [HWL.out]; omega)] at h5; rw [HS.out, HMET.out]; exact h5)
          go_wp2
          go_roundw
          case rel => exact ⟨j + 1, mt, by omega, rfl, by go_num, HB7, HN⟩
          case measure => simp [intOf]; omega
    · have HM : Hid (metB W x = met) := Lib.hid (by have h5 := HMET.out; rw [List.take_of_length_le (by rw [HXL.out]; omega)] at h5; exact h5)
      have b_ := HB.out
      replace RW := Lib.hid (RW.out.below b_)
      replace HH := Lib.hid (HH.out.below b_)
      replace RX := Lib.hid (RX.out.below b_)
      replace SA := Lib.hid (SA.out.below b_)
      replace SO := Lib.hid (SO.out.below b_)
      replace bb := Lib.hid (bl_trans bb.out b_)
      clear b_
      obtain rfl : j = p := by omega
      clear hlt
      obtain ⟨⟨G, e⟩, hp⟩ : ∃ r, Heap.putS h W = r := ⟨_, rfl⟩
      have HP := Lib.hid hp
      have HGL : Hid (G.length = h.length) := Lib.hid (by
    unfold Heap.putS at hp
    split at hp
    · split at hp
      · rw [← show Heap.putAll h W = G from congrArg Prod.fst hp]; exact Heap.putAll_len h W
      · rw [← show h = G from congrArg Prod.fst hp]
    · rw [← show h = G from congrArg Prod.fst hp])
      clear hp
      have C_ := Lib.hid (Heap.put_c h W D A m d n c w5 (G, e) HH.out RW.out (by omega) (by omega) HP.out)
      cases met
      · obtain rfl : qa = 0 := HME.out HM.out
        go_wp2_with fail
        refine C_.out.mono ?_
        rintro e_ w8 ⟨B8, d8, rfl, r8, b_⟩
        replace RW := Lib.hid (RW.out.below b_)
        replace HH := Lib.hid (HH.out.below b_)
        replace RX := Lib.hid (RX.out.below b_)
        replace SA := Lib.hid (SA.out.below b_)
        replace SO := Lib.hid (SO.out.below b_)
        replace bb := Lib.hid (bl_trans bb.out b_)
        have R8 := Lib.hid r8
        clear b_ r8 C_
        by_cases he : e = 0
        · subst he
          have HMP : Hid (wokenS (cc [rO (1 + zz) A n c W]) G (W.map Write.cell) = []) := Lib.hid (modes_put (1 + zz) W h G HP.out _)
          have C_ := Lib.hid (woken_c [rO (1 + zz) A n c W] G W (some ⟨w.heap.size + 1, 0, none⟩) B8 A 1 1 m d8 n c w8 [] 0 SO.out (by decide) MO.out R8.out (by omega) RW.out (by omega) HMP.out rfl)
          go_wp2_with fail
          refine C_.out.mono ?_
          rintro e w9 ⟨vc, rfl, oc⟩
          replace RW := Lib.hid (RW.out.below oc.2)
          replace HH := Lib.hid (HH.out.below oc.2)
          replace RX := Lib.hid (RX.out.below oc.2)
          replace SA := Lib.hid (SA.out.below oc.2)
          replace SO := Lib.hid (SO.out.below oc.2)
          replace R8 := Lib.hid (R8.out.below oc.2)
          replace bb := Lib.hid (bl_trans bb.out oc.2)
          obtain ⟨Bc, fc, rfl, -⟩ := oc.form
          clear oc
          clear C_
          go_wp2_with fail
          refine (awake_any _).mono ?_
          rintro e wz ⟨rfl, bz⟩
          go_wp2
          go_ret
          exact ⟨rfl, bl_trans bb.out bz⟩
        · have t1 : (e != 0) = true := by simpa using he
          clear he
          go_wp2_with fail
          refine (awake_any _).mono ?_
          rintro e wz ⟨rfl, bz⟩
          go_wp2
          go_ret
          exact ⟨rfl, bl_trans bb.out bz⟩
      · go_wp2_with fail
        refine C_.out.mono ?_
        rintro e_ w8 ⟨B8, d8, rfl, r8, b_⟩
        replace RW := Lib.hid (RW.out.below b_)
        replace HH := Lib.hid (HH.out.below b_)
        replace RX := Lib.hid (RX.out.below b_)
        replace SA := Lib.hid (SA.out.below b_)
        replace SO := Lib.hid (SO.out.below b_)
        replace bb := Lib.hid (bl_trans bb.out b_)
        have R8 := Lib.hid r8
        clear b_ r8 C_
        by_cases he : e = 0
        · subst he
          have HMP : Hid (wokenS (cc [rO (1 + zz) A n c W]) G (W.map Write.cell) = []) := Lib.hid (modes_put (1 + zz) W h G HP.out _)
          have C_ := Lib.hid (woken_c [rO (1 + zz) A n c W] G W (some ⟨w.heap.size + 1, 0, none⟩) B8 A 1 1 m d8 n c w8 [] 0 SO.out (by decide) MO.out R8.out (by omega) RW.out (by omega) HMP.out rfl)
          go_wp2_with fail
          refine C_.out.mono ?_
          rintro e w9 ⟨vc, rfl, oc⟩
          replace RW := Lib.hid (RW.out.below oc.2)
          replace HH := Lib.hid (HH.out.below oc.2)
          replace RX := Lib.hid (RX.out.below oc.2)
          replace SA := Lib.hid (SA.out.below oc.2)
          replace SO := Lib.hid (SO.out.below oc.2)
          replace R8 := Lib.hid (R8.out.below oc.2)
          replace bb := Lib.hid (bl_trans bb.out oc.2)
          obtain ⟨Bc, fc, rfl, -⟩ := oc.form
          clear oc
          clear C_
          go_wp2_with fail
          refine (awake_any _).mono ?_
          rintro e wz ⟨rfl, bz⟩
          go_wp2
          go_ret
          exact ⟨rfl, bl_trans bb.out bz⟩
        · have t1 : (e != 0) = true := by simpa using he
          clear he
          go_wp2_with fail
          refine (awake_any _).mono ?_
          rintro e wz ⟨rfl, bz⟩
          go_wp2
          go_ret
          exact ⟨rfl, bl_trans bb.out bz⟩
end Go.Proofs.Ytddgdhaioomnnaa.Filter
