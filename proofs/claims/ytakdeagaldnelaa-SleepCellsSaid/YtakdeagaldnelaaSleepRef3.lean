/-
  WHAT THE DOCUMENT'S ANSWER FOR LAYER 15 RETURNS: Drop.
-/
import Derived.Test.YtakdeagaldnelaaSleepRef2
namespace Go.Proofs.Ytakdeagaldnelaa.Sleep
open Go.ChangeShapes Go.WideShapes Go.ChangeAt Go.RowKit Mem
open Heap (Write)

theorem rdropG_no (L : List Sl) (w : Int) (t : List Int) (h : hasB L w = false) : dropG L (w :: t) = none := by
  show (if hasB L w = true then _ else none) = _; rw [if_neg (by rw [h]; decide)]
theorem rdropG_yes (L : List Sl) (w : Int) (t : List Int) (h : hasB L w = true) : dropG L (w :: t) = dropG (delS L w) t := by
  show (if hasB L w = true then _ else none) = _; rw [if_pos h]
/-- The first ones, and those behind one. -/
theorem sls_front {w : World} {A : Option Addr} {n : Nat} {L : List RawS} (h : Rd w 5 A n (ss L)) (p : Nat) (hp : p ≤ n) (hl : L.length = n) : Rd w 5 A p (ss (L.take p)) := by
  refine ⟨by rw [ss_len, List.length_take, hl]; omega, fun h0 => ?_⟩
  obtain ⟨b, off, e, hc⟩ := h.2 (by omega)
  refine ⟨b, off, e, fun j u hj => hc j u ?_⟩
  have h1 := (List.getElem?_eq_some_iff.1 hj).1
  rw [← List.take_append_drop p L, ss_app, List.getElem?_append_left h1]
  exact hj
theorem sls_back {w : World} {b off n d : Nat} {L : List RawS} (h : Rd w 5 (some ⟨b, off, none⟩) n (ss L)) (p : Nat) (hp : p + 1 ≤ n) (hnd : n ≤ d) (hl : L.length = n) :
    ∃ A : Addr, (if d = p + 1 then (some ⟨b, off, none⟩ : Option Addr) else some ⟨b, off + (p + 1) * 5, none⟩) = some A ∧ Rd w 5 (some A) (n - (p + 1)) (ss (L.drop (p + 1))) := by
  have hlen : (ss (L.drop (p + 1))).length = (n - (p + 1)) * 5 := by rw [ss_len, List.length_drop, hl]
  by_cases hd : d = p + 1
  · exact ⟨_, if_pos hd, hlen, fun h0 => by omega⟩
  · refine ⟨_, if_neg hd, hlen, fun h0 => ⟨b, off + (p + 1) * 5, rfl, fun j u hj => ?_⟩⟩
    obtain ⟨b2, off2, e, hc⟩ := h.2 (by omega)
    injection e with e
    injection e with e1 e2
    subst e1 e2
    have h2 := hc ((p + 1) * 5 + j) u (by
      have hl2 : (ss (L.take (p + 1))).length = (p + 1) * 5 := by rw [ss_len, List.length_take, hl]; omega
      rw [← List.take_append_drop (p + 1) L, ss_app, List.getElem?_append_right (by omega), hl2, Nat.add_sub_cancel_left]
      exact hj)
    rw [Nat.add_assoc]
    exact h2
theorem findG_at (L : List RawS) (c : Int) (k : Nat) (x : RawS) (hr : rightB (cc L) = true) (hx : L[k]? = some x) (hc : x.who = c) : delS (cc L) c = cc (L.take k ++ L.drop (k + 1)) := by
  have hl := (List.getElem?_eq_some_iff.1 hx).1
  have hF : Found (cc L) c k true := by
    refine found_mk _ _ _ (by rw [cc_len]; omega) (fun t s ht hs => ?_) (fun t s ht hs => ?_) _ ?_
    · rw [← hc]; exact right_at (cc L) hr t k ht s (st x) hs (cc_at L k x hx)
    · rcases Nat.lt_or_ge k t with h | h
      · have := right_at (cc L) hr k t h (st x) s (cc_at L k x hx) hs
        rw [← hc]; exact Int.le_of_lt this
      · obtain rfl : t = k := by omega
        rw [cc_at L t x hx] at hs; injection hs with hs
        rw [← hs, ← hc]; exact Int.le_refl _
    · rw [cc_at L k x hx]; simpa [st] using hc
  rw [found_del _ _ _ hr hF, cc_app, cc_take, cc_drop]
theorem mem_del2 {L : List RawS} {p : Nat} {z : RawS} (h : z ∈ L.take p ++ L.drop (p + 1)) : z ∈ L := by
  rcases List.mem_append.1 h with h | h
  · exact List.mem_of_mem_take h
  · exact List.mem_of_mem_drop h
set_option maxRecDepth 100000 in
set_option maxHeartbeats 4000000 in
theorem refdrop (L : List RawS) (ws : List Int) (A D : Option Addr) (n c m d : Nat) (w : World) (r : List Sl × Int) (hr : Sls w A n L) (hnc : n ≤ c) (hn : n ≤ 1000000) (hl : Lim L) (hw : Rd w 1 D m (zs ws)) (hm : m ≤ 1000000) (ha : dropS (cc L) ws = r) :
    Calls Try.prog 16 #[.slice A n c, .slice D m d] w (RetP w r) := by
  have HR := Lib.hid hr
  have HLim := Lib.hid hl
  have HLen := Lib.hid hr.len
  have HWL := Lib.hid (zs_len hw)
  have HW := Lib.hid hw
  have HA := Lib.hid ha
  clear hr hl hw ha
  have back : Hid (∀ (w3 : World) (f : Int), Below w.heap.size w w3 → r = (cc L, f) → RetP w r (.returned (.tuple #[.slice A n c, .int .i64 f])) w3) := Lib.hid (by
    intro w3 f hb hf
    exact ⟨A, n, c, L, by rw [hf], HR.out.below hb, by rw [hf], HLim.out, hb⟩)
  obtain ⟨b1, h1⟩ : ∃ b, rightB (cc L) = b := ⟨_, rfl⟩
  have H1 := Lib.hid h1
  have HRC := Lib.hid (refright L A n c w b1 HR.out hn HLim.out h1)
  clear h1
  go_enter Try.func16, Try.ntmps16
  go_wp2_with fail
  refine HRC.out.mono ?_
  rintro e w1 ⟨rfl, b2⟩
  have HB1 := Lib.hid b2
  clear b2 HRC
  cases b1
  · have HF : Hid (r = (cc L, 1)) := Lib.hid (by rw [← HA.out]; unfold dropS; rw [H1.out]; rfl)
    go_wp2
    go_ret2
    exact back.out _ 1 HB1.out HF.out
  · have HFS : Hid (∀ R, dropG (cc L) ws = some R → r = (R, 0)) := Lib.hid (fun R hR => by rw [← HA.out]; unfold dropS; rw [if_pos H1.out, hR])
    have HFN : Hid (dropG (cc L) ws = none → r = (cc L, 3)) := Lib.hid (fun hR => by rw [← HA.out]; unfold dropS; rw [if_pos H1.out, hR])
    go_wp2
    go_loopw [7, 8] (fun v i wr => ∃ (k q : Nat), k ≤ m ∧ q ≤ n ∧ i = .int .i64 k ∧ Hid (∃ (B : Option Addr) (cp : Nat) (L' : List RawS), v = .slice B q cp ∧ q ≤ cp ∧ Sls wr B q L' ∧ Lim L' ∧ rightB (cc L') = true ∧ dropG (cc L') (ws.drop k) = dropG (cc L) ws ∧ Below w.heap.size w wr)) (fun _ i _ => m - (intOf i).toNat)
    case atStart => exact ⟨0, n, Nat.zero_le _, Nat.le_refl _, rfl, Lib.hid ⟨A, c, L, rfl, hnc, HR.out.below HB1.out, HLim.out, H1.out, rfl, HB1.out⟩⟩
    case round =>
      obtain ⟨k, q, hk, hq, rfl, HINV⟩ := hrel
      generalize wr = w3 at *
      obtain ⟨B, cp, L', rfl, hqc, i2, i3, i5, i6, i7⟩ := HINV.out
      have HL' : Hid (L'.length = q) := Lib.hid i2.len
      have I2 := Lib.hid i2
      have I3 := Lib.hid i3
      have I5 := Lib.hid i5
      have I6 := Lib.hid i6
      have HBW := Lib.hid i7
      clear i2 i3 i5 i6 i7 HINV
      by_cases hlt : k < m
      · obtain ⟨b5, off, z, rfl, hx, c0⟩ := at_z (HW.out.below HBW.out) k hlt
        have HD : Hid (ws.drop k = z :: ws.drop (k + 1)) := Lib.hid (by
          obtain ⟨h7, h8⟩ := List.getElem?_eq_some_iff.1 hx
          rw [List.drop_eq_getElem_cons h7, h8])
        have HFC := Lib.hid (reffind L' B q cp z w3 I2.out (by omega))
        clear hx
        go_wp2_with fail
        refine HFC.out.mono ?_
        rintro e w4 ⟨p, rfl, hp, rfl⟩
        clear HFC
        rcases hp with ⟨rfl, hh⟩ | ⟨t, x, rfl, hx, hxw, -⟩
        · have HF3 : Hid (r = (cc L, 3)) := Lib.hid (HFN.out (by rw [← I6.out, HD.out, rdropG_no _ _ _ hh]))
          clear hh
          go_wp2
          go_ret2
          exact back.out _ 3 HBW.out HF3.out
        · have htq : t < q := by have := (List.getElem?_eq_some_iff.1 hx).1; rw [HL'.out] at this; exact this
          have hh : Hid (hasB (cc L') z = true) := Lib.hid (by unfold hasB; rw [List.any_eq_true]; exact ⟨st x, List.mem_of_getElem? (cc_at L' t x hx), by simpa [st] using hxw⟩)
          have HDS := Lib.hid (findG_at L' z t x I5.out hx hxw)
          obtain ⟨b8, off8, hB, -⟩ := I2.out.1.2 (by omega)
          subst hB
          obtain ⟨A2, hA2, hrb⟩ := sls_back I2.out.1 t (by omega) hqc HL'.out
          have HRB := Lib.hid hrb
          have HRF := Lib.hid (sls_front I2.out.1 t (by omega) HL'.out)
          have hw1 : IntKind.i64.wrap ((t : Int) + 1) = (t : Int) + 1 := by rw [IntKind.wrap_i64]; omega
          have t1 : decide ((t : Int) < 0) = false := by simp
          have t2 : t ≤ cp := by omega
          have t3 : t + 1 ≤ q := by omega
          have t4 : (0 : Int) ≤ (t : Int) + 1 := by omega
          have t5 : ((t : Int) + 1).toNat = t + 1 := by omega
          have t6 : (t : Int) + 1 ≤ (q : Int) := by omega
          have hqn : q ≤ 1000000 := by omega
          have HTQ : Hid (t + (q - (t + 1)) = q - 1) := Lib.hid (by omega)
          clear hx hxw hrb
          go_wp2_with (first
            | (at_builtin; refine append_rd rfl _ _ 30 rfl tRSleeper w3 (.slice none 0 0) 0 [] rfl (Own.nil_ (Below.refl _ _)) (some ⟨b8, off8, none⟩) t cp (ss (L'.take t)) rfl HRF.out (ss_one _) (by omega) (by omega) ?_
               intro v5 w5 o5 g5
               have HO5 := Lib.hid o5
               clear o5 g5)
            | (at_builtin; refine append_rd rfl _ _ 30 rfl tRSleeper w3 v5 (0 + t) _ rfl HO5.out (some A2) (q - (t + 1)) (cp - (t + 1)) (ss (L'.drop (t + 1))) rfl (HRB.out.below HO5.out.2) (ss_one _) (by omega) (by omega) ?_
               intro v6 w6 o6 g6
               have HO6 := Lib.hid o6
               clear o6 g6))
          go_roundw
          case rel =>
            obtain ⟨B6, c6, hv6, hc6, hrd6⟩ := own_room HO6.out
            have e1 : 0 + t + (q - (t + 1)) = q - 1 := by omega
            rw [e1] at hv6 hc6 hrd6
            refine ⟨k + 1, q - 1, by omega, by omega, by go_num, Lib.hid ⟨B6, c6, L'.take t ++ L'.drop (t + 1), hv6, hc6, ⟨?_, ?_⟩, fun z hz => I3.out z (mem_del2 hz), ?_, ?_, bl_trans HBW.out HO6.out.2⟩⟩
            · rw [ss_app]; simpa using hrd6
            · intro z hz; exact (I2.out.2 z (mem_del2 hz)).below HO6.out.2
            · rw [← HDS.out]; exact del_right _ _ I5.out
            · rw [← HDS.out, ← rdropG_yes _ _ _ hh.out, ← HD.out]; exact I6.out
          case measure => simp [intOf]; omega
      · have HF4 : Hid (r = (cc L', 0)) := Lib.hid (HFS.out _ (by
          rw [← I6.out, List.drop_of_length_le (by rw [HWL.out]; omega)]; rfl))
        go_wp2
        go_ret2
        exact ⟨B, q, cp, L', by rw [HF4.out]; rfl, I2.out, by rw [HF4.out], I3.out, HBW.out⟩
end Go.Proofs.Ytakdeagaldnelaa.Sleep
