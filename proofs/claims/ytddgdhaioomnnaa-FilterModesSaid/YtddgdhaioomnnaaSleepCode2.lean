/-
  WHAT THE FUNCTIONS OF THE LAYER sleep RETURN, AS THEY ARE WRITTEN: rightTerm, rightSleeper, Right.
-/
import Derived.Test.YtddgdhaioomnnaaSleepCode
import Derived.Test.YtddgdhaioomnnaaStep2
namespace Go.Proofs.Ytddgdhaioomnnaa.Sleep
open Go.ChangeShapes Go.WideShapes Go.ChangeAt Go.RowKit Mem
open Heap (Write)

theorem cellsS_len (T : List Term.Op) : (Term.cellsS T).length ≤ 64 := by
  unfold Term.cellsS
  split
  · exact pick_len _ _
  · simp
set_option maxRecDepth 100000 in
set_option maxHeartbeats 4000000 in
theorem term_c (x : RawS) (w : World) (b : Bool) (hi : Inner w x) (hl : Lim1 x) (hb : termB x.mode x.W x.T = b) :
    Calls Try.prog 41 #[.agg (cS x)] w (RetB w b) := by
  obtain ⟨who, mode, til, A, n, c, W, B, m, d, T⟩ := x
  have HW : Hid (Rd w 2 A n (Heap.ws W)) := Lib.hid hi.1
  have HT : Hid (Rd w 2 B m (Term.ops T)) := Lib.hid hi.2
  have hn : n ≤ 1000000 := hl.1
  have hm : m ≤ 1000000 := hl.2
  have HB0 : Hid (termB mode W T = b) := Lib.hid hb
  have HL : Hid (T.length = m) := Lib.hid (Term.ops_len HT.out)
  have HLW : Hid (W.length = n) := Lib.hid (by have := HW.out.1; rw [Heap.ws_len] at this; omega)
  clear hi hl hb
  show Calls Try.prog 41 #[.agg #[.int .i64 who, .int .i64 mode, .int .i64 til, .slice A n c, .slice B m d]] w (RetB w b)
  by_cases h1 : mode = 1
  · subst h1
    have HF : Hid (decide (m = 0) = b) := Lib.hid (by rw [← HB0.out, ← HL.out]; rfl)
    by_cases h0 : m = 0
    · subst h0
      go_enter Try.func41, Try.ntmps41
      go_wp2
      go_ret
      exact ⟨ret_bool (by rw [← HF.out]; simp), bl_alloc (Below.refl _ _) _⟩
    · have t0 : ((m : Int) == 0) = false := by simpa using h0
      go_enter Try.func41, Try.ntmps41
      go_wp2
      go_ret
      exact ⟨ret_bool (by rw [← HF.out]; simp [h0]), bl_alloc (Below.refl _ _) _⟩
  · by_cases h2 : mode = 2
    · subst h2
      have HF : Hid (decide (m = 0) = b) := Lib.hid (by rw [← HB0.out, ← HL.out]; rfl)
      by_cases h0 : m = 0
      · subst h0
        go_enter Try.func41, Try.ntmps41
        go_wp2
        go_ret
        exact ⟨ret_bool (by rw [← HF.out]; simp), bl_alloc (Below.refl _ _) _⟩
      · have t0 : ((m : Int) == 0) = false := by simpa using h0
        go_enter Try.func41, Try.ntmps41
        go_wp2
        go_ret
        exact ⟨ret_bool (by rw [← HF.out]; simp [h0]), bl_alloc (Below.refl _ _) _⟩
    · by_cases h3 : mode = 3
      · subst h3
        obtain ⟨v, hv⟩ : ∃ v, Term.checkS T = v := ⟨_, rfl⟩
        obtain ⟨g, hg⟩ : ∃ g, regB T = g := ⟨_, rfl⟩
        obtain ⟨E, hE⟩ : ∃ E, Term.cellsS T = E := ⟨_, rfl⟩
        obtain ⟨f, hf⟩ : ∃ f, decide (E = W.map Write.cell) = f := ⟨_, rfl⟩
        have HF : Hid ((decide (v = 0) && (!g && f)) = b) := Lib.hid (by rw [← HB0.out, ← hf, ← hE, ← hg, ← hv]; rfl)
        have HV := Lib.hid hv
        have HG := Lib.hid hg
        have HE := Lib.hid hE
        have HFF := Lib.hid hf
        have HEL : Hid (E.length ≤ 64) := Lib.hid (by rw [← hE]; exact cellsS_len T)
        clear hv hg hE hf HB0
        obtain ⟨w2, hw2⟩ : ∃ w2, w2 = w.alloc (.cells #[.int .i64 who, .int .i64 3, .int .i64 til, .slice A n c, .slice B m d] 36) := ⟨_, rfl⟩
        have HBK : Hid (Blk w2 w.heap.size 36 #[.int .i64 who, .int .i64 3, .int .i64 til, .slice A n c, .slice B m d]) := Lib.hid (by rw [hw2]; exact Blk.new _ _ _)
        have HW2 : Hid (Below w.heap.size w w2) := Lib.hid (by rw [hw2]; exact bl_alloc (Below.refl _ _) _)
        have KEEP : Hid (∀ V, Below w2.heap.size w2 V → V.cell? ⟨w.heap.size, 3, none⟩ = some (.slice A n c) ∧ V.cell? ⟨w.heap.size, 4, none⟩ = some (.slice B m d)) :=
          Lib.hid (fun V h => ⟨(HBK.out.below h).cell 3 _ rfl, (HBK.out.below h).cell 4 _ rfl⟩)
        have bq : Hid (Below w2.heap.size w2 w2.drew) := Lib.hid (Below.refl _ _).drew
        by_cases h0 : v = 0
        · subst h0
          cases g
          · go_enter Try.func41, Try.ntmps41
            go_wp2_with fail
            rw [← hw2]
            clear hw2
            go_region_held3 (fun w' => w'.cell? ⟨w.heap.size, 3, none⟩ = some (.slice A n c) ∧ w'.cell? ⟨w.heap.size, 4, none⟩ = some (.slice B m d)) (first | exact KEEP.out _ bq.out | go_keep)
              (first
              | (go_at_call 60
                 refine (Term.check_c T _ _ _ _ 0 ((HT.out.below HW2.out).below bq.out) hm HV.out).mono ?_
                 rintro e wq ⟨rfl, b5⟩
                 replace bq := Lib.hid (bl_trans bq.out b5)
                 clear b5)
              | (go_at_call 61
                 refine (reg_c T _ _ _ _ false ((HT.out.below HW2.out).below bq.out) hm HG.out).mono ?_
                 rintro e wq ⟨rfl, b5⟩
                 replace bq := Lib.hid (bl_trans bq.out b5)
                 clear b5)
              | (go_at_call 63
                 refine (Term.cells_c T _ _ _ _ E E.length ((HT.out.below HW2.out).below bq.out) hm HE.out rfl).mono ?_
                 rintro e wq ⟨v5, rfl, o5⟩
                 replace bq := Lib.hid (bl_trans bq.out o5.2)
                 try replace RW := Lib.hid (RW.out.below o5.2)
                 obtain ⟨A5, c5, rfl, r5⟩ := o5.form
                 have RC := Lib.hid r5
                 clear o5 r5)
              | (go_at_call 64
                 refine (cellsof_c W _ _ _ _ ((HW.out.below HW2.out).below bq.out) hn).mono ?_
                 rintro e wq ⟨v6, rfl, o6⟩
                 replace bq := Lib.hid (bl_trans bq.out o6.2)
                 try replace RC := Lib.hid (RC.out.below o6.2)
                 obtain ⟨A6, c6, rfl, r6⟩ := o6.form
                 have RW := Lib.hid r6
                 clear o6 r6)
              | (go_at_call 62
                 refine (equal_c E (W.map Write.cell) _ _ _ _ _ _ _ f RC.out RW.out (by have := HEL.out; omega) hn HFF.out).mono ?_
                 rintro e wq ⟨rfl, b5⟩
                 replace bq := Lib.hid (bl_trans bq.out b5)
                 clear b5))
            all_goals
              go_wp2
              go_ret
              exact ⟨ret_bool (by rw [← HF.out]; simp), bl_trans HW2.out bq.out⟩
          · go_enter Try.func41, Try.ntmps41
            go_wp2_with fail
            rw [← hw2]
            clear hw2
-- ARM g
            obtain ⟨SB, hSB⟩ : ∃ SB : World → Prop, ∀ V, SB V ↔ Blk V w.heap.size 36 #[.int .i64 who, .int .i64 3, .int .i64 til, .slice A n c, .slice B m d] := ⟨_, fun _ => Iff.rfl⟩
            have HSB := Lib.hid hSB
            clear hSB
            have f0 : SB w2.drew := (HSB.out _).2 (HBK.out.below (Below.refl _ _).drew)
            refine wp_region_held_drew (S := SB) (by kernel_rfl) f0 (fun hH0 => ?_)
            clear f0
            generalize w2.drew = w0 at *
            refine wpAnyH_take (i := 0) (v := .pointer (some ⟨w.heap.size, 4, none⟩)) rfl (by kernel_rfl) (by kernel_rfl) (by kernel_rfl) (fun _ _ _ h => h) (Or.inl ⟨by kernel_rfl, fun W hS => by go_simp⟩) hH0 ?_
            try simp only [Act.put, List.getElem_toArray, List.getElem_cons_succ, List.getElem_cons_zero]
            try simp only [List.setIfInBounds_toArray]
            try simp only [List.set_cons_succ]
            try simp only [List.set_cons_zero]
            refine wpAnyH_take (i := 1) (v := .slice B m d) rfl (by kernel_rfl) (by kernel_rfl) (by kernel_rfl) (fun _ _ _ h => h) (Or.inl ⟨by kernel_rfl, fun W hS => by have hSS := (HSB.out W).1 hS; have q3 := hSS.cell 3 _ rfl; have q4 := hSS.cell 4 _ rfl; go_simp⟩) hH0 ?_
            try simp only [Act.put, List.getElem_toArray, List.getElem_cons_succ, List.getElem_cons_zero]
            try simp only [List.setIfInBounds_toArray]
            try simp only [List.set_cons_succ]
            try simp only [List.set_cons_zero]
            have HC : Calls Try.prog 60 #[.slice B m d] w0 (Term.RetI w0 0) := Term.check_c T _ _ _ _ 0 ((HT.out.below HW2.out).below bq.out) hm HV.out
            refine wpAnyH_ready (rs := [2]) (by kernel_rfl) (by simp) ?_
            refine AllReadyH.cons rfl (fun KK0 hK => ?_) AllReadyH.nil
            rw [if_pos (by kernel_rfl)]
            refine Step2.calls_wp _ _ _ (HC) (Step2.run_call _ _ _ rfl rfl Try.func60 (by kernel_rfl) (by kernel_rfl) _ (by kernel_rfl)) ?_
            rintro e w5 hq
            obtain ⟨rfl, b5⟩ := hq
            refine ⟨_, rfl, ?_⟩
            replace HBK := Lib.hid (((HSB.out _).1 hH0).below b5)
            replace bq := Lib.hid (bl_trans bq.out b5)
            clear b5 HC
            refine hK.out _ _ ((HSB.out _).2 HBK.out) (fun hH1 => ?_)
            clear hK KK0
            try simp only [Act.put, List.getElem_toArray, List.getElem_cons_succ, List.getElem_cons_zero]
            try simp only [List.setIfInBounds_toArray]
            try simp only [List.set_cons_succ]
            try simp only [List.set_cons_zero]
            refine wpAnyH_take (i := 3) (v := .bool true) rfl (by kernel_rfl) (by kernel_rfl) (by kernel_rfl) (fun _ _ _ h => h) (Or.inl ⟨by kernel_rfl, fun W hS => by go_simp⟩) hH1 ?_
            try simp only [Act.put, List.getElem_toArray, List.getElem_cons_succ, List.getElem_cons_zero]
            try simp only [List.setIfInBounds_toArray]
            try simp only [List.set_cons_succ]
            try simp only [List.set_cons_zero]
            refine wpAnyH_take (i := 4) (v := .bool true) rfl (by kernel_rfl) (by kernel_rfl) (by kernel_rfl) (fun _ _ _ h => h) (Or.inl ⟨by kernel_rfl, fun W hS => by go_simp⟩) hH1 ?_
            try simp only [Act.put, List.getElem_toArray, List.getElem_cons_succ, List.getElem_cons_zero]
            try simp only [List.setIfInBounds_toArray]
            try simp only [List.set_cons_succ]
            try simp only [List.set_cons_zero]
            refine wpAnyH_take (i := 5) (v := .pointer (some ⟨w.heap.size, 4, none⟩)) rfl (by kernel_rfl) (by kernel_rfl) (by kernel_rfl) (fun _ _ _ h => h) (Or.inl ⟨by kernel_rfl, fun W hS => by go_simp⟩) hH1 ?_
            try simp only [Act.put, List.getElem_toArray, List.getElem_cons_succ, List.getElem_cons_zero]
            try simp only [List.setIfInBounds_toArray]
            try simp only [List.set_cons_succ]
            try simp only [List.set_cons_zero]
            refine wpAnyH_take (i := 6) (v := .slice B m d) rfl (by kernel_rfl) (by kernel_rfl) (by kernel_rfl) (fun _ _ _ h => h) (Or.inl ⟨by kernel_rfl, fun W hS => by have hSS := (HSB.out W).1 hS; have q3 := hSS.cell 3 _ rfl; have q4 := hSS.cell 4 _ rfl; go_simp⟩) hH1 ?_
            try simp only [Act.put, List.getElem_toArray, List.getElem_cons_succ, List.getElem_cons_zero]
            try simp only [List.setIfInBounds_toArray]
            try simp only [List.set_cons_succ]
            try simp only [List.set_cons_zero]
            have HC : Calls Try.prog 61 #[.slice B m d] w5 (RetB w5 true) := reg_c T _ _ _ _ true ((HT.out.below HW2.out).below bq.out) hm HG.out
            refine wpAnyH_ready (rs := [7]) (by kernel_rfl) (by simp) ?_
            refine AllReadyH.cons rfl (fun KK0 hK => ?_) AllReadyH.nil
            rw [if_pos (by kernel_rfl)]
            refine Step2.calls_wp _ _ _ (HC) (Step2.run_call _ _ _ rfl rfl Try.func61 (by kernel_rfl) (by kernel_rfl) _ (by kernel_rfl)) ?_
            rintro e w6 hq
            obtain ⟨rfl, b6⟩ := hq
            refine ⟨_, rfl, ?_⟩
            replace HBK := Lib.hid (((HSB.out _).1 hH1).below b6)
            replace bq := Lib.hid (bl_trans bq.out b6)
            clear b6 HC
            refine hK.out _ _ ((HSB.out _).2 HBK.out) (fun hH2 => ?_)
            clear hK KK0
            try simp only [Act.put, List.getElem_toArray, List.getElem_cons_succ, List.getElem_cons_zero]
            try simp only [List.setIfInBounds_toArray]
            try simp only [List.set_cons_succ]
            try simp only [List.set_cons_zero]
            refine wpAnyH_take (i := 8) (v := .bool false) rfl (by kernel_rfl) (by kernel_rfl) (by kernel_rfl) (fun _ _ _ h => h) (Or.inl ⟨by kernel_rfl, fun W hS => by go_simp⟩) hH2 ?_
            try simp only [Act.put, List.getElem_toArray, List.getElem_cons_succ, List.getElem_cons_zero]
            try simp only [List.setIfInBounds_toArray]
            try simp only [List.set_cons_succ]
            try simp only [List.set_cons_zero]
            refine wpAnyH_take (i := 9) (v := .bool false) rfl (by kernel_rfl) (by kernel_rfl) (by kernel_rfl) (fun _ _ _ h => h) (Or.inl ⟨by kernel_rfl, fun W hS => by go_simp⟩) hH2 ?_
            try simp only [Act.put, List.getElem_toArray, List.getElem_cons_succ, List.getElem_cons_zero]
            try simp only [List.setIfInBounds_toArray]
            try simp only [List.set_cons_succ]
            try simp only [List.set_cons_zero]
            refine wpAnyH_take (i := 10) (v := .bool false) rfl (by kernel_rfl) (by kernel_rfl) (by kernel_rfl) (fun _ _ _ h => h) (Or.inl ⟨by kernel_rfl, fun W hS => by go_simp⟩) hH2 ?_
            try simp only [Act.put, List.getElem_toArray, List.getElem_cons_succ, List.getElem_cons_zero]
            try simp only [List.setIfInBounds_toArray]
            try simp only [List.set_cons_succ]
            try simp only [List.set_cons_zero]
            refine wpAnyH_take (i := 11) (v := undef) rfl (by kernel_rfl) (by kernel_rfl) (by kernel_rfl) (fun _ _ _ h => h) (Or.inr ⟨by kernel_rfl, rfl⟩) hH2 ?_
            try simp only [Act.put, List.getElem_toArray, List.getElem_cons_succ, List.getElem_cons_zero]
            try simp only [List.setIfInBounds_toArray]
            try simp only [List.set_cons_succ]
            try simp only [List.set_cons_zero]
            refine wpAnyH_take (i := 12) (v := undef) rfl (by kernel_rfl) (by kernel_rfl) (by kernel_rfl) (fun _ _ _ h => h) (Or.inr ⟨by kernel_rfl, rfl⟩) hH2 ?_
            try simp only [Act.put, List.getElem_toArray, List.getElem_cons_succ, List.getElem_cons_zero]
            try simp only [List.setIfInBounds_toArray]
            try simp only [List.set_cons_succ]
            try simp only [List.set_cons_zero]
            refine wpAnyH_take (i := 13) (v := undef) rfl (by kernel_rfl) (by kernel_rfl) (by kernel_rfl) (fun _ _ _ h => h) (Or.inr ⟨by kernel_rfl, rfl⟩) hH2 ?_
            try simp only [Act.put, List.getElem_toArray, List.getElem_cons_succ, List.getElem_cons_zero]
            try simp only [List.setIfInBounds_toArray]
            try simp only [List.set_cons_succ]
            try simp only [List.set_cons_zero]
            refine wpAnyH_take (i := 14) (v := undef) rfl (by kernel_rfl) (by kernel_rfl) (by kernel_rfl) (fun _ _ _ h => h) (Or.inr ⟨by kernel_rfl, rfl⟩) hH2 ?_
            try simp only [Act.put, List.getElem_toArray, List.getElem_cons_succ, List.getElem_cons_zero]
            try simp only [List.setIfInBounds_toArray]
            try simp only [List.set_cons_succ]
            try simp only [List.set_cons_zero]
            refine wpAnyH_take (i := 15) (v := undef) rfl (by kernel_rfl) (by kernel_rfl) (by kernel_rfl) (fun _ _ _ h => h) (Or.inr ⟨by kernel_rfl, rfl⟩) hH2 ?_
            try simp only [Act.put, List.getElem_toArray, List.getElem_cons_succ, List.getElem_cons_zero]
            try simp only [List.setIfInBounds_toArray]
            try simp only [List.set_cons_succ]
            try simp only [List.set_cons_zero]
            refine wpAnyH_take (i := 16) (v := undef) rfl (by kernel_rfl) (by kernel_rfl) (by kernel_rfl) (fun _ _ _ h => h) (Or.inr ⟨by kernel_rfl, rfl⟩) hH2 ?_
            try simp only [Act.put, List.getElem_toArray, List.getElem_cons_succ, List.getElem_cons_zero]
            try simp only [List.setIfInBounds_toArray]
            try simp only [List.set_cons_succ]
            try simp only [List.set_cons_zero]
            refine wpAnyH_take (i := 17) (v := undef) rfl (by kernel_rfl) (by kernel_rfl) (by kernel_rfl) (fun _ _ _ h => h) (Or.inr ⟨by kernel_rfl, rfl⟩) hH2 ?_
            try simp only [Act.put, List.getElem_toArray, List.getElem_cons_succ, List.getElem_cons_zero]
            try simp only [List.setIfInBounds_toArray]
            try simp only [List.set_cons_succ]
            try simp only [List.set_cons_zero]
            refine wpAnyH_take (i := 18) (v := .bool false) rfl (by kernel_rfl) (by kernel_rfl) (by kernel_rfl) (fun _ _ _ h => h) (Or.inl ⟨by kernel_rfl, fun W hS => by go_simp⟩) hH2 ?_
            try simp only [Act.put, List.getElem_toArray, List.getElem_cons_succ, List.getElem_cons_zero]
            try simp only [List.setIfInBounds_toArray]
            try simp only [List.set_cons_succ]
            try simp only [List.set_cons_zero]
            refine wpAnyH_ready (rs := [19]) (by kernel_rfl) (by simp) ?_
            refine AllReadyH.cons rfl (fun KK0 hK => ?_) AllReadyH.nil
            go_simp
            refine hK.out _ _ hH2 (fun _ => ?_)
            clear hK KK0
            refine wpAnyH_done (by kernel_rfl) ?_ _
            try simp only [Act.put, List.getElem_toArray, List.getElem_cons_succ, List.getElem_cons_zero]
            try simp only [List.setIfInBounds_toArray]
            try simp only [List.set_cons_succ]
            try simp only [List.set_cons_zero]
            go_wp2
            go_ret
            exact ⟨ret_bool (by rw [← HF.out]; simp), bl_trans HW2.out bq.out⟩
-- END g
        · have t0 : (v == 0) = false := by simpa using h0
          go_enter Try.func41, Try.ntmps41
          go_wp2_with fail
          rw [← hw2]
          clear hw2
-- ARM v
          obtain ⟨SB, hSB⟩ : ∃ SB : World → Prop, ∀ V, SB V ↔ Blk V w.heap.size 36 #[.int .i64 who, .int .i64 3, .int .i64 til, .slice A n c, .slice B m d] := ⟨_, fun _ => Iff.rfl⟩
          have HSB := Lib.hid hSB
          clear hSB
          have f0 : SB w2.drew := (HSB.out _).2 (HBK.out.below (Below.refl _ _).drew)
          refine wp_region_held_drew (S := SB) (by kernel_rfl) f0 (fun hH0 => ?_)
          clear f0
          generalize w2.drew = w0 at *
          refine wpAnyH_take (i := 0) (v := .pointer (some ⟨w.heap.size, 4, none⟩)) rfl (by kernel_rfl) (by kernel_rfl) (by kernel_rfl) (fun _ _ _ h => h) (Or.inl ⟨by kernel_rfl, fun W hS => by go_simp⟩) hH0 ?_
          try simp only [Act.put, List.getElem_toArray, List.getElem_cons_succ, List.getElem_cons_zero]
          try simp only [List.setIfInBounds_toArray]
          try simp only [List.set_cons_succ]
          try simp only [List.set_cons_zero]
          refine wpAnyH_take (i := 1) (v := .slice B m d) rfl (by kernel_rfl) (by kernel_rfl) (by kernel_rfl) (fun _ _ _ h => h) (Or.inl ⟨by kernel_rfl, fun W hS => by have hSS := (HSB.out W).1 hS; have q3 := hSS.cell 3 _ rfl; have q4 := hSS.cell 4 _ rfl; go_simp⟩) hH0 ?_
          try simp only [Act.put, List.getElem_toArray, List.getElem_cons_succ, List.getElem_cons_zero]
          try simp only [List.setIfInBounds_toArray]
          try simp only [List.set_cons_succ]
          try simp only [List.set_cons_zero]
          have HC : Calls Try.prog 60 #[.slice B m d] w0 (Term.RetI w0 v) := Term.check_c T _ _ _ _ v ((HT.out.below HW2.out).below bq.out) hm HV.out
          refine wpAnyH_ready (rs := [2]) (by kernel_rfl) (by simp) ?_
          refine AllReadyH.cons rfl (fun KK0 hK => ?_) AllReadyH.nil
          rw [if_pos (by kernel_rfl)]
          refine Step2.calls_wp _ _ _ (HC) (Step2.run_call _ _ _ rfl rfl Try.func60 (by kernel_rfl) (by kernel_rfl) _ (by kernel_rfl)) ?_
          rintro e w5 hq
          obtain ⟨rfl, b5⟩ := hq
          refine ⟨_, rfl, ?_⟩
          replace HBK := Lib.hid (((HSB.out _).1 hH0).below b5)
          replace bq := Lib.hid (bl_trans bq.out b5)
          clear b5 HC
          refine hK.out _ _ ((HSB.out _).2 HBK.out) (fun hH1 => ?_)
          clear hK KK0
          try simp only [Act.put, List.getElem_toArray, List.getElem_cons_succ, List.getElem_cons_zero]
          try simp only [List.setIfInBounds_toArray]
          try simp only [List.set_cons_succ]
          try simp only [List.set_cons_zero]
          refine wpAnyH_take (i := 3) (v := .bool false) rfl (by kernel_rfl) (by kernel_rfl) (by kernel_rfl) (fun _ _ _ h => h) (Or.inl ⟨by kernel_rfl, fun W hS => by go_simp⟩) hH1 ?_
          try simp only [Act.put, List.getElem_toArray, List.getElem_cons_succ, List.getElem_cons_zero]
          try simp only [List.setIfInBounds_toArray]
          try simp only [List.set_cons_succ]
          try simp only [List.set_cons_zero]
          refine wpAnyH_take (i := 4) (v := .bool false) rfl (by kernel_rfl) (by kernel_rfl) (by kernel_rfl) (fun _ _ _ h => h) (Or.inl ⟨by kernel_rfl, fun W hS => by go_simp⟩) hH1 ?_
          try simp only [Act.put, List.getElem_toArray, List.getElem_cons_succ, List.getElem_cons_zero]
          try simp only [List.setIfInBounds_toArray]
          try simp only [List.set_cons_succ]
          try simp only [List.set_cons_zero]
          refine wpAnyH_take (i := 5) (v := undef) rfl (by kernel_rfl) (by kernel_rfl) (by kernel_rfl) (fun _ _ _ h => h) (Or.inr ⟨by kernel_rfl, rfl⟩) hH1 ?_
          try simp only [Act.put, List.getElem_toArray, List.getElem_cons_succ, List.getElem_cons_zero]
          try simp only [List.setIfInBounds_toArray]
          try simp only [List.set_cons_succ]
          try simp only [List.set_cons_zero]
          refine wpAnyH_take (i := 6) (v := undef) rfl (by kernel_rfl) (by kernel_rfl) (by kernel_rfl) (fun _ _ _ h => h) (Or.inr ⟨by kernel_rfl, rfl⟩) hH1 ?_
          try simp only [Act.put, List.getElem_toArray, List.getElem_cons_succ, List.getElem_cons_zero]
          try simp only [List.setIfInBounds_toArray]
          try simp only [List.set_cons_succ]
          try simp only [List.set_cons_zero]
          refine wpAnyH_take (i := 7) (v := undef) rfl (by kernel_rfl) (by kernel_rfl) (by kernel_rfl) (fun _ _ _ h => h) (Or.inr ⟨by kernel_rfl, rfl⟩) hH1 ?_
          try simp only [Act.put, List.getElem_toArray, List.getElem_cons_succ, List.getElem_cons_zero]
          try simp only [List.setIfInBounds_toArray]
          try simp only [List.set_cons_succ]
          try simp only [List.set_cons_zero]
          refine wpAnyH_take (i := 8) (v := undef) rfl (by kernel_rfl) (by kernel_rfl) (by kernel_rfl) (fun _ _ _ h => h) (Or.inr ⟨by kernel_rfl, rfl⟩) hH1 ?_
          try simp only [Act.put, List.getElem_toArray, List.getElem_cons_succ, List.getElem_cons_zero]
          try simp only [List.setIfInBounds_toArray]
          try simp only [List.set_cons_succ]
          try simp only [List.set_cons_zero]
          refine wpAnyH_take (i := 9) (v := .bool false) rfl (by kernel_rfl) (by kernel_rfl) (by kernel_rfl) (fun _ _ _ h => h) (Or.inl ⟨by kernel_rfl, fun W hS => by go_simp⟩) hH1 ?_
          try simp only [Act.put, List.getElem_toArray, List.getElem_cons_succ, List.getElem_cons_zero]
          try simp only [List.setIfInBounds_toArray]
          try simp only [List.set_cons_succ]
          try simp only [List.set_cons_zero]
          refine wpAnyH_take (i := 10) (v := .bool false) rfl (by kernel_rfl) (by kernel_rfl) (by kernel_rfl) (fun _ _ _ h => h) (Or.inl ⟨by kernel_rfl, fun W hS => by go_simp⟩) hH1 ?_
          try simp only [Act.put, List.getElem_toArray, List.getElem_cons_succ, List.getElem_cons_zero]
          try simp only [List.setIfInBounds_toArray]
          try simp only [List.set_cons_succ]
          try simp only [List.set_cons_zero]
          refine wpAnyH_take (i := 11) (v := undef) rfl (by kernel_rfl) (by kernel_rfl) (by kernel_rfl) (fun _ _ _ h => h) (Or.inr ⟨by kernel_rfl, rfl⟩) hH1 ?_
          try simp only [Act.put, List.getElem_toArray, List.getElem_cons_succ, List.getElem_cons_zero]
          try simp only [List.setIfInBounds_toArray]
          try simp only [List.set_cons_succ]
          try simp only [List.set_cons_zero]
          refine wpAnyH_take (i := 12) (v := undef) rfl (by kernel_rfl) (by kernel_rfl) (by kernel_rfl) (fun _ _ _ h => h) (Or.inr ⟨by kernel_rfl, rfl⟩) hH1 ?_
          try simp only [Act.put, List.getElem_toArray, List.getElem_cons_succ, List.getElem_cons_zero]
          try simp only [List.setIfInBounds_toArray]
          try simp only [List.set_cons_succ]
          try simp only [List.set_cons_zero]
          refine wpAnyH_take (i := 13) (v := undef) rfl (by kernel_rfl) (by kernel_rfl) (by kernel_rfl) (fun _ _ _ h => h) (Or.inr ⟨by kernel_rfl, rfl⟩) hH1 ?_
          try simp only [Act.put, List.getElem_toArray, List.getElem_cons_succ, List.getElem_cons_zero]
          try simp only [List.setIfInBounds_toArray]
          try simp only [List.set_cons_succ]
          try simp only [List.set_cons_zero]
          refine wpAnyH_take (i := 14) (v := undef) rfl (by kernel_rfl) (by kernel_rfl) (by kernel_rfl) (fun _ _ _ h => h) (Or.inr ⟨by kernel_rfl, rfl⟩) hH1 ?_
          try simp only [Act.put, List.getElem_toArray, List.getElem_cons_succ, List.getElem_cons_zero]
          try simp only [List.setIfInBounds_toArray]
          try simp only [List.set_cons_succ]
          try simp only [List.set_cons_zero]
          refine wpAnyH_take (i := 15) (v := undef) rfl (by kernel_rfl) (by kernel_rfl) (by kernel_rfl) (fun _ _ _ h => h) (Or.inr ⟨by kernel_rfl, rfl⟩) hH1 ?_
          try simp only [Act.put, List.getElem_toArray, List.getElem_cons_succ, List.getElem_cons_zero]
          try simp only [List.setIfInBounds_toArray]
          try simp only [List.set_cons_succ]
          try simp only [List.set_cons_zero]
          refine wpAnyH_take (i := 16) (v := undef) rfl (by kernel_rfl) (by kernel_rfl) (by kernel_rfl) (fun _ _ _ h => h) (Or.inr ⟨by kernel_rfl, rfl⟩) hH1 ?_
          try simp only [Act.put, List.getElem_toArray, List.getElem_cons_succ, List.getElem_cons_zero]
          try simp only [List.setIfInBounds_toArray]
          try simp only [List.set_cons_succ]
          try simp only [List.set_cons_zero]
          refine wpAnyH_take (i := 17) (v := undef) rfl (by kernel_rfl) (by kernel_rfl) (by kernel_rfl) (fun _ _ _ h => h) (Or.inr ⟨by kernel_rfl, rfl⟩) hH1 ?_
          try simp only [Act.put, List.getElem_toArray, List.getElem_cons_succ, List.getElem_cons_zero]
          try simp only [List.setIfInBounds_toArray]
          try simp only [List.set_cons_succ]
          try simp only [List.set_cons_zero]
          refine wpAnyH_take (i := 18) (v := .bool false) rfl (by kernel_rfl) (by kernel_rfl) (by kernel_rfl) (fun _ _ _ h => h) (Or.inl ⟨by kernel_rfl, fun W hS => by go_simp⟩) hH1 ?_
          try simp only [Act.put, List.getElem_toArray, List.getElem_cons_succ, List.getElem_cons_zero]
          try simp only [List.setIfInBounds_toArray]
          try simp only [List.set_cons_succ]
          try simp only [List.set_cons_zero]
          refine wpAnyH_ready (rs := [19]) (by kernel_rfl) (by simp) ?_
          refine AllReadyH.cons rfl (fun KK0 hK => ?_) AllReadyH.nil
          go_simp
          refine hK.out _ _ hH1 (fun _ => ?_)
          clear hK KK0
          refine wpAnyH_done (by kernel_rfl) ?_ _
          try simp only [Act.put, List.getElem_toArray, List.getElem_cons_succ, List.getElem_cons_zero]
          try simp only [List.setIfInBounds_toArray]
          try simp only [List.set_cons_succ]
          try simp only [List.set_cons_zero]
          go_wp2
          go_ret
          exact ⟨ret_bool (by rw [← HF.out]; simp [h0]), bl_trans HW2.out bq.out⟩
-- END v
      · have HF : Hid (b = false) := Lib.hid (by rw [← HB0.out]; unfold termB; rw [if_neg (by show ¬ (mode = 1 ∨ mode = 2); omega), if_neg h3])
        have t1 : (mode == 1) = false := by simpa using h1
        have t2 : (mode == 2) = false := by simpa using h2
        have t3 : (mode == 3) = false := by simpa using h3
        clear h1 h2 h3
        go_enter Try.func41, Try.ntmps41
        go_wp2
        go_ret
        exact ⟨ret_bool HF.out.symm, bl_alloc (Below.refl _ _) _⟩
end Go.Proofs.Ytddgdhaioomnnaa.Sleep
