/-
  THE FIXED ANSWER awake OF LAYER 9.
-/
import Derived.Test.YtilfkohckmknkaaShapeSaid
namespace Go.Proofs.Ytilfkohckmknkaa.Shape
open Go.ChangeShapes Go.WideShapes Go.ChangeAt Go.RowKit Mem Go.Proofs.Ytilfkohckmknkaa.Code

/-- A code in the memory of the list that Write is asked of. -/
theorem codes_one {w : World} {A : Option Addr} {n c : Nat} {l : List Raw} (h : At w A n l) (hnc : n ≤ c) (hc : c ≤ 9223372036854775807) (e : TypeId) {g : Nat} (hg : w.heap.size = g) : Codes (w.alloc (.cells (hs [⟨A, n, c, l⟩]).toArray e)) (some ⟨g, 0, none⟩) 1 [⟨A, n, c, l⟩] :=
  ⟨Rd.builtAt w 1 1 (hs [⟨A, n, c, l⟩]) e rfl hg, Inners.one ⟨h.alloc _, hnc, hc⟩⟩
theorem limc_one {A : Option Addr} {n c : Nat} {l : List Raw} (hn : n ≤ 1000000) (h : Lim l) : LimC [⟨A, n, c, l⟩] := by
  intro y hy; rw [List.mem_singleton] at hy; subst hy; exact ⟨hn, h⟩
/-- Of codes that are one, of one step: where they lie. -/
theorem one_code {w : World} {B : Option Addr} {q : Nat} {M : List RawC} {s : Step} (h : Codes w B q M) (hc : cc M = [[s]]) :
    q = 1 ∧ ∃ b off b2 off2, ∃ c, B = some ⟨b, off, none⟩ ∧ w.cell? ⟨b, off, none⟩ = some (.slice (some ⟨b2, off2, none⟩) 1 c) ∧ w.cell? ⟨b2, off2 + 1, none⟩ = some (.int .i64 s.a) := by
  have hl := h.len
  have hl2 := congrArg List.length hc
  rw [cc_len] at hl2
  have hq : q = 1 := by simp at hl2; omega
  subst hq
  obtain ⟨b, off, x, rfl, hx, c0, hin⟩ := h.at_ 0 (by decide)
  have hx2 := cc_at M 0 x hx
  rw [hc] at hx2
  have hss : ss x.l = [s] := by simpa using hx2.symm
  have hn := hin.1.len
  have hn2 := congrArg List.length hss
  rw [ss_len] at hn2
  have hxn : x.n = 1 := by simp at hn2; omega
  have hat := hin.1
  rw [hxn] at hat
  obtain ⟨b2, off2, r, hA, hr, _, c1, _, _, _, _⟩ := hat.at_ 0 (by decide)
  have hr2 := ss_at x.l 0 r hr
  rw [hss] at hr2
  have hs : r.s = s := by simpa using hr2.symm
  rw [Nat.zero_mul, Nat.add_zero, hs] at c1
  rw [Nat.add_zero, hxn, hA] at c0
  exact ⟨rfl, b, off, b2, off2, x.c, rfl, c0, c1⟩
def ab : List Int := [1, 1, 3, 9, 0, 1, 1, 255, 255, 255, 254]
theorem ab_write : writeS [[⟨3, 9, 0, [⟨1, -2⟩]⟩]] = some ab := by decide +kernel
theorem ab_bb : BB ab := write_bb ab_write
theorem ab_read : readS ab = some [[⟨3, 9, 0, [⟨1, -2⟩]⟩]] := read_some ab_write
theorem ab_more : readS (ab ++ [0]) = none := by decide +kernel
theorem ab_size : sizeS [⟨3, 9, 0, [⟨1, -2⟩]⟩] = 10 := by decide +kernel
theorem nil_read : readS [] = none := by decide +kernel
theorem nil_write : writeS [] = some [0] := by decide +kernel
set_option maxRecDepth 100000 in
set_option maxHeartbeats 4000000 in
theorem awake_any (w : World) : Calls Try.prog 10 #[] w (RetB w true) := by
  obtain ⟨lr, hlr⟩ : ∃ lr, lr = [(⟨⟨3, 9, 0, [⟨1, -2⟩]⟩, some ⟨w.heap.size, 0, none⟩, 1, 1⟩ : Raw)] := ⟨_, rfl⟩
  have HSK : Hid (∀ o2, At ((w.alloc (.cells (Term.ops [⟨1, -2⟩]).toArray 50)).alloc (.cells (rs [⟨⟨3, 9, 0, [⟨1, -2⟩]⟩, some ⟨w.heap.size, 0, none⟩, 1, 1⟩]).toArray o2)) (some ⟨w.heap.size + 1, 0, none⟩) 1 [⟨⟨3, 9, 0, [⟨1, -2⟩]⟩, some ⟨w.heap.size, 0, none⟩, 1, 1⟩]) := Lib.hid (fun o2 => ⟨Rd.builtAt _ 4 1 (rs [⟨⟨3, 9, 0, [⟨1, -2⟩]⟩, some ⟨w.heap.size, 0, none⟩, 1, 1⟩]) o2 rfl (by simp), by
    intro r hr
    rw [List.mem_singleton] at hr
    subst hr
    exact ⟨(Rd.built _ 2 1 (Term.ops [⟨1, -2⟩]) _ rfl).alloc _, Nat.le_refl _, by show 1 ≤ 9223372036854775807; omega⟩⟩)
  have HLM : Hid (Lim [⟨⟨3, 9, 0, [⟨1, -2⟩]⟩, some ⟨w.heap.size, 0, none⟩, 1, 1⟩]) := Lib.hid (by intro r hr; rw [List.mem_singleton] at hr; subst hr; show 1 ≤ 1000000; omega)
  have bb : Hid (Below w.heap.size w w) := Lib.hid (Below.refl _ _)
  clear hlr
  go_enter Try.func10, Try.ntmps10
  go_wp2_with fail
  refine (write_y [⟨some ⟨w.heap.size + 1, 0, none⟩, 1, 1, [⟨⟨3, 9, 0, [⟨1, -2⟩]⟩, some ⟨w.heap.size, 0, none⟩, 1, 1⟩]⟩] _ _ _ _ ab 11 (codes_one (HSK.out _) (Nat.le_refl _) (by decide) _ (by simp)) (limc_one (by decide) HLM.out) (by decide) ab_write rfl).mono ?_
  rintro e w2 ⟨B2, d2, rfl, ho2⟩
  have HAT2 := Lib.hid (((HSK.out 53).alloc (.cells (hs [⟨some ⟨w.heap.size + 1, 0, none⟩, 1, 1, [⟨⟨3, 9, 0, [⟨1, -2⟩]⟩, some ⟨w.heap.size, 0, none⟩, 1, 1⟩]⟩]).toArray 33)).below ho2.2)
  replace bb : Hid (Below w.heap.size w w2) := Lib.hid (bl_trans (bl_alloc (bl_alloc (bl_alloc (Below.refl _ _) _) _) _) ho2.2)
  obtain ⟨hd2, hm2, hr2⟩ := own_lims ho2
  have R2 := Lib.hid hr2
  clear ho2 hr2 HSK
  go_wp2_with fail
  refine (read_y ab [[⟨3, 9, 0, [⟨1, -2⟩]⟩]] _ _ _ _ R2.out ab_bb hd2 (by decide) hm2 ab_read).mono ?_
  rintro e w3 ⟨B3, q3, d3, M3, rfl, hc3, _, _, hcc3, _, b_⟩
  have HC3 := Lib.hid hc3
  have HCC3 := Lib.hid hcc3
  replace R2 := Lib.hid (R2.out.below b_)
  replace HAT2 := Lib.hid (HAT2.out.below b_)
  replace bb := Lib.hid (bl_trans bb.out b_)
  clear hc3 hcc3 b_
  have T1 : True := trivial
  have T2 : True := trivial
  go_wp2_with (first
    | (at_builtin; clear T1; refine append_rd rfl _ _ 25 rfl tByte w3 _ 0 [] rfl (Own.empty _ _ _) _ 11 _ (bs ab) rfl (R2.out.alloc _) (bs_one _) (by omega) (by omega) ?_; intro v4 w4 ho4 hg4; have HO4 := Lib.hid ho4; clear ho4 hg4)
    | (at_builtin; clear T2; refine append_rd rfl _ _ 25 rfl tByte w3 _ 11 (bs ab) rfl (HO4.out.alloc _) _ 1 1 (bs [0]) rfl (Rd.built _ 1 1 (bs [0]) _ rfl) (bs_one _) (by omega) (by omega) ?_; intro v5 w5 ho5 hg5; obtain ⟨B5, d5, rfl, _⟩ := ho5.form; obtain ⟨hd5, hm5, hr5⟩ := own_lims ho5; have R5 := Lib.hid hr5; have HB5 := Lib.hid ho5.2; clear ho5 hg5 hr5))
  refine (read_n (ab ++ [0]) _ _ _ _ (by rw [bs_app]; exact R5.out) (ab_bb.app (BB.cons_ (by decide) BB.nil_)) hd5 (by decide) hm5 ab_more).mono ?_
  rintro e w6 ⟨B6, d6, M6, rfl, _, _, _, b_⟩
  have HB6 := Lib.hid (bl_trans HB5.out b_)
  clear R5 HB5 HO4 b_
  go_wp2_with fail
  refine (read_n [] none 0 0 _ Rd.none_ BB.nil_ (by decide) (by decide) (by decide) nil_read).mono ?_
  rintro e w7 ⟨B7, d7, M7, rfl, _, _, _, b_⟩
  replace HB6 := Lib.hid (bl_trans HB6.out b_)
  clear b_
  go_wp2_with fail
  refine (write_y [] none 0 0 _ [0] 1 Codes.none_ LimC.nil_ (by decide) nil_write rfl).mono ?_
  rintro e w8 ⟨B8, d8, rfl, ho8⟩
  replace HB6 := Lib.hid (bl_trans HB6.out ho8.2)
  obtain ⟨_, _, hr8⟩ := own_lims ho8
  have hc3 := HC3.out.below HB6.out
  obtain ⟨rfl, b, off, b2, off2, c9, rfl, c0, c1⟩ := one_code hc3 HCC3.out
  have HATF := Lib.hid (HAT2.out.below HB6.out)
  have BBF := Lib.hid (bl_trans bb.out HB6.out)
  have k1 := run_str (P := Try.prog) (c := d2) (R2.out.below HB6.out) 25 5 9 Try.underlying25 Try.underlying5 Try.underlying9
  have k2 := run_str (P := Try.prog) (c := d8) hr8 25 5 9 Try.underlying25 Try.underlying5 Try.underlying9
  have s1 : strOfNums ab = { data := #[1, 1, 3, 9, 0, 1, 1, 255, 255, 255, 254] } := by decide +kernel
  have s2 : strOfNums [0] = { data := #[0] } := by decide +kernel
  rw [s1] at k1
  rw [s2] at k2
  clear hc3 ho8 hr8 s1 s2 HC3 HCC3 R2 HAT2 bb HB6
  go_wp2_with fail
  refine (size_c _ _ _ _ _ 10 HATF.out (Nat.le_refl _) HLM.out (by decide) ab_size).mono ?_
  rintro e w9 ⟨rfl, b_⟩
  have BBG := Lib.hid (bl_trans BBF.out b_)
  clear b_
  go_wp2
  go_ret
  exact ⟨rfl, BBG.out⟩
end Go.Proofs.Ytilfkohckmknkaa.Shape
