/-
  WHAT THE DOCUMENT'S ANSWER FOR LAYER 10 RETURNS: ended, tell. No conditions beyond those that each theorem states.
-/
import Derived.Test.YtbeeojccadeboaaGreatModelSt
import Derived.Test.YtbeeojccadeboaaGreatTermA
import Derived.Test.YtbeeojccadeboaaGreatModelStep
namespace Go.Proofs.YtbeeojccadeboaaGreat.Model
open Go.ChangeShapes Go.WideShapes Go.ChangeAt Go.RowKit Mem Go.Proofs.YtbeeojccadeboaaGreat.Code

/-- The state of which nothing is set. -/
def rz : RS := ⟨⟨[], fun _ => false, List.replicate 8 0, [], fun _ => false, 0, 0⟩, none, 0, 0, none, 0, 0⟩
theorem zero_st : (Tryz.prog.info? 105).bind (·.zero) = some (.agg (sc rz).toArray) := by kernel_rfl
theorem size_st : (Tryz.prog.info? 105).map (·.size) = some 140 := by kernel_rfl
theorem hi_st (r : RS) (h : r.s.regs.length = 8) : (Tryz.prog.info? 105).map (·.size) = some (sc r).toArray.size := by
  rw [size_st, List.size_toArray, sc_len h]
theorem one_st (r : RS) : (sc r).toArray.all (·.oneCell') = true := by
  rw [Array.all_eq_true_iff_forall_mem]
  intro u hu
  exact sc_one u (by simpa using hu)
/-- Two blocks that a function of states begins with: what it was given, and what it will return. -/
theorem two_blocks (r : RS) (w : World) (t : TypeId) (cr Z : Array Value) (hc : (sc r).toArray = cr) (ht : t = 105) : ∀ w2, w2 = (w.alloc (.cells cr t)).alloc (.cells Z t) →
    Sb w2 w.heap.size r ∧ Blk w2 (w.heap.size + 1) t Z ∧ Below w.heap.size w w2 ∧ w2.heap.size = w.heap.size + 2 := by
  rintro w2 rfl
  subst hc ht
  refine ⟨(Blk.new _ _ _).alloc _, ?_, bl_alloc (bl_alloc (Below.refl _ _) _) _, by simp⟩
  have := Blk.new (w.alloc (.cells (sc r).toArray 105)) 105 Z
  have e1 : (w.alloc (.cells (sc r).toArray 105)).heap.size = w.heap.size + 1 := by simp
  rwa [e1] at this
theorem setRow_blk {w : World} {g : Nat} {old cs : Array Value} {t : TypeId} (h : Blk w g t old) : Blk (w.setRow g cs) g t cs := setRow_heap w g old cs t (0, 0) h
theorem setRow_below {w0 w : World} {g : Nat} (hb : Below w0.heap.size w0 w) (hg : w0.heap.size ≤ g) (cs : Array Value) : Below w0.heap.size w0 (w.setRow g cs) := below_setRow hb hg cs
set_option maxRecDepth 100000 in
theorem ended_r (r : RS) (k v : Int) (w : World) (h8 : r.s.regs.length = 8) :
    Calls Tryz.prog 88 #[.agg (sc r).toArray, .int .i64 k, .int .i64 v] w fun e w' => e = .returned (.agg (sc { r with s := ended r.s k v }).toArray) ∧ Below w.heap.size w w' := by
  obtain ⟨Z, hZ0⟩ : ∃ Z, (sc rz).toArray = Z := ⟨_, rfl⟩
  have HZ := Lib.hid zero_st
  have HZS : Hid (Z.size = 140) := Lib.hid (by rw [← hZ0, List.size_toArray, sc_len rfl])
  rw [hZ0] at HZ
  obtain ⟨cr, hcr⟩ : ∃ cr, (sc r).toArray = cr := ⟨_, rfl⟩
  obtain ⟨w2, hw2⟩ : ∃ w2, w2 = (w.alloc (.cells cr 105)).alloc (.cells Z 105) := ⟨_, rfl⟩
  have HT := Lib.hid (two_blocks r w 105 cr Z hcr rfl w2 hw2)
  have q0 := HT.out.1.cell_ 138 _ (sc_kind h8).1
  have q1 := HT.out.1.cell_ 139 _ (sc_kind h8).2
  have z0 := Blk.frozen HT.out.1 138
  have z1 := Blk.frozen HT.out.1 139
  have HS : Hid (Sb ((w2.setCell ⟨w.heap.size, 138, none⟩ (.int .i64 k)).setCell ⟨w.heap.size, 139, none⟩ (.int .i64 v)) w.heap.size { r with s := ended r.s k v }) :=
    Lib.hid ((HT.out.1.set_ 138 _ (sc_set_kind h8 k)).set_ 139 _ (sc_set_why (r := { r with s := { r.s with kind := k } }) h8 v))
  have HB : Hid (Blk ((w2.setCell ⟨w.heap.size, 138, none⟩ (.int .i64 k)).setCell ⟨w.heap.size, 139, none⟩ (.int .i64 v)) (w.heap.size + 1) 105 Z) :=
    Lib.hid ((HT.out.2.1.beside (by omega) 138 _).beside (by omega) 139 _)
  have HBW : Hid (Below w.heap.size w ((w2.setCell ⟨w.heap.size, 138, none⟩ (.int .i64 k)).setCell ⟨w.heap.size, 139, none⟩ (.int .i64 v))) :=
    Lib.hid (bl_set (bl_set HT.out.2.2.1 (Nat.le_refl _) _) (Nat.le_refl _) _)
  have HI : Hid ((Tryz.prog.info? 105).map (·.size) = some (sc { r with s := ended r.s k v }).toArray.size) := Lib.hid (hi_st _ h8)
  have HSZ : Hid (Z.size = (sc { r with s := ended r.s k v }).toArray.size) := Lib.hid (by rw [HZS.out, List.size_toArray, sc_len (r := { r with s := ended r.s k v }) h8])
  obtain ⟨ce, hce⟩ : ∃ ce, (sc { r with s := ended r.s k v }).toArray = ce := ⟨_, rfl⟩
  have HONE : Hid (ce.all (·.oneCell') = true) := Lib.hid (by rw [← hce]; exact one_st _)
  have HS' : Hid (((w2.setCell ⟨w.heap.size, 138, none⟩ (.int .i64 k)).setCell ⟨w.heap.size, 139, none⟩ (.int .i64 v)).heap[w.heap.size]? = some (.cells ce 105 (0, 0))) := Lib.hid (by rw [← hce]; exact HS.out)
  rw [hce] at HI HSZ ⊢
  rw [hcr]
  clear hcr hce hZ0 HS
  go_enter Tryz.func88, Tryz.ntmps88
  go_wp2_with (first
    | (refine box_row rfl 105 _ rfl cr rfl ?_)
    | (refine alloc_row rfl 105 rfl Z HZ.out ?_; rw [← hw2]; clear hw2)
    | (refine wpList_load_row rfl 105 _ rfl w.heap.size rfl 105 ce (0, 0) _ HS'.out Tryz.underlying105 rfl HI.out ?_)
    | (refine wpList_store_row rfl 105 _ _ rfl (w.heap.size + 1) ce rfl rfl 105 Z HB.out HI.out HSZ.out HONE.out ?_))
  exact bodyPost_ret (results_cell_row Tryz.results88 _ _ (w.heap.size + 1) 105 ce (0, 0) _ rfl (setRow_blk HB.out) Tryz.underlying105 rfl HI.out) rfl ⟨rfl, setRow_below HBW.out (by omega) _⟩
/-- One block: what a function of a state was given. -/
theorem one_block (r : RS) (w : World) (cr : Array Value) (hc : (sc r).toArray = cr) : ∀ w2, w2 = w.alloc (.cells cr 105) →
    Sb w2 w.heap.size r ∧ Below w.heap.size w w2 ∧ w2.heap.size = w.heap.size + 1 := by
  rintro w2 rfl
  subst hc
  exact ⟨Blk.new _ _ _, bl_alloc (Below.refl _ _) _, by simp⟩
set_option maxRecDepth 100000 in
theorem tell_r (r : RS) (t : List Term.Op) (D : Option Addr) (m d : Nat) (w : World) (x : Int) (h8 : r.s.regs.length = 8) (hh : Rd w 2 r.A r.n (Heap.cs r.s.h)) (hn : r.n ≤ 1000000) (ht : Rd w 2 D m (Term.ops t)) (hm : m ≤ 1000000) (hx : tellM r.s t = x) :
    Calls Tryz.prog 89 #[.agg (sc r).toArray, .slice D m d] w fun e w' => e = .returned (.int .i64 x) ∧ Below w.heap.size w w' := by
  have HH := Lib.hid hh
  have HT := Lib.hid ht
  have HX := Lib.hid hx
  have H8 := Lib.hid h8
  obtain ⟨cr, hcr⟩ : ∃ cr, (sc r).toArray = cr := ⟨_, rfl⟩
  obtain ⟨w2, hw2⟩ : ∃ w2, w2 = w.alloc (.cells cr 105) := ⟨_, rfl⟩
  have HB := Lib.hid (one_block r w cr hcr w2 hw2)
  rw [hcr]
  clear hcr hh ht hx
  go_enter Tryz.func89, Tryz.ntmps89
  go_wp2_with (refine box_row rfl 105 _ rfl cr rfl ?_; rw [← hw2]; clear hw2)
  go_loopw [5, 6] (fun v i wr => ∃ k : Nat, k ≤ 8 ∧ i = .int .i64 k ∧ Own w2 wr 3 1 v k (zs (r.s.regs.take k))) (fun _ i _ => 8 - (intOf i).toNat)
  case atStart => exact ⟨0, Nat.zero_le _, rfl, Own.nil_ (Below.refl _ _)⟩
  case round =>
    obtain ⟨k, hk, rfl, hown⟩ := hrel
    generalize wr = w3 at *
    have HOWN := Lib.hid hown
    obtain ⟨B4, d4, rfl, _⟩ := hown.form
    by_cases hlt : k < 8
    · obtain ⟨y, hy⟩ : ∃ y, r.s.regs[k]? = some y := ⟨_, List.getElem?_eq_getElem (by omega)⟩
      have c0 : w3.cell? ⟨w.heap.size, 65 + k, none⟩ = some (.int .i64 y) := (Blk.below HB.out.1 hown.2).cell (65 + k) _ (by rw [List.getElem?_toArray]; exact sc_reg h8 k y hy)
      have HT2 := Lib.hid (zs_take r.s.regs k y hy)
      clear hown hy
      go_wp2_with (at_builtin; refine append_rd rfl _ _ 26 rfl Mem.tInt w2 (.slice B4 k d4) k (zs (r.s.regs.take k)) rfl (HOWN.out.alloc _) _ 1 1 [.int .i64 y] rfl (Rd.built _ 1 1 [.int .i64 y] _ rfl) (one_cons rfl one_nil) (by omega) (by omega) ?_; intro v5 w5 ho5 hg5; have HO5 := Lib.hid ho5; clear ho5 hg5)
      go_roundw
      case rel => exact ⟨k + 1, by omega, by go_num, by rw [HT2.out]; exact HO5.out⟩
      case measure => simp [intOf]; omega
    · obtain rfl : k = 8 := by omega
      have HR3 : Hid (Rd w3 1 B4 8 (zs r.s.regs)) := Lib.hid (by
        have h1 := HOWN.out
        rw [List.take_of_length_le (by omega)] at h1
        obtain ⟨B, dd, e, hr⟩ := h1.form
        injection e with e1 e2 e3
        subst e1
        exact hr)
      have HB3 := Lib.hid (bl_trans HB.out.2.1 hown.2)
      clear hown
      obtain ⟨⟨x1, x2⟩, hev⟩ : ∃ x, Term.evalS t r.s.h r.s.regs = x := ⟨_, rfl⟩
      have HEV := Lib.hid hev
      have q0 : w3.cell? ⟨w.heap.size, 0, none⟩ = some (.slice r.A r.n r.c) := (Blk.below HB.out.1 HOWN.out.2).cell 0 _ (by rw [List.getElem?_toArray]; exact sc_heap)
      go_wp2_with fail
      refine (Term.refeval t r.s.h r.s.regs D r.A B4 m d r.n r.c 8 d4 _ (x1, x2) (HT.out.below HB3.out) (HH.out.below HB3.out) HR3.out hm hn (by decide) HEV.out).mono ?_
      rintro e w4 ⟨rfl, b_⟩
      have HB4 := Lib.hid (bl_trans HB3.out b_)
      clear b_
      go_wp2
      go_ret
      exact ⟨ret_int (by rw [← HX.out]; unfold tellM; rw [HEV.out]), HB4.out⟩
end Go.Proofs.YtbeeojccadeboaaGreat.Model
