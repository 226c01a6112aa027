/-
  WHAT THE DOCUMENT'S ANSWER FOR LAYER 7 RETURNS: value, Eval, Cells.
-/
import Derived.Test.YtcdcikjkpbcjgaaTermRef3
namespace Go.Proofs.Ytcdcikjkpbcjgaa.Term
open Go.ChangeShapes Go.WideShapes Go.ChangeAt Go.RowKit Mem

/-- What is returned: a number, and a truth. -/
def RetV (w : World) (r : Int × Bool) (e : Ending) (w' : World) : Prop := e = .returned (.tuple #[.int .i64 r.1, .bool r.2]) ∧ Below w.heap.size w w'

theorem all_app {α : Type} {p : α → Bool} {a b : List α} (h : (a ++ b).all p = true) : a.all p = true ∧ b.all p = true := by
  rw [List.all_append, Bool.and_eq_true] at h; exact h
theorem live_at_ {h : List Heap.Cell} {A : Option Addr} {m : Nat} {w : World} (hh : Rd w 2 A m (Heap.cs h)) (nn : Int) (hl : Heap.liveAt h nn = true) :
    ∃ b off, ∃ k : Nat, A = some ⟨b, off, none⟩ ∧ nn = (k : Int) ∧ k < m ∧ w.cell? ⟨b, off + k * 2 + 1, none⟩ = some (.int .i64 (Heap.valAt h nn)) := by
  obtain ⟨h0, h1, x, hx, _⟩ := Heap.live_in h nn hl
  obtain ⟨k, rfl⟩ := Int.eq_ofNat_of_zero_le h0
  simp only [Int.toNat_natCast] at hx h1
  have hln : h.length = m := by have := hh.1; rw [Heap.cs_len] at this; omega
  obtain ⟨b, off, y, hA, hy, c0, c1⟩ := Heap.at_cell hh k (by omega)
  rw [hx] at hy; injection hy with e; subst e
  exact ⟨b, off, k, hA, rfl, by omega, by rw [Heap.val_at h k _ hx]; exact c1⟩

set_option maxHeartbeats 1000000 in
theorem refvalue_tree (h : List Heap.Cell) (rg : List Int) (hh0 : Heap.rightB h = true) (T : Tree) : T.ok → T.ops.all oneB = true → ∀ (P Q l : List Op) (A D E : Option Addr) (n c m d x y k : Nat) (r : Int × Bool) (w : World), Rd w 2 A n (ops l) → Rd w 2 D m (Heap.cs h) → Rd w 1 E x (zs rg) → n ≤ 1000000 → m ≤ 1000000 → x ≤ 1000000 →
    l = P ++ (T.ops ++ Q) → k + 1 = P.length + T.ops.length → T.val h rg = r → ∀ z : Int, z = (k : Int) →
    Calls Try.prog 25 #[.slice A n c, .int .i64 z, .slice D m d, .slice E x y] w (RetV w r) := by
  induction T with
  | leaf o =>
    intro hok hone P Q l A D E n c m d x y k r w hr hh hg hn hm hx hl hk hv z hz
    subst hz
    have h3 : o.kind ≤ 3 := takes_0 _ hok
    have ho : oneB o = true := by simpa [Tree.ops] using hone
    have h1 := one_kind o ho
    have HH := Lib.hid hh
    have HG := Lib.hid hg
    have hlen := zs_len hg
    obtain ⟨b, off, rfl, hkn, c0, c1⟩ := same_at hr k o (by rw [hl]; have := part_at P Q [] o k (by simp [Tree.ops] at hk ⊢; omega); simpa [Tree.ops] using this)
    obtain ⟨kd, nn⟩ := o
    have h1 : 1 ≤ kd ∧ kd ≤ 11 := h1
    have h3 : kd ≤ 3 := h3
    have HV := Lib.hid hv
    clear hr hh hg hl hk hok hone hv
    rcases (by omega : kd = 1 ∨ kd = 2 ∨ kd = 3) with rfl | rfl | rfl
    · have HF : Hid (r = (nn, true)) := Lib.hid (by rw [← HV.out]; rfl)
      clear ho h1 h3 hlen
      go_enter Try.func25, Try.ntmps25
      go_wp2
      go_ret2
      exact ⟨by rw [HF.out]; rfl, bl_alloc (Below.refl _ _) _⟩
    · cases hlv : Heap.liveAt h nn
      · have HF : Hid (r = (0, false)) := Lib.hid (by rw [← HV.out]; unfold Tree.val tellS; simp [hlv])
        have HLV := Lib.hid hlv
        clear ho h1 h3 hlen hlv
        go_enter Try.func25, Try.ntmps25
        go_wp2_with fail
        refine (Heap.live_any h _ _ _ _ _ (HH.out.alloc _) hm).mono ?_
        rw [HLV.out]
        rintro e w' ⟨rfl, rfl⟩
        go_wp2
        go_ret2
        exact ⟨by rw [HF.out]; rfl, bl_alloc (Below.refl _ _) _⟩
      · have HF : Hid (r = (Heap.valAt h nn, true)) := Lib.hid (by rw [← HV.out]; unfold Tree.val tellS; simp [hlv])
        have HLV := Lib.hid hlv
        obtain ⟨vl, hvl⟩ : ∃ v, Heap.valAt h nn = v := ⟨_, rfl⟩
        obtain ⟨db, df, j, rfl, rfl, hjm, d1⟩ := live_at_ (HH.out.alloc (.cells #[.int .i64 2, .int .i64 nn] 54)) nn hlv
        rw [hvl] at d1
        have HVL := Lib.hid hvl
        clear ho h1 h3 hlen hlv hvl
        go_enter Try.func25, Try.ntmps25
        go_wp2_with fail
        refine (Heap.live_any h _ _ _ _ _ (HH.out.alloc _) hm).mono ?_
        rw [HLV.out]
        rintro e w' ⟨rfl, rfl⟩
        go_wp2
        go_ret2
        exact ⟨by rw [HF.out, HVL.out]; rfl, bl_alloc (Below.refl _ _) _⟩
    · have hn0 : 0 ≤ nn := by unfold oneB at ho; simp at ho; omega
      obtain ⟨j, rfl⟩ := Int.eq_ofNat_of_zero_le hn0
      by_cases hj : j < x
      · obtain ⟨eb, ef, rv, rfl, hrv, e0⟩ := at_z (HG.out.alloc (.cells #[.int .i64 3, .int .i64 (j : Int)] 54)) j hj
        have HF : Hid (r = (Span.sw rv, true)) := Lib.hid (by rw [← HV.out]; unfold Tree.val tellS; simp [hrv])
        clear ho h1 h3 hlen hrv
        go_enter Try.func25, Try.ntmps25
        go_wp2_with fail
        refine (Span.refwrap_any _ _).mono ?_
        rintro e w' ⟨rfl, rfl⟩
        go_wp2
        go_ret2
        exact ⟨by rw [HF.out]; rfl, bl_alloc (Below.refl _ _) _⟩
      · have HF : Hid (r = (0, false)) := Lib.hid (by rw [← HV.out]; unfold Tree.val tellS; simp [List.getElem?_eq_none (show rg.length ≤ j by omega)])
        clear ho h1 h3 hlen
        go_enter Try.func25, Try.ntmps25
        go_wp2
        go_ret2
        exact ⟨by rw [HF.out]; rfl, bl_alloc (Below.refl _ _) _⟩
  | un o a iha =>
    intro hok hone P Q l A D E n c m d x y k r w hr hh hg hn hm hx hl hk hv z hz
    subst hz
    obtain ⟨h1, h2⟩ : takes o.kind = 1 ∧ a.ok := hok
    have hk11 := takes_1 _ h1
    have hap := a.pos
    obtain ⟨j, hj⟩ : ∃ j, k = j + 1 := ⟨k - 1, by simp [Tree.ops] at hk; omega⟩
    obtain ⟨⟨va, oa⟩, hva⟩ : ∃ p, a.val h rg = p := ⟨_, rfl⟩
    replace iha := fun w' (r1 : Rd w' 2 A n (ops l)) (r2 : Rd w' 2 D m (Heap.cs h)) (r3 : Rd w' 1 E x (zs rg)) => iha h2 (all_app hone).1 P ([o] ++ Q) l A D E n c m d x y j (va, oa) w' r1 r2 r3 hn hm hx (by rw [hl]; simp [Tree.ops]) (by simp [Tree.ops] at hk; omega) hva
    replace iha := Lib.hid iha
    have HR := Lib.hid hr
    have HH := Lib.hid hh
    have HG := Lib.hid hg
    obtain ⟨b, off, rfl, hkn, c0, c1⟩ := same_at hr k o (by rw [hl]; exact part_at P Q a.ops o k (by simp [Tree.ops] at hk; omega))
    obtain ⟨kd, nn⟩ := o
    obtain rfl : kd = 11 := hk11
    have HV : Hid (r = (truthI (va == 0), oa)) := Lib.hid (by rw [← hv]; simp only [Tree.val, hva])
    have e1 : (k : Int) - 1 = (j : Int) := by omega
    have HJ := Lib.hid hj
    clear hr hh hg hl hk hv h1 h2 hap hj hone hva
    have HK0 : Hid (Blk (w.alloc (.cells #[.int .i64 11, .int .i64 nn] 54)) w.heap.size 54 #[.int .i64 11, .int .i64 nn]) := Lib.hid (Blk.new _ _ _)
    go_enter Try.func25, Try.ntmps25
    go_wp2_with fail
    refine (iha.out _ (HR.out.alloc _) (HH.out.alloc _) (HG.out.alloc _) _ (by omega)).mono ?_
    rintro e w1 ⟨rfl, b1⟩
    have HB1 := Lib.hid (bl_trans (bl_alloc (Below.refl _ _) _) b1)
    have q0 := (HK0.out.below b1).cell 0 _ rfl
    clear b1 c0 c1
    cases hz : (va == 0)
    all_goals
      have HZ := Lib.hid hz
      go_wp2_with fail
      refine (reftruth_any _ _).mono ?_
      rintro e w' ⟨rfl, rfl⟩
      go_wp2
      go_ret2
      exact ⟨by rw [HV.out, HZ.out]; rfl, HB1.out⟩
  | bin o a b iha ihb =>
    intro hok hone P Q l A D E n c m d x y k r w hr hh hg hn hm hx hl hk hv z hz
    subst hz
    obtain ⟨h1, h2, h3⟩ : takes o.kind = 2 ∧ a.ok ∧ b.ok := hok
    obtain ⟨hk4, hk11⟩ := takes_2 _ h1
    have hap := a.pos
    have hbp := b.pos
    obtain ⟨j, hj⟩ : ∃ j, k = j + 1 := ⟨k - 1, by simp [Tree.ops] at hk; omega⟩
    obtain ⟨i, hi⟩ : ∃ i, P.length + a.ops.length = i + 1 := ⟨P.length + a.ops.length - 1, by omega⟩
    obtain ⟨q, hq⟩ : ∃ q, q = i + 1 := ⟨_, rfl⟩
    have hoa := (all_app hone).1
    have hob := (all_app (all_app hone).2).1
    have hoo : oneB o = true := by have := (all_app (all_app hone).2).2; simpa using this
    have hk10 : o.kind ≤ 11 := (one_kind o hoo).2
    have HVA := Lib.hid (val_v h rg hh0 a h2 hoa)
    have HVB := Lib.hid (val_v h rg hh0 b h3 hob)
    obtain ⟨⟨va, oa⟩, hva⟩ : ∃ p, a.val h rg = p := ⟨_, rfl⟩
    obtain ⟨⟨vb, ob⟩, hvb⟩ : ∃ p, b.val h rg = p := ⟨_, rfl⟩
    rw [hva] at HVA
    rw [hvb] at HVB
    replace ihb := Lib.hid (fun w' (r1 : Rd w' 2 A n (ops l)) (r2 : Rd w' 2 D m (Heap.cs h)) (r3 : Rd w' 1 E x (zs rg)) => ihb h3 hob (P ++ a.ops) ([o] ++ Q) l A D E n c m d x y j (vb, ob) w' r1 r2 r3 hn hm hx (by rw [hl]; simp [Tree.ops]) (by simp [Tree.ops] at hk ⊢; omega) hvb)
    replace iha := Lib.hid (fun w' (r1 : Rd w' 2 A n (ops l)) (r2 : Rd w' 2 D m (Heap.cs h)) (r3 : Rd w' 1 E x (zs rg)) => iha h2 hoa P (b.ops ++ ([o] ++ Q)) l A D E n c m d x y i (va, oa) w' r1 r2 r3 hn hm hx (by rw [hl]; simp [Tree.ops]) (by omega) hva)
    have ihs := Lib.hid (fun w' (r1 : Rd w' 2 A n (ops l)) => refstart_tree b h3 (P ++ a.ops) ([o] ++ Q) l A n c j q w' r1 hn (by rw [hl]; simp [Tree.ops]) (by simp [Tree.ops] at hk ⊢; omega) (by simp; omega))
    have HR := Lib.hid hr
    have HH := Lib.hid hh
    have HG := Lib.hid hg
    obtain ⟨bb, off, rfl, hkn, c0, c1⟩ := same_at hr k o (by rw [hl]; have := part_at P Q (a.ops ++ b.ops) o k (by simp [Tree.ops] at hk ⊢; omega); simpa [Tree.ops] using this)
    obtain ⟨kd, nn⟩ := o
    have hk4 : 4 ≤ kd := hk4
    have hk10 : kd ≤ 10 := by have h9 : kd ≤ 11 := hk10; have h8 : kd ≠ 11 := hk11; omega
    have HV : Hid (r = (two kd va vb, ob && oa)) := Lib.hid (by rw [← hv]; simp only [Tree.val, hva, hvb])
    have e11 : (kd == 11) = false := beq_eq_false_iff_ne.2 hk11
    have f1 : (kd == 1) = false := beq_eq_false_iff_ne.2 (by omega)
    have f2 : (kd == 2) = false := beq_eq_false_iff_ne.2 (by omega)
    have f3 : (kd == 3) = false := beq_eq_false_iff_ne.2 (by omega)
    have e1 : (k : Int) - 1 = (j : Int) := by omega
    have e2 : (q : Int) - 1 = (i : Int) := by omega
    have hib : i ≤ 1000000 := by have hln := ops_len hr; rw [hl] at hln; simp [Tree.ops] at hln; omega
    have HJ := Lib.hid hj
    have HK0 : Hid (Blk (w.alloc (.cells #[.int .i64 kd, .int .i64 nn] 54)) w.heap.size 54 #[.int .i64 kd, .int .i64 nn]) := Lib.hid (Blk.new _ _ _)
    clear hr hh hg hl hk hv h1 h2 h3 hk11 hap hbp hj hi hq hone hva hvb hoa hob hoo
    go_enter Try.func25, Try.ntmps25
    go_wp2_with fail
    refine (ihb.out _ (HR.out.alloc _) (HH.out.alloc _) (HG.out.alloc _) _ (by omega)).mono ?_
    rintro e w1 ⟨rfl, b1⟩
    have HB1 := Lib.hid (bl_trans (bl_alloc (Below.refl _ _) _) b1)
    have HK1 := Lib.hid (HK0.out.below b1)
    have q0 := HK1.out.cell 0 _ rfl
    clear b1 c0 c1
    go_wp2_with fail
    refine (ihs.out _ (HR.out.below HB1.out) _ (by omega)).mono ?_
    rintro e w' ⟨rfl, rfl⟩
    go_wp2_with fail
    refine (iha.out _ (HR.out.below HB1.out) (HH.out.below HB1.out) (HG.out.below HB1.out) _ (by omega)).mono ?_
    rintro e w2 ⟨rfl, b2⟩
    have HB2 := Lib.hid (bl_trans HB1.out b2)
    clear q0
    have q0 := (HK1.out.below b2).cell 0 _ rfl
    clear b2
    cases ob
    all_goals
      go_wp2_with fail
      refine (refboth_any kd va vb _ _ HVA.out HVB.out hk4 hk10 rfl).mono ?_
      rintro e w' ⟨rfl, rfl⟩
      go_wp2
      go_ret2
      exact ⟨by rw [HV.out]; rfl, HB2.out⟩
end Go.Proofs.Ytcdcikjkpbcjgaa.Term
