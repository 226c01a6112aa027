/-
  WHAT THE LAYER model DOES, AS IT IS WRITTEN: each step by its Do; a part. No conditions beyond those that each theorem states.
-/
import Derived.Test.YtlmkhnjdifamgaaModelDo5
import Derived.Test.YtlmkhnjdifamgaaModelDo6
import Derived.Test.YtlmkhnjdifamgaaModelEither2
namespace Go.Proofs.Ytlmkhnjdifamgaa.Model
open Go.ChangeShapes Go.WideShapes Go.ChangeAt Go.RowKit Mem Go.Proofs.Ytlmkhnjdifamgaa.Code

section
variable {K : Nat → Nat → Prop} {w0 w : World} {g : Nat} {HA : Option Addr} {hn hc : Nat} {h : List Heap.Cell} {m : CS} {x : RL} {rest : List Raw} {B : Option Addr} {rn rc e : Nat}
theorem do_c (f : Nat) (hf : PartC f) {r : Raw} (hlen : rest.length ≤ f) (p : Pre K w0 w g HA hn hc h m x r rest B rn rc e) :
    Calls Try.prog (doing r.s.d) #[.pointer (some ⟨g, 0, none⟩), .agg #[.int .i64 r.s.d, .int .i64 r.s.a, .int .i64 r.s.b, .slice r.T r.n r.c], .slice B rn rc] w (DoPost K w0 w g (.slice HA hn hc) h m r rest e) := by
  have h1 := one_d r.s p.one
  rcases (by omega : r.s.d = 1 ∨ r.s.d = 2 ∨ r.s.d = 3 ∨ r.s.d = 4 ∨ r.s.d = 5 ∨ r.s.d = 6 ∨ r.s.d = 7) with hd | hd | hd | hd | hd | hd | hd
  · have e : doing r.s.d = 42 := by rw [hd]; rfl
    rw [e]
    cases hl : Heap.liveAt h r.s.b with
    | false => exact load_bad hd hl p
    | true =>
      cases hv : Writes.getL m.log r.s.b with
      | none => exact load_new hd hl hv p
      | some v => exact load_old v hd hl hv p
  · have e : doing r.s.d = 43 := by rw [hd]; rfl
    rw [e]; exact set_c hd p
  · have e : doing r.s.d = 44 := by rw [hd]; rfl
    rw [e]
    cases hl : Heap.liveAt h r.s.a with
    | false => exact store_bad hd hl p
    | true => exact store_c hd hl p
  · have e : doing r.s.d = 45 := by rw [hd]; rfl
    rw [e]; exact skip_c hd p
  · have e : doing r.s.d = 46 := by rw [hd]; rfl
    rw [e]; exact retry_c hd p
  · have e : doing r.s.d = 47 := by rw [hd]; rfl
    rw [e]; exact fail_c hd p
  · have e : doing r.s.d = 48 := by rw [hd]; rfl
    rw [e]; exact either_c f hf hlen hd p
end
theorem run_enter {P : Program} {F : FuncId} {fn : Func} (hf : P.funcs[F]? = some fn) (hn : (fn.name == "runtime.NumGoroutine") = false) (hb : fn.body.isNone = false) (args : Array Value) (W : World) : (callFunc F args).run P W = .ok (.enter F args) W := by
  have hn' : ¬ fn.name = "runtime.NumGoroutine" := by simpa using hn
  have hb' : ¬ fn.body = none := fun e => by rw [e] at hb; cases hb
  unfold callFunc
  simp [program, Sem.run, hf, hn', hb']
theorem call_doing (d : Int) (h1 : 1 ≤ d) (h7 : d ≤ 7) (args : Array Value) (W : World) : (callFunc (doing d) args).run Try.prog W = .ok (.enter (doing d) args) W := by
  rcases (by omega : d = 1 ∨ d = 2 ∨ d = 3 ∨ d = 4 ∨ d = 5 ∨ d = 6 ∨ d = 7) with rfl | rfl | rfl | rfl | rfl | rfl | rfl
  · exact run_enter Try.func42 (by kernel_rfl) (by kernel_rfl) args W
  · exact run_enter Try.func43 (by kernel_rfl) (by kernel_rfl) args W
  · exact run_enter Try.func44 (by kernel_rfl) (by kernel_rfl) args W
  · exact run_enter Try.func45 (by kernel_rfl) (by kernel_rfl) args W
  · exact run_enter Try.func46 (by kernel_rfl) (by kernel_rfl) args W
  · exact run_enter Try.func47 (by kernel_rfl) (by kernel_rfl) args W
  · exact run_enter Try.func48 (by kernel_rfl) (by kernel_rfl) args W
theorem cons_at {l : List Raw} {r : Raw} (h : l[0]? = some r) : l = r :: l.drop 1 := by
  cases l with
  | nil => simp at h
  | cons y l => simp at h; rw [h]; rfl
set_option maxRecDepth 100000 in
set_option maxHeartbeats 2000000 in
theorem part_zero_c : PartC 0 := by
  intro K w0 w g HA hn hc h m x c C cn cc e hl p
  obtain rfl : c = [] := List.eq_nil_of_length_eq_zero (by omega)
  obtain rfl : cn = 0 := p.part.len.symm
  have HP : Hid (PPost K w0 w g (.slice HA hn hc) h m [] e (.returned (.int .i64 1)) w) := Lib.hid ⟨1, m, rfl, ⟨x, p.run, p.ok, Fr.refl _ _⟩, p.good.weak _ (by simp), by
    have h0 := part_nil (abs h m 0)
    show part [] (abs h m 0) = _
    rw [h0]
    unfold ended abs
    rw [p.why]⟩
  clear p hl
  go_enter Try.func18, Try.ntmps18
  go_wp2
  go_loopw [1] (fun v wr => v = .slice C 0 cc ∧ wr = w) (fun v _ => lenV v)
  case atStart => exact ⟨rfl, rfl⟩
  case round =>
    obtain ⟨rfl, rfl⟩ := hrel
    go_wp2
    go_ret
    exact HP.out
set_option maxRecDepth 100000 in
set_option maxHeartbeats 4000000 in
theorem part_succ_c (f : Nat) (hf : PartC f) : PartC (f + 1) := by
  intro K w0 w g HA hn hc h m x c C cn cc e hl p
  obtain ⟨KT, ET, hu, hk⟩ := und_doing
  have HU := Lib.hid hu
  have HKT := Lib.hid hk
  have HFIN : Hid (∀ (wr w' : World) (m1 : CS) (x1 : RL) (Y : List Raw) (k : Int) (m' : CS), RunAt w0 wr g (.slice HA hn hc) m1 x1 → Fr K w wr → part (ss c) (abs h m 0) = part (ss Y) (abs h m1 0) → Kept K w0 wr w' g (.slice HA hn hc) m' → Good h m' e → part (ss Y) (abs h m1 0) = abs h m' k → PPost K w0 w g (.slice HA hn hc) h m c e (.returned (.int .i64 k)) w') :=
    Lib.hid (fun wr w' m1 x1 Y k m' _ h2 h3 h4 h5 h6 => by
      obtain ⟨x', k1, k2, k3⟩ := h4
      exact ⟨k, m', rfl, ⟨x', k1, k2, h2.trans k3⟩, h5, h3.trans h6⟩)
  have HPRE : Hid (∀ (wr : World) (m1 : CS) (x1 : RL) (Y : List Raw) (D : Option Addr) (dn dc : Nat), RunAt w0 wr g (.slice HA hn hc) m1 x1 → KOK K wr g x1 → At w0 D dn Y → dn ≤ dc → dn ≤ 24 → dc ≤ 9223372036854775807 → (ss Y).all oneB = true → (wellP (ss Y)).2 = true → Good h m1 (Y.length + e) → m1.why = 0 → PPre K w0 wr g HA hn hc h m1 x1 Y D dn dc e) :=
    Lib.hid (fun wr m1 x1 Y D dn dc h1 h2 h3 h4 h5 h6 h7 h8 h9 h10 => ⟨h1, h2, p.heap, p.hn, h3, h4, h5, h6, h7, h8, h9, h10⟩)
  have HHEAP := Lib.hid p.heap
  have HHN := Lib.hid p.hn
  have P0 := Lib.hid p
  have HF := Lib.hid hf
  clear p hf hu hk
  go_enter Try.func18, Try.ntmps18
  go_wp2
  go_loopw [1] (fun v wr => ∃ (m1 : CS) (x1 : RL) (Y : List Raw) (D : Option Addr) (dn dc : Nat), v = .slice D dn dc ∧ Y.length ≤ f + 1 ∧ Hid (PPre K w0 wr g HA hn hc h m1 x1 Y D dn dc e) ∧ Hid (Fr K w wr) ∧ Hid (part (ss c) (abs h m 0) = part (ss Y) (abs h m1 0))) (fun v _ => lenV v)
  case atStart => exact ⟨m, x, c, C, cn, cc, rfl, hl, P0, Lib.hid (Fr.refl _ _), Lib.hid rfl⟩
  case round =>
    obtain ⟨m1, x1, Y, D, dn, dc, rfl, hY, HP, HFR, HS⟩ := hrel
    generalize wr = w1 at *
    have hlen := HP.out.part.len
    by_cases hd0 : 0 < dn
    · obtain ⟨b, off, ⟨⟨sd, sa, sb, st⟩, T, tn, tc⟩, hD, hx, -⟩ := HP.out.part.at_ 0 hd0
      subst hD
      obtain ⟨Q, hQ⟩ : ∃ Q, Y.drop 1 = Q := ⟨_, rfl⟩
      have hYQ : Y = ⟨⟨sd, sa, sb, st⟩, T, tn, tc⟩ :: Q := by rw [← hQ]; exact cons_at hx
      subst hYQ
      have HCELL : Hid (∀ W, Below w0.heap.size w0 W → W.cell? ⟨b, off, none⟩ = some (.int .i64 sd) ∧ W.cell? ⟨b, off + 1, none⟩ = some (.int .i64 sa) ∧ W.cell? ⟨b, off + 2, none⟩ = some (.int .i64 sb) ∧ W.cell? ⟨b, off + 3, none⟩ = some (.slice T tn tc)) := Lib.hid (fun W hW => by
        obtain ⟨b', off', ⟨⟨sd', sa', sb', st'⟩, T', tn', tc'⟩, hA', hx', c0, c1, c2, c3, _⟩ := (HP.out.part.below hW).at_ 0 hd0
        injection hA' with hA'
        injection hA' with e1 e2
        subst e1 e2
        simp only [List.getElem?_cons_zero, Option.some.injEq] at hx'
        injection hx' with i1 i2 i3 i4
        injection i1 with j1 j2 j3 j4
        subst i2 i3 i4 j1 j2 j3
        simp only [Nat.zero_mul, Nat.add_zero] at c0 c1 c2 c3
        exact ⟨c0, c1, c2, c3⟩)
      obtain ⟨B2, hB2⟩ : ∃ B2, (if dc = 1 then some (⟨b, off, none⟩ : Addr) else some ⟨b, off + 4, none⟩) = B2 := ⟨_, rfl⟩
      have hcap := HP.out.cap
      have hcn := HP.out.cn
      have hccc := HP.out.ccc
      have hone : oneB ⟨sd, sa, sb, st⟩ = true := by
        have h1 := HP.out.all
        show oneB ⟨sd, sa, sb, st⟩ = true
        have h2 : (ss (⟨⟨sd, sa, sb, st⟩, T, tn, tc⟩ :: Q)).all oneB = (oneB ⟨sd, sa, sb, st⟩ && (ss Q).all oneB) := rfl
        rw [h2, Bool.and_eq_true] at h1
        exact h1.1
      have hallQ : (ss Q).all oneB = true := by
        have h1 := HP.out.all
        have h2 : (ss (⟨⟨sd, sa, sb, st⟩, T, tn, tc⟩ :: Q)).all oneB = (oneB ⟨sd, sa, sb, st⟩ && (ss Q).all oneB) := rfl
        rw [h2, Bool.and_eq_true] at h1
        exact h1.2
      have hql : Q.length = dn - 1 := by rw [List.length_cons] at hlen; omega
      have hqf : Q.length ≤ f := by rw [List.length_cons] at hY; omega
      have hsd := one_d _ hone
      simp only at hsd
      have HDO : Hid (∀ W, Below w1.heap.size w1 W → Calls Try.prog (doing sd) #[.pointer (some ⟨g, 0, none⟩), .agg #[.int .i64 sd, .int .i64 sa, .int .i64 sb, .slice T tn tc], .slice B2 (dn - 1) (dc - 1)] W (fun en w' => DoPost K w0 W g (.slice HA hn hc) h m1 ⟨⟨sd, sa, sb, st⟩, T, tn, tc⟩ Q e en w')) := Lib.hid (fun W hW => by
        refine do_c (r := ⟨⟨sd, sa, sb, st⟩, T, tn, tc⟩) (x := x1) f HF.out hqf ⟨HP.out.run.below hW, HP.out.ok.size hW.size, HHEAP.out, HHN.out, (HP.out.part.2 _ (List.mem_cons_self ..)).1, hone, ?_, by omega, by omega, by omega, hallQ, HP.out.well, ?_, HP.out.why⟩
        · have h1 := HP.out.part.behind 1 dc (by omega) hcap
          rw [List.drop_one, List.tail_cons] at h1
          have e2 : (if dc = 1 then (some ⟨b, off, none⟩ : Option Addr) else Option.map (fun q : Addr => q.add (1 * 4)) (some ⟨b, off, none⟩)) = B2 := by rw [← hB2]; simp [Mem.add_plain]
          rw [e2] at h1
          exact h1
        · have h1 := HP.out.good
          rw [List.length_cons] at h1
          exact h1.weak _ (by omega))
      have HRB := Lib.hid HP.out.run.bel
      have BD : Hid (Below w1.heap.size w1 w1.drew) := Lib.hid (Below.refl _ _).drew
      have HFB : Hid (∀ W, Below w1.heap.size w1 W → Fr K w W) := Lib.hid (fun W hW => HFR.out.trans (HP.out.ok.fr hW))
      obtain ⟨i0, -⟩ := HCELL.out _ (bl_trans HRB.out BD.out)
      have HQL := Lib.hid hql
      have hb1 : 1 ≤ dn := hd0
      have hb1' : (1 : Int) ≤ (dn : Int) := by omega
      have hb2' : (dn : Int) ≤ (dc : Int) := by omega
      have HCD := Lib.hid (call_doing sd (by omega) (by omega))
      have HQF := Lib.hid hqf
      clear hx hone hallQ hlen hql hQ hqf
      go_wp2_with fail
      go_region_held3 (fun w' => w'.cell? ⟨b, off, none⟩ = some (.int .i64 sd)) (first | exact a0 | exact i0 | go_keep)
        ((go_at_call 29
          refine (doings_c _).mono ?_
          rintro e w5 ⟨bm, es, c5, rfl, hm5, hl5, b5⟩
          obtain ⟨im, him⟩ := hl5 sd (by omega) (by omega)
          have hlook := run_look HU.out HKT.out hm5 sd _ im him
          have BA := Lib.hid (bl_trans BD.out b5)
          have a0 := (HCELL.out _ (bl_trans HRB.out BA.out)).1
          clear b5 hm5 hl5 him))
      have BE : Hid (Below w1.heap.size w1 w5.drew) := Lib.hid BA.out.drew
      obtain ⟨j0, j1, j2, j3⟩ := HCELL.out _ (bl_trans HRB.out BE.out)
      clear i0 a0 hlook
      go_wp2_with fail
      go_region_held3 (fun w' => w'.cell? ⟨b, off, none⟩ = some (.int .i64 sd) ∧ w'.cell? ⟨b, off + 1, none⟩ = some (.int .i64 sa) ∧ w'.cell? ⟨b, off + 2, none⟩ = some (.int .i64 sb) ∧ w'.cell? ⟨b, off + 3, none⟩ = some (.slice T tn tc)) (first | exact ⟨d0, d1, d2, d3⟩ | exact ⟨j0, j1, j2, j3⟩ | go_keep)
        ((refine calls_step2 (by rfl) (doing sd) _ _ (HDO.out _ BE.out) (by go_simp; exact HCD.out _ _) ?_
          rintro e w6 ⟨k, lft, LB, ln, lc, m2, rfl, hkept, hcase⟩
          refine ⟨_, rfl, ?_⟩
          have HKEPT := Lib.hid hkept
          have HCASE := Lib.hid hcase
          obtain ⟨x2, hr2, hk2, hf2⟩ := hkept
          obtain ⟨d0, d1, d2, d3⟩ := HCELL.out w6 hr2.bel
          have HR2 := Lib.hid hr2
          have HK2 := Lib.hid hk2
          have HF2 := Lib.hid hf2
          clear hr2 hk2 hf2 hcase))
      clear j0 j1 j2 j3 d0 d1 d2 d3
      rcases HCASE.out with ⟨rfl, hat, hln, hlc, hall, hwell, hlft, hgood, hwhy, hspec⟩ | ⟨hk1, hgood, hspec⟩
      · have hlnl := hat.len
        have hq := HQL.out
        have hqf := HQF.out
        have HP2 := Lib.hid (HPRE.out w6 m2 x2 lft LB ln lc HR2.out HK2.out hat hln (by omega) hlc hall hwell hgood hwhy)
        have HS2 : Hid (part (ss c) (abs h m 0) = part (ss lft) (abs h m2 0)) := Lib.hid (HS.out.trans hspec)
        have HFR2 := Lib.hid ((HFB.out _ BE.out).trans HF2.out)
        have hmeas : ln < dn := by omega
        have hlf : lft.length ≤ f + 1 := by omega
        clear hat hln hlc hall hwell hlft hgood hwhy hspec hlnl hq hqf
        go_wp2
        go_roundw
        case rel => exact ⟨m2, x2, lft, LB, ln, lc, rfl, hlf, HP2, HFR2, HS2⟩
        case measure => simpa [lenV] using hmeas
      · have q : (k != 1) = true := by simp [hk1]
        have HF1 := Lib.hid (HFIN.out w5.drew w6 m1 x1 _ k m2 (HP.out.run.below BE.out) (HFB.out _ BE.out) HS.out HKEPT.out hgood hspec)
        clear hgood hspec
        go_wp2
        go_ret
        exact HF1.out
    · obtain rfl : dn = 0 := by omega
      obtain rfl : Y = [] := List.eq_nil_of_length_eq_zero hlen
      have HF1 := Lib.hid (HFIN.out w1 w1 m1 x1 [] 1 m1 HP.out.run HFR.out HS.out ⟨x1, HP.out.run, HP.out.ok, Fr.refl _ _⟩ (HP.out.good.weak _ (by simp)) (by
        have h0 := part_nil (abs h m1 0)
        show part [] (abs h m1 0) = _
        rw [h0]
        unfold ended abs
        rw [HP.out.why]))
      go_wp2
      go_ret
      exact HF1.out
theorem part_c : ∀ f, PartC f := by
  intro f
  induction f with
  | zero => exact part_zero_c
  | succ f ih => exact part_succ_c f ih
end Go.Proofs.Ytlmkhnjdifamgaa.Model
