/-
  PLAIN LEMMAS ON TRIES: what a try stands for, as a run of the model; its frames are the parts around. No conditions beyond those that each theorem states. Nothing of the program is named here.
-/
import Derived.Test.YtadofonlkjkcmaaGreatAttE
import Derived.Test.YtadofonlkjkcmaaGreatModelA
namespace Go.Proofs.YtadofonlkjkcmaaGreat.Attempt
open Mem Go.Proofs.YtadofonlkjkcmaaGreat.Code
open Model (St CS)

def csT (t : Try) : CS := ⟨t.regs, t.path, t.log.list, t.reads.map Reads.Read.cell, t.why⟩
def absT (h : List Heap.Cell) (t : Try) (k : Int) : St := Model.abs h (csT t) k
/-- What the second part begins with. -/
def entry (h : List Heap.Cell) (path : List Int) (ws : List Heap.Write) (f : Frame) (m : Int) : St := Model.abs h ⟨f.regs, path.take f.long, ws.take m.toNat, [], 0⟩ 0
def secondF (c : List Step) (h : List Heap.Cell) (path : List Int) (ws : List Heap.Write) (f : Frame) (m : Int) (s : St) : St :=
  if s.kind = 2 then Model.part (seg c f.mid f.fin) (Model.saw (Model.onPath (entry h path ws f m) 2) s.seen) else s
def restF (c : List Step) (i j : Nat) (r : St) : St := if r.kind = 1 then Model.part (seg c i j) r else r
/-- What becomes of a part's end, in the parts around. -/
def contF (c : List Step) (h : List Heap.Cell) (path : List Int) (ws : List Heap.Write) : List Frame → List Int → St → St
  | [], _, s => s
  | f :: fs, ms, s => contF c h path ws fs ms.tail (restF c f.fin (lim c.length fs) (secondF c h path ws f (ms.headD 0) s))
/-- What becomes of a try. -/
def valT (c : List Step) (h : List Heap.Cell) (t : Try) : St :=
  contF c h t.path t.log.list t.frames t.log.marks.reverse (Model.part (seg c t.pc (lim c.length t.frames)) (absT h t 0))
theorem cont_same (c : List Step) (h : List Heap.Cell) {p p' : List Int} {ws ws' : List Heap.Write} : ∀ (fs : List Frame) (ms : List Int) (s : St), (∀ f ∈ fs, p.take f.long = p'.take f.long) → (∀ m ∈ ms, ws.take m.toNat = ws'.take m.toNat) → contF c h p ws fs ms s = contF c h p' ws' fs ms s := by
  intro fs
  induction fs with
  | nil => intro ms s _ _; rfl
  | cons f fs ih =>
    intro ms s hp hm
    have e : entry h p ws f (ms.headD 0) = entry h p' ws' f (ms.headD 0) := by
      unfold entry
      rw [hp f (List.mem_cons_self ..)]
      cases ms with
      | nil => rfl
      | cons m ms => rw [List.headD_cons, hm m (List.mem_cons_self ..)]
    have e2 : secondF c h p ws f (ms.headD 0) s = secondF c h p' ws' f (ms.headD 0) s := by unfold secondF; rw [e]
    unfold contF
    rw [e2]
    refine ih _ _ (fun g hg => hp g (List.mem_cons_of_mem _ hg)) (fun m hm2 => hm m ?_)
    cases ms with
    | nil => cases hm2
    | cons x ms => exact List.mem_cons_of_mem _ hm2
theorem cont_out (c : List Step) (h : List Heap.Cell) (p : List Int) (ws : List Heap.Write) : ∀ (fs : List Frame) (ms : List Int) (s : St), s.kind ≠ 1 → s.kind ≠ 2 → contF c h p ws fs ms s = s := by
  intro fs
  induction fs with
  | nil => intro ms s _ _; rfl
  | cons f fs ih =>
    intro ms s h1 h2
    unfold contF secondF restF
    rw [if_neg h2, if_neg h1]
    exact ih _ _ h1 h2
theorem cont_seen (c : List Step) (h : List Heap.Cell) (p : List Int) (ws : List Heap.Write) (n : Nat) : ∀ (fs : List Frame) (ms : List Int) (s : St), s.seen n = true → (contF c h p ws fs ms s).seen n = true := by
  intro fs
  induction fs with
  | nil => intro ms s hs; exact hs
  | cons f fs ih =>
    intro ms s hs
    have h1 : (secondF c h p ws f (ms.headD 0) s).seen n = true := by
      unfold secondF
      split
      · exact (Model.keeps _ _).seen n hs
      · exact hs
    have h2 : (restF c f.fin (lim c.length fs) (secondF c h p ws f (ms.headD 0) s)).seen n = true := by
      unfold restF
      split
      · exact (Model.keeps _ _).seen n h1
      · exact h1
    unfold contF
    exact ih _ _ h2
/-- A try, and a heap that it has met alone. -/
structure Sim (c : List Step) (h : List Heap.Cell) (t : Try) : Prop where
  heap : Heap.rightB h = true
  live : t.log.list.all (fun w => Heap.liveAt h w.cell) = true
  rds : ∀ x ∈ t.reads, Heap.liveAt h x.cell = true ∧ x.value = Heap.valAt h x.cell
  why : t.kind = 0 → t.why = 0
  inner : ∀ f ∈ t.frames, (wellP (seg c f.mid f.fin)).2 = true
theorem live_64 {h : List Heap.Cell} (hr : Heap.rightB h = true) {b : Int} (hl : Heap.liveAt h b = true) : 0 ≤ b ∧ b < 64 := by
  obtain ⟨h0, h1, _⟩ := Heap.live_in h b hl
  have := Heap.right_len h hr
  omega
section
variable {c : List Step} {h : List Heap.Cell} {t u : Try} {s : Step} {r : List Stripe.Rec}
theorem good_of (hs : Sim c h t) (hl : Writes.rightB t.log = true) (h8 : t.regs.length = 8) (hp : t.path.length ≤ 24) (hrd : t.reads.length ≤ 24) : Model.Good h (csT t) 0 := by
  have hw := (Writes.right_parts t.log).1 hl
  refine ⟨hs.heap, hs.live, ?_, hw.1, h8, hp, by show (t.reads.map _).length + 0 ≤ 24; rw [List.length_map]; exact hrd, ?_⟩
  · refine List.all_eq_true.2 fun x hx => ?_
    have := List.all_eq_true.1 hw.2.1 x hx
    unfold Writes.oneB at this
    rw [Bool.and_eq_true] at this
    exact this.2
  · intro z hz
    obtain ⟨x, hx, rfl⟩ := List.mem_map.1 hz
    exact live_64 hs.heap (hs.rds x hx).1
theorem Inv.good (hi : Inv c t) (hs : Sim c h t) : Model.Good h (csT t) 0 := by
  have h1 := hi.len
  have h2 := hi.top
  have h3 := hi.plen
  have h4 := hi.rlen
  have h5 := eithers_le (c.take t.pc)
  rw [List.length_take] at h5
  exact good_of hs hi.log hi.regs (by omega) (by omega)
theorem rev_tail (l : List Int) : (l.take (l.length - 1)).reverse = l.reverse.tail := by rw [List.tail_reverse, List.dropLast_eq_take]
theorem seg_none (c : List Step) (i : Nat) : seg c i i = [] := by unfold seg; simp
/-- Where a try is settled, what becomes of it stays. -/
theorem settle_val : ∀ (fs : List Frame) (t : Try), Pre c { t with frames := fs } → t.kind = 0 → Sim c h { t with frames := fs } →
    Sim c h (settleF c.length fs t) ∧ ((settleF c.length fs t).kind = 0 → valT c h (settleF c.length fs t) = valT c h { t with frames := fs }) ∧ ((settleF c.length fs t).kind ≠ 0 → (settleF c.length fs t).kind = 1 ∧ valT c h { t with frames := fs } = absT h (settleF c.length fs t) 1) := by
  intro fs
  induction fs with
  | nil =>
    intro t p hk hs
    have hw : t.why = 0 := hs.why hk
    unfold settleF stop
    split
    · rename_i he
      refine ⟨⟨hs.heap, hs.live, hs.rds, fun _ => hw, hs.inner⟩, fun e => absurd e (by show ¬ (1 : Int) = 0; decide), fun _ => ⟨rfl, ?_⟩⟩
      have he2 : t.pc = c.length := he
      unfold valT contF
      show Model.part (seg c t.pc c.length) _ = _
      rw [he2, seg_none]
      unfold absT csT Model.abs
      rw [Model.part_nil]
      unfold Model.ended
      simp only [hw]
    · exact ⟨hs, fun _ => rfl, fun e => absurd hk e⟩
  | cons f fs ih =>
    intro t p hk hs
    have hw : t.why = 0 := hs.why hk
    obtain ⟨h1, h2, h3, h4, h5, h6, h7, h8, h9⟩ := p.stack
    unfold settleF
    split
    · rename_i he
      have hm : 0 < t.log.marks.length := by have := p.marks; simp at this; omega
      obtain ⟨k1, k2⟩ := keep_log t.log p.log hm
      have hpc : t.pc ≤ f.fin := by omega
      have hpre : Pre c { { t with pc := f.fin, log := (Writes.keepS t.log).1 } with frames := fs } := by
        refine ⟨p.ok, p.regs, ?_, k2, p.rds, p.snap, Nat.le_trans p.rlen hpc, ?_, h2, h4, h6, h9.mono (Nat.le_of_lt h7), p.two, Nat.le_trans p.plen (eithers_mono c hpc), fun g hg => p.ones g (List.mem_cons_of_mem _ hg)⟩
        · have := p.marks
          rw [k1]
          simp at this ⊢
          omega
        · show (Writes.keepS t.log).1.list.length ≤ f.fin
          rw [k1]
          exact Nat.le_trans p.wlen hpc
      have hsim : Sim c h { { t with pc := f.fin, log := (Writes.keepS t.log).1 } with frames := fs } := by
        refine ⟨hs.heap, ?_, hs.rds, fun _ => hw, fun g hg => hs.inner g (List.mem_cons_of_mem _ hg)⟩
        show (Writes.keepS t.log).1.list.all _ = true
        rw [k1]; exact hs.live
      obtain ⟨i1, i2, i3⟩ := ih { t with pc := f.fin, log := (Writes.keepS t.log).1 } hpre hk hsim
      have e : valT c h { t with frames := f :: fs } = valT c h { { t with pc := f.fin, log := (Writes.keepS t.log).1 } with frames := fs } := by
        unfold valT
        rw [k1]
        show contF c h t.path t.log.list (f :: fs) t.log.marks.reverse (Model.part (seg c t.pc f.mid) (absT h t 0)) = contF c h t.path t.log.list fs (t.log.marks.take (t.log.marks.length - 1)).reverse (Model.part (seg c f.fin (lim c.length fs)) (absT h t 0))
        rw [he, seg_none, Model.part_nil, rev_tail]
        show contF c h t.path t.log.list fs t.log.marks.reverse.tail (restF c f.fin (lim c.length fs) (secondF c h t.path t.log.list f (t.log.marks.reverse.headD 0) (Model.ended (absT h t 0) 1 0))) = _
        unfold secondF
        rw [if_neg (by show ¬ (1 : Int) = 2; decide)]
        unfold restF
        rw [if_pos (by rfl), Model.part_end]
      rw [e]
      exact ⟨i1, i2, i3⟩
    · rename_i he
      have hlt : t.pc < f.mid := Nat.lt_of_le_of_ne p.le (fun e => he e.symm)
      have hlc : lim c.length (f :: fs) ≤ c.length := p.stack.lim_le
      have hn : ¬ t.pc = c.length := by have : f.mid ≤ c.length := hlc; omega
      have e : stop c.length { t with frames := f :: fs } = { t with frames := f :: fs } := by unfold stop; rw [if_neg hn]
      rw [e]
      exact ⟨hs, fun _ => rfl, fun e => absurd hk e⟩
/-- What a try that has ended has come to. -/
structure End (h : List Heap.Cell) (t : Try) (s : St) : Prop where
  kind : s.kind = t.kind
  why : s.why = t.why
  seen : s.seen = (absT h t 0).seen
  done : t.kind = 1 → s = absT h t 1
theorem marks_le (n : Int) : ∀ (ms : List Int) (lo : Int), Writes.marksB n lo ms = true → ∀ m ∈ ms, m ≤ n := by
  intro ms
  induction ms with
  | nil => intro lo _ m hm; cases hm
  | cons x ms ih =>
    intro lo h m hm
    rw [Writes.marksB] at h
    simp only [Bool.and_eq_true, decide_eq_true_eq] at h
    rcases List.mem_cons.1 hm with rfl | hm
    · exact h.1.2
    · exact ih x h.2 m hm
theorem Inv.mark_le (hi : Inv c t) (m : Int) (hm : m ∈ t.log.marks.reverse) : 0 ≤ m ∧ m.toNat ≤ t.log.list.length := by
  have hw := (Writes.right_parts t.log).1 hi.log
  have hm2 := List.mem_reverse.1 hm
  have h1 := marks_le _ _ _ hw.2.2.2 m hm2
  have h2 := marks_nonneg _ _ _ hw.2.2.2 m hm2
  omega
/-- A step that stays in its part. -/
theorem go_val (hi : Inv c t) (uf : u.frames = t.frames) (up : u.path = t.path) (um : u.log.marks = t.log.marks) (ul : ∃ e, u.log.list = t.log.list ++ e)
    (he : Model.part (seg c t.pc (lim c.length t.frames)) (absT h t 0) = Model.part (seg c u.pc (lim c.length t.frames)) (absT h u 0)) : valT c h u = valT c h t := by
  unfold valT
  rw [uf, up, um, he]
  refine cont_same c h _ _ _ (fun _ _ => rfl) (fun m hm => ?_)
  obtain ⟨e, ul⟩ := ul
  rw [ul, List.take_append_of_le_length (hi.mark_le m hm).2]
/-- A step that ends it. -/
theorem end_val (k w : Int) (h1 : k ≠ 1) (h2 : k ≠ 2) (he : Model.part (seg c t.pc (lim c.length t.frames)) (absT h t 0) = Model.ended (absT h t 0) k w) : End h (ended t k w) (valT c h t) := by
  have e : valT c h t = Model.ended (absT h t 0) k w := by
    unfold valT
    rw [he]
    exact cont_out c h _ _ _ _ _ h1 h2
  rw [e]
  exact ⟨rfl, rfl, rfl, fun h3 => absurd h3 h1⟩
/-- What becomes of a step: it goes on, or it has ended, or it is stale. -/
inductive Does (c : List Step) (h : List Heap.Cell) (r : List Stripe.Rec) (t : Try) (s : Step) (u : Try) : Prop where
  | on : u.kind = 0 → Sim c h u → valT c h u = valT c h t → Does c h r t s u
  | ends : u.kind ≠ 0 → u.kind ≠ 5 → u.kind ≠ 1 → Sim c h u → End h u (valT c h t) → Does c h r t s u
  | stale : u.kind = 5 → u.reads = t.reads → 0 ≤ s.b → s.b < 64 → (valT c h t).seen s.b.toNat = true → ¬ ((recAt r s.b).owner = 0 ∧ (recAt r s.b).version ≤ t.snap) → Does c h r t s u
theorem Sim.end_ (hs : Sim c h t) (k w : Int) (hk : k ≠ 0) : Sim c h (ended t k w) := ⟨hs.heap, hs.live, hs.rds, fun e => absurd e hk, hs.inner⟩
theorem Sim.go_ (hs : Sim c h t) (hk : t.kind = 0) (uw : u.why = t.why) (uf : u.frames = t.frames) (ul : u.log.list.all (fun w => Heap.liveAt h w.cell) = true) (ur : ∀ x ∈ u.reads, Heap.liveAt h x.cell = true ∧ x.value = Heap.valAt h x.cell) : Sim c h u :=
  ⟨hs.heap, ul, ur, fun _ => uw.trans (hs.why hk), by rw [uf]; exact hs.inner⟩
theorem any_again (l : List Int) (b : Int) (hb : b ∈ l) : (fun n : Nat => (l ++ [b]).any (fun z => decide (z = (n : Int)))) = fun n : Nat => l.any (fun z => decide (z = (n : Int))) := by
  funext n
  rw [List.any_append, List.any_cons, List.any_nil, Bool.or_false]
  by_cases hn : b = (n : Int)
  · rw [decide_eq_true hn, Bool.or_true]
    exact (List.any_eq_true.2 ⟨b, hb, by rw [decide_eq_true_eq]; exact hn⟩).symm
  · rw [decide_eq_false hn, Bool.or_false]
theorem find_in (l : List Reads.Read) (b : Int) (y : Reads.Read) (hf : Reads.findS l b = some y) : y ∈ l ∧ y.cell = b := by
  unfold Reads.findS at hf
  exact ⟨List.mem_of_find?_eq_some hf, by have := List.find?_some hf; simpa using this⟩
theorem load_val (hi : Inv c t) (hk : t.kind = 0) (hs : c[t.pc]? = some s) (hS : Sim c h t) (hd : s.d = 1) : Does c h r t s (loadT t s h r) := by
  have hp := hi.part hk hs
  have hg := hi.good hS
  have hA := Model.part_load s (seg c (t.pc + 1) (lim c.length t.frames)) (absT h t 0) hd
  have hlv : Heap.liveAt (absT h t 0).h s.b = Heap.liveAt h s.b := hg.liveAll s.b 0
  rw [hlv] at hA
  unfold loadT
  split
  · rename_i hl
    rw [if_pos hl, show Model.loaded (absT h t 0) s.a s.b = _ from Model.load_abs hg s.a s.b hl 0] at hA
    obtain ⟨b0, b64⟩ := live_64 hS.heap hl
    unfold liveT
    have hlg : Writes.getS t.log s.b = Writes.orNo (Writes.getL t.log.list s.b) := by unfold Writes.getS; rw [if_pos hi.log]
    rw [hlg]
    cases hgl : Writes.getL t.log.list s.b with
    | some v =>
      rw [if_pos (by rfl)]
      refine .on hk (hS.go_ hk rfl rfl hS.live hS.rds) (go_val hi rfl rfl rfl ⟨[], by simp [goes, regT]⟩ ?_)
      rw [hp, hA]
      have e : Model.loadC h (csT t) s.a s.b = csT (goes (regT t s.a v) 1) := by unfold Model.loadC csT; simp only [hgl]; rfl
      rw [e]; rfl
    | none =>
      rw [if_neg (by simp [Writes.orNo])]
      have e : Model.loadC h (csT t) s.a s.b = { csT t with regs := t.regs.set s.a.toNat (Heap.valAt h s.b), seen := t.reads.map Reads.Read.cell ++ [s.b] } := by unfold Model.loadC csT; simp only [hgl]
      rw [e] at hA
      split
      · rename_i y hf
        obtain ⟨hy, hc⟩ := find_in _ _ _ hf
        have hv := (hS.rds y hy).2
        rw [hc] at hv
        refine .on hk (hS.go_ hk rfl rfl hS.live hS.rds) (go_val hi rfl rfl rfl ⟨[], by simp [goes, regT]⟩ ?_)
        rw [hp, hA]
        have e2 : Model.abs h { csT t with regs := t.regs.set s.a.toNat (Heap.valAt h s.b), seen := t.reads.map Reads.Read.cell ++ [s.b] } 0 = absT h (goes (regT t s.a y.value) 1) 0 := by
          unfold absT Model.abs
          rw [hv]
          show Model.St.mk _ _ _ _ (fun n : Nat => (t.reads.map Reads.Read.cell ++ [s.b]).any (fun z => decide (z = (n : Int)))) _ _ = _
          rw [any_again _ s.b (List.mem_map.2 ⟨y, hy, hc⟩)]
          rfl
        rw [e2]; rfl
      · rename_i hf
        split
        · rename_i hfr
          refine .on hk (hS.go_ hk rfl rfl hS.live ?_) (go_val hi rfl rfl rfl ⟨[], by simp [goes, regT, reads1]⟩ ?_)
          · intro x hx
            rcases List.mem_append.1 hx with hx | hx
            · exact hS.rds x hx
            · obtain rfl : x = ⟨s.b, (recAt r s.b).version, Heap.valAt h s.b⟩ := by simpa using hx
              exact ⟨hl, rfl⟩
          · rw [hp, hA]
            have e2 : Model.abs h { csT t with regs := t.regs.set s.a.toNat (Heap.valAt h s.b), seen := t.reads.map Reads.Read.cell ++ [s.b] } 0 = absT h (goes (regT (reads1 t ⟨s.b, (recAt r s.b).version, Heap.valAt h s.b⟩) s.a (Heap.valAt h s.b)) 1) 0 := by
              unfold absT csT
              simp only [goes, regT, reads1, List.map_append, List.map_cons, List.map_nil]
            rw [e2]; rfl
        · rename_i hfr
          refine .stale rfl rfl b0 b64 ?_ hfr
          unfold valT
          refine cont_seen c h _ _ _ _ _ _ ?_
          rw [hp, hA]
          refine (Model.keeps _ _).seen _ ?_
          show (t.reads.map Reads.Read.cell ++ [s.b]).any _ = true
          rw [List.any_append, List.any_cons, decide_eq_true (show s.b = ((s.b.toNat : Nat) : Int) by omega)]
          simp
  · rename_i hl
    rw [if_neg hl] at hA
    exact .ends (by show (4 : Int) ≠ 0; decide) (by show (4 : Int) ≠ 5; decide) (by show (4 : Int) ≠ 1; decide) (hS.end_ 4 s.b (by decide)) (end_val 4 s.b (by decide) (by decide) (by rw [hp]; exact hA))
theorem tell_val (hi : Inv c t) (hS : Sim c h t) (ho : oneB s = true) (hd : s.d = 2 ∨ s.d = 3 ∨ s.d = 4) : Model.tellM (absT h t 0) s.t = tellT t s.t h :=
  (hi.good hS).tell s.t (Model.one_reck s ho hd) 0
theorem set_val (hi : Inv c t) (hk : t.kind = 0) (hs : c[t.pc]? = some s) (hS : Sim c h t) (hd : s.d = 2) (ho : oneB s = true) : Does c h r t s (goes (regT t s.a (tellT t s.t h)) 1) := by
  refine .on hk (hS.go_ hk rfl rfl hS.live hS.rds) (go_val hi rfl rfl rfl ⟨[], by simp [goes, regT]⟩ ?_)
  rw [hi.part hk hs, Model.part_set s _ _ hd, tell_val hi hS ho (.inl hd)]
  rfl
theorem store_val (hi : Inv c t) (hk : t.kind = 0) (hs : c[t.pc]? = some s) (hS : Sim c h t) (hd : s.d = 3) (ho : oneB s = true) (hpc : t.pc < 24) : Does c h r t s (storeT t s h) := by
  have hp := hi.part hk hs
  have hg := hi.good hS
  have hA := Model.part_store s (seg c (t.pc + 1) (lim c.length t.frames)) (absT h t 0) hd
  have hlv : Heap.liveAt (absT h t 0).h s.a = Heap.liveAt h s.a := hg.liveAll s.a 0
  rw [hlv, tell_val hi hS ho (.inr (.inl hd))] at hA
  unfold storeT
  split
  · rename_i hl
    obtain ⟨a0, _⟩ := live_64 hS.heap hl
    rw [if_pos hl, show Model.stored (absT h t 0) s.a (tellT t s.t h) = _ from Model.store_abs s.a _ 0 a0] at hA
    have hl24 : t.log.list.length ≠ 24 := by have := hi.wlen; omega
    have hput := Writes.put_new t.log ⟨s.a, tellT t s.t h⟩ (by rw [hi.log, one_w h t s.t (tell_v t s.t h) s.a a0]; rfl) hl24
    have e : logT t ⟨s.a, tellT t s.t h⟩ = { t with log := ⟨t.log.list ++ [⟨s.a, tellT t s.t h⟩], t.log.marks⟩ } := by unfold logT; rw [hput]
    rw [e]
    refine .on hk (hS.go_ hk rfl rfl ?_ hS.rds) (go_val hi rfl rfl rfl ⟨[⟨s.a, tellT t s.t h⟩], rfl⟩ ?_)
    · show (t.log.list ++ [_]).all _ = true
      rw [List.all_append, hS.live, List.all_cons, List.all_nil, hl]; rfl
    · rw [hp, hA]; rfl
  · rename_i hl
    rw [if_neg hl] at hA
    exact .ends (by show (4 : Int) ≠ 0; decide) (by show (4 : Int) ≠ 5; decide) (by show (4 : Int) ≠ 1; decide) (hS.end_ 4 s.a (by decide)) (end_val 4 s.a (by decide) (by decide) (by rw [hp]; exact hA))
theorem skip_val (hi : Inv c t) (hk : t.kind = 0) (hs : c[t.pc]? = some s) (hS : Sim c h t) (hd : s.d = 4) (ho : oneB s = true) : Does c h r t s (skipT t s h) := by
  have hp := hi.part hk hs
  have hA := Model.part_skip s (seg c (t.pc + 1) (lim c.length t.frames)) (absT h t 0) hd
  rw [tell_val hi hS ho (.inr (.inr hd))] at hA
  unfold skipT
  split
  · rename_i h0
    rw [if_pos h0, seg_drop] at hA
    refine .on hk (hS.go_ hk rfl rfl hS.live hS.rds) (go_val hi rfl rfl rfl ⟨[], by simp [goes]⟩ ?_)
    rw [hp, hA]
    show Model.part (seg c (t.pc + 1 + s.a.toNat) _) _ = Model.part (seg c (t.pc + (1 + s.a.toNat)) _) _
    rw [Nat.add_assoc]; rfl
  · rename_i h0
    rw [if_neg h0] at hA
    refine .on hk (hS.go_ hk rfl rfl hS.live hS.rds) (go_val hi rfl rfl rfl ⟨[], by simp [goes]⟩ ?_)
    rw [hp, hA]; rfl
theorem retry_val (hi : Inv c t) (hk : t.kind = 0) (hs : c[t.pc]? = some s) (hS : Sim c h t) (hd : s.d = 5) : Does c h r t s (retryT t) := by
  have hp := hi.part hk hs
  have hA := Model.part_retry s (seg c (t.pc + 1) (lim c.length t.frames)) (absT h t 0) hd
  have hw0 := hS.why hk
  cases hf : t.frames with
  | nil =>
    have e : retryT t = ended t 2 0 := by unfold retryT; rw [hf]
    rw [e]
    refine .ends (by show (2 : Int) ≠ 0; decide) (by show (2 : Int) ≠ 5; decide) (by show (2 : Int) ≠ 1; decide) (hS.end_ 2 0 (by decide)) ?_
    have e2 : valT c h t = Model.ended (absT h t 0) 2 0 := by
      unfold valT
      rw [hp, hA, hf]; rfl
    rw [e2]
    exact ⟨rfl, rfl, rfl, fun h3 => absurd h3 (by show ¬ (2 : Int) = 1; decide)⟩
  | cons f fs =>
    have hst := hi.stack
    rw [hf] at hst
    have heach := hst.each
    obtain ⟨h1, h2, h3, h4, h5, h6, h7, h8, h9⟩ := hst
    have hml := hi.marks
    rw [hf] at hml
    simp only [List.length_cons] at hml
    obtain ⟨m, hm, hms⟩ := Writes.last_split t.log.marks (by omega)
    have hw := (Writes.right_parts t.log).1 hi.log
    have hm0 := marks_nonneg _ _ _ hw.2.2.2 m (List.mem_of_getElem? hm)
    obtain ⟨k, rfl⟩ := Int.eq_ofNat_of_zero_le hm0
    have hbk := Writes.back_new t.log hi.log k hm
    have hmi : Writes.marksB (k : Int) 0 (t.log.marks.take (t.log.marks.length - 1)) = true := by
      have := hw.2.2.2
      rw [hms] at this
      exact (Writes.marks_init _ _ _ _ this).1
    have e : retryT t = { t with log := ⟨t.log.list.take k, t.log.marks.take (t.log.marks.length - 1)⟩, frames := fs, regs := f.regs, pc := f.mid, path := t.path.take f.long ++ [2] } := by
      unfold retryT; rw [hf]; simp only; rw [hbk]
    rw [e]
    have hrev : t.log.marks.reverse = (k : Int) :: (t.log.marks.take (t.log.marks.length - 1)).reverse := by
      rw [hms]; simp
    have hV := hS.inner f (by rw [hf]; exact List.mem_cons_self ..)
    refine .on hk ⟨hS.heap, ?_, hS.rds, fun _ => hw0, fun g hg => hS.inner g (by rw [hf]; exact List.mem_cons_of_mem _ hg)⟩ ?_
    · exact List.all_eq_true.2 fun x hx => List.all_eq_true.1 hS.live x (List.mem_of_mem_take hx)
    · unfold valT
      rw [hp, hA, hf, hrev]
      show contF c h (t.path.take f.long ++ [2]) (t.log.list.take k) fs (t.log.marks.take (t.log.marks.length - 1)).reverse (Model.part (seg c f.mid (lim c.length fs)) _) =
        contF c h t.path t.log.list fs (t.log.marks.take (t.log.marks.length - 1)).reverse (restF c f.fin (lim c.length fs) (secondF c h t.path t.log.list f (k : Int) (Model.ended (absT h t 0) 2 0)))
      have e1 : restF c f.fin (lim c.length fs) (secondF c h t.path t.log.list f (k : Int) (Model.ended (absT h t 0) 2 0)) =
          Model.part (seg c f.mid (lim c.length fs)) (Model.saw (Model.onPath (entry h t.path t.log.list f (k : Int)) 2) (absT h t 0).seen) := by
        have e0 : secondF c h t.path t.log.list f (k : Int) (Model.ended (absT h t 0) 2 0) = Model.part (seg c f.mid f.fin) (Model.saw (Model.onPath (entry h t.path t.log.list f (k : Int)) 2) (Model.ended (absT h t 0) 2 0).seen) := by
          unfold secondF
          rw [if_pos (by rfl)]
        rw [e0, seg_split c f.mid f.fin (lim c.length fs) h1 h2, Model.part_behind _ (seg_all_one c _ _ hi.all) hV]
        rfl
      rw [e1]
      have e2 : Model.saw (Model.onPath (entry h t.path t.log.list f (k : Int)) 2) (absT h t 0).seen = absT h { t with log := ⟨t.log.list.take k, t.log.marks.take (t.log.marks.length - 1)⟩, frames := fs, regs := f.regs, pc := f.mid, path := t.path.take f.long ++ [2] } 0 := by
        unfold absT csT entry Model.abs Model.saw Model.onPath
        simp only [hw0, Int.toNat_natCast]
      rw [e2]
      refine cont_same c h _ _ _ (fun g hg => ?_) (fun m hm2 => ?_)
      · have h10 := (h9.each g hg).1
        have h11 := (heach f (List.mem_cons_self ..)).1
        rw [List.take_append_of_le_length (by rw [List.length_take]; omega), List.take_take, Nat.min_eq_left (by omega)]
      · have h10 := marks_le _ _ _ hmi m (List.mem_reverse.1 hm2)
        rw [List.take_take, Nat.min_eq_left (by omega)]
theorem either_val (hi : Inv c t) (hk : t.kind = 0) (hs : c[t.pc]? = some s) (hS : Sim c h t) (hd : s.d = 7) (ho : oneB s = true) : Does c h r t s (eitherT t s) := by
  have hp := hi.part hk hs
  have hw := hi.well
  have hlc := hi.stack.lim_le
  have hw0 := hS.why hk
  have hrun := hi.runs hk
  obtain ⟨a1, a2, b1, b2⟩ := one_either s ho hd
  have hl := seg_len c (t.pc + 1) (lim c.length t.frames) hlc
  rw [hp] at hw
  by_cases hlt : ((seg c (t.pc + 1) (lim c.length t.frames)).length : Int) < s.a + s.b
  · rw [well_out s _ hd hlt] at hw; cases hw
  obtain ⟨ka, hka⟩ := Int.eq_ofNat_of_zero_le (show 0 ≤ s.a by omega)
  obtain ⟨kb, hkb⟩ := Int.eq_ofNat_of_zero_le (show 0 ≤ s.b by omega)
  have hfit : t.pc + 1 + ka + kb ≤ lim c.length t.frames := by omega
  have e1 := seg_split c (t.pc + 1) (t.pc + 1 + ka) (lim c.length t.frames) (by omega) (by omega)
  have e2 := seg_split c (t.pc + 1 + ka) (t.pc + 1 + ka + kb) (lim c.length t.frames) (by omega) hfit
  have hU := seg_len c (t.pc + 1) (t.pc + 1 + ka) (by omega)
  have hV := seg_len c (t.pc + 1 + ka) (t.pc + 1 + ka + kb) (by omega)
  have hUa : s.a = ((seg c (t.pc + 1) (t.pc + 1 + ka)).length : Int) := by rw [hU, hka]; omega
  have hVb : s.b = ((seg c (t.pc + 1 + ka) (t.pc + 1 + ka + kb)).length : Int) := by rw [hV, hkb]; omega
  rw [e1, e2, well_either s _ _ _ hd hUa hVb] at hw
  simp only [Bool.and_eq_true] at hw
  obtain ⟨⟨hu, hv⟩, hrr⟩ := hw
  have hm6 : t.log.marks.length ≠ 6 := by
    have h1 := hi.deep
    have h2 := hi.marks
    rw [hp, e1, e2, well_either s _ _ _ hd hUa hVb] at h1
    simp only at h1
    omega
  have hmk := Writes.mark_new t.log hi.log hm6
  have ta : s.a.toNat = ka := by omega
  have tb : s.b.toNat = kb := by omega
  unfold eitherT
  rw [ta, tb, hmk]
  refine .on hk ⟨hS.heap, hS.live, hS.rds, fun _ => hw0, ?_⟩ ?_
  · intro g hg
    rcases List.mem_cons.1 hg with rfl | hg
    · exact hv
    · exact hS.inner g hg
  · unfold valT
    rw [hp, e1, e2, Model.part_either s _ _ _ _ hd hUa hVb]
    show contF c h (t.path ++ [1]) t.log.list (⟨t.pc + 1 + ka, t.pc + 1 + ka + kb, t.path.length, t.regs⟩ :: t.frames) (t.log.marks ++ [(t.log.list.length : Int)]).reverse (Model.part (seg c (t.pc + 1) (t.pc + 1 + ka)) (Model.onPath (absT h t 0) 1)) = _
    rw [List.reverse_append]
    show contF c h (t.path ++ [1]) t.log.list t.frames t.log.marks.reverse (restF c (t.pc + 1 + ka + kb) (lim c.length t.frames) (secondF c h (t.path ++ [1]) t.log.list ⟨t.pc + 1 + ka, t.pc + 1 + ka + kb, t.path.length, t.regs⟩ (t.log.list.length : Int) (Model.part (seg c (t.pc + 1) (t.pc + 1 + ka)) (Model.onPath (absT h t 0) 1)))) = _
    have e3 : Model.saw (Model.onPath (entry h (t.path ++ [1]) t.log.list ⟨t.pc + 1 + ka, t.pc + 1 + ka + kb, t.path.length, t.regs⟩ (t.log.list.length : Int)) 2) (Model.part (seg c (t.pc + 1) (t.pc + 1 + ka)) (Model.onPath (absT h t 0) 1)).seen =
        Model.saw (Model.onPath (absT h t 0) 2) (Model.part (seg c (t.pc + 1) (t.pc + 1 + ka)) (Model.onPath (absT h t 0) 1)).seen := by
      unfold entry absT csT Model.abs Model.saw Model.onPath
      simp only [hw0, Int.toNat_natCast, List.take_left, List.take_length]
    have e4 : secondF c h (t.path ++ [1]) t.log.list ⟨t.pc + 1 + ka, t.pc + 1 + ka + kb, t.path.length, t.regs⟩ (t.log.list.length : Int) (Model.part (seg c (t.pc + 1) (t.pc + 1 + ka)) (Model.onPath (absT h t 0) 1)) =
        Model.eitherS (seg c (t.pc + 1) (t.pc + 1 + ka)) (seg c (t.pc + 1 + ka) (t.pc + 1 + ka + kb)) (absT h t 0) := by
      unfold secondF Model.eitherS
      rw [e3]
    rw [e4]
    have e5 : restF c (t.pc + 1 + ka + kb) (lim c.length t.frames) (Model.eitherS (seg c (t.pc + 1) (t.pc + 1 + ka)) (seg c (t.pc + 1 + ka) (t.pc + 1 + ka + kb)) (absT h t 0)) =
        if (Model.eitherS (seg c (t.pc + 1) (t.pc + 1 + ka)) (seg c (t.pc + 1 + ka) (t.pc + 1 + ka + kb)) (absT h t 0)).kind = 1 then Model.part (seg c (t.pc + 1 + ka + kb) (lim c.length t.frames)) (Model.eitherS (seg c (t.pc + 1) (t.pc + 1 + ka)) (seg c (t.pc + 1 + ka) (t.pc + 1 + ka + kb)) (absT h t 0)) else Model.eitherS (seg c (t.pc + 1) (t.pc + 1 + ka)) (seg c (t.pc + 1 + ka) (t.pc + 1 + ka + kb)) (absT h t 0) := rfl
    rw [e5]
    refine cont_same c h _ _ _ (fun g hg => ?_) (fun _ _ => rfl)
    have h10 := (hi.stack.each g hg).1
    rw [List.take_append_of_le_length (by omega)]
theorem do_val (hi : Inv c t) (hk : t.kind = 0) (hs : c[t.pc]? = some s) (hS : Sim c h t) : Does c h r t s (doT t s h r) := by
  have ho : oneB s = true := List.all_eq_true.1 hi.all s (List.mem_of_getElem? hs)
  obtain ⟨d1, d7⟩ := one_d s ho
  have hpc := hi.pc_lt hk
  have hl24 := hi.len
  unfold doT
  split
  · rename_i e1; exact load_val hi hk hs hS e1
  split
  · rename_i e1 e2; exact set_val hi hk hs hS e2 ho
  split
  · rename_i e1 e2 e3; exact store_val hi hk hs hS e3 ho (by omega)
  split
  · rename_i e1 e2 e3 e4; exact skip_val hi hk hs hS e4 ho
  split
  · rename_i e1 e2 e3 e4 e5; exact retry_val hi hk hs hS e5
  split
  · rename_i e1 e2 e3 e4 e5 e6
    refine .ends (by show (3 : Int) ≠ 0; decide) (by show (3 : Int) ≠ 5; decide) (by show (3 : Int) ≠ 1; decide) (hS.end_ 3 s.a (by decide)) (end_val 3 s.a (by decide) (by decide) ?_)
    rw [hi.part hk hs]; exact Model.part_fail s _ _ e6
  · rename_i e1 e2 e3 e4 e5 e6; exact either_val hi hk hs hS (by omega) ho
end
end Go.Proofs.YtadofonlkjkcmaaGreat.Attempt
